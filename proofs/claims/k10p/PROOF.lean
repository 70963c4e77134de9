import PyProof.Rows.All
import Wide.All
import OpenK.AllK
import Wide.FinOn
import HandS.ForMost
import HandS.Iter
import HandS.Comp
import HandS.DictComp
import HandS.DictTup
import HandS.Conv
import KE.KSortTupG
import KE.KSortTupUse
import KE.KDictSum
import HandS.Keys
import HandS.Base
import HandS.Call
import HandS.List
import HandS.Ends
import HandS.Dict
import HandS.Text
import HandS.Words
import HandS.WordsList
import KE.KSortTupAny
import PyProof.Rows.StrMeet
import PyProof.Rows.TmSorted
import HandS.OwnEq
import HandS.Star
import HandS.IsInst
import HandS.More
import HandS.ExcInit
import HandS.ExcField
import HandS.ExcIs
import KE.KExcIs
import KE.KExcMake
import HandS.Set
import HandS.SetFor
import HandS.Strs
import HandS.Zip
import HandS.TupAny
import HandS.Sort
import PyProof.ListCopy
import HandS.Defaults
import HandS.Style
import PyProof.EnumIter
import HandS.Hot
import HandS.HotCalls
import HandS.WordsExc
import HandS.ExcCtx
import HandS.ListEq
import HandS.ExcOwn
import HandS.TupMul
import KE.KRevSl
import KE.KCallOwn
import HandS.FStr
import HandS.RaiseMore
import OpenK.KMeth
import PyProof.SeqRoads
import PyProof.CollectStr
import KE.KDictList
import PyProof.ListRange
import PyProof.InstEq
import PyProof.StrLawsIn
import HandS.WordsDict
import PyProof.EqKinds
import KE.RegKIsAll
import KE.RegKTryMore
import PySem.Challenge.RW_knownways_k10_whole_expressions_and_thei
set_option Elab.async false
set_option linter.all false
set_option maxRecDepth 100000
set_option maxHeartbeats 4000000
/-! a dict that is made by a comprehension, its keys tuples -/
namespace LR
open PySem PySem.Spec PyProof.Rows L2
section
variable {X : Cx} {kx vx tg iter : Expr} {ifs : List Expr} {scope : Scope} {own : List (Str × Nat)} {pos : Pos} {wi : TI} {g : TG} {tt : TT} {tk tv : TE}
/-- the new pair goes into the dict at D -/
def PutT (D : Addr) (y z : V) (Nx : Hp → Prop) (H : Hp) : Prop :=
  ∃ kvs k b, y = V.ref b ∧ H b = some (.tup (k.map kV)) ∧ H D = some (.dT kvs) ∧ kvs.length < sizeLine ∧ Nx (upd H D (.dT (putK kvs k z)))
/-- the turn's end, by what the tests say -/
def RowT (D : Addr) (tt : TT) (tk tv : TE) (Nx : Hp → Prop) : L2.St → Hp → Prop := fun σ H =>
  tt σ H fun b H3 => if b = true then tk σ H3 fun y H4 => tv σ H4 fun z H5 => PutT D y z Nx H5 else Nx H3
def tDcT (wi : TI) (g : TG) (tt : TT) (tk tv : TE) (vs : List Nat) : TE := fun σ H Q => wi σ H fun J H1 => ∀ D, H1 D = none →
  ∃ W : Nat → Nat → Hp → Prop, (∃ m, W 0 m (upd H1 D (.dT []))) ∧ ∀ i m H, W i m H → (J.stop i H ∧ Q (.ref D) H) ∨
    (J.go i H ∧ ∃ Nx : Hp → Prop, (∀ H', Nx H' → ∃ m', m' < m ∧ W (i + 1) m' H') ∧ ∀ x H', J.yld i H x H' → g x (wipe σ vs) H' fun σ2 H2 => wipe σ2 vs = wipe σ vs ∧ RowT D tt tk tv Nx σ2 H2)
/-- the store of one pair -/
theorem put_ok {B : Cx} {pins : List (Addr × Obj)} {σ : L2.St} {H : Hp} {s : Shared} {D : Addr} {y z : V} {u r : Value} {Nx : Hp → Prop} {E : Value → Shared → Prop} {Q : Unit → Shared → Prop} (hu : B.A.units < cLine)
    (I : Inv B pins σ H s) (ry : RelV y u) (rz : RelV z r) (p : PutT D y z Nx H) (h : ∀ s' H', Inv B pins σ H' s' → Nx H' → Q () s') : wpAny (model B.prog B.w) B.A (dictSet D u r) Q E s := by
  obtain ⟨kvs, k, b, rfl, hb, hD, few, nx⟩ := p
  cases (show u = Value.ref b from ry)
  obtain ⟨z1, z2, xs, rel, dd⟩ := dt_of I.hok hD
  have fits : xs.length ≤ sizeLine := by
    rw [← Paired.length rel]
    exact z1
  have more := length_putK kvs k z
  refine wpAny_dictSet_heap (hsz := fits) (show (tupleKind (mixKind B.prog B.w)).room B.A from hu) (key_of I.hok hb) dd fun h' now same => h _ _ ?_ nx
  obtain ⟨q, es, ep, a1, a2, a3, a4, _, a5⟩ := now
  refine d_write I (by rw [hD]; exact True.intro) same ⟨q, a1⟩ ⟨by omega, z2, _, (rel.put k hb rz).keeps fun c ys at_c => ?_, q, es, ep, a1, a2, a3, a4, a5⟩
  have away : c ≠ D := ne_of at_c hD fun z => nomatch z
  rw [upd_ne away]
  exact at_c
/-- {kx: vx for tg in iter if ..}, the keys tuples -/
theorem pe_dcT (calm : X.calm = true) (hu : X.A.units < cLine) (nd : X.N.Nodup) (pi : PI X tg iter wi) (ok : BlkOk X.N X.env.scope scope own)
    (pg : ∀ (s : Shared) (H : Hp) (C : Addr) (cl : List (Str × Addr)) (fp : List Addr), PG (X.blk s H scope (compEnvC scope cl C X.env) fp) tg g)
    (pt : ∀ (s : Shared) (H : Hp) (C : Addr) (cl : List (Str × Addr)) (fp : List Addr), PTs (X.blk s H scope (compEnvC scope cl C X.env) fp) ifs tt)
    (pk : ∀ (s : Shared) (H : Hp) (C : Addr) (cl : List (Str × Addr)) (fp : List Addr), PE (X.blk s H scope (compEnvC scope cl C X.env) fp) kx tk)
    (pv : ∀ (s : Shared) (H : Hp) (C : Addr) (cl : List (Str × Addr)) (fp : List Addr), PE (X.blk s H scope (compEnvC scope cl C X.env) fp) vx tv)
    (fold : ∀ x, foldedSetIterable iter X.env x = pure x := by intro _; rfl) :
    PE X (.DictComp kx vx [⟨tg, iter, ifs, 0⟩] scope pos) (tDcT wi g tt tk tv (own.map (·.2))) := by
  refine ⟨fun pins s σ H Q I h => ?_⟩
  rw [arm_eval_DictComp]
  have cells : ∀ y ∈ scope.names, y.2 = .free → ∃ c, X.env.cells.lookup y.1 = some c := fun y hy z => (ok.free y hy z).elim (fun k => I.ok.has _ (.inl k)) fun k => I.ok.has _ (.inr k)
  refine wpAny_comprehension_free (use := none) rfl fold (closure_ok cells) ok.kind (fun y hy z => by rw [ok.uniq y hy, z]) (thn (pi.run pins s σ H _ I h) fun v1 s1 b1 => thn b1 fun v2 s2 b2 => ?_)
  obtain ⟨it, fp, tn, J, H2, rfl, I2, T, at0, off, q⟩ := b2
  refine wpAny_newObj_type (newEnv_comp ?_)
  have freshD : H2 s2.heap.objs.size = none := I2.hok.fresh (Nat.le_refl _)
  obtain ⟨W, ⟨m0, w0⟩, turn⟩ := q s2.heap.objs.size freshD
  have low : ∀ b, b ∈ fp → b < s2.heap.objs.size := fun b hb => by
    obtain ⟨o, z, _⟩ := T.obj _ _ at0 b hb
    exact Heap.lt_size z
  have I3 := I2.laid (t' := s2.toks) (fun b o z => Heap.get?_push_of_some _ z) (Nat.le_refl _) (dt_empty (P := X.prog) (w := X.w) (H := upd H2 s2.heap.objs.size (.dT [])) s2.heap I2.big)
  generalize e3 : ({ s2 with heap := s2.heap.push { cls := .type "dict", data := .dict #[] } } : Shared) = s3
  rw [show ({ s2 with heap := s2.heap.push { cls := .type "dict", data := .dict #[] }, toks := s2.toks } : Shared) = s3 from e3] at I3
  have push3 : ∀ {b : Addr} {o : Obj}, s2.heap.get? b = some o → s3.heap.get? b = some o := fun {b o} z => by
    rw [← e3]
    exact Heap.get?_push_of_some _ z
  have size3 : s3.heap.objs.size = s2.heap.objs.size + 1 := by
    rw [← e3]
    exact Heap.size_push _ _
  generalize eD : s2.heap.objs.size = D at freshD w0 turn low I3 size3 ⊢
  have off3 : ∀ b, b ∈ fp → FpOk X pins (upd H2 D (.dT [])) b ∧ b < s3.heap.objs.size := fun b hb => by
    obtain ⟨f0, f1⟩ := off b hb
    have lb := low b hb
    exact ⟨⟨by rw [upd_ne (Nat.ne_of_lt lb)]; exact f0, f1⟩, by rw [size3]; exact Nat.lt_succ_of_lt lb⟩
  have J0 := block_start I3 ok nd off3
  have pg' := pg s3 (upd H2 D (.dT [])) s3.heap.objs.size (cellsFrom (s3.heap.objs.size + 1) scope.names (cloFrom X.env.cells scope.names [])) fp
  have pt' := pt s3 (upd H2 D (.dT [])) s3.heap.objs.size (cellsFrom (s3.heap.objs.size + 1) scope.names (cloFrom X.env.cells scope.names [])) fp
  have pk' := pk s3 (upd H2 D (.dT [])) s3.heap.objs.size (cellsFrom (s3.heap.objs.size + 1) scope.names (cloFrom X.env.cells scope.names [])) fp
  have pv' := pv s3 (upd H2 D (.dT [])) s3.heap.objs.size (cellsFrom (s3.heap.objs.size + 1) scope.names (cloFrom X.env.cells scope.names [])) fp
  change codeAny _ _ (.compStart (.DictComp kx vx [⟨tg, iter, ifs, 0⟩] scope pos) 0 (.ref it) (.ref D)
    (compEnvC scope (cellsFrom (s3.heap.objs.size + 1) scope.names (cloFrom X.env.cells scope.names [])) s3.heap.objs.size X.env))
    (compPost (model X.prog X.w) X.A X.xe none (EP X pins σ Q) (.ref D) s3.heap.objs.size)
    { s3 with heap := pushCells (s3.heap.push { cls := .type "dict", data := .dict #[] }) scope.names }
  have locs : (compEnvC scope (cellsFrom (s3.heap.objs.size + 1) scope.names (cloFrom X.env.cells scope.names [])) s3.heap.objs.size X.env).locals = s3.heap.objs.size := rfl
  generalize compEnvC scope (cellsFrom (s3.heap.objs.size + 1) scope.names (cloFrom X.env.cells scope.names [])) s3.heap.objs.size X.env = ce at J0 pg' pt' pk' pv' locs ⊢
  generalize e4 : ({ s3 with heap := pushCells (s3.heap.push { cls := .type "dict", data := .dict #[] }) scope.names } : Shared) = s4 at J0 ⊢
  have at4 : tn 0 s4.heap := T.keep _ _ _ at0 fun b _ o z => by
    rw [← e4]
    exact pushCells_keeps _ _ _ _ (Heap.get?_push_of_some _ (push3 z))
  generalize upd H2 D (.dT []) = H3 at I3 off3 J0 pg' pt' pk' pv' w0 ⊢
  -- seen from the block the walker's things are no one's
  have offB : ∀ {σ' : L2.St} {H' : Hp} {s' : Shared}, Inv (X.blk s3 H3 scope ce fp) [] σ' H' s' → (∀ b, b ∈ fp → H' b = none) → ∀ b, b ∈ fp → FpOk (X.blk s3 H3 scope ce fp) [] H' b := fun J free b hb => by
    obtain ⟨z1, z2⟩ := J.ok.exf b hb
    refine ⟨free b hb, z1, J.ok.exfs b hb, .inl hb, z2, fun r hr => ?_⟩
    simp at hr
  have loop : codeAny (model X.prog X.w) X.A (.compLoop (.DictComp kx vx [⟨tg, iter, ifs, 0⟩] scope pos) 0 (.ref it) (.ref D) ce) (compPost (model X.prog X.w) X.A X.xe none (EP X pins σ Q) (.ref D) s3.heap.objs.size) s4 := by
    refine compLoop_anyD (fun n s' => ∃ i H', Inv (X.blk s3 H3 scope ce fp) [] (wipe σ (own.map (·.2))) H' s' ∧ tn i s'.heap ∧ (∀ b, b ∈ fp → H' b = none) ∧ W i n H') (fun n s5 inv => ?_) m0 ⟨0, H3, J0, at4, fun b hb => (off3 b hb).1.1, w0⟩
    obtain ⟨i, H5, J5, at5, free5, w5⟩ := inv
    rcases turn i n H5 w5 with ⟨stop, done⟩ | ⟨go, Nx, again, step⟩
    · refine thnF (T.done (X.blk s3 H3 scope ce fp) rfl rfl rfl calm i [] s5 _ H5 (fun _ _ => False) J5 (offB J5 free5) at5 stop) fun r s6 r6 => ?_
      obtain ⟨rfl, J6⟩ := r6
      have I7 : Inv X pins σ H5 s6 := I3.call' (ch := fp) J6.os J6.base J6.hok J6.bare fun b hb => by
        obtain ⟨_, o1, _, o3, o4, o5⟩ := (off3 b hb).1
        exact ⟨o3, o1, o4, o5⟩
      have noC : H5 s3.heap.objs.size = none := by
        have z : H5 ce.locals = none := J6.free
        rwa [locs] at z
      obtain ⟨m, ns, _⟩ := J6.loc
      have ns' : s6.heap.Ns ce.locals m := ns
      rw [locs] at ns'
      obtain ⟨c0, c1, _, c3, c4, c5⟩ := I3.fpOk (Nat.le_refl _) noC
      exact ⟨m, ns', fun h2 but => ⟨.ref D, H5, I7.turned (t' := s6.toks) (fun b o nb z => (but.2 b nb).trans z) c0 c1 c3 c4 c5, rfl, done⟩⟩
    · refine thnF (T.item (X.blk s3 H3 scope ce fp) rfl rfl rfl calm i [] s5 _ H5 (fun _ _ => False) J5 (offB J5 free5) at5 go) fun r s6 r6 => ?_
      obtain ⟨u, rfl, own6⟩ := r6
      refine thnF own6 fun _ s7 r7 => ?_
      obtain ⟨x, H7, J7, rx, yl, at7, free7⟩ := r7
      have P7 := J7.pinned (offB J7 free7) (T.obj _ _ at7)
      refine thnF (pg'.run _ s7 _ H7 x u _ P7 rx (step x H7 yl)) fun _ s8 r8 => ?_
      obtain ⟨σ8, H8, J8, w8, q8⟩ := r8
      refine thnF (pt'.run _ s8 σ8 H8 _ J8 q8) fun b s9 r9 => ?_
      obtain ⟨H9, J9, q9⟩ := r9
      have close : ∀ {s' : Shared} {H' : Hp}, Inv (X.blk s3 H3 scope ce fp) ([] ++ pinsAt fp s7.heap) σ8 H' s' → Nx H' → ∃ m, m < n ∧ ∃ i H', Inv (X.blk s3 H3 scope ce fp) [] (wipe σ (own.map (·.2))) H' s' ∧ tn i s'.heap ∧ (∀ b, b ∈ fp → H' b = none) ∧ W i m H' := fun {s' H'} J' nx => by
        obtain ⟨m', lt, w'⟩ := again H' nx
        have kept : ∀ b, b ∈ fp → ∀ o, s7.heap.get? b = some o → s'.heap.get? b = some o ∧ H' b = none := fun b hb o z => by
          have r := J'.pin (b, o) (List.mem_append_right _ (List.mem_append_right _ (mem_pinsAt hb z)))
          exact ⟨r.1, r.2.1⟩
        refine ⟨m', lt, i + 1, H', (J'.unpinned (pins := [])).weak (by rw [← w8, wipe_length]) (fun j v z => (wipe_some (by rwa [← w8] at z)).1), T.keep _ _ _ at7 fun b hb o z => (kept b hb o z).1, fun b hb => ?_, w'⟩
        obtain ⟨o, z, _⟩ := T.obj _ _ at7 b hb
        exact (kept b hb o z).2
      cases b with
      | false => exact close J9 (by simpa using q9)
      | true =>
        rw [if_pos rfl] at q9 ⊢
        refine thnF (pk'.run _ s9 σ8 H9 _ J9 q9) fun z s10 r10 => ?_
        obtain ⟨yk, H10, J10, rk, q10⟩ := r10
        refine thnF (pv'.run _ s10 σ8 H10 _ J10 q10) fun z2 s11 r11 => ?_
        obtain ⟨yv, H11, J11, rv, q11⟩ := r11
        exact put_ok (B := X.blk s3 H3 scope ce fp) hu J11 rk rv q11 fun s12 H12 J12 nx => close J12 nx
  exact codeAny_compStart_dict loop (T.self X.A 0 _ _ _ at4 loop)
end
end LR

/-! sorted(found), found a dict whose keys are pairs of texts -/
namespace LR
open PySem PySem.Spec PyProof.Rows L2
/-- a pair of texts as a key, as items of a sort, its order -/
def kT (e : Str × Str) : List Key := [.inr e.1, .inr e.2]
def kL (e : Str × Str) : List (Int ⊕ List Nat) := [.inr e.1.cps.toList, .inr e.2.cps.toList]
def upT (a b : Str × Str) : Prop := lexLt itemOrd (kL b) (kL a) = false
abbrev ent2 (e : (Str × Str) × V) : List Key × V := (kT e.1, e.2)
abbrev Kp := (Str × Str) × Addr
def PairAt (H : Hp) (z : Kp) : Prop := H z.2 = some (.tup [.str z.1.1, .str z.1.2])
theorem kps_of {H : Hp} : ∀ {es : List ((Str × Str) × V)} {xs : List (List Key × Addr × Value)}, KT H (es.map ent2) xs →
    ∃ zs : List Kp, zs.map (·.1) = es.map (·.1) ∧ zs.map (·.2) = xs.map (fun x => x.2.1) ∧ ∀ z ∈ zs, PairAt H z
  | [], _, r => by
    cases r
    exact ⟨[], rfl, rfl, fun _ h => nomatch h⟩
  | e :: es, xs, r => by
    cases r with
    | @cons _ q _ ys h t =>
      obtain ⟨zs, a, b, c⟩ := kps_of t
      refine ⟨(e.1, q.2.1) :: zs, by rw [List.map_cons, List.map_cons, a], by rw [List.map_cons, List.map_cons, b], fun z hz => ?_⟩
      rcases List.mem_cons.mp hz with rfl | hz
      · exact h.2.1
      · exact c z hz
section
variable {P : Program} {w : World} {H : Hp} {h : Heap}
/-- a pair of texts laid out -/
theorem pair_obj {z : Kp} (ok : HOk P w H h) (p : PairAt H z) : ∃ t u, IsTup h z.2 #[.str z.1.1 t, .str z.1.2 u] := by
  obtain ⟨_, its, rv, it⟩ := (show ObjOk P w H h z.2 (.tup [.str z.1.1, .str z.1.2]) from ok _ _ p)
  cases rv with
  | cons r1 r2 =>
    cases r2 with
    | cons r3 r4 =>
      cases r4
      obtain ⟨t, rfl⟩ := r1
      obtain ⟨u, rfl⟩ := r3
      exact ⟨t, u, it⟩
abbrev allS : Nat → Bool := fun _ => true
theorem pair_key {z : Kp} {t u : Tok} (x : IsTup h z.2 #[.str z.1.1 t, .str z.1.2 u]) : G.tupKeyC h allS (.ref z.2) = some (kL z.1) := by
  obtain ⟨o, ho, hc, n, hd⟩ := x
  exact G.tupKeyC_of ho hc hd (by simp [tupItems, allS, kL])
theorem pair_first {z : Kp} {t u : Tok} (x : IsTup h z.2 #[.str z.1.1 t, .str z.1.2 u]) : TupOf h allS (.ref z.2) (.str z.1.1 t) := by
  obtain ⟨o, ho, hc, n, hd⟩ := x
  exact ⟨_, o, _, n, rfl, ho, hc, hd, rfl, ⟨(fun e => nomatch e), fun _ => ⟨_, _, rfl⟩⟩⟩
theorem pairs_first : ∀ zs : List Kp, (∀ z ∈ zs, ∃ t u, IsTup h z.2 #[.str z.1.1 t, .str z.1.2 u]) → ∃ fs, TupsOf h allS (zs.map fun z => Value.ref z.2) fs
  | [], _ => ⟨[], .nil⟩
  | z :: zs, x => by
    obtain ⟨fs, f⟩ := pairs_first zs fun y hy => x y (List.mem_cons_of_mem _ hy)
    obtain ⟨t, u, it⟩ := x z List.mem_cons_self
    exact ⟨_, .cons (pair_first it) f⟩
end
theorem zip_twice {α : Type} (f : α → Value) : ∀ l : List α, (l.map f).zip (l.map f) = l.map fun x => (f x, f x)
  | [] => rfl
  | x :: l => by
    show (f x, f x) :: (l.map f).zip (l.map f) = _
    rw [zip_twice f l]
    rfl
/-- what the sort made of the pairs -/
theorem pairs_out {h : Heap} {zs : List Kp} {arr : Array Keyed} (x : ∀ z ∈ zs, G.tupKeyC h allS (.ref z.2) = some (kL z.1)) (pm : arr.Perm (pairsOf (zs.map fun z => Value.ref z.2)))
    (up : SortedToK (G.tupKindC h allS) arr (pairsOf (zs.map fun z => Value.ref z.2)).size) : ∃ ys : List Kp, ys.Perm zs ∧ (arr.map (·.2)).toList = ys.map (fun z => Value.ref z.2) ∧ ys.Pairwise fun a b => upT a.1 b.1 := by
  have pl : arr.toList.Perm (zs.map fun z => (Value.ref z.2, Value.ref z.2)) := by
    have q := Array.perm_iff_toList_perm.mp pm
    rw [pairsOf_toList, zip_twice] at q
    exact q
  obtain ⟨ys, py, ey⟩ := perm_lift (fun z : Kp => (Value.ref z.2, Value.ref z.2)) pl zs rfl
  have size : (pairsOf (zs.map fun z => Value.ref z.2)).size = ys.length := by rw [pairsOf_size, List.length_map, py.length_eq]
  have at_ : ∀ (i : Nat) (y : Kp), ys[i]? = some y → KK (G.tupKindC h allS) arr i = kL y.1 := by
    intro i y hy
    have q : arr[i]? = some (Value.ref y.2, Value.ref y.2) := by
      rw [← Array.getElem?_toList, ← ey, List.getElem?_map, hy]
      rfl
    unfold KK
    rw [q]
    show ((G.tupKeyC h allS (.ref y.2)).getD _) = _
    rw [x y (py.mem_iff.mp (List.mem_of_getElem? hy))]
    rfl
  refine ⟨ys, py, ?_, ?_⟩
  · rw [Array.toList_map, ← ey, List.map_map]
    rfl
  · rw [List.pairwise_iff_getElem]
    intro i j hi hj lt
    have q := up i j (Nat.le_of_lt lt) (by rw [size]; exact hj)
    rw [at_ i ys[i] (List.getElem?_eq_getElem hi), at_ j ys[j] (List.getElem?_eq_getElem hj)] at q
    exact q
section
variable {P : Program} {w : World} {A : Around} {E : Value → Shared → Prop} {s : Shared} {T : String} {r d : Addr} {n : Nat} {It1 : Nat → Value → Prop} {OK : Heap → Prop}
/-- the things of a source, one after another, and that the heap grew -/
theorem collect_src {R : List Value → Shared → Prop} (src : PySem.W.KdlSrc P w T r d n It1 OK) (quiet : A.handled = none) (here : OK s.heap) (few : n ≤ sizeLine)
    (k : ∀ (h' : Heap) (tk : Nat) (acc : Array Value), (∀ b o, s.heap.get? b = some o → h'.get? b = some o) → s.heap.objs.size ≤ h'.objs.size → ItemsOf It1 acc n → R acc.toList { s with heap := h', toks := tk }) :
    wpAny (model P w) A (collect (.ref r)) R E s := by
  obtain ⟨lr, ld⟩ := src.there _ here
  let End : Result → Shared → Prop := fun q t => ∃ h' tk acc c, q = .ok (.ret (.ref s.heap.objs.size)) ∧ t = { s with heap := h', toks := tk } ∧ (∀ b o, s.heap.get? b = some o → h'.get? b = some o) ∧
    h'.get? s.heap.objs.size = some { cls := .type "list", dict := none, data := .seq acc c, slots := #[] } ∧ ItemsOf It1 acc n
  have fin : ∀ h' tk acc c, (∀ b o, s.heap.get? b = some o → h'.get? b = some o) → h'.get? s.heap.objs.size = some { cls := .type "list", dict := none, data := .seq acc c, slots := #[] } → ItemsOf It1 acc n →
      wpAny (model P w) A (load s.heap.objs.size >>= fun o => match o.data with | .seq xs _ => pure xs.toList | _ => unsupported "internal:collect") R E { s with heap := h', toks := tk } := by
    intro h' tk acc c a1 a2 a3
    refine wpAny_bind (wpAny_load a2 ?_)
    exact wpAny_pure (k h' tk acc a1 (Nat.le_of_lt (Heap.lt_size a2)) a3)
  unfold collect
  refine wpAny_bind (wpAny_runValue (codeAny_builtin entry_proto_collect' ?_))
  rw [Around.under_plainId PySem.F.plain_proto_collect _]
  change wpAny _ A.in1 (newList [] >>= fun l => again (.builtin "list.__iadd__" ⟨[l, .ref r], []⟩)) _ _ s
  refine wpAny_bind (wpAny_newObj_type (wpAny_pure ⟨plainId_quiet PySem.F.plain_list_iadd _, codeAny_builtin entry_list_iadd' ?_⟩))
  rw [Around.under_plainId PySem.F.plain_list_iadd _]
  have new : (s.heap.push { cls := .type "list", data := .seq ([] : List Value).toArray }).get? s.heap.objs.size = some { cls := .type "list", data := .seq #[] } := Heap.get?_push_size _ rfl
  change wpAny _ A.in1 (Builtin.List.listExtendWith (.ref s.heap.objs.size) (.ref r) (.ref s.heap.objs.size)) _ _ _
  have run := PySem.W.kdl_extend (A := A) (R := End) (s := { s with heap := s.heap.push { cls := .type "list", data := .seq ([] : List Value).toArray } }) src quiet (src.keep _ _ here fun b _ o z => Heap.get?_push_of_some _ z)
    s.heap.objs.size (Nat.ne_of_gt lr) (Nat.ne_of_gt ld) (.ref s.heap.objs.size) 0 new (fun h' tk acc c stay at_s items => ⟨h', tk, acc, c, rfl, rfl, fun b o z => stay b o (Nat.ne_of_lt (Heap.lt_size z)) (Heap.get?_push_of_some _ z), at_s, items⟩) few
  refine wpAny_mono run (fun f t x => ?_) fun e t x => ?_
  · cases f with
    | done y =>
      obtain ⟨h', tk, acc, c, q, rfl, a1, a2, a3⟩ := x
      cases q
      exact fin h' tk acc c a1 a2 a3
    | again c1 =>
      obtain ⟨quiet1, x⟩ := x
      refine ⟨quiet1, codeAny_mono x fun y t2 x2 => ?_⟩
      obtain ⟨h', tk, acc, c, rfl, rfl, a1, a2, a3⟩ := x2
      exact fin h' tk acc c a1 a2 a3
  · obtain ⟨_, _, _, _, z, _⟩ := x
    cases z
end
section
variable {X : Cx}
theorem keys_out {P : Program} {w : World} {es : Array DictEntry} {ks : List (List Key × Addr × Value)} {acc : Array Value} (he : es.toList = ks.map (entryOfKey (tupleKind (mixKind P w))))
    (it : ItemsOf (fun i v => ∃ en : DictEntry, es[i]? = some en ∧ v = en.key) acc es.size) : acc.toList = (ks.map fun x => x.2.1).map Value.ref := by
  have few : es.size = ks.length := size_of_entries he
  refine List.ext_getElem? fun j => ?_
  rw [List.map_map, List.getElem?_map]
  by_cases lt : j < ks.length
  · have la : j < acc.size := by
      have := it.1
      omega
    obtain ⟨en, e1, e2⟩ := it.2 j acc[j] (Array.getElem?_eq_getElem la)
    have q := entry_at he j
    rw [e1, List.getElem?_eq_getElem lt] at q
    rw [Array.getElem?_toList, Array.getElem?_eq_getElem la, e2, Option.some.inj q, List.getElem?_eq_getElem lt]
    rfl
  · rw [List.getElem?_eq_none (by have := it.1; rw [Array.length_toList]; omega), List.getElem?_eq_none (by omega)]
    rfl
theorem cr_sortedDT (calm : X.calm = true) : CallR X (.builtin "sorted") (fun vs H Q => ∃ (a : Addr) (es : List ((Str × Str) × V)), vs = [V.ref a] ∧ H a = some (.dT (es.map ent2)) ∧
    ∀ (zs : List Kp) (p : Addr), (zs.map (·.1)).Perm (es.map (·.1)) → (zs.Pairwise fun x y => upT x.1 y.1) → (∀ z ∈ zs, PairAt H z) → H p = none → Q (.ref p) (upd H p (.lst (zs.map fun z => V.ref z.2)))) := by
  intro pins s σ H vs us Q I r h
  obtain ⟨a, es, rfl, ha, q⟩ := h
  rw [Vals.ref1 r]
  obtain ⟨z1, z2, ks, rel, o, ents, ep, ho, hx, hd, he, _, _⟩ := dt_of I.hok ha
  obtain ⟨zs, k1, k2, k3⟩ := kps_of rel
  have l1 : (es.map ent2).length = ks.length := Paired.length rel
  have l2 : zs.length = ks.length := by
    have := congrArg List.length k2
    simpa using this
  have l3 : ents.size = ks.length := size_of_entries he
  refine Calls.call_function_entry kind_sorted plain_sorted entry_sorted (args_sorted1 _) ?_
  unfold Builtin.«sorted»
  refine wpAny_bind (m := checkCount "sorted" 1 1 _) (wpAny_pure (wpAny_bind (collect_src (A := X.A.in1) (kdl_raw z2 hx hd) (I.ok.hd calm) ho (by omega) fun h' tk acc keep old it => ?_)))
  have ev : acc.toList = zs.map fun z => Value.ref z.2 := by
    rw [keys_out he it, ← k2, List.map_map]
    rfl
  rw [ev]
  refine wpAny_bind (wpAny_newList ?_ (by rw [List.length_map]; omega))
  generalize e2 : h'.push { cls := .type "list", data := .seq (zs.map fun z => Value.ref z.2).toArray } = h2
  have hoL : h2.get? h'.objs.size = some (seqObj "list" (zs.map fun z => Value.ref z.2).toArray 0) := by
    rw [← e2]
    exact Heap.get?_push_size _ rfl
  have up2 : ∀ b u, s.heap.get? b = some u → h2.get? b = some u := fun b u z => by
    rw [← e2]
    exact Heap.get?_push_of_some _ (keep b u z)
  have lay : ∀ z ∈ zs, ∃ t u, IsTup h2 z.2 #[.str z.1.1 t, .str z.1.2 u] := fun z hz => by
    obtain ⟨t, u, x⟩ := pair_obj I.hok (k3 z hz)
    exact ⟨t, u, x.keeps up2⟩
  obtain ⟨fs, hf⟩ := pairs_first zs lay
  have keyed : ∀ z ∈ zs, G.tupKeyC h2 allS (.ref z.2) = some (kL z.1) := fun z hz => by
    obtain ⟨t, u, x⟩ := lay z hz
    exact pair_key x
  refine wpAny_bind (wpAny_holding (wpAny_call_entry slot_list_sort ⟨_, hoL, rfl⟩ entry_list_sort (G.list_sort_tups (s := { s with heap := h2, toks := tk }) hoL hf (fun v hv => ?_) (by rw [List.length_map]; omega) fun st pm up _ => ⟨_, rfl, ?_⟩) (args_list_sort _)))
  · obtain ⟨z, hz, rfl⟩ := List.mem_map.mp hv
    exact ⟨_, keyed z hz⟩
  · obtain ⟨ys, y1, y2, y3⟩ := pairs_out keyed pm up
    obtain ⟨c, hc⟩ := sortedHeap_at (vs := zs.map fun z => Value.ref z.2) (out := (arrOf st).map (·.2)) hoL
    have stay : ∀ b u, s.heap.get? b = some u → (sortedHeap h2 h'.objs.size (zs.map fun z => Value.ref z.2) ((arrOf st).map (·.2))).get? b = some u := fun b u z => by
      have lt := Heap.lt_size (keep b u z)
      rw [sortedHeap_old (Nat.ne_of_lt lt) (Heap.lt_size (up2 b u z))]
      exact up2 b u z
    have len : (ys.map fun z => V.ref z.2).length ≤ sizeLine := by rw [List.length_map, y1.length_eq]; omega
    have free : H h'.objs.size = none := I.hok.fresh old
    have laid : ObjOk X.prog X.w (upd H h'.objs.size (.lst (ys.map fun z => V.ref z.2))) (sortedHeap h2 h'.objs.size (zs.map fun z => Value.ref z.2) ((arrOf st).map (·.2))) h'.objs.size (.lst (ys.map fun z => V.ref z.2)) :=
      ⟨len, ((arrOf st).map (·.2)).toList, c, by rw [y2]; exact vals_maps _ _ ys fun _ _ => rfl, hc⟩
    refine wpAny_pure ⟨_, rfl, .ref h'.objs.size, _, I.laid (t' := tk) stay old laid, rfl, q ys h'.objs.size ?_ y3 (fun z hz => k3 z (y1.mem_iff.mp hz)) free⟩
    rw [← k1]
    exact y1.map _
end
end LR

namespace LK
open PySem PySem.Spec PyProof.Rows L2
def top (i : Nat) : Stmt := PySem.Challenge.pw_knownways_k10_whole_expressions_and_thei.main.body.getD i (.Pass ⟨0, 0, 0, 0⟩)
abbrev sAllNames : Stmt := top 6
abbrev sAllSteps : Stmt := top 7
abbrev sIsName : Stmt := top 12
abbrev sExprInit : Stmt := inClass (top 15) 0
abbrev sExprAnd : Stmt := inClass (top 15) 1
abbrev sExprRand : Stmt := inClass (top 15) 2
abbrev sExprOr : Stmt := inClass (top 15) 3
abbrev sExprRor : Stmt := inClass (top 15) 4
abbrev sExprLen : Stmt := inClass (top 15) 5
abbrev sExprEq : Stmt := inClass (top 15) 6
abbrev sExprStr : Stmt := inClass (top 15) 7
abbrev sNamed : Stmt := top 16
abbrev sApplied : Stmt := top 17
abbrev sAsExpr : Stmt := top 18
abbrev sPartExpr : Stmt := top 19
abbrev sLesser : Stmt := top 20
abbrev sGreater : Stmt := top 21
abbrev sTextE : Stmt := top 22
abbrev sReadExpr : Stmt := top 24
abbrev sExprAt : Stmt := top 25
abbrev sWordEnd : Stmt := top 26
abbrev sPartsAt : Stmt := top 27
abbrev sPutTog : Stmt := top 28
abbrev sStepInit : Stmt := inClass (top 32) 0
abbrev sStepCall : Stmt := inClass (top 32) 1
abbrev sStepLen : Stmt := inClass (top 32) 4
abbrev sStepEq : Stmt := inClass (top 32) 5
abbrev sStepStr : Stmt := inClass (top 32) 6
abbrev sChainInit : Stmt := inClass (top 33) 0
abbrev sChainCall : Stmt := inClass (top 33) 1
abbrev sChainEq : Stmt := inClass (top 33) 5
abbrev sAreWays : Stmt := top 34
abbrev sFeed : Stmt := top 38
abbrev sDraw : Stmt := top 39
abbrev sPick : Stmt := top 40
abbrev sSame : Stmt := top 41
abbrev sWord : Stmt := top 42
abbrev sWords : Stmt := top 43
abbrev sWays : Stmt := top 44
abbrev sPoolSteps : Stmt := top 45
abbrev sExpr : Stmt := top 46
abbrev sMade : Stmt := top 47
abbrev sOther : Stmt := top 48
abbrev sSound : Stmt := top 49
abbrev sLJoined : Stmt := top 50
abbrev sLaw : Stmt := top 51
/-- the built-ins that stand -/
structure Std (mg : Str → Option Value) : Prop where
  len : mg "len" = none
  abs : mg "abs" = none
  int : mg "int" = none
  range : mg "range" = none
  isi : mg "isinstance" = none
  tuple : mg "tuple" = none
  list : mg "list" = none
  all : mg "all" = none
  zip : mg "zip" = none
  bool : mg "bool" = none
  str : mg "str" = none
  set : mg "set" = none
  sorted : mg "sorted" = none
  sum : mg "sum" = none
  any : mg "any" = none
  enumerate : mg "enumerate" = none
/-- a def of the text, as its callers see it -/
structure Df (K : PySem.W.Frag) (mg : Str → Option Value) (x : Str) (st : Stmt) (f : Addr) (fd : FuncData) (ps : List Str) : Prop where
  F : Fun K x x st f fd
  b : Binds K fd ps []
  g : mg x = some (.ref f)
/-- all but l stands -/
def Keep (l : Addr) (H H' : Hp) : Prop := ∀ b o, b ≠ l → H b = some o → H' b = some o
theorem Keep.refl {l : Addr} {H : Hp} : Keep l H H := fun _ _ _ e => e
theorem Keep.trans {l : Addr} {H H1 H2 : Hp} (a : Keep l H H1) (b : Keep l H1 H2) : Keep l H H2 := fun c o n e => b c o n (a c o n e)
theorem Keep.same {l : Addr} {H H1 : Hp} (a : Same H H1) : Keep l H H1 := fun c o n e => a c o e
theorem Keep.put {l : Addr} {H : Hp} {o : HO} : Keep l H (upd H l o) := fun c u n e => by rw [upd_ne n]; exact e
theorem same_new {H : Hp} {p : Addr} {o : HO} (h : H p = none) : Same H (upd H p o) := fun c u e => by rw [upd_ne (ne_of_none e h)]; exact e
theorem Keep.new {l : Addr} {H : Hp} {p : Addr} {o : HO} (h : H p = none) : Keep l H (upd H p o) := Keep.same (same_new h)
/-- the feed of draws at l -/
def Feed (H : Hp) (l : Addr) : Prop := ∃ a b : Int, H l = some (.lst [.int a, .int b]) ∧ 0 ≤ a ∧ 0 ≤ b
theorem Feed.keep {l m : Addr} {H H' : Hp} (h : Feed H l) (k : Keep m H H') (n : l ≠ m) : Feed H' l := by
  obtain ⟨a, b, e, h0, h1⟩ := h
  exact ⟨a, b, k _ _ n e, h0, h1⟩
theorem Feed.same {l : Addr} {H H' : Hp} (h : Feed H l) (k : Same H H') : Feed H' l := by
  obtain ⟨a, b, e, h0, h1⟩ := h
  exact ⟨a, b, k _ _ e, h0, h1⟩
theorem Feed.ne {l d : Addr} {H : Hp} (h : Feed H l) (e : H d = none) : l ≠ d := by
  obtain ⟨a, b, q, _⟩ := h
  exact ne_of_none q e
def spFeed (K : PySem.W.Frag) : Sp := fun vs H Q _ => ∃ (a : Addr) (ns : List Int) (k : Nat), vs = [.ref a, .int k] ∧ SqL K H a (ns.map V.int) ∧
  ∀ l H', H l = none → Feed H' l → Same H H' → Q (.ref l) H'
def spDraw : Sp := fun vs H Q _ => ∃ (l : Addr) (m : Int), vs = [.ref l, .int m] ∧ Feed H l ∧ 1 ≤ m ∧ m < 1073741824 ∧
  ∀ d H', 0 ≤ d → d < m → Feed H' l → Keep l H H' → Q (.int d) H'
section
variable {P : Program} {w : World} {K : PySem.W.Frag} {mg : Str → Option Value} {base : Heap}
theorem scFeed : FnScope ["_law_script", "_law_k", "_law_cell"] ["_law_script", "_law_k"] (defScope sFeed) := ⟨rfl, rfl, rfl, by decide +kernel, rfl, by decide +kernel, by decide +kernel⟩
theorem item_int {ns : List Int} {j : Nat} (h : j < ns.length) : (ns.map V.int)[j]? = some (V.int ns[j]) := by
  rw [List.getElem?_map, List.getElem?_eq_getElem h]
  rfl
theorem ok_feed {f : Addr} {fd : FuncData} (S : Std mg) (F : Fun K "_law_feed" "_law_feed" sFeed f fd) : FnOk P w K mg base CX0 1 f fd ["_law_script", "_law_k"] (spFeed K) := by
  refine F.ok scFeed (fun vs H Q E h => ?_) (fun cdv A outer s H vs Q E hr h => ?_)
  · obtain ⟨a, ns, k, rfl, _⟩ := h
    rfl
  · obtain ⟨a, ns, k, rfl, hS, q⟩ := h
    refine ⟨_, pss_cons (ps_set (i := 2) scFeed.nd rfl (Or.inl rfl) (pe_op op_add (pe_op op_mul pe_int (pv 1)) pe_int))
      (pss_cons (ps_if (pt_cmpR op_lt (pv 1) (pe_callB call_len_seq (by rfl) S.len PySem.boot_len (pa_cons (pv 0) pa_nil)) (nomark _))
          (pss_one (ps_set (i := 2) scFeed.nd rfl (Or.inl rfl) (pe_ix ix_list (pv 0) (pv 1) (fun _ _ => rfl))))
          (pss_one (ps_if (pt_cmpR op_gt (pe_callB call_len_seq (by rfl) S.len PySem.boot_len (pa_cons (pv 0) pa_nil)) pe_int (nomark _))
            (pss_one (ps_set (i := 2) scFeed.nd rfl (Or.inl rfl) (pe_op op_add (pv 2) (pe_op op_mul (pe_op op_mod (pe_callB call_abs (by rfl) S.abs (by decide +kernel) (pa_cons
              (pe_ix ix_list (pv 0) (pe_op op_mod (pe_callTy call_int1 (by rfl) S.int (by decide +kernel) (pa_cons (pv 1) pa_nil)) (pe_callB call_len_seq (by rfl) S.len PySem.boot_len (pa_cons (pv 0) pa_nil))) (fun _ _ => rfl)) pa_nil)) pe_int) pe_int))))
            pss_nil)))
      (pss_cons (ps_if (pt_cmpR op_lt (pv 2) pe_int (nomark _)) (pss_one (ps_set (i := 2) scFeed.nd rfl (Or.inl rfl) (pe_op op_sub pe_int (pe_op op_mul pe_int (pv 2))))) pss_nil)
      (pss_one (ps_ret (pe_lst (pa_cons (pe_ifExp (pt_cmpR op_ge (pv 2) (pe_op op_pow pe_int pe_int) (nomark _)) (pv 2) pe_int)
        (pa_cons (pe_op op_add (pe_op op_add (pe_op op_mod (pe_callTy call_int1 (by rfl) S.int (by decide +kernel) (pa_cons (pv 2) pa_nil)) pe_int) (pe_op op_mul pe_int (pv 1))) pe_int) pa_nil))))))), ?_⟩
    -- the end, from any value of the cell
    have fin : ∀ c : Int, 0 ≤ c → (tRet (tLst (tCons (tIf (tTest (tOp (rI0 fun i j => .bl (decide (j ≤ i))) (tVar 2) (tOp (rI CPow fun i j => .int (i ^ j.toNat)) (tC (.int 10)) (tC (.int 18))))) (tVar 2) (tC (.int 0)))
        (tCons (tOp (rI0 fun i j => .int (i + j)) (tOp (rI0 fun i j => .int (i + j)) (tOp (rI (fun _ j => 0 < j) fun i j => .int (i % j)) (tCB (fun xs H Q => (∃ i, xs = [.int i] ∧ Q (.int i) H) ∨ ∃ k, xs = [.bl k] ∧ Q (.int (if k then 1 else 0)) H) (tCons (tVar 2) tNil)) (tC (.int 1000003))) (tOp (rI CMul fun i j => .int (i * j)) (tC (.int 13)) (tVar 1))) (tC (.int 1))) tNil))))
        { nx := fun _ H' => Q .non H', rt := Q } [some (.ref a), some (.int k), some (.int c)] H := by
      intro c hc
      have stp : ∀ x : Int, 0 ≤ x → ∀ p, H p = none → Q (.ref p) (upd H p (.lst [.int x, .int (c % 1000003 + 13 * k + 1)])) := fun x hx p hp =>
        q p _ hp ⟨x, _, upd_same, hx, by omega⟩ (same_new hp)
      refine ⟨_, rfl, _, _, rfl, rfl, ⟨by decide, by decide, by decide⟩, _, _, rfl, rfl, _, rfl, ite2 (fun h1 => ?_) (fun h1 => ?_)⟩
      · refine ⟨_, rfl, _, rfl, .inl ⟨_, rfl, _, _, rfl, rfl, (by show (0 : Int) < 1000003; decide), _, rfl, _, _, rfl, rfl, .inl ⟨by decide, by decide⟩, _, _, rfl, rfl, _, _, rfl, rfl, (by show 2 ≤ sizeLine; decide), stp c hc⟩⟩
      · refine ⟨_, rfl, .inl ⟨_, rfl, _, _, rfl, rfl, (by show (0 : Int) < 1000003; decide), _, rfl, _, _, rfl, rfl, .inl ⟨by decide, by decide⟩, _, _, rfl, rfl, _, _, rfl, rfl, (by show 2 ≤ sizeLine; decide), stp 0 (Int.le_refl 0)⟩⟩
    have neg : ∀ c : Int, tSeq (tIfS (tTest (tOp (rI0 fun i j => .bl (decide (i < j))) (tVar 2) (tC (.int 0)))) (tAsg (tOp (rI0 fun i j => .int (i - j)) (tC (.int 3)) (tOp (rI CMul fun i j => .int (i * j)) (tC (.int 5)) (tVar 2))) (gName 2)) tNext) (tRet (tLst (tCons (tIf (tTest (tOp (rI0 fun i j => .bl (decide (j ≤ i))) (tVar 2) (tOp (rI CPow fun i j => .int (i ^ j.toNat)) (tC (.int 10)) (tC (.int 18))))) (tVar 2) (tC (.int 0)))
        (tCons (tOp (rI0 fun i j => .int (i + j)) (tOp (rI0 fun i j => .int (i + j)) (tOp (rI (fun _ j => 0 < j) fun i j => .int (i % j)) (tCB (fun xs H Q => (∃ i, xs = [.int i] ∧ Q (.int i) H) ∨ ∃ k, xs = [.bl k] ∧ Q (.int (if k then 1 else 0)) H) (tCons (tVar 2) tNil)) (tC (.int 1000003))) (tOp (rI CMul fun i j => .int (i * j)) (tC (.int 13)) (tVar 1))) (tC (.int 1))) tNil))))
        { nx := fun _ H' => Q .non H', rt := Q } [some (.ref a), some (.int k), some (.int c)] H := by
      intro c
      refine ⟨_, rfl, _, _, rfl, rfl, _, rfl, ite2 (fun h1 => ?_) (fun h1 => ?_)⟩
      · have h2 : c < 0 := of_decide_eq_true h1
        exact ⟨_, rfl, _, _, rfl, rfl, .inl ⟨by decide, by decide⟩, _, _, rfl, rfl, fin (3 - 5 * c) (by omega)⟩
      · have h2 : ¬ c < 0 := fun e => h1 (decide_eq_true e)
        exact fin c (by omega)
    refine ⟨_, rfl, _, _, rfl, rfl, .inl ⟨by decide, by decide⟩, _, _, rfl, rfl, ?_⟩
    refine ⟨_, rfl, _, rfl, a, _, rfl, .inl hS, _, _, rfl, rfl, _, rfl, ite2 (fun h1 => ?_) (fun h1 => ?_)⟩
    · have h2 : (k : Int) < ((ns.map V.int).length : Nat) := of_decide_eq_true h1
      have h3 : k < ns.length := by rw [List.length_map] at h2; omega
      exact ⟨_, rfl, _, rfl, a, _, _, _, rfl, rfl, hS, atI_nat (item_int h3), neg _⟩
    · refine ⟨_, rfl, a, _, rfl, .inl hS, _, _, rfl, rfl, _, rfl, ite2 (fun h2 => ?_) (fun h2 => ?_)⟩
      · have h3 : (0 : Int) < ((ns.map V.int).length : Nat) := of_decide_eq_true h2
        have h4 : 0 < ns.length := by rw [List.length_map] at h3; omega
        obtain ⟨j, ej, hj⟩ : ∃ j : Nat, (k : Int) % ((ns.map V.int).length : Nat) = (j : Int) ∧ j < ns.length := by
          have e1 := Int.emod_nonneg (k : Int) (b := ((ns.map V.int).length : Nat)) (by omega)
          have e2 := Int.emod_lt_of_pos (k : Int) h3
          refine ⟨((k : Int) % ((ns.map V.int).length : Nat)).toNat, by omega, ?_⟩
          have e3 : (ns.map V.int).length = ns.length := List.length_map ..
          omega
        refine ⟨_, rfl, _, rfl, _, rfl, .inl ⟨_, rfl, _, rfl, a, _, rfl, .inl hS, _, _, rfl, rfl, h3, a, _, _, _, rfl, rfl, hS, at_of ej (item_int hj), ?_⟩⟩
        exact ⟨_, rfl, _, _, rfl, rfl, (by show (0 : Int) < 1000003; decide), _, _, rfl, rfl, .inr ⟨by decide, by decide⟩, _, _, rfl, rfl, neg _⟩
      · exact neg _
end
end LK

namespace LK
open PySem PySem.Spec PyProof.Rows L2 LR
/-! ### what is in an expression, in plain words -/
/-- what stands at a head: the lesser, the greater, a step at its place -/
inductive Hd where
  | le
  | gr
  | st (a : Addr) (z y : Str)
inductive Md where
  | nm (z : Str)
  | ap (h : Hd) (ms : List Md)
def hdW : Hd → Str
  | .le => "lesser"
  | .gr => "greater"
  | .st _ z _ => z
def hdK : Hd → List (Str × Str)
  | .st _ z y => [(z, y)]
  | _ => []
def arity : Hd → Nat
  | .le => 2
  | .gr => 2
  | .st _ _ y => y.length
mutual
/-- the signs of a text -/
def cp : Md → List Nat
  | .nm z => TL.tl z
  | .ap h ms => TL.tl (hdW h) ++ 40 :: (TL.joinL [44, 32] (cpL ms) ++ [41])
def cpL : List Md → List (List Nat)
  | [] => []
  | m :: r => cp m :: cpL r
end
mutual
/-- how many parts -/
def sz : Md → Nat
  | .nm _ => 1
  | .ap _ ms => 1 + szL ms
def szL : List Md → Nat
  | [] => 0
  | m :: r => sz m + szL r
end
mutual
/-- the names as they stand -/
def lvs : Md → List Str
  | .nm z => [z]
  | .ap _ ms => lvsL ms
def lvsL : List Md → List Str
  | [] => []
  | m :: r => lvs m ++ lvsL r
end
mutual
/-- the steps as they stand, by name and ways -/
def sts : Md → List (Str × Str)
  | .nm _ => []
  | .ap h ms => hdK h ++ stsL ms
def stsL : List Md → List (Str × Str)
  | [] => []
  | m :: r => sts m ++ stsL r
end
theorem cp_ap (h : Hd) (ms : List Md) : cp (.ap h ms) = TL.tl (hdW h) ++ 40 :: (TL.joinL [44, 32] (cpL ms) ++ [41]) := by
  rw [cp]
theorem cpL_map (ms : List Md) : cpL ms = ms.map cp := by
  induction ms with
  | nil => rfl
  | cons m r ih =>
    unfold cpL
    rw [ih]
    rfl
theorem szL_sum (ms : List Md) : szL ms = (ms.map sz).sum := by
  induction ms with
  | nil => rfl
  | cons m r ih =>
    unfold szL
    rw [ih]
    simp
theorem lvsL_flat (ms : List Md) : lvsL ms = (ms.map lvs).flatten := by
  induction ms with
  | nil => rfl
  | cons m r ih =>
    unfold lvsL
    rw [ih]
    simp
theorem stsL_flat (ms : List Md) : stsL ms = (ms.map sts).flatten := by
  induction ms with
  | nil => rfl
  | cons m r ih =>
    unfold stsL
    rw [ih]
    simp
mutual
theorem lvs_sz : ∀ m : Md, (lvs m).length + (sts m).length ≤ sz m
  | .nm z => by simp [lvs, sts, sz]
  | .ap h ms => by
    have := lvsL_sz ms
    have e : (hdK h).length ≤ 1 := by cases h <;> simp [hdK]
    simp only [lvs, sts, sz, List.length_append]
    omega
theorem lvsL_sz : ∀ ms : List Md, (lvsL ms).length + (stsL ms).length ≤ szL ms
  | [] => by simp [lvsL, stsL, szL]
  | m :: r => by
    have a := lvs_sz m
    have b := lvsL_sz r
    simp only [lvsL, stsL, szL, List.length_append]
    omega
end
/-! ### each once, ascending -/
theorem asc_same {α : Type} {lt : α → α → Prop} (irr : ∀ a, ¬ lt a a) (asy : ∀ a b, lt a b → ¬ lt b a) : ∀ {xs ys : List α}, xs.Pairwise lt → ys.Pairwise lt → (∀ k, k ∈ xs ↔ k ∈ ys) → xs = ys
  | [], [], _, _, _ => rfl
  | [], y :: ys, _, _, h => nomatch (h y).mpr List.mem_cons_self
  | x :: xs, [], _, _, h => nomatch (h x).mp List.mem_cons_self
  | x :: xs, y :: ys, px, py, h => by
    obtain ⟨ax, pxs⟩ := List.pairwise_cons.mp px
    obtain ⟨ay, pys⟩ := List.pairwise_cons.mp py
    have e : x = y := by
      rcases List.mem_cons.mp ((h x).mp List.mem_cons_self) with e | m1
      · exact e
      · rcases List.mem_cons.mp ((h y).mpr List.mem_cons_self) with e | m2
        · exact e.symm
        · exact absurd (ax y m2) (asy _ _ (ay x m1))
    subst e
    refine congrArg (x :: ·) (asc_same irr asy pxs pys fun k => ⟨fun m => ?_, fun m => ?_⟩)
    · rcases List.mem_cons.mp ((h k).mp (List.mem_cons_of_mem _ m)) with e | m'
      · rw [e] at m
        exact absurd (ax x m) (irr x)
      · exact m'
    · rcases List.mem_cons.mp ((h k).mpr (List.mem_cons_of_mem _ m)) with e | m'
      · rw [e] at m
        exact absurd (ay x m) (irr x)
      · exact m'
abbrev ltS (a b : Str) : Prop := a.cps.toList < b.cps.toList
theorem ltS_irr (a : Str) : ¬ ltS a a := List.lt_irrefl _
theorem ltS_trans {a b c : Str} (h : ltS a b) (h' : ltS b c) : ltS a c := List.lt_trans h h'
theorem ltS_asy (a b : Str) (h : ltS a b) : ¬ ltS b a := fun h' => ltS_irr _ (ltS_trans h h')
theorem str_cps {a b : Str} (h : a.cps.toList = b.cps.toList) : a = b := by
  cases a
  cases b
  simp only at h
  rw [Array.toList_inj.mp h]
theorem ltS_or (a b : Str) : ltS a b ∨ a = b ∨ ltS b a := by
  by_cases h : a.cps.toList < b.cps.toList
  · exact .inl h
  · by_cases h' : b.cps.toList < a.cps.toList
    · exact .inr (.inr h')
    · exact .inr (.inl (str_cps (List.le_antisymm h' h)))
/-- ys: these names, each once, ascending -/
structure NmsOf (S ys : List Str) : Prop where
  up : ys.Pairwise ltS
  mem : ∀ k, k ∈ ys ↔ k ∈ S
theorem rising_up : ∀ (p : Str) (r : List Str), risingS p r = true → (p :: r).Nodup → (p :: r).Pairwise ltS
  | p, [], _, _ => by simp
  | p, x :: r, h, n => by
    simp only [risingS, Bool.and_eq_true, Bool.not_eq_true'] at h
    obtain ⟨n1, n2⟩ := List.nodup_cons.mp n
    have ih := rising_up x r h.2 n2
    have px : ltS p x := by
      have h1 := h.1
      rw [ltCps_eq] at h1
      have h2 : ¬ ltS x p := of_decide_eq_false h1
      rcases ltS_or p x with q | q | q
      · exact q
      · exact absurd (q ▸ List.mem_cons_self) n1
      · exact absurd q h2
    refine List.pairwise_cons.mpr ⟨fun y hy => ?_, ih⟩
    rcases List.mem_cons.mp hy with e | hy
    · rw [e]
      exact px
    · exact ltS_trans px ((List.pairwise_cons.mp ih).1 y hy)
theorem nms_of {S ys : List Str} (h : sortedS ys = true) (n : ys.Nodup) (m : ∀ k, k ∈ ys ↔ k ∈ S) : NmsOf S ys := by
  refine ⟨?_, m⟩
  cases ys with
  | nil => exact .nil
  | cons p r => exact rising_up p r h n
theorem NmsOf.eq {S T ys zs : List Str} (a : NmsOf S ys) (b : NmsOf T zs) (e : ∀ k, k ∈ S ↔ k ∈ T) : ys = zs :=
  asc_same ltS_irr ltS_asy a.up b.up fun k => (a.mem k).trans ((e k).trans (b.mem k).symm)
theorem up_nodup {α : Type} {lt : α → α → Prop} (irr : ∀ a, ¬ lt a a) {ys : List α} (h : ys.Pairwise lt) : ys.Nodup := List.Pairwise.imp (fun {a b} q => fun e => irr b (by rw [e] at q; exact q)) h
theorem nodup_le {α : Type} [DecidableEq α] : ∀ {xs ys : List α}, xs.Nodup → (∀ k ∈ xs, k ∈ ys) → xs.length ≤ ys.length
  | [], _, _, _ => Nat.zero_le _
  | x :: xs, ys, n, h => by
    obtain ⟨n1, n2⟩ := List.nodup_cons.mp n
    have m := h x List.mem_cons_self
    have := nodup_le (xs := xs) (ys := ys.erase x) n2 fun k hk => (List.mem_erase_of_ne (by intro e; rw [e] at hk; exact n1 hk)).mpr (h k (List.mem_cons_of_mem _ hk))
    rw [List.length_erase_of_mem m] at this
    have := List.length_pos_of_mem m
    rw [List.length_cons]
    omega
theorem NmsOf.le {S ys : List Str} (a : NmsOf S ys) : ys.length ≤ S.length := nodup_le (up_nodup ltS_irr a.up) fun k h => (a.mem k).mp h
def ltK (a b : Str × Str) : Prop := upT a b ∧ a ≠ b
theorem kL_inj {a b : Str × Str} (h : kL a = kL b) : a = b := by
  unfold kL at h
  injection h with h1 h2
  injection h2 with h3 _
  injection h1 with h1
  injection h3 with h3
  exact Prod.ext (str_cps h1) (str_cps h3)
theorem ltK_irr (a : Str × Str) : ¬ ltK a a := fun h => h.2 rfl
theorem ltK_asy (a b : Str × Str) (h : ltK a b) : ¬ ltK b a := fun h' => h.2 (kL_inj (lex_total _ _ h'.1 h.1))
/-- ks: these keys, each once, ascending -/
structure KysOf (S ks : List (Str × Str)) : Prop where
  up : ks.Pairwise ltK
  mem : ∀ k, k ∈ ks ↔ k ∈ S
theorem KysOf.eq {S T ks js : List (Str × Str)} (a : KysOf S ks) (b : KysOf T js) (e : ∀ k, k ∈ S ↔ k ∈ T) : ks = js :=
  asc_same ltK_irr ltK_asy a.up b.up fun k => (a.mem k).trans ((e k).trans (b.mem k).symm)
theorem KysOf.le {S ks : List (Str × Str)} (a : KysOf S ks) : ks.length ≤ S.length := nodup_le (up_nodup ltK_irr a.up) fun k h => (a.mem k).mp h
/-- names that differ: the keys ascend as they do -/
theorem KysOf.nms {S ks : List (Str × Str)} (a : KysOf S ks) (one : ∀ x ∈ S, ∀ y ∈ S, x.1 = y.1 → x = y) : NmsOf (S.map (·.1)) (ks.map (·.1)) := by
  refine ⟨List.pairwise_map.mpr (a.up.imp_of_mem fun {x y} hx hy h => ?_), fun k => ?_⟩
  · have ne : x.1 ≠ y.1 := fun e => h.2 (one x ((a.mem x).mp hx) y ((a.mem y).mp hy) e)
    rcases ltS_or x.1 y.1 with q | q | q
    · exact q
    · exact absurd q ne
    · have h1 : lexLt itemOrd (kL y) (kL x) = false := h.1
      unfold kL at h1
      rw [lex_diff (by intro e; injection e with e; exact ne (str_cps e.symm))] at h1
      have h2 : decide (y.1.cps.toList < x.1.cps.toList) = false := h1
      exact absurd q (of_decide_eq_false h2)
  · rw [List.mem_map, List.mem_map]
    exact ⟨fun ⟨x, hx, e⟩ => ⟨x, (a.mem x).mp hx, e⟩, fun ⟨x, hx, e⟩ => ⟨x, (a.mem x).mpr hx, e⟩⟩
end LK

namespace LK
open PySem PySem.Spec PyProof.Rows L2
def spPick (K : PySem.W.Frag) : Sp := fun vs H Q _ => ∃ (l : Addr) (x : V) (P : V → Prop), vs = [.ref l, x] ∧ Feed H l ∧
  ((∃ z : Str, x = .str z ∧ 0 < z.length ∧ z.length ≤ 1000 ∧ ∀ c, c ∈ z.cps.toList → P (.str ⟨#[c]⟩)) ∨ (∃ (a : Addr) (xs : List V), x = .ref a ∧ a ≠ l ∧ SqL K H a xs ∧ 0 < xs.length ∧ xs.length ≤ 1000 ∧ ∀ v, v ∈ xs → P v)) ∧
  ∀ v H', P v → Feed H' l → Keep l H H' → Q v H'
section
variable {P : Program} {w : World} {K : PySem.W.Frag} {mg : Str → Option Value} {base : Heap}
theorem scDraw : FnScope ["_law_feed_here", "_law_many", "_law_digit"] ["_law_feed_here", "_law_many"] (defScope sDraw) := ⟨rfl, rfl, rfl, by decide +kernel, rfl, by decide +kernel, by decide +kernel⟩
theorem ok_draw {f : Addr} {fd : FuncData} (S : Std mg) (F : Fun K "_law_draw" "_law_draw" sDraw f fd) : FnOk P w K mg base CX0 1 f fd ["_law_feed_here", "_law_many"] spDraw := by
  refine F.ok scDraw (fun vs H Q E h => ?_) (fun cdv A outer s H vs Q E hr h => ?_)
  · obtain ⟨l, m, rfl, _⟩ := h
    rfl
  · obtain ⟨l, m, rfl, ⟨a, b, hl, ha, hb⟩, h1, h2, q⟩ := h
    refine ⟨_, pss_cons (ps_if (pt_cmpR op_gt (pe_ix ix_list (pv 0) pe_int (fun _ _ => rfl)) pe_int (nomark _))
        (pss_cons (ps_set (i := 2) scDraw.nd rfl (Or.inl rfl) (pe_op op_mod (pe_callTy call_int1 (by rfl) S.int (by decide +kernel) (pa_cons (pe_ix ix_list (pv 0) pe_int (fun _ _ => rfl)) pa_nil)) (pv 1)))
        (pss_cons (ps_asg (pe_op op_fdiv (pe_ix ix_list (pv 0) pe_int (fun _ _ => rfl)) (pv 1)) (pg_sub (pv 0) pe_int set_list))
        (pss_one (ps_ret (pv 2))))) pss_nil)
      (pss_cons (ps_asg (pe_op op_mod (pe_callTy call_int1 (by rfl) S.int (by decide +kernel) (pa_cons (pe_op op_add (pe_op op_mul (pe_ix ix_list (pv 0) pe_int (fun _ _ => rfl)) pe_int) pe_int) pa_nil)) pe_int) (pg_sub (pv 0) pe_int set_list))
      (pss_one (ps_ret (pe_op op_mod (pe_callTy call_int1 (by rfl) S.int (by decide +kernel) (pa_cons (pe_op op_fdiv (pe_ix ix_list (pv 0) pe_int (fun _ _ => rfl)) pe_int) pa_nil)) (pv 1))))), ?_⟩
    have hS : SqL K H l [.int a, .int b] := SqL.of hl
    refine ⟨_, rfl, l, _, _, _, rfl, rfl, hS, rfl, _, _, rfl, rfl, _, rfl, ite2 (fun c => ?_) (fun c => ?_)⟩
    · refine ⟨_, rfl, l, _, _, _, rfl, rfl, hS, rfl, .inl ⟨_, rfl, _, rfl, _, _, rfl, rfl, (by show 0 < m; omega), ?_⟩⟩
      refine ⟨_, rfl, l, _, _, _, rfl, rfl, hS, rfl, _, rfl, _, _, rfl, rfl, ⟨by omega, h2⟩, _, rfl, l, _, _, 0, rfl, rfl, hl, rfl, _, rfl, ?_⟩
      exact q _ _ (Int.emod_nonneg _ (by omega)) (Int.emod_lt_of_pos _ (by omega)) ⟨_, _, upd_same, Int.ediv_nonneg ha (by omega), hb⟩ Keep.put
    · refine ⟨_, rfl, l, _, _, _, rfl, rfl, hS, rfl, _, _, rfl, rfl, .inr ⟨by decide, by decide⟩, _, _, rfl, rfl, .inl ⟨_, rfl, _, _, rfl, rfl, (by show (0 : Int) < 2147483647; decide), _, rfl, l, _, _, 1, rfl, rfl, hl, rfl, ?_⟩⟩
      refine ⟨_, rfl, l, _, _, _, rfl, rfl, SqL.of upd_same, rfl, _, _, rfl, rfl, ⟨by decide, by decide⟩, .inl ⟨_, rfl, _, rfl, _, _, rfl, rfl, (by show 0 < m; omega), ?_⟩⟩
      exact q _ _ (Int.emod_nonneg _ (by omega)) (Int.emod_lt_of_pos _ (by omega)) ⟨_, _, upd_same, ha, Int.emod_nonneg _ (by decide)⟩ Keep.put
theorem scPick : FnScope ["_law_feed_here", "_law_items"] ["_law_feed_here", "_law_items"] (defScope sPick) := ⟨rfl, rfl, rfl, by decide +kernel, rfl, by decide +kernel, by decide +kernel⟩
theorem ok_pick {f fD : Addr} {fd fdD : FuncData} (S : Std mg) (F : Fun K "_law_pick" "_law_pick" sPick f fd) (D : Df K mg "_law_draw" sDraw fD fdD ["_law_feed_here", "_law_many"]) : FnOk P w K mg base CX0 2 f fd ["_law_feed_here", "_law_items"] (spPick K) := by
  have GD : FnOk P w K mg base CX0 1 fD fdD ["_law_feed_here", "_law_many"] spDraw := ok_draw S D.F
  refine F.ok scPick (fun vs H Q E h => ?_) (fun cdv A outer s H vs Q E hr h => ?_)
  · obtain ⟨l, x, PP, rfl, _⟩ := h
    rfl
  · obtain ⟨l, x, PP, rfl, hf, hi, q⟩ := h
    refine ⟨_, pss_one (ps_ret (pe_ix ix_seq (pv 1) (pe_call GD hr rfl D.g D.F.kp D.b .nil pass0 (pa_cons (pv 0) (pa_cons (pe_callB call_len (by rfl) S.len PySem.boot_len (pa_cons (pv 1) pa_nil)) pa_nil))) (fun _ _ => rfl))), ?_⟩
    rcases hi with ⟨z, rfl, h0, h1, hP⟩ | ⟨a, xs, rfl, hne, hS, h0, h1, hP⟩
    · refine ⟨_, rfl, _, rfl, _, rfl, _, z.length, rfl, ⟨Nat.le_of_lt (small1000 h1), rfl⟩, l, (z.length : Int), rfl, hf, by omega, by omega, fun d H' d0 d1 hf' kp => ?_⟩
      obtain ⟨j, rfl⟩ : ∃ j : Nat, d = (j : Int) := ⟨d.toNat, by omega⟩
      have hj : j < z.cps.toList.length := by
        have : z.length = z.cps.toList.length := by show z.cps.size = _; simp
        omega
      refine .inr (.inr ⟨z, (j : Int), z.cps.toList[j], rfl, rfl, Nat.le_of_lt (small1000 h1), atI_nat (List.getElem?_eq_getElem hj), ?_⟩)
      exact q _ _ (hP _ (List.getElem_mem hj)) hf' kp
    · refine ⟨_, rfl, _, rfl, _, rfl, _, xs.length, rfl, .inl ⟨_, hS, rfl⟩, l, (xs.length : Int), rfl, hf, by omega, by omega, fun d H' d0 d1 hf' kp => ?_⟩
      obtain ⟨j, rfl⟩ : ∃ j : Nat, d = (j : Int) := ⟨d.toNat, by omega⟩
      have hj : j < xs.length := by omega
      have hS' : SqL K H' a xs := by
        rcases hS with (h | ⟨o, h⟩) | h
        · exact .inl (.inl (kp _ _ hne h))
        · exact .inl (.inr ⟨o, kp _ _ hne h⟩)
        · exact .inr h
      refine .inl ⟨a, xs, (j : Int), xs[j], rfl, rfl, hS', atI_nat (List.getElem?_eq_getElem hj), ?_⟩
      exact q _ _ (hP _ (List.getElem_mem hj)) hf' kp
end
end LK

namespace LK
open PySem PySem.Spec PyProof.Rows L2
/-- a name: one to four lower-case letters -/
structure NameOk (z : Str) : Prop where
  pos : 0 < z.length
  len : z.length ≤ 4
  low : ∀ c, c ∈ TL.tl z → 97 ≤ c ∧ c ≤ 122
  nif : z ≠ "if"
  nelse : z ≠ "else"
  nend : z ≠ "end"
def letters : Str := "abcdefghijklmnopqrstuvwxyz"
theorem letters_low : ∀ c, c ∈ TL.tl letters → 97 ≤ c ∧ c ≤ 122 := by decide +kernel
theorem letters_len : letters.length = 26 := by decide +kernel
theorem joinL_nil_flat : ∀ ps : List (List Nat), TL.joinL [] ps = ps.flatten
  | [] => rfl
  | [p] => by simp [TL.joinL]
  | p :: q :: r => by
    show p ++ ([] ++ TL.joinL [] (q :: r)) = _
    rw [joinL_nil_flat (q :: r), List.nil_append]
    rfl
theorem flat_one : ∀ {ys : List Str}, (∀ y, y ∈ ys → y.length = 1) → ((ys.map TL.tl).flatten).length = ys.length
  | [], _ => rfl
  | y :: r, h => by
    rw [List.map_cons, List.flatten_cons, List.length_append, flat_one fun z hz => h z (List.mem_cons_of_mem _ hz), ← TL.len_tl, h y (List.mem_cons_self ..), List.length_cons]
    omega
theorem tl_join0 (ys : List Str) : TL.tl (Txt.join "" ys) = (ys.map TL.tl).flatten := by
  rw [TL.join_eq, TL.tl_join]
  exact joinL_nil_flat _
theorem sum_one : ∀ {ys : List Str}, (∀ y, y ∈ ys → y.length = 1) → (ys.map (·.length)).sum = ys.length
  | [], _ => rfl
  | y :: r, h => by
    rw [List.map_cons, List.sum_cons, sum_one fun z hz => h z (List.mem_cons_of_mem _ hz), h y (List.mem_cons_self ..), List.length_cons]
    omega
theorem nameOk_q : NameOk "q" := ⟨by decide +kernel, by decide +kernel, by decide +kernel, by decide +kernel, by decide +kernel, by decide +kernel⟩
def spWord : Sp := fun vs H Q _ => ∃ (l : Addr), vs = [.ref l] ∧ Feed H l ∧ ∀ z H', NameOk z → Feed H' l → Keep l H H' → Q (.str z) H'
section
variable {P : Program} {w : World} {K : PySem.W.Frag} {mg : Str → Option Value} {base : Heap}
def nWord : List Str := ["_law_feed_here", "_law_letters", "_law_word_here", "_law_k"]
theorem scWord : FnScope nWord ["_law_feed_here"] (defScope sWord) := ⟨rfl, rfl, rfl, by decide +kernel, rfl, by decide +kernel, by decide +kernel⟩
theorem ok_word {f fD fP : Addr} {fd fdD fdP : FuncData} (S : Std mg) (F : Fun K "_law_word" "_law_word" sWord f fd) (D : Df K mg "_law_draw" sDraw fD fdD ["_law_feed_here", "_law_many"]) (PK : Df K mg "_law_pick" sPick fP fdP ["_law_feed_here", "_law_items"]) : FnOk P w K mg base CX0 3 f fd ["_law_feed_here"] spWord := by
  have GD : FnOk P w K mg base CX0 1 fD fdD ["_law_feed_here", "_law_many"] spDraw := ok_draw S D.F
  have GP : FnOk P w K mg base CX0 2 fP fdP ["_law_feed_here", "_law_items"] (spPick K) := ok_pick S PK.F D
  refine F.ok scWord (fun vs H Q E h => ?_) (fun cdv A outer s H vs Q E hr h => ?_)
  · obtain ⟨l, rfl, _⟩ := h
    rfl
  · obtain ⟨l, rfl, hf, q⟩ := h
    have hr1 : Room 1 _ := hr.mono (by decide)
    refine ⟨_, pss_cons (ps_set (i := 1) scWord.nd rfl (Or.inr rfl) pe_str)
      (pss_cons (ps_set (i := 2) scWord.nd rfl (Or.inl rfl) (pe_join pe_str (pe_lc (own := [("_law_k", 3)]) (g := gName 3) (tt := tYes) rfl scWord.nd
          (pi_range1 (by rfl) S.range (pa_cons (pe_op op_add pe_int (pe_call GD hr1 rfl D.g D.F.kp D.b .nil pass0 (pa_cons (pv 0) (pa_cons pe_int pa_nil)))) pa_nil))
          (blkOk_by (N := nWord) (sc := defScope sWord) (by decide +kernel)) (fun _ _ _ _ _ => pg_name (i := 3) scWord.nd rfl (Or.inl rfl)) (fun _ _ _ _ _ => pts_nil)
          (fun _ _ _ _ _ => pe_call GP hr rfl PK.g PK.F.kp PK.b .nil pass0 (pa_cons (pv 0) (pa_cons (pv 1) pa_nil))))))
      (pss_one (ps_ret (pe_ifExp (pt_cmpR op_in_seq (pv 2) (pe_tup (pa_cons pe_str (pa_cons pe_str (pa_cons pe_str pa_nil)))) (by rfl)) pe_str (pv 2))))), ?_⟩
    refine ⟨⟨_, rfl⟩, _, rfl, l, 4, rfl, hf, by decide, by decide, fun d H1 d0 d1 hf1 k1 => ⟨_, _, rfl, rfl, 1 + d, rfl, by omega, by omega, fun D hD => ?_⟩⟩
    have hlD : l ≠ D := fun e => by
      obtain ⟨a, b, e1, _⟩ := hf1
      rw [e, hD] at e1
      cases e1
    refine lc_range (lo := 0) (n := (1 + d).toNat) (fun i H2 => Feed H2 l ∧ (∀ b o, b ≠ l → H b = some o → H2 b = some o) ∧ ∃ ys : List Str, ys.length = i ∧ H2 D = some (.lst (ys.map V.str)) ∧ ∀ y, y ∈ ys → y.length = 1 ∧ ∀ c, c ∈ TL.tl y → 97 ≤ c ∧ c ≤ 122)
      ⟨hf1.same (same_new hD), fun b o n e => same_new hD b o (k1 b o n e), [], rfl, upd_same, fun y hy => by simp at hy⟩ ?_ ?_
    · rintro i H2 hi ⟨hf2, k2, ys, el, hy, hys⟩
      refine ⟨rfl, _, rfl, _, rfl, l, .str letters, (fun v => ∃ c : Nat, v = .str ⟨#[c]⟩ ∧ 97 ≤ c ∧ c ≤ 122), rfl, hf2, .inl ⟨_, rfl, by decide +kernel, by decide +kernel, fun c hc => ⟨c, rfl, letters_low c hc⟩⟩, ?_⟩
      rintro v H3 ⟨c, rfl, c0, c1⟩ hf3 k3
      refine ⟨ys.map V.str, k3 _ _ hlD.symm hy, ?_, ?_⟩
      · rw [List.length_map]
        exact small1000 (by omega)
      · refine ⟨hf3.keep (m := D) Keep.put hlD, fun b o n e => ?_, ys ++ [⟨#[c]⟩], by simp [el], by rw [upd_same]; simp, fun y hy' => ?_⟩
        · by_cases hb : b = D
          · exfalso
            rw [hb] at e n
            have z := k1 _ _ n e
            rw [hD] at z
            cases z
          · rw [upd_ne hb]
            exact k3 b o n (k2 b o n e)
        · rcases List.mem_append.mp hy' with z | z
          · exact hys y z
          · have e : y = ⟨#[c]⟩ := by simpa using z
            subst e
            exact ⟨rfl, fun c' hc' => by
              have e : c' = c := by simpa [TL.tl] using hc'
              subst e
              exact ⟨c0, c1⟩⟩
    · rintro H2 ⟨hf2, k2, ys, el, hy, hys⟩
      have hone : ∀ y, y ∈ ys → y.length = 1 := fun y h => (hys y h).1
      have l1 : ys.length = 1 + d.toNat := by omega
      have htl := tl_join0 ys
      have hlen : (Txt.join "" ys).length = ys.length := by rw [TL.len_tl, htl, flat_one hone]
      have hlow : ∀ c, c ∈ TL.tl (Txt.join "" ys) → 97 ≤ c ∧ c ≤ 122 := fun c hc => by
        rw [htl] at hc
        obtain ⟨l', h1, h2⟩ := List.mem_flatten.mp hc
        obtain ⟨y, hy', rfl⟩ := List.mem_map.mp h1
        exact (hys y hy').2 c h2
      refine ⟨_, _, ys, rfl, rfl, .inl (SqL.of hy), ?_, ?_⟩
      · rw [sum_one hone]
        show ys.length + ys.length * 0 ≤ 16777216
        omega
      refine ⟨_, rfl, (by show 3 ≤ sizeLine; decide), fun p hp => ⟨p, _, rfl, .inr (SqT.of upd_same), rfl, rfl, _, rfl, ?_⟩⟩
      have hl2 : l ≠ p := fun e => by
        obtain ⟨a, b, e1, _⟩ := hf2
        rw [e, hp] at e1
        cases e1
      have kk : Keep l H (upd H2 p (.tup [.str "if", .str "else", .str "end"])) := fun b o n e => same_new hp b o (k2 b o n e)
      refine ite2 (fun c => ?_) (fun c => ?_)
      · exact q _ _ nameOk_q (hf2.same (same_new hp)) kk
      · refine ⟨_, rfl, q _ _ ⟨by omega, by omega, hlow, fun e => ?_, fun e => ?_, fun e => ?_⟩ (hf2.same (same_new hp)) kk⟩
        · exact c (by rw [e]; decide +kernel)
        · exact c (by rw [e]; decide +kernel)
        · exact c (by rw [e]; decide +kernel)
end
end LK

/-! operations on instances of own classes that have a method for them -/
namespace LR
open PySem PySem.Spec PyProof.Rows L2
section
variable {X : Cx} {CX : CXT} {n : Nat} {f C : Addr} {fd : FuncData} {ps : List Str} {sp : Sp} {E : XK}
/-- a def called somewhere below the running body -/
theorem call_run {A : Around} {pins : List (Addr × Obj)} {σ : L2.St} {H : Hp} {s : Shared} {vs : List V} {us : List Value} {Q : VK} (sb : Sub X n A) (F : FnOk X.prog X.w X.K X.mg X.base CX n f fd ps sp) (hb : Binds X.K fd ps []) (hx : Passes CX X E)
    (I : Inv X pins σ H s) (r : Vals vs us) (h : sp vs H Q E) : wpAny (model X.prog X.w) A (call (.ref f) us) (EP X pins σ Q) X.xe s := by
  have e0 : Env0 X.prog X.w X.K X.mg X.base A X.stack s H := by
    have e := I.env0
    exact ⟨by rw [sb.fr]; exact e.frames, e.mod, e.bs, e.bsz, e.funs, e.frf, e.hok, e.bare⟩
  have hl := F.len _ _ _ _ h
  have hl2 : us.length = ps.length := by rw [← r.length, hl]
  refine wpAny_call (codeAny_mono (F.run A X.stack s H ⟨us, []⟩ us vs Q E sb.room e0 (by
    have z := hb s us I.kIn (by simpa using hl2)
    simpa using z) r h) fun res s' hq => ?_)
  cases res with
  | error e => exact hx pins σ H s e s' I hq
  | ok fl =>
    cases fl with
    | ret v => exact I.after hq
    | next => exact False.elim hq
    | brk => exact False.elim hq
    | cont => exact False.elim hq
theorem vals1r {a : Addr} {us : List Value} (r : Vals [V.ref a] us) : us = [.ref a] := by
  cases r with
  | cons r1 r2 =>
    cases r2
    cases r1
    rfl
/-- len(x) by an own __len__ -/
theorem call_lenOwn (F : FnOk X.prog X.w X.K X.mg X.base CX n f fd ps sp) (hs : PySem.W.findIn X.K (.ref C) "__len__" = some (some (.ref f))) (hf : PySem.W.isFn X.K (.ref f) = true) (hb : Binds X.K fd ps []) (hx : Passes CX X E) (hr : Room (n + 1) X.A) :
    CallR X (.builtin "len") (fun xs H Q => ∃ a dx fs, xs = [V.ref a] ∧ H a = some (.ins C dx fs) ∧ sp [V.ref a] H (fun v H' => ∃ k : Nat, v = .int k ∧ k < 4611686018427387904 ∧ Q (.int k) H') E) := by
  intro pins s σ H xs us Q I r h
  obtain ⟨a, dx, fs, rfl, ha, h⟩ := h
  have e := vals1r r
  subst e
  obtain ⟨mA, J, _⟩ := ins_get I.hok ha
  obtain ⟨od, J, _⟩ := J.look
  obtain ⟨m, hF⟩ := I.fr
  refine PySem.W.len_K hF I.ok.mod.kin J hs hf ?_
  refine wpAny_mono (call_run (A := X.A.in1) ⟨hr.in1, rfl⟩ F hb hx I (.cons (show RelV (V.ref a) (Value.ref a) from rfl) .nil) h) (fun v s' q => ?_) fun _ _ z => z
  obtain ⟨y, H', I', ry, k, rfl, hk, q⟩ := q
  obtain ⟨t, rfl⟩ := ry
  exact ⟨⟨by omega, by omega⟩, .int k, H', I'.tok _, ⟨_, rfl⟩, q⟩
/-- what an own operator must give -/
def NotNI (v : V) : Prop := True
/-- x == y by an own __eq__ of x's class -/
theorem op_eqOwn (F : FnOk X.prog X.w X.K X.mg X.base CX n f fd ps sp) (hs : PySem.W.findIn X.K (.ref C) "__eq__" = some (some (.ref f))) (hf : PySem.W.isFn X.K (.ref f) = true) (hb : Binds X.K fd ps []) (hx : Passes CX X E) (hr : Room n X.A) :
    OpR X (compareOp .Eq) (fun x y H Q => ∃ a dx fs t, x = V.ref a ∧ H a = some (.ins C dx fs) ∧ TyX X.K H y t ∧ PySem.W.notFirst X.K C t = true ∧ sp [V.ref a, y] H (fun v H' => ∃ b, v = .bl b ∧ Q (.bl b) H') E) := by
  intro pins s σ H x y v u Q I rx ry h
  obtain ⟨a, dx, fs, t, rfl, ha, ty, hn, h⟩ := h
  cases rx
  obtain ⟨mA, J, _⟩ := ins_get I.hok ha
  obtain ⟨od, J, _⟩ := J.look
  obtain ⟨m, hF⟩ := I.fr
  obtain ⟨Pk, Z, pk, _⟩ := kit_of I ry ty
  show wpAny (model X.prog X.w) X.A (richCompare .Eq (.ref a) u) (EP X pins σ Q) X.xe s
  refine PySem.W.cmp_K (op := .Eq) (tb := t) hr.units0 hF I.ok.mod.kin J (Z.ty _ _ I.kIn pk) hn hs hf ?_
  refine wpAny_mono (call_run (A := X.A) ⟨hr, rfl⟩ F hb hx I (.cons (show RelV (V.ref a) (Value.ref a) from rfl) (.cons ry .nil)) h) (fun v s' q => ?_) fun _ _ z => z
  obtain ⟨y', H', I', ry', b, rfl, q⟩ := q
  cases ry'
  exact ⟨.bl b, H', I', rfl, q⟩
end
end LR

/-! error objects of own classes as plain values: made, kept, read, asked for their class -/
namespace LR
open PySem PySem.Spec PyProof.Rows L2
/-- Err(e, ..), by the __init__ that keeps sp; the object stays a value -/
def tErrV (C : Addr) (sp : Sp) (ta : TA) : TE := fun σ H Q => ta σ H fun vs H1 => vs.length ≤ 1000 ∧ ∀ a, H1 a = none → sp (.ref a :: vs) (upd H1 a (exo a C none)) (fun _ H2 => Q (.ref a) H2) E0
/-- Err(), where nothing keeps arguments -/
def tErr0 (C : Addr) : TE := fun _ H Q => ∀ a, H a = none → Q (.ref a) (upd H a (exo a C none))
/-- (..).n of such an object -/
def tErrF (K : PySem.W.Frag) (n : Str) (te : TE) : TE := fun σ H Q => te σ H fun x H1 => ∃ (a C dx : Addr) (fs : List (Str × V)) (v : V), x = .ref a ∧ XfC K C ∧ PySem.W.findIn K (.ref C) n = some none ∧
  H1 a = some (exo a C (some dx)) ∧ H1 dx = some (exd dx fs) ∧ fs.lookup n = some v ∧ Q v H1
/-- isinstance of such an object -/
def rIsErr (K : PySem.W.Frag) : List V → Hp → VK → Prop := fun xs H Q => ∃ (a D : Addr) (d : Option Addr) (c : V) (cv : Value) (b : Bool), xs = [.ref a, c] ∧ H a = some (exo a D d) ∧ (∀ dx, d = some dx → ∃ fs, H dx = some (exd dx fs)) ∧ ExcC K D ∧ ClsV c cv ∧
  PySem.W.kitOne K (.ref D) cv = some b ∧ Q (.bl b) H
section
variable {X : Cx} {pins : List (Addr × Obj)} {σ : L2.St} {H : Hp} {s : Shared}
/-- where it stands -/
theorem err_inst {a D : Addr} {d : Option Addr} (I : Inv X pins σ H s) (ha : H a = some (exo a D d)) (hd : ∀ dx, d = some dx → ∃ fs, H dx = some (exd dx fs)) : ∃ (ox : Obj) (od : Option Obj), PySem.W.InstAt s.heap a ox D od ∧
    ∀ dx fs n v, d = some dx → H dx = some (exd dx fs) → fs.lookup n = some v → ∃ o u, od = some o ∧ PySem.W.lookIn n o = some (some u) ∧ RelV v u := by
  obtain ⟨t1, ho⟩ := exo_at I.hok ha
  cases d with
  | none => exact ⟨_, none, ⟨ho, rfl, rfl, trivial⟩, fun dx fs n v e => nomatch e⟩
  | some dx =>
    obtain ⟨fs0, h0⟩ := hd dx rfl
    obtain ⟨m0, hn0, _⟩ := exd_at I.hok h0
    obtain ⟨od, hod, look⟩ := lookIn_ns hn0
    refine ⟨_, some od, ⟨ho, rfl, rfl, hod⟩, fun dx' fs n v e hx hl => ?_⟩
    obtain rfl : dx = dx' := Option.some.inj e
    obtain ⟨m1, hn1, rel⟩ := exd_at I.hok hx
    obtain ⟨od1, hod1, look1⟩ := lookIn_ns hn1
    rw [hod] at hod1
    obtain rfl : od = od1 := Option.some.inj hod1
    obtain ⟨u, hu, ru⟩ := RelO.some_of (v := v) (o := m1 n) (by rw [← hl]; exact rel n)
    exact ⟨od, u, rfl, by rw [look1, hu], ru⟩
theorem pe_errF {e : Expr} {te : TE} {n : Str} {pos : Pos} (he : PE X e te) (hb : attributeBase e n X.env (eval e X.env) = eval e X.env := by rfl) : PE X (.Attribute e n pos) (tErrF X.K n te) := by
  refine ⟨fun pins s σ H Q I h => attr_of hb (thn (he.run pins s σ H _ I h) fun u s1 hh => ?_)⟩
  obtain ⟨x, H1, I1, rx, a, C, dx, fs, v, ex, T, hno, ha, hx, hl, q⟩ := hh
  subst ex
  obtain rfl : u = Value.ref a := rx
  obtain ⟨ox, od, J, field⟩ := err_inst I1 ha fun dx' e => ⟨fs, by rw [← Option.some.inj e]; exact hx⟩
  obtain ⟨o, u, rfl, hlk, ru⟩ := field dx fs n v rfl hx hl
  exact HandSPX.exc_get I1.kIn J T.ga T.gg T.exC (PySem.W.findObj_own T.hdC hno rfl hlk) (handed_of ru) ⟨v, H1, I1.tok _, ru, q⟩
theorem call_isErr : CallR X (.builtin "isinstance") (rIsErr X.K) := by
  intro pins s σ H xs us Q I r h
  obtain ⟨a, D, d, c, cv, b, rfl, ha, hd, T, k, e, q⟩ := h
  obtain ⟨u1, u2, rfl, r1, r2⟩ := vals2 r
  obtain rfl := k.eq r2
  obtain rfl : u1 = Value.ref a := r1
  obtain ⟨ox, od, J, _⟩ := err_inst I ha hd
  refine PySem.W.kia_one (PySem.W.kitx_exc ?_ T.hg T.hk T.hs T.ha T.hn T.ht T.hm) I.kIn J e (fun z => nomatch z) fun tk => ⟨.bl b, H, I.tok tk, rfl, q⟩
  obtain ⟨cd, hc, _⟩ := PySem.W.any_some T.hd
  rw [hc]
  rfl
end
section
variable {X : Cx} {e : Expr} {es : List Expr} {ta : TA} {p pos : Pos}
/-- the exception's plain form is the tracked one -/
theorem exo_new {P : Program} {w : World} {H : Hp} {h : Heap} {a t C : Addr} (he : h.get? a = some ({ cls := .ref C, dict := none, data := .fields #[.ref t, .none, .none, .none, .bool false, .none] } : Obj)) : ObjOk P w H h a (exo a C none) := exo_ok he
theorem pe_errV {CX : CXT} {x : Str} {C fI : Addr} {k : Nat} {fd : FuncData} {ps : List Str} {sp : Sp} (T : OexC X.K C) (iC : PySem.W.findIn X.K (.ref C) "__init__" = some (some (.ref fI))) (tI : PySem.W.typeIn X.K (.ref fI) = some (.type "function"))
    (F1 : FnOk X.prog X.w X.K X.mg X.base CX k fI fd ps sp) (ret : ∀ vs H Q, sp vs H Q E0 → sp vs H (fun v H' => v = .non ∧ Q v H') E0) (hr : Room (k + 1) X.A) (hb : Binds X.K fd ps []) (hx : Passes CX X E0) (hg : Gl X x) (hm : X.mg x = some (.ref C)) (ha : PA X (e :: es) ta)
    (hdb : (x == ("__debug__" : Str)) = false := by decide) (he : starEach (e :: es) X.env = (false, eval e X.env) :: starEach es X.env := by rfl) (hpl : (backTo pos (starEach es X.env)).any (·.1) = false := by rfl) :
    PE X (.Call (.Name x p) (e :: es) [] pos) (tErrV C sp ta) := by
  refine ⟨fun pins s σ H Q I h => ?_⟩
  obtain ⟨nm, q, N, bs, bm, sn, sub, ab, col, dd, k0, k1, k2, k3, k5, hC, hbm⟩ := T.cls
  refine wpAny_Call_Name_kw (ld_glob I hg hm ?_ hdb)
  refine PySem.W.callWith_K (h₀ := X.base) I.ok.mod.kin T.kC (thn (ha.run pos pins s σ H _ I h) fun us s1 ⟨vs, H1, I1, r1, hz, q1⟩ => ⟨I1.kIn, ?_⟩) he hpl
  obtain ⟨hp, g, dr, tk, os⟩ := s1
  have new := q1 (hp.objs.size + 1) (I1.hok.fresh (Nat.le_succ _))
  have run := ret _ _ _ new
  have J := I1.laid (t' := tk) (h' := (hp.push (PySem.W.kdv_tup us)).push (PySem.HandSPX.excO C hp.objs.size)) (fun b o z => Heap.get?_push_of_some _ (Heap.get?_push_of_some _ z)) (Nat.le_succ hp.objs.size) (exo_ok (C := C) (d := none) (t1 := hp.objs.size) (by heap_get))
  have rels : Vals (V.ref (hp.objs.size + 1) :: vs) (Value.ref (hp.objs.size + 1) :: us) := .cons rfl r1
  have many : (Value.ref (hp.objs.size + 1) :: us).length = ps.length := by rw [← rels.length, F1.len _ _ _ _ new]
  have few : us.length ≤ sizeLine := by rw [← Paired.length r1, sizeLine_eq]; omega
  have bound := hb _ (Value.ref (hp.objs.size + 1) :: us) J.kIn (by simpa using many)
  rw [List.append_nil] at bound
  refine wpAny_call (PySem.HandSPX.call_own F.excBase_ValueError (fun Y => PySem.HandSPX.refsVE_contains Y bm hbm) (I1.kIn _ _ hC) (PySem.W.looks_findIn I1.kIn iC) (fun self => PySem.W.bind_fn I1.kIn self tI) few
    (codeAny_mono (F1.run _ X.stack _ _ _ _ _ _ E0 (hr.make C us []) (J.env0.make C us []) bound rels run) fun r s' out => ?_))
  cases r with
  | error er => exact hx pins σ _ _ er s' J out
  | ok fl =>
    cases fl with
    | ret u =>
      have out' := out
      obtain ⟨v, H2, _, _, _, _, rv, ev, _⟩ := out'
      subst ev
      obtain ⟨v', H3, J3, r3, e3, q3⟩ := J.after out
      exact ⟨rv, ⟨.ref (hp.objs.size + 1), H3, J3, rfl, q3⟩⟩
    | next => exact False.elim out
    | brk => exact False.elim out
    | cont => exact False.elim out
/-- Err(), by ValueError's own __init__ -/
theorem pe_err0 {x : Str} {C : Addr} (T : OexC X.K C) (iC : PySem.W.findIn X.K (.ref C) "__init__" = some (some (.builtin "ValueError.__init__"))) (hg : Gl X x) (hm : X.mg x = some (.ref C)) (hdb : (x == ("__debug__" : Str)) = false := by decide) :
    PE X (.Call (.Name x p) [] [] pos) (tErr0 C) := by
  refine ⟨fun pins s σ H Q I h => ?_⟩
  obtain ⟨nm, q, N, bs, bm, sn, sub, ab, col, dd, k0, k1, k2, k3, k5, hC, hbm⟩ := T.cls
  refine wpAny_Call_Name_kw (ld_glob I hg hm ?_ hdb)
  obtain ⟨hp, g, dr, tk, os⟩ := s
  refine PySem.W.callWith_K0 I.kIn T.kC ?_
  refine PySem.W.call_B F.excBase_ValueError (fun Y => PySem.HandSPX.refsVE_contains Y bm hbm) (I.kIn _ _ hC) (PySem.W.looks_findIn I.kIn iC) (Nat.zero_le _) fun h' keep at1 at2 => ?_
  exact ⟨.ref (hp.objs.size + 1), _, I.laid (t' := tk) keep (Nat.le_succ _) (exo_ok at1), rfl, h _ (I.hok.fresh (Nat.le_succ _))⟩
end
end LR

/-! sets of texts: set(list of texts), sorted(that) -/
namespace LR
open PySem PySem.Spec PyProof.Rows L2
/-- the text of a member -/
def txtOf (e : Int × Value) : Str := match e.2 with | .str z _ => z | _ => Str.empty
/-- a member is a text, with its hash -/
def TxtE (w : World) (e : Int × Value) : Prop := ∃ (z : Str) (tk : Tok), e.2 = Value.str z tk ∧ e.1 = hashStr w z
/-- what a table keeps beside its members: its places rise, and its maker is known -/
def Led (w : World) (t : SetTable) : Prop := Ris t.place.toList ∧ (w.params.followText "set-order" = true ∨ t.led = true)
/-- the set of texts at a -/
def SetS (w : World) (h : Heap) (a : Addr) (S : Str → Bool) (n : Nat) : Prop :=
  ∃ (o : Obj) (es : Array (Int × Value)) (ep : Nat) (t : SetTable), h.get? a = some o ∧ o.ExactSet ∧ o.data = .set es ep t ∧
    ((∀ e ∈ es.toList, TxtE w e) ∧ (es.toList.map txtOf).Nodup ∧ ∀ k, S k = true ↔ k ∈ es.toList.map txtOf) ∧ (es.size < scanBound ∧ t.fits es.size = true ∧ es.size = n) ∧ Led w t
section
variable {P : Program} {w : World} {h h' : Heap} {a : Addr} {S : Str → Bool} {n : Nat}
theorem SetS.at (R : SetS w h a S n) (k : ∀ o, h.get? a = some o → h'.get? a = some o) : SetS w h' a S n := by
  obtain ⟨o, es, ep, t, q, r⟩ := R
  exact ⟨o, es, ep, t, k o q, r⟩
theorem SetS.congr {S' : Str → Bool} (R : SetS w h a S n) (e : ∀ k, S' k = S k) : SetS w h a S' n := by rwa [show S' = S from funext e]
theorem txt_elems {l : List (Int × Value)} (g : ∀ e ∈ l, TxtE w e) : ElemsOf (PySem.strKind P w) l := fun e he => by
  obtain ⟨z, tk, q1, q2⟩ := g e he
  refine ⟨⟨z, ?_, q2⟩, ?_⟩ <;> rw [q1]
  · exact strKind_is P w z tk
  · rfl
theorem txt_is {e : Int × Value} (g : TxtE w e) (k : Str) : (PySem.strKind P w).is k e.2 = true ↔ txtOf e = k := by
  obtain ⟨z, tk, q, _⟩ := g
  have h1 : txtOf e = z := by unfold txtOf; rw [q]
  rw [h1, q]
  show Value.isStrOf k (.str z tk) = true ↔ z = k
  simp [Value.isStrOf]
theorem txt_mem {l : List (Int × Value)} (g : ∀ e ∈ l, TxtE w e) (k : Str) : k ∈ l.map txtOf ↔ ∃ e ∈ l, (PySem.strKind P w).is k e.2 = true :=
  ⟨fun z => by obtain ⟨e, he, q⟩ := List.mem_map.mp z; exact ⟨e, he, (txt_is (g e he) k).2 q⟩, fun ⟨e, he, q⟩ => List.mem_map.mpr ⟨e, he, (txt_is (g e he) k).1 q⟩⟩
end
section
variable {P : Program} {w : World} {A : Around} {E : Value → Shared → Prop} {s : Shared} {a : Addr} {S : Str → Bool} {n : Nat}
/-- the members stored, the table relaid if it is too full -/
theorem setS_tail {give : Bool → Sem Unit} (hg : ∀ (b : Bool) (s₁ : Shared) (Q' : Unit → Shared → Prop), Q' () s₁ → wpAny (model P w) A (give b) Q' E s₁) {o : Obj} {es es1 : Array (Int × Value)} {ep : Nat} {t t2 : SetTable} {S' : Str → Bool}
    (ho : s.heap.get? a = some o) (hex : o.ExactSet) (hd : o.data = .set es ep t) (g1 : (∀ e ∈ es1.toList, TxtE w e) ∧ (es1.toList.map txtOf).Nodup ∧ ∀ k, S' k = true ↔ k ∈ es1.toList.map txtOf)
    (hb1 : es1.size < scanBound) (hf2 : t2.fits es1.size = true) (hr : Led w t2) {wasDummy : Bool} {R : Option Bool → Shared → Prop} (hR : ∀ h', Heap.SameBut a s.heap h' → SetS w h' a S' es1.size → R (some true) { s with heap := h' }) :
    wpAny (model P w) A (do
        storeSet a es1 t2
        if (!wasDummy && t2.tooFull) = true then do
            give (relayAll t2 es1 (SetTable.grown es1.size)).2.2
            storeSet a (relayAll t2 es1 (SetTable.grown es1.size)).1 (relayAll t2 es1 (SetTable.grown es1.size)).2.1
            pure (some true)
          else pure (some true)) R E s := by
  have z1 := store_at (es' := es1) (t' := t2) ho hd
  have z2 := Heap.SameBut.update s.heap a (Obj.putSet es1 t2)
  refine wpAny_bind (wpAny_storeSet_of ho hd ?_ (fits_of_scanBound hb1))
  split
  · obtain ⟨g1a, g1b, g1c⟩ := g1
    have y1 := relayAll_perm t2 es1 (SetTable.grown es1.size)
    have y2 := relayAll_fits t2 es1 (SetTable.grown es1.size)
    have y3 := relayAll_ris t2 es1 (SetTable.grown es1.size)
    have y4 := relayAll_led t2 es1 (SetTable.grown es1.size)
    revert y1 y2 y3 y4
    generalize relayAll t2 es1 (SetTable.grown es1.size) = Z
    obtain ⟨es2, t3, gave⟩ := Z
    intro y1 y2 y3 y4
    dsimp only at y1 y2 y3 y4 ⊢
    have sz : es2.size = es1.size := by simpa using y1.length_eq
    refine wpAny_bind (hg _ _ _ (wpAny_bind (wpAny_storeSet_of z1 rfl ?_ (fits_of_scanBound (by rw [sz]; exact hb1)))))
    refine wpAny_pure (hR _ (z2.trans (Heap.SameBut.update _ a _)) ⟨_, es2, _, t3, store_at (es' := es2) (t' := t3) z1 rfl, hex, rfl, ⟨fun e he => g1a e (y1.mem_iff.mp he), (y1.map txtOf).nodup_iff.mpr g1b, fun k => (g1c k).trans (y1.map txtOf).mem_iff.symm⟩, ⟨by rw [sz]; exact hb1, y2, sz⟩, y3, ?_⟩)
    rcases hr.2 with q | q
    · exact .inl q
    · exact .inr (y4.trans q)
  · exact wpAny_pure (hR _ z2 ⟨_, es1, _, t2, z1, hex, rfl, g1, ⟨hb1, hf2, rfl⟩, hr⟩)
/-- one more text -/
theorem setS_add {k : Str} {tk : Tok} {Q : Bool → Shared → Prop} (R : SetS w s.heap a S n) (room : n + 1 < scanBound)
    (hQ : ∀ h', Heap.SameBut a s.heap h' → SetS w h' a (fun j => S j || decide (j = k)) (if S k = true then n else n + 1) → Q (!S k) { s with heap := h' }) :
    wpAny (model P w) A (setAddHashed a (.str k tk) ((PySem.strKind P w).hash k)) Q E s := by
  obtain ⟨o, es, ep, t, ho, hex, hd, ⟨g, nd, hm⟩, ⟨hb, hf, hn⟩, hr⟩ := R
  have el : ElemsOf (PySem.strKind P w) es.toList := txt_elems g
  have sc : (Value.str k tk).scannable = true := rfl
  unfold setAddHashed setAddHashedIn
  refine wpAny_holding (wpAny_bind (wpAny_setState_of ho hd hf ?_))
  dsimp only
  rw [byScan_of sc hb el]
  simp only [↓reduceIte]
  unfold setAddByScan
  refine wpAny_bind (wpAny_bind (wpAny_rule (wpAny_bind (wpAny_setScan_of (strKind_is P w k tk) ho hd hf el ?_))))
  cases hfi : List.findIdx? (fun e => (PySem.strKind P w).is k e.2) es.toList with
  | some j =>
    obtain ⟨hj, pj, _⟩ := List.findIdx?_eq_some_iff_getElem.mp hfi
    have yes : S k = true := (hm k).2 ((txt_mem (P := P) g k).2 ⟨_, List.getElem_mem hj, pj⟩)
    have q := hQ s.heap (Heap.SameBut.refl a s.heap) ⟨o, es, ep, t, ho, hex, hd, ⟨g, nd, fun i => ?_⟩, ⟨hb, hf, by rw [if_pos yes]; exact hn⟩, hr⟩
    · rw [yes] at q
      exact wpAny_pure (wpAny_pure q)
    · rw [← hm i]
      by_cases e : i = k
      · rw [e, yes]; simp
      · simp [e]
  | none =>
    have fresh : k ∉ es.toList.map txtOf := fun z => by
      obtain ⟨e, he, q⟩ := (txt_mem (P := P) g k).1 z
      have c := List.findIdx?_eq_none_iff.mp hfi e he
      rw [c] at q
      cases q
    have no : S k = false := by
      cases q : S k with
      | false => rfl
      | true => exact absurd ((hm k).1 q) fresh
    have gw : ∀ (b : Bool) (s₁ : Shared) (Q' : Unit → Shared → Prop), Q' () s₁ → wpAny (model P w) A (match b with | true => rule "set.scan.the-table-gave-way" | false => pure ()) Q' E s₁ := fun b s₁ Q' q => by
      cases b
      · exact wpAny_pure q
      · exact wpAny_rule q
    dsimp only
    have y1 := layNew_perm t es ((PySem.strKind P w).hash k) (.str k tk)
    have y2 := layNew_fits t es ((PySem.strKind P w).hash k) (.str k tk)
    have y3 := layNew_ris t es ((PySem.strKind P w).hash k) (.str k tk) hr.1
    have y4 := layNew_led t es ((PySem.strKind P w).hash k) (.str k tk)
    revert y1 y2 y3 y4
    generalize layNew t es ((PySem.strKind P w).hash k) (.str k tk) = Z
    obtain ⟨es1, t1, wasDummy, gave⟩ := Z
    intro y1 y2 y3 y4
    dsimp only at y1 y2 y3 y4 ⊢
    rw [Array.toList_push] at y1
    have pc : es1.toList.Perm (((PySem.strKind P w).hash k, Value.str k tk) :: es.toList) := y1.trans (List.perm_append_singleton _ _)
    have pk : (es1.toList.map txtOf).Perm (k :: es.toList.map txtOf) := pc.map txtOf
    have mem1 : (∀ e ∈ es1.toList, TxtE w e) ∧ (es1.toList.map txtOf).Nodup ∧ ∀ i, (S i || decide (i = k)) = true ↔ i ∈ es1.toList.map txtOf := by
      refine ⟨fun e he => ?_, pk.nodup_iff.mpr (List.nodup_cons.mpr ⟨fresh, nd⟩), fun i => ?_⟩
      · rcases List.mem_cons.mp (pc.mem_iff.mp he) with z | z
        · rw [z]; exact ⟨k, tk, rfl, rfl⟩
        · exact g e z
      · rw [pk.mem_iff, List.mem_cons, ← hm i]
        by_cases e : i = k <;> simp [e]
    have sz : es1.size = n + 1 := by
      have := pc.length_eq
      simp at this
      omega
    have bd : es1.size < scanBound := by omega
    have ld : Led w t1 := ⟨y3, hr.2.imp id fun z => y4.trans z⟩
    have fin : ∀ h', Heap.SameBut a s.heap h' → SetS w h' a (fun j => S j || decide (j = k)) es1.size → Q true { s with heap := h' } := fun h' sb r => by
      have q := hQ h' sb
      rw [no] at q
      rw [sz] at r
      exact q r
    refine wpAny_bind (gw _ _ _ ?_)
    split
    · refine wpAny_bind ?_
      rw [hashByValue_scannable 8 sc]
      refine wpAny_pure (setS_tail (fun b s₁ Q' q => gw b s₁ Q' q) ho hex hd mem1 bd ?_ ?_ fun h' sb r => wpAny_pure (fin h' sb r))
      · first | exact y2 | (split <;> first | exact y2 | exact SetTable.fits_plain_off y2)
      · first | exact ld | (split <;> exact ld)
    · refine wpAny_bind (wpAny_pure ?_)
      simp only [↓reduceIte]
      exact setS_tail (fun b s₁ Q' q => gw b s₁ Q' q) ho hex hd mem1 bd y2 ld fun h' sb r => wpAny_pure (fin h' sb r)
end

section
variable {P : Program} {w : World} {A : Around} {E : Value → Shared → Prop} {s : Shared}
/-- set.update of an iterator that yields the texts xs -/
theorem setS_loop {I S : Addr} {fp wr : List Addr} {G : Array GenState → Array GenState → Prop} {n : Nat} {Pv : Nat → Value → Prop} {St : Nat → Shared → Prop} {R : Result → Shared → Prop} (W : WalksS P w A.in1 I fp wr G n Pv St) (hSf : S ∉ fp) (xs : List Str) (hn : n = xs.length)
    (hb : xs.length + 1 < scanBound) (hval : ∀ i v, Pv i v → ∃ k t, xs[i]? = some k ∧ v = .str k t) : ∀ (k i : Nat) (s : Shared), i + k = n → St i s → (∃ c, c ≤ i ∧ SetS w s.heap S (fun j => decide (j ∈ xs.take i)) c) →
      (∀ s' c, Moved (S :: wr) G s s' → c ≤ n → SetS w s'.heap S (fun j => decide (j ∈ xs)) c → R (.ok (.ret .none)) s') → codeAny (model P w) A (.builtin "set.update.loop" ⟨[.ref S, .ref I], []⟩) R s := by
  have nw : S ∉ wr := fun h => hSf (W.sub _ h)
  have up : ∀ b ∈ wr, b ∈ S :: wr := fun b hb => List.mem_cons_of_mem _ hb
  intro k
  induction k with
  | zero =>
    rintro i s rfl hst ⟨c, hc, hS⟩ hR
    refine codeAny_builtin PyProof.Rows.F.entry_set_update_loop ?_
    rw [Around.under_plainId PyProof.Rows.F.plain_set_update_loop _]
    show wpAny _ A.in1 (pyNext (.ref I) >>= _) _ _ s
    refine wpAny_bind (W.done s _ _ hst fun s' hm => ?_)
    rw [List.take_of_length_le (by omega)] at hS
    exact wpAny_pure (hR s' c (hm.mono up) hc (hS.at fun o e => hm.heap S o nw e))
  | succ k ih =>
    rintro i s hk hst ⟨c, hc, hS⟩ hR
    have lt : i < n := by omega
    refine codeAny_builtin PyProof.Rows.F.entry_set_update_loop ?_
    rw [Around.under_plainId PyProof.Rows.F.plain_set_update_loop _]
    show wpAny _ A.in1 (pyNext (.ref I) >>= _) _ _ s
    refine wpAny_bind (W.item i s _ _ lt hst fun v s' hP hst' hm => ?_)
    obtain ⟨z, t, hz, rfl⟩ := hval i v hP
    show wpAny _ A.in1 (holding [Value.str z t] (setAdd S (.str z t)) >>= _) _ _ s'
    unfold setAdd
    refine wpAny_bind (wpAny_holding (wpAny_holding (wpAny_bind ((PySem.strKind P w).pyHash (k := z) (strKind_is _ _ _ _) ?_))))
    refine setS_add (s := { s' with toks := s'.toks + 1 }) (hS.at fun o e => hm.heap S o nw e) (by omega) fun h' hsb hS2 => ?_
    have hS3 : SetS w h' S (fun j => decide (j ∈ xs.take (i + 1))) (if decide (z ∈ xs.take i) = true then c else c + 1) := hS2.congr fun j => by
      rw [List.take_add_one, hz]
      simp [List.mem_append]
    refine wpAny_pure ⟨plainId_quiet PyProof.Rows.F.plain_set_update_loop _, ih (i + 1) _ (by omega) (W.frame _ s' _ _ hst' (Nat.le_succ _) fun b hb o e => (hsb.2 b (fun h => hSf (h ▸ hb))).trans e) ⟨_, by split <;> omega, hS3⟩ fun s'' c2 hm2 hc2 hS4 => ?_⟩
    exact hR s'' c2 (Moved.trans W.gtrans ((hm.mono up).then_heap (Nat.le_succ _) fun b o hb e => (hsb.2 b (fun h => hb (h ▸ List.mem_cons_self))).trans e) hm2) hc2 hS4
/-- a set as it is made -/
abbrev bareSet (w : World) : Obj := { cls := .type "set", dict := none, data := .set #[] 0 (.fresh 0 0 (!w.params.followText "set-order")) }
theorem setS_none {h : Heap} {a : Addr} {xs : List Str} (ho : h.get? a = some (bareSet w)) : SetS w h a (fun j => decide (j ∈ xs.take 0)) 0 := by
  refine ⟨bareSet w, #[], 0, _, ho, ⟨rfl, rfl, rfl⟩, rfl, ⟨fun e he => by simp at he, by simp, fun k => by simp⟩, ⟨by decide, rfl, rfl⟩, List.Pairwise.nil, ?_⟩
  show _ ∨ (!w.params.followText "set-order") = true
  cases w.params.followText "set-order" <;> simp
set_option maxHeartbeats 6400000 in
/-- set(xs), xs a list of texts -/
theorem set_of_list {l : Addr} {items : Array Value} (xs : List Str) {Q : Value → Shared → Prop} (hh : A.handled = none) (hl : s.heap.IsList l items) (hit : PyProof.Rows.StrsAre items.toList xs) (hb : xs.length + 1 < scanBound)
    (h : ∀ (h' : Heap) (tk c : Nat), SetS w h' s.heap.objs.size (fun j => decide (j ∈ xs)) c → c ≤ xs.length → (∀ b o, s.heap.get? b = some o → h'.get? b = some o) → Q (.ref s.heap.objs.size) { s with heap := h', toks := tk }) :
    wpAny (model P w) A (call (.type "set") [.ref l]) Q E s := by
  have isz : items.size = xs.length := by
    rw [← StrsAre.len_eq hit, Array.length_toList]
  obtain ⟨c, tl, hmro⟩ := PySem.F.called_set.mro
  have hmade := PySem.F.called_set.made
  have hsub := PySem.F.called_set.sub
  refine wpAny_call (codeAny_of_tree ?_)
  show wpAny _ _ (callAny (.type "set") _) _ _ _
  refine wpAny_pure ⟨Code.quiet_builtin _ (by decide +kernel), codeAny_builtin PySem.F.entry_type_call ?_⟩
  rw [Around.under_plain (weight_type_call_type "set" [.ref l] []) rfl]
  have h1 := PySem.F.called_set.notType
  have h2 := PySem.F.called_set.canCreate
  have hct := PySem.F.typeCall_set_1 (.ref l)
  repeat (any_goals (first | assumption | wp_step))
  refine codeAny_mono (code_set_led1 (.ref l) (E := E) (Q₁ := fun obj s₁ => obj = .ref s.heap.objs.size ∧ s₁ = { s with heap := s.heap.push (bareSet w) }) ⟨rfl, rfl⟩) fun r s₁ hr => ?_
  cases r with
  | error er => exact hr
  | ok fl =>
   cases fl with
   | ret obj =>
    obtain ⟨rfl, rfl⟩ := hr
    have hS : (s.heap.push (bareSet w)).get? s.heap.objs.size = some (bareSet w) := Heap.get?_push_size _ rfl
    have hT : Shared.TypeIs { s with heap := s.heap.push (bareSet w) } (.ref s.heap.objs.size) "set" := ⟨_, hS, rfl⟩
    have hli := PySem.F.called_set.init.lookup
    have hbi := PySem.F.called_set.init.bind (.ref s.heap.objs.size)
    repeat (any_goals (first | assumption | wp_step))
    refine codeAny_mono (codeAny_call_builtin (R := wants (fun r s₂ => r = .none ∧ ∃ h' tk c, s₂ = { s with heap := h', toks := tk } ∧ SetS w h' s.heap.objs.size (fun j => decide (j ∈ xs)) c ∧ c ≤ xs.length ∧ (∀ b o, s.heap.get? b = some o → h'.get? b = some o)) E)
      PySem.F.called_set.init.plain PySem.F.entry_set_init (check_set_init_1 hT ?_)) fun r₂ s₂ hr₂ => ?_
    · obtain ⟨⟨k0, k1, k2, k3⟩, hol, hcl, nl, hdl⟩ := hl
      dsimp only at hcl hdl
      subst hcl hdl
      have hol' : (s.heap.push (bareSet w)).get? l = some { cls := .type "list", dict := k1, data := .seq items nl, slots := k3 } := Heap.get?_push_of_some _ hol
      have u1 := PySem.F.sub_list_set
      have u2 := PySem.F.sub_list_frozenset
      have u3 : (Value.type "list" == Value.type "dict") = false := by decide
      have hl1 : (s.heap.push (bareSet w)).IsList l items := ⟨_, hol', rfl, nl, rfl⟩
      unfold Builtin.«set.__init__» noKeywords Builtin.Frozenset.updateFrom
      generalize hPI : pyIter = PI
      wp_walk
      subst hPI
      refine wpAny_pyIter_list hl1 (wpAny_bind (wpAny_runValue ?_))
      have lS : l < s.heap.objs.size := Heap.lt_size hol
      have hh3 : A.in1.in1.in1.handled = none := by simp [hh]
      have sz1 : (s.heap.push (bareSet w)).objs.size = s.heap.objs.size + 1 := Heap.size_push ..
      have neI : l ≠ (s.heap.push (bareSet w)).objs.size := by rw [sz1]; exact Nat.ne_of_lt (Nat.lt_succ_of_lt lS)
      have hSf : s.heap.objs.size ∉ [(s.heap.push (bareSet w)).objs.size, l] := by
        rw [sz1]
        simp only [List.mem_cons, List.not_mem_nil, or_false, not_or]
        exact ⟨Nat.ne_of_lt (Nat.lt_succ_self _), Nat.ne_of_gt lS⟩
      have hval : ∀ (i : Nat) (v : Value), items[i]? = some v → ∃ k t, xs[i]? = some k ∧ v = .str k t := fun i v hv => by
        have hi : i < xs.length := by rw [← isz]; exact (Array.getElem?_eq_some_iff.mp hv).1
        obtain ⟨t, e⟩ := SS.strs_at hit i v (by rw [Array.getElem?_toList]; exact hv)
        exact ⟨xs[i], t, List.getElem?_eq_getElem hi, by rw [e, List.getD_eq_getElem?_getD, List.getElem?_eq_getElem hi]; rfl⟩
      refine setS_loop ((Walks.list hh3 _ l neI items).toS) hSf xs isz hb hval items.size 0 _ (Nat.zero_add _) ⟨⟨_, Heap.get?_push_size _ rfl, rfl, rfl⟩, (hl1.push _)⟩ ?hS0 ?hR
      case hS0 => exact ⟨0, Nat.le_refl 0, setS_none (Heap.get?_push_of_some _ hS)⟩
      case hR =>
        intro s' c' hm hc' hS'
        obtain ⟨h', g2, d', tk', os'⟩ := s'
        have e1 : g2 = s.gens := hm.gens
        have e2 : d' = s.drawn := hm.drawn
        have e3 : os' = s.os := hm.os
        subst e1 e2 e3
        refine wpAny_pure ?_
        show wpAny _ _ (ret Value.none) _ _ _
        rw [isz] at hc'
        refine wpAny_pure ⟨rfl, h', tk', c', rfl, hS', hc', fun b o e => hm.heap b o ?_ (Heap.get?_push_of_some _ (Heap.get?_push_of_some _ e))⟩
        have b0 : b < s.heap.objs.size := Heap.lt_size e
        simp only [List.mem_cons, List.not_mem_nil, or_false, not_or]
        exact ⟨Nat.ne_of_lt b0, by rw [sz1]; exact Nat.ne_of_lt (Nat.lt_succ_of_lt b0)⟩
    · cases r₂ with
      | error er => exact hr₂
      | ok fl₂ =>
       cases fl₂ with
       | ret r =>
        obtain ⟨rfl, h', tk, c', rfl, hS', hc', hk'⟩ := hr₂
        repeat (any_goals (first | assumption | wp_step))
        exact h _ _ _ hS' hc' hk'
       | _ => exact hr₂.elim
   | _ => exact hr.elim
end
end LR

namespace LR
open PySem PySem.Spec PyProof.Rows L2
section
variable {P : Program} {w : World} {A : Around} {E : Value → Shared → Prop} {s : Shared} {a : Addr}
theorem strs_of_txt : ∀ (l : List Value), (∀ v ∈ l, ∃ (k : Str) (tk : Tok), v = Value.str k tk) → StrsAre l (l.map fun v => txtOf (0, v))
  | [], _ => .nil
  | v :: l, h => by
    obtain ⟨k, tk, rfl⟩ := h v List.mem_cons_self
    exact .cons k tk (strs_of_txt l fun u hu => h u (List.mem_cons_of_mem _ hu))
/-- sorted of a set of texts -/
theorem sorted_setS {S : Str → Bool} {n : Nat} {Q : Value → Shared → Prop} (R : SetS w s.heap a S n) (hh : A.handled = none) (h64 : n < 64)
    (hQ : ∀ s' p (out : Array Value) (c : Nat) (ys : List Str), (∀ b o, s.heap.get? b = some o → s'.heap.get? b = some o) → s'.gens = s.gens → s'.os = s.os → s.heap.objs.size ≤ p →
      s'.heap.get? p = some (seqObj "list" out c) → StrsAre out.toList ys → (sortedS ys = true ∧ ys.Nodup) → (∀ k, k ∈ ys ↔ S k = true) → ys.length = n → Q (.ref p) s') :
    wpAny (model P w) A (call (.builtin "sorted") [.ref a]) Q E s := by
  obtain ⟨o, es, ep, t, ho, hex, hd, ⟨g, nd, hm⟩, ⟨hb, hf, hn⟩, hr⟩ := R
  refine Calls.call_function_entry kind_sorted plain_sorted entry_sorted (args_sorted1 _) ?_
  unfold Builtin.«sorted»
  refine wpAny_bind (m := checkCount "sorted" 1 1 _) (wpAny_pure (wpAny_bind (collect_set (A := A.in1) hh ⟨o, ho, hex.1, hd⟩ hf hb hr.1 hr.2 fun s1 vs k1 hz g1 o1 pm => ?_)))
  have vl : vs.length = n := by
    have := pm.length_eq
    simp at this
    omega
  have sa : StrsAre vs (vs.map fun v => txtOf (0, v)) := strs_of_txt vs fun v hv => by
    obtain ⟨e, he, q⟩ := List.mem_map.mp (pm.mem_iff.mp hv)
    obtain ⟨k, tk, h1, _⟩ := g e he
    exact ⟨k, tk, q ▸ h1⟩
  have pk : (vs.map fun v => txtOf (0, v)).Perm (es.toList.map txtOf) := by
    have q := pm.map fun v => txtOf (0, v)
    rw [List.map_map] at q
    exact q
  refine wpAny_bind (wpAny_newList ?_ (by rw [vl, sizeLine_eq]; omega))
  have hoL : (s1.heap.push (seqObj "list" vs.toArray 0)).get? s1.heap.objs.size = some (seqObj "list" vs.toArray 0) := Heap.get?_push_size _ rfl
  refine wpAny_bind (wpAny_holding (wpAny_call_entry slot_list_sort ⟨_, hoL, rfl⟩ entry_list_sort (list_sort_treeK strKind_oneLt hoL sa.keysOf (fun v₁ v₂ rest e => keyKind_strs (by rw [← e]; exact sa)) (by rw [vl]; exact h64) fun st' hp hs => ⟨_, rfl, ?_⟩) (args_list_sort _)))
  obtain ⟨ys, a1, a2, a3⟩ := sorted_out_str sa hp hs
  obtain ⟨c, hc⟩ := sortedHeap_at (vs := vs) (out := (arrOf st').map (·.2)) hoL
  have pn : ys.Perm (es.toList.map txtOf) := a2.trans pk
  refine wpAny_pure ⟨_, rfl, hQ _ s1.heap.objs.size _ c ys (fun b u e => ?_) g1 o1 hz hc a1 ⟨a3, pn.nodup_iff.mpr nd⟩ (fun k => by rw [pn.mem_iff, ← hm k]) (by rw [pn.length_eq, List.length_map, Array.length_toList]; exact hn)⟩
  have q := k1 b u e
  have lt := Heap.lt_size q
  show (sortedHeap (s1.heap.push (seqObj "list" vs.toArray 0)) s1.heap.objs.size vs ((arrOf st').map (·.2))).get? b = some u
  rw [sortedHeap_old (Nat.ne_of_lt lt) (by rw [size_push']; exact Nat.lt_succ_of_lt lt)]
  exact Heap.get?_push_of_some _ q
end
/-- a tracked set of texts -/
def SetSO (w : World) (a : Addr) (S : Str → Bool) (n : Nat) : HO := .ext fun h => SetS w h a S n
section
variable {X : Cx}
theorem setSO_get {pins : List (Addr × Obj)} {σ : L2.St} {H : Hp} {s : Shared} {a : Addr} {S : Str → Bool} {n : Nat} (I : Inv X pins σ H s) (ha : H a = some (SetSO X.w a S n)) : SetS X.w s.heap a S n := (I.hok a _ ha).1
/-- set(xs), xs a list of texts -/
theorem cr_setL (hc : X.calm = true) : CallR X (.type "set") (fun xs H Q => ∃ (l : Addr) (zs : List Str), xs = [V.ref l] ∧ SqL X.K H l (zs.map V.str) ∧ zs.length < 64 ∧
    ∀ p c, H p = none → c ≤ zs.length → Q (.ref p) (upd H p (SetSO X.w p (fun j => decide (j ∈ zs)) c))) := by
  intro pins s σ H xs us Q I r h
  obtain ⟨l, zs, rfl, hl, h64, q⟩ := h
  rw [Vals.ref1 r]
  obtain ⟨its, rv, pl, _⟩ := I.list hl
  refine set_of_list zs (I.ok.hd hc) pl.isList (by rw [List.toList_toArray]; exact rv.strs) (by unfold scanBound; omega) fun h' tk c R hc' k => ?_
  have hn : H s.heap.objs.size = none := I.hok.fresh (Nat.le_refl _)
  have R' := R
  obtain ⟨o, es, ep, t, ho, _⟩ := R'
  have ok : ObjOk X.prog X.w (upd H s.heap.objs.size (SetSO X.w s.heap.objs.size (fun j => decide (j ∈ zs)) c)) h' s.heap.objs.size (SetSO X.w s.heap.objs.size (fun j => decide (j ∈ zs)) c) := ⟨R, ⟨o, ho⟩, fun h1 h2 z k => z.at fun o e => k o e⟩
  exact ⟨.ref s.heap.objs.size, _, I.laid (t' := tk) k (Nat.le_refl _) ok, rfl, q _ c hn hc'⟩
/-- sorted(found), found a set of texts -/
theorem cr_sortedSetS (hc : X.calm = true) : CallR X (.builtin "sorted") (fun vs H Q => ∃ (a : Addr) (S : Str → Bool) (n : Nat), vs = [V.ref a] ∧ H a = some (SetSO X.w a S n) ∧ n < 64 ∧
    ∀ (ys : List Str) (p : Addr), sortedS ys = true → ys.Nodup → (∀ k, k ∈ ys ↔ S k = true) → ys.length = n → H p = none → Q (.ref p) (upd H p (.lst (ys.map V.str)))) := by
  intro pins s σ H vs us Q I r h
  obtain ⟨a, S, n, rfl, ha, h64, q⟩ := h
  rw [Vals.ref1 r]
  refine sorted_setS (setSO_get I ha) (I.ok.hd hc) h64 fun s' p out c ys k g o hp hg hi hs hm hl => ?_
  have len : (ys.map V.str).length ≤ sizeLine := by rw [List.length_map, hl, sizeLine_eq]; omega
  have hn : H p = none := I.hok.fresh hp
  have J : Inv X pins σ (upd H p (.lst (ys.map V.str))) { s with heap := s'.heap, gens := s'.gens, drawn := s'.drawn, toks := s'.toks } :=
    I.call (ch := []) (Un.laid k hp hn) (I.hok.laid k hp ⟨len, out.toList, c, vals_of_strs hi, hg⟩) (by rw [g]; exact I.bare) (fun _ z => nomatch z)
  have e : s' = { s with heap := s'.heap, gens := s'.gens, drawn := s'.drawn, toks := s'.toks } := by
    cases s'
    cases s
    cases o
    rfl
  rw [e]
  exact ⟨.ref p, _, J, rfl, q ys p hs.1 hs.2 hm hl hn⟩
end
end LR

namespace LK
open PySem PySem.Spec PyProof.Rows L2
/-! ### the four classes, their objects, each equal to itself -/
/-- what is known of a class of the program -/
structure OwnCl (K : PySem.W.Frag) (mg : Str → Option Value) (x : Str) (C : Addr) : Prop where
  cl : Cls K C
  ca : PySem.W.findIn K (.ref C) "__class__" = some (some (.builtin "object.__class__"))
  so : PySem.W.specialIn K (.builtin "object.__class__") "__get__" = some (some (.builtin "getset_descriptor.__get__"))
  tk : PySem.W.takesIn K (.builtin "object.__class__") = some true
  ob : PySem.W.mroIn K C (.type "object") = some true
  nt : PySem.W.kitOne K (.ref C) (.type "tuple") = some false
  nl : PySem.W.kitOne K (.ref C) (.type "list") = some false
  nb : PySem.W.kitOne K (.ref C) (.type "bool") = some false
  ns : PySem.W.kitOne K (.ref C) (.type "str") = some false
  g : mg x = some (.ref C)
theorem OwnCl.ty {K : PySem.W.Frag} {mg : Str → Option Value} {x : Str} {C a dx : Addr} {fs : List (Str × V)} {H : Hp} (c : OwnCl K mg x C) (h : H a = some (.ins C dx fs)) : TyX K H (.ref a) (.ref C) := .base (.ins h c.cl c.ca c.so c.tk c.ob)
theorem kit_self {K : PySem.W.Frag} {C : Addr} : PySem.W.kitOne K (.ref C) (.ref C) = some true := by
  unfold PySem.W.kitOne
  rw [if_pos (beq_self_eq_true _)]
/-- a method __eq__ of the class -/
structure EqM (K : PySem.W.Frag) (C : Addr) (st : Stmt) (q : Str) (f : Addr) (fd : FuncData) : Prop where
  F : Fun K "__eq__" q st f fd
  b : Binds K fd ["self", "other"] []
  at_ : PySem.W.findIn K (.ref C) "__eq__" = some (some (.ref f))
  fn : PySem.W.isFn K (.ref f) = true
def StepAt (C : Addr) (H : Hp) (a : Addr) (z w : Str) : Prop := ∃ dx, H a = some (.ins C dx [("name", .str z), ("ways", .str w)])
/-- what else an expression of one name holds -/
def NmX (K : PySem.W.Frag) (H : Hp) (z : Str) (x1 x2 x3 x4 : V) : Prop := ∃ q1 q2 i j zs, x1 = .ref q1 ∧ x2 = .ref q2 ∧ x3 = .int i ∧ x4 = .int j ∧ H q1 = some (.tup ((zs : List Str).map V.str)) ∧ zs.length ≤ 1 ∧ H q2 = some (.tup []) ∧ NameOk z
def ExprAt (K : PySem.W.Frag) (C : Addr) (H : Hp) (a : Addr) : Prop := ∃ dx z p x1 x2 x3 x4, H a = some (.ins C dx [("kind", .str "name"), ("word", .str z), ("step", .non), ("parts", .ref p), ("names", x1), ("steps", x2), ("size", x3), ("applied", x4)]) ∧ SqT K H p [] ∧ NmX K H z x1 x2 x3 x4
def TraitAt (K : PySem.W.Frag) (C : Addr) (H : Hp) (a : Addr) : Prop := ∃ dx z p b, H a = some (.ins C dx [("word", .str z), ("steps", .ref p)]) ∧ SqT K H p [.ref b]
def ChainAt (K : PySem.W.Frag) (C : Addr) (H : Hp) (a : Addr) : Prop := ∃ dx p b, H a = some (.ins C dx [("steps", .ref p)]) ∧ SqT K H p [.ref b]
/-- the very same thing -/
def DSame : Eqv := fun x y _ => ∃ a, x = .ref a ∧ y = .ref a
theorem mon_same : Mon DSame := fun _ _ _ _ _ d => d
theorem eqG_same {X : Cx} : EqG X 0 DSame := by
  intro A pins s σ H x y u v sb I rx ry d
  obtain ⟨a, rfl, rfl⟩ := d
  cases rx
  cases ry
  exact SeqAt.EqAt.same (A := A) (s := s) (.ref a) X.prog X.w X.xe _ ⟨rfl, H, I, Ext.rfl'⟩
theorem op_or {X : Cx} {op : Value → Value → Sem Value} {r r' : R2} (h : OpR X op r) (h' : OpR X op r') : OpR X op (fun x y H Q => r x y H Q ∨ r' x y H Q) := fun pins s σ H x y u v Q I rx ry d => d.elim (fun d => h pins s σ H x y u v Q I rx ry d) fun d => h' pins s σ H x y u v Q I rx ry d
/-- the same object, so seen by its class -/
def spSelf (R : Hp → Addr → Prop) : Sp := spEq fun a b H => a = b ∧ R H a
section
variable {P : Program} {w : World} {K : PySem.W.Frag} {mg : Str → Option Value} {base : Heap}
theorem scStepEq : FnScope ["self", "other"] ["self", "other"] (defScope sStepEq) := ⟨rfl, rfl, rfl, by decide +kernel, rfl, by decide +kernel, by decide +kernel⟩
theorem ok_stepEq {C f : Addr} {fd : FuncData} (S : Std mg) (c : OwnCl K mg "Step" C) (n1 : NoAttr K C "name") (n2 : NoAttr K C "ways") (F : Fun K "__eq__" "Step.__eq__" sStepEq f fd) :
    FnOk P w K mg base CX0 1 f fd ["self", "other"] (spSelf fun H a => ∃ z y, StepAt C H a z y) := by
  refine F.ok scStepEq (fun vs H Q E h => ?_) (fun cdv A outer s H vs Q E hr h => ?_)
  · obtain ⟨a, b, rfl, _⟩ := h
    rfl
  · obtain ⟨a, b, rfl, ⟨rfl, z, y, dx, ha⟩, q⟩ := h
    refine ⟨_, pss_one (ps_ret (pe_and (pe_callB call_isi (by rfl) S.isi (by decide +kernel) (pa_cons (pv 1) (pa_cons (pe_glob (v := .ref C) rfl c.g rfl) pa_nil)))
      (pe_and (pe_cmpR op_eq (pe_fld (pv 0) rfl) (pe_fld (pv 1) rfl) (nomark _)) (pe_one (pe_cmpR op_eq (pe_fld (pv 0) rfl) (pe_fld (pv 1) rfl) (nomark _)))))), ?_⟩
    refine ⟨_, rfl, _, _, _, _, true, rfl, .own C, c.ty ha, kit_self, true, rfl, iteT ?_⟩
    refine ⟨_, rfl, _, _, _, _, _, rfl, ha, c.cl, n1, rfl, _, rfl, _, _, _, _, _, rfl, ha, c.cl, n1, rfl, rfl, _, rfl, ?_⟩
    rw [decide_eq_true (show V.str z = V.str z from rfl)]
    refine iteT ⟨_, rfl, _, _, _, _, _, rfl, ha, c.cl, n2, rfl, _, rfl, _, _, _, _, _, rfl, ha, c.cl, n2, rfl, rfl, ?_⟩
    rw [decide_eq_true (show V.str y = V.str y from rfl)]
    exact q H Ext.rfl'
theorem prs_same {xs : List V} {H : Hp} (h : ∀ v, v ∈ xs → ∃ a, v = .ref a) : Prs DSame xs xs H := ⟨rfl, fun i x y e1 e2 => by
  rw [e1] at e2
  cases e2
  obtain ⟨a, rfl⟩ := h x (List.mem_of_getElem? e1)
  exact ⟨a, rfl, rfl⟩⟩
theorem scExprEq : FnScope ["self", "other"] ["self", "other"] (defScope sExprEq) := ⟨rfl, rfl, rfl, by decide +kernel, rfl, by decide +kernel, by decide +kernel⟩
theorem ok_exprEq {C f : Addr} {fd : FuncData} (S : Std mg) (c : OwnCl K mg "Expr" C) (n1 : NoAttr K C "kind") (n2 : NoAttr K C "word") (n3 : NoAttr K C "step") (n4 : NoAttr K C "parts") (F : Fun K "__eq__" "Expr.__eq__" sExprEq f fd) :
    FnOk P w K mg base CX0 2 f fd ["self", "other"] (spSelf (ExprAt K C)) := by
  refine F.ok scExprEq (fun vs H Q E h => ?_) (fun cdv A outer s H vs Q E hr h => ?_)
  · obtain ⟨a, b, rfl, _⟩ := h
    rfl
  · obtain ⟨a, b, rfl, ⟨rfl, dx, z, p, x1, x2, x3, x4, ha, hp, _⟩, q⟩ := h
    refine ⟨_, pss_one (ps_ret (pe_and (pe_callB call_isi (by rfl) S.isi (by decide +kernel) (pa_cons (pv 1) (pa_cons (pe_glob (v := .ref C) rfl c.g rfl) pa_nil)))
      (pe_and (pe_cmpR op_eq (pe_fld (pv 0) rfl) (pe_fld (pv 1) rfl) (nomark _)) (pe_and (pe_cmpR op_eq (pe_fld (pv 0) rfl) (pe_fld (pv 1) rfl) (nomark _)) (pe_and (pe_cmpR op_eq (pe_fld (pv 0) rfl) (pe_fld (pv 1) rfl) (nomark _))
        (pe_one (pe_cmpR (op_eqG (rcG_tup mon_same eqG_same) hr) (pe_fld (pv 0) rfl) (pe_fld (pv 1) rfl) (nomark _)))))))), ?_⟩
    refine ⟨_, rfl, _, _, _, _, true, rfl, .own C, c.ty ha, kit_self, true, rfl, iteT ?_⟩
    refine ⟨_, rfl, _, _, _, _, _, rfl, ha, c.cl, n1, rfl, _, rfl, _, _, _, _, _, rfl, ha, c.cl, n1, rfl, rfl, _, rfl, ?_⟩
    rw [decide_eq_true (show V.str "name" = V.str "name" from rfl)]
    refine iteT ⟨_, rfl, _, _, _, _, _, rfl, ha, c.cl, n2, rfl, _, rfl, _, _, _, _, _, rfl, ha, c.cl, n2, rfl, rfl, _, rfl, ?_⟩
    rw [decide_eq_true (show V.str z = V.str z from rfl)]
    refine iteT ⟨_, rfl, _, _, _, _, _, rfl, ha, c.cl, n3, rfl, _, rfl, _, _, _, _, _, rfl, ha, c.cl, n3, rfl, rfl, _, rfl, ?_⟩
    rw [decide_eq_true (show V.non = V.non from rfl)]
    refine iteT ⟨_, rfl, _, _, _, _, _, rfl, ha, c.cl, n4, rfl, _, rfl, _, _, _, _, _, rfl, ha, c.cl, n4, rfl, ?_⟩
    exact ⟨⟨p, p, [], [], rfl, rfl, hp, hp, Prs.nil⟩, q⟩
theorem scChainEq : FnScope ["self", "other"] ["self", "other"] (defScope sChainEq) := ⟨rfl, rfl, rfl, by decide +kernel, rfl, by decide +kernel, by decide +kernel⟩
theorem ok_chainEq {C f : Addr} {fd : FuncData} (S : Std mg) (c : OwnCl K mg "Chain" C) (n2 : NoAttr K C "steps") (F : Fun K "__eq__" "Chain.__eq__" sChainEq f fd) :
    FnOk P w K mg base CX0 2 f fd ["self", "other"] (spSelf (ChainAt K C)) := by
  refine F.ok scChainEq (fun vs H Q E h => ?_) (fun cdv A outer s H vs Q E hr h => ?_)
  · obtain ⟨a, b, rfl, _⟩ := h
    rfl
  · obtain ⟨a, b, rfl, ⟨rfl, dx, p, o, ha, hp⟩, q⟩ := h
    refine ⟨_, pss_one (ps_ret (pe_and (pe_callB call_isi (by rfl) S.isi (by decide +kernel) (pa_cons (pv 1) (pa_cons (pe_glob (v := .ref C) rfl c.g rfl) pa_nil)))
      (pe_one (pe_cmpR (op_eqG (rcG_tup mon_same eqG_same) hr) (pe_fld (pv 0) rfl) (pe_fld (pv 1) rfl) (nomark _))))), ?_⟩
    refine ⟨_, rfl, _, _, _, _, true, rfl, .own C, c.ty ha, kit_self, true, rfl, iteT ?_⟩
    refine ⟨_, rfl, _, _, _, _, _, rfl, ha, c.cl, n2, rfl, _, rfl, _, _, _, _, _, rfl, ha, c.cl, n2, rfl, ?_⟩
    exact ⟨⟨p, p, _, _, rfl, rfl, hp, hp, prs_same fun v hv => ⟨o, by simpa using hv⟩⟩, q⟩
end
end LK

namespace LK
open PySem PySem.Spec PyProof.Rows L2
theorem lc_zipL {K : PySem.W.Frag} {a b : Addr} {xs ys : List V} {g : TG} {tt : TT} {te : TE} {vs : List Nat} {σ : L2.St} {H1 : Hp} {D : Addr} {Qd : Hp → Prop} (hl : xs.length = ys.length) (Pv : Nat → Hp → Prop) (h0 : Pv 0 (upd H1 D (.lst []))) (hq : ∀ i H, Pv i H → SqL K H a xs ∧ SqL K H b ys)
    (hs : ∀ (i : Nat) (x y : V) (T : Addr) (H : Hp), xs[i]? = some x → ys[i]? = some y → Pv i H → H T = none → g (.ref T) (wipe σ vs) (upd H T (.tup [x, y])) fun σ2 H2 => wipe σ2 vs = wipe σ vs ∧ tt σ2 H2 fun b H3 =>
      if b = true then te σ2 H3 fun y H4 => ∃ acc, H4 D = some (.lst acc) ∧ acc.length < sizeLine ∧ Pv (i + 1) (upd H4 D (.lst (acc ++ [y]))) else Pv (i + 1) H3) (hd : ∀ H, Pv xs.length H → Qd H) :
    ∃ W : Nat → Nat → Hp → Prop, (∃ m, W 0 m (upd H1 D (.lst []))) ∧ ∀ i m H, W i m H →
      ((Itz K a b).stop i H ∧ Qd H) ∨ ((Itz K a b).go i H ∧ ∃ Nx : Hp → Prop, (∀ H', Nx H' → ∃ m', m' < m ∧ W (i + 1) m' H') ∧ ∀ x H', (Itz K a b).yld i H x H' → g x (wipe σ vs) H' fun σ2 H2 => wipe σ2 vs = wipe σ vs ∧ tt σ2 H2 fun b H3 =>
        if b = true then te σ2 H3 fun y H4 => ∃ acc, H4 D = some (.lst acc) ∧ acc.length < sizeLine ∧ Nx (upd H4 D (.lst (acc ++ [y]))) else Nx H3) := by
  refine ⟨fun i m H => m = xs.length - i ∧ i ≤ xs.length ∧ Pv i H, ⟨xs.length, by simp, Nat.zero_le _, h0⟩, ?_⟩
  rintro i m H ⟨rfl, hi, p⟩
  obtain ⟨q1, q2⟩ := hq i H p
  by_cases hlt : i < xs.length
  · refine .inr ⟨⟨xs, ys, xs[i], ys[i]'(by omega), q1, q2, by simp [hlt], by simp [← hl, hlt]⟩, Pv (i + 1), fun H' p' => ⟨xs.length - (i + 1), by omega, rfl, hlt, p'⟩, fun v H' y => ?_⟩
    obtain ⟨T, x, y', rfl, hT, rfl, hx, hy⟩ := y
    exact hs i x y' T H (hx xs q1) (hy ys q2) p hT
  · have e : i = xs.length := by omega
    subst e
    exact .inl ⟨⟨xs, ys, q1, q2, .inl (Nat.le_refl _)⟩, hd H p⟩
theorem lc_zipT {K : PySem.W.Frag} {a b : Addr} {xs ys : List V} {g : TG} {tt : TT} {te : TE} {vs : List Nat} {σ : L2.St} {H1 : Hp} {D : Addr} {Qd : Hp → Prop} (hl : xs.length = ys.length) (Pv : Nat → Hp → Prop) (h0 : Pv 0 (upd H1 D (.lst []))) (hq : ∀ i H, Pv i H → SqT K H a xs ∧ SqT K H b ys)
    (hs : ∀ (i : Nat) (x y : V) (T : Addr) (H : Hp), xs[i]? = some x → ys[i]? = some y → Pv i H → H T = none → g (.ref T) (wipe σ vs) (upd H T (.tup [x, y])) fun σ2 H2 => wipe σ2 vs = wipe σ vs ∧ tt σ2 H2 fun b H3 =>
      if b = true then te σ2 H3 fun y H4 => ∃ acc, H4 D = some (.lst acc) ∧ acc.length < sizeLine ∧ Pv (i + 1) (upd H4 D (.lst (acc ++ [y]))) else Pv (i + 1) H3) (hd : ∀ H, Pv xs.length H → Qd H) :
    ∃ W : Nat → Nat → Hp → Prop, (∃ m, W 0 m (upd H1 D (.lst []))) ∧ ∀ i m H, W i m H →
      ((RZ.ItzT K a b).stop i H ∧ Qd H) ∨ ((RZ.ItzT K a b).go i H ∧ ∃ Nx : Hp → Prop, (∀ H', Nx H' → ∃ m', m' < m ∧ W (i + 1) m' H') ∧ ∀ x H', (RZ.ItzT K a b).yld i H x H' → g x (wipe σ vs) H' fun σ2 H2 => wipe σ2 vs = wipe σ vs ∧ tt σ2 H2 fun b H3 =>
        if b = true then te σ2 H3 fun y H4 => ∃ acc, H4 D = some (.lst acc) ∧ acc.length < sizeLine ∧ Nx (upd H4 D (.lst (acc ++ [y]))) else Nx H3) := by
  refine ⟨fun i m H => m = xs.length - i ∧ i ≤ xs.length ∧ Pv i H, ⟨xs.length, by simp, Nat.zero_le _, h0⟩, ?_⟩
  rintro i m H ⟨rfl, hi, p⟩
  obtain ⟨q1, q2⟩ := hq i H p
  by_cases hlt : i < xs.length
  · refine .inr ⟨⟨xs, ys, xs[i], ys[i]'(by omega), q1, q2, by simp [hlt], by simp [← hl, hlt]⟩, Pv (i + 1), fun H' p' => ⟨xs.length - (i + 1), by omega, rfl, hlt, p'⟩, fun v H' y => ?_⟩
    obtain ⟨T, x, y', rfl, hT, rfl, hx, hy⟩ := y
    exact hs i x y' T H (hx xs q1) (hy ys q2) p hT
  · have e : i = xs.length := by omega
    subst e
    exact .inl ⟨⟨xs, ys, q1, q2, .inl (Nat.le_refl _)⟩, hd H p⟩
theorem SqT.same {K : PySem.W.Frag} {H H' : Hp} {a : Addr} {xs : List V} (e : Same H H') (h : SqT K H a xs) : SqT K H' a xs := by
  rcases h with (h | ⟨o, h⟩) | h
  · exact .inl (.inl (e _ _ h))
  · exact .inl (.inr ⟨o, e _ _ h⟩)
  · exact .inr h
theorem kitA {K : PySem.W.Frag} {t : Value} {r1 r2 : Bool} (h1 : PySem.W.kitOne K t (.type "tuple") = some r1) (h2 : PySem.W.kitOne K t (.type "list") = some r2) : PySem.W.kitAny K t [.type "tuple", .type "list"] = some (r1 || r2) := by
  unfold PySem.W.kitAny
  rw [h1]
  cases r1 with
  | true => rfl
  | false =>
    show PySem.W.kitAny K t [.type "list"] = _
    unfold PySem.W.kitAny
    rw [h2]
    cases r2 <;> rfl
/-- the classes of the program whose objects a value may hold -/
structure Kinds where
  cS : Addr
  cE : Addr
  cT : Addr
  cC : Addr
/-- the ways of a step: one to three of the three signs -/
structure WaysOk (y : Str) : Prop where
  pos : 0 < y.length
  len : y.length ≤ 3
  sg : ∀ c, c ∈ TL.tl y → c ∈ TL.tl ("+-?" : Str)
/-- one that holds no other -/
inductive Leaf (K : PySem.W.Frag) (k : Kinds) (H : Hp) : V → Prop where
  | non : Leaf K k H .non
  | bl (b : Bool) : Leaf K k H (.bl b)
  | int (i : Int) : Leaf K k H (.int i)
  | str (z : Str) (h : z.length ≤ 1000) : Leaf K k H (.str z)
theorem Leaf.same {K : PySem.W.Frag} {k : Kinds} {H H' : Hp} {v : V} (s : Same H H') (h : Leaf K k H v) : Leaf K k H' v := by
  cases h with
  | non => exact .non
  | bl b => exact .bl b
  | int i => exact .int i
  | str z h => exact .str z h
/-- two values that are just alike, at most n levels deep -/
def Alike (K : PySem.W.Frag) (k : Kinds) : Nat → Hp → V → V → Prop
  | 0, _, _, _ => False
  | n + 1, H, x, y => (Leaf K k H x ∧ x = y) ∨ ∃ a b xs ys, x = .ref a ∧ y = .ref b ∧ xs.length = ys.length ∧ xs.length ≤ 20 ∧ ((H a = some (.lst xs) ∧ H b = some (.lst ys)) ∨ (H a = some (.tup xs) ∧ H b = some (.tup ys))) ∧
      ∀ (i : Nat) x' y', xs[i]? = some x' → ys[i]? = some y' → Alike K k n H x' y'
theorem Alike.same {K : PySem.W.Frag} {k : Kinds} {H H' : Hp} (s : Same H H') : ∀ {n : Nat} {x y : V}, Alike K k n H x y → Alike K k n H' x y
  | 0, _, _, h => h.elim
  | n + 1, x, y, h => by
    rcases h with ⟨h, e⟩ | ⟨a, b, xs, ys, e1, e2, hl, h20, hq, hi⟩
    · exact .inl ⟨h.same s, e⟩
    · refine .inr ⟨a, b, xs, ys, e1, e2, hl, h20, ?_, fun i x' y' p q => (hi i x' y' p q).same s⟩
      rcases hq with ⟨p, q⟩ | ⟨p, q⟩
      · exact .inl ⟨s _ _ p, s _ _ q⟩
      · exact .inr ⟨s _ _ p, s _ _ q⟩
theorem Alike.up {K : PySem.W.Frag} {k : Kinds} {H : Hp} : ∀ {n : Nat} {x y : V}, Alike K k n H x y → Alike K k (n + 1) H x y
  | 0, _, _, h => h.elim
  | n + 1, x, y, h => by
    rcases h with h | ⟨a, b, xs, ys, e1, e2, hl, h20, hq, hi⟩
    · exact .inl h
    · exact .inr ⟨a, b, xs, ys, e1, e2, hl, h20, hq, fun i x' y' p q => (hi i x' y' p q).up⟩
theorem leaf_kind {K : PySem.W.Frag} {k : Kinds} {H : Hp} {v : V} (h : Leaf K k H v) :
    ∃ t bb, TyX K H v t ∧ PySem.W.kitOne K t (.type "tuple") = some false ∧ PySem.W.kitOne K t (.type "list") = some false ∧ PySem.W.kitOne K t (.type "bool") = some bb ∧ scal v v = true := by
  cases h with
  | non => exact ⟨_, false, .base .non, kit_ty (by decide +kernel), kit_ty (by decide +kernel), kit_ty (by decide +kernel), rfl⟩
  | bl b => exact ⟨_, true, .base (.bl b), kit_ty (by decide +kernel), kit_ty (by decide +kernel), kit_ty (by decide +kernel), rfl⟩
  | int i => exact ⟨_, false, .base (.int i), kit_ty (by decide +kernel), kit_ty (by decide +kernel), kit_ty (by decide +kernel), rfl⟩
  | str z _ => exact ⟨_, false, .base (.str z), kit_ty (by decide +kernel), kit_ty (by decide +kernel), kit_ty (by decide +kernel), rfl⟩
def spSame (K : PySem.W.Frag) (k : Kinds) (n : Nat) : Sp := fun vs H Q _ => ∃ (x y : V), vs = [x, y] ∧ Alike K k n H x y ∧ ∀ H', Same H H' → Q (.bl true) H'
section
variable {P : Program} {w : World} {K : PySem.W.Frag} {mg : Str → Option Value} {base : Heap}
def nSame : List Str := ["_law_found", "_law_due", "_law_one", "_law_other"]
theorem scSame : FnScope nSame ["_law_found", "_law_due"] (defScope sSame) := ⟨rfl, rfl, rfl, by decide +kernel, rfl, by decide +kernel, by decide +kernel⟩
theorem ok_same {f : Addr} {fd : FuncData} {k : Kinds} (S : Std mg) (D : Df K mg "_law_same" sSame f fd ["_law_found", "_law_due"]) : ∀ n, FnOk P w K mg base CX0 (n + 3) f fd ["_law_found", "_law_due"] (spSame K k n)
  | 0 => D.F.ok scSame (fun vs H Q E h => by obtain ⟨x, y, _, h, _⟩ := h; exact h.elim) (fun cdv A outer s H vs Q E hr h => by obtain ⟨x, y, _, h, _⟩ := h; exact h.elim)
  | n + 1 => by
    have G := ok_same (k := k) S D n
    refine D.F.ok scSame (fun vs H Q E h => ?_) (fun cdv A outer s H vs Q E hr h => ?_)
    · obtain ⟨x, y, rfl, _⟩ := h
      rfl
    · obtain ⟨x, y, rfl, hd, q⟩ := h
      refine ⟨_, pss_cons (ps_if (pt_val (pe_callB call_isiT (by rfl) S.isi (by decide +kernel) (pa_cons (pv 1) (pa_cons (pe_tup (pa_cons (pe_bltn (v := .ty "tuple") (by rfl) S.tuple (by decide +kernel) rfl) (pa_cons (pe_bltn (v := .ty "list") (by rfl) S.list (by decide +kernel) rfl) pa_nil))) pa_nil))))
        (pss_cons (ps_if (PW.pt (pw_or (pt_cmpR op_ne (pe_callB call_isi (by rfl) S.isi (by decide +kernel) (pa_cons (pv 0) (pa_cons (pe_bltn (v := .ty "tuple") (by rfl) S.tuple (by decide +kernel) rfl) pa_nil))) (pe_callB call_isi (by rfl) S.isi (by decide +kernel) (pa_cons (pv 1) (pa_cons (pe_bltn (v := .ty "tuple") (by rfl) S.tuple (by decide +kernel) rfl) pa_nil))) (nomark _))
            (pw_or1 (pt_cmpR op_ne (pe_callB call_isi (by rfl) S.isi (by decide +kernel) (pa_cons (pv 0) (pa_cons (pe_bltn (v := .ty "list") (by rfl) S.list (by decide +kernel) rfl) pa_nil))) (pe_callB call_isi (by rfl) S.isi (by decide +kernel) (pa_cons (pv 1) (pa_cons (pe_bltn (v := .ty "list") (by rfl) S.list (by decide +kernel) rfl) pa_nil))) (nomark _)))))
          (pss_one (ps_ret pe_bl)) pss_nil)
        (pss_one (ps_ret (pe_and (pe_cmpR op_eq (pe_callB call_len (by rfl) S.len PySem.boot_len (pa_cons (pv 0) pa_nil)) (pe_callB call_len (by rfl) S.len PySem.boot_len (pa_cons (pv 1) pa_nil)) (nomark _))
          (pe_one (pe_callB (cr_all rfl) (by rfl) S.all (by decide +kernel) (pa_cons (pe_lc (own := [("_law_one", 2), ("_law_other", 3)]) (g := gTup K 2 (gCons (gName 2) (gCons (gName 3) gNil))) (tt := tYes) rfl scSame.nd
            (RZ.pi_zipA (by rfl) S.zip (pa_cons (pv 0) (pa_cons (pv 1) pa_nil))) (blkOk_by (N := nSame) (sc := defScope sSame) (by decide +kernel))
            (fun _ _ _ _ _ => pg_tup rfl (pgs_cons (pg_name (i := 2) scSame.nd rfl (Or.inl rfl)) (pgs_cons (pg_name (i := 3) scSame.nd rfl (Or.inl rfl)) pgs_nil))) (fun _ _ _ _ _ => pts_nil)
            (fun _ _ _ _ _ => pe_call G hr rfl D.g D.F.kp D.b .nil pass0 (pa_cons (pv 2) (pa_cons (pv 3) pa_nil)))) pa_nil))))))) pss_nil)
        (pss_one (ps_ret (pe_and (pe_cmpR op_eq (pe_callB call_isi (by rfl) S.isi (by decide +kernel) (pa_cons (pv 0) (pa_cons (pe_bltn (v := .ty "bool") (by rfl) S.bool (by decide +kernel) rfl) pa_nil))) (pe_callB call_isi (by rfl) S.isi (by decide +kernel) (pa_cons (pv 1) (pa_cons (pe_bltn (v := .ty "bool") (by rfl) S.bool (by decide +kernel) rfl) pa_nil))) (nomark _))
          (pe_one (pe_cmpR op_eq (pv 0) (pv 1) (nomark _)))))), ?_⟩
      refine ⟨_, rfl, (by show 2 ≤ sizeLine; decide), fun p hp => ?_⟩
      have s1 : Same H (upd H p (.tup [.ty "tuple", .ty "list"])) := same_new hp
      have kp := q _ s1
      rcases hd with ⟨lf, rfl⟩ | ⟨a, b, xs, ys, rfl, rfl, hxy, h20, hq, hi⟩
      · obtain ⟨t, bb, ty, k1, k2, k3, self⟩ := leaf_kind (lf.same s1)
        refine ⟨x, p, _, _, _, _, rfl, upd_same, .cons (.ty _) (.cons (.ty _) .nil), ty, kitA k1 k2, _, rfl, iteF ?_⟩
        refine ⟨_, rfl, _, _, _, _, bb, rfl, .ty "bool", ty, k3, _, rfl, _, _, _, _, bb, rfl, .ty "bool", ty, k3, rfl, _, rfl, ?_⟩
        rw [decide_eq_true (show V.bl bb = V.bl bb from rfl)]
        refine iteT ⟨_, rfl, _, rfl, ?_⟩
        refine ⟨self, ?_⟩
        rw [decide_eq_true (show x = x from rfl)]
        exact kp
      · have tys : ∃ t tt ll, TyX K (upd H p (.tup [.ty "tuple", .ty "list"])) (.ref a) t ∧ TyX K (upd H p (.tup [.ty "tuple", .ty "list"])) (.ref b) t ∧ PySem.W.kitOne K t (.type "tuple") = some tt ∧ PySem.W.kitOne K t (.type "list") = some ll ∧ (tt || ll) = true := by
          rcases hq with ⟨h1, h2⟩ | ⟨h1, h2⟩
          · exact ⟨.type "list", false, true, .base (.lst (s1 _ _ h1)), .base (.lst (s1 _ _ h2)), kit_ty (by decide +kernel), kit_ty (by decide +kernel), rfl⟩
          · exact ⟨.type "tuple", true, false, .base (.tup (s1 _ _ h1)), .base (.tup (s1 _ _ h2)), kit_ty (by decide +kernel), kit_ty (by decide +kernel), rfl⟩
        obtain ⟨ty, t, l, tx1, ty1, k1, k2, k3⟩ := tys
        refine ⟨_, p, _, _, _, _, rfl, upd_same, .cons (.ty _) (.cons (.ty _) .nil), ty1, kitA k1 k2, _, rfl, ?_⟩
        rw [k3]
        refine iteT ?_
        refine ⟨_, rfl, _, _, _, _, t, rfl, .ty "tuple", tx1, k1, _, rfl, _, _, _, _, t, rfl, .ty "tuple", ty1, k1, rfl, _, rfl, ?_⟩
        rw [decide_eq_true (show V.bl t = V.bl t from rfl)]
        refine iteF ?_
        refine ⟨_, rfl, _, _, _, _, l, rfl, .ty "list", tx1, k2, _, rfl, _, _, _, _, l, rfl, .ty "list", ty1, k2, rfl, _, rfl, ?_⟩
        rw [decide_eq_true (show V.bl l = V.bl l from rfl)]
        refine iteF ?_
        have lens : LenV K (V.ref a) (upd H p (.tup [.ty "tuple", .ty "list"])) xs.length ∧ LenV K (V.ref b) (upd H p (.tup [.ty "tuple", .ty "list"])) ys.length := by
          rcases hq with ⟨h1, h2⟩ | ⟨h1, h2⟩
          · exact ⟨.inl ⟨_, SqL.of (s1 _ _ h1), rfl⟩, .inl ⟨_, SqL.of (s1 _ _ h2), rfl⟩⟩
          · exact ⟨.inr ⟨_, SqT.of (s1 _ _ h1), rfl⟩, .inr ⟨_, SqT.of (s1 _ _ h2), rfl⟩⟩
        refine ⟨_, rfl, _, _, rfl, lens.1, _, rfl, _, _, rfl, lens.2, rfl, _, rfl, ?_⟩
        rw [decide_eq_true (show V.int xs.length = V.int ys.length by rw [hxy])]
        refine iteT ?_
        have inv0 : ∀ D : Addr, (upd H p (.tup [.ty "tuple", .ty "list"])) D = none → Keep D H (upd (upd H p (.tup [.ty "tuple", .ty "list"])) D (.lst [])) := fun D hD => (Keep.same s1).trans (Keep.new hD)
        have turn : ∀ (D : Addr), H D = none → ∀ (i : Nat) (x y : V) (T : Addr) (H4 : Hp), xs[i]? = some x → ys[i]? = some y → (Keep D H H4 ∧ H4 D = some (.lst (List.replicate i (V.bl true)))) → H4 T = none →
            spSame K k n [x, y] (upd H4 T (.tup [x, y])) (fun y H5 => ∃ acc, H5 D = some (.lst acc) ∧ acc.length < sizeLine ∧ (Keep D H (upd H5 D (.lst (acc ++ [y]))) ∧ (upd H5 D (.lst (acc ++ [y]))) D = some (.lst (List.replicate (i + 1) (V.bl true))))) E0 := by
          rintro D hD i x y T H4 hx hy ⟨k4, d4⟩ hT
          have sH : Same H H4 := fun b o e => k4 b o (ne_of_none e hD) e
          have s4 : Same H (upd H4 T (.tup [x, y])) := sH.trans (same_new hT)
          refine ⟨x, y, rfl, (hi i x y hx hy).same s4, fun H5 s5 => ?_⟩
          have lt : i < xs.length := (List.getElem?_eq_some_iff.mp hx).1
          refine ⟨_, s5 _ _ (same_new hT _ _ d4), by rw [List.length_replicate]; exact small1000 (by omega), fun b o n e => ?_, ?_⟩
          · rw [upd_ne n]
            exact s5 _ _ (s4 b o e)
          · rw [upd_same, List.replicate_succ']
        have fin : ∀ (D : Addr), H D = none → ∀ H4 : Hp, (Keep D H H4 ∧ H4 D = some (.lst (List.replicate xs.length (V.bl true)))) → ∃ (a' : Addr) (bs : List Bool), [V.ref D] = [V.ref a'] ∧ SqL K H4 a' (bs.map V.bl) ∧ Q (.bl (bs.all id)) H4 := by
          rintro D hD H4 ⟨k4, d4⟩
          refine ⟨D, List.replicate xs.length true, rfl, SqL.of (by rw [List.map_replicate]; exact d4), ?_⟩
          rw [show (List.replicate xs.length true).all id = true from by rw [List.all_eq_true]; intro b hb; exact (List.mem_replicate.mp hb).2]
          exact q _ fun b o e => k4 b o (ne_of_none e hD) e
        refine ⟨_, rfl, _, rfl, a, b, xs, ys, rfl, ?_⟩
        rcases hq with ⟨h1, h2⟩ | ⟨h1, h2⟩
        · refine .inl ⟨SqL.of (s1 _ _ h1), SqL.of (s1 _ _ h2), fun D hD => lc_zipL hxy (fun i H4 => Keep D H H4 ∧ H4 D = some (.lst (List.replicate i (V.bl true)))) ⟨inv0 D hD, upd_same⟩
            (fun i H4 ⟨k4, _⟩ => ?_) (fun i x y T H4 hx hy pv4 hT => ?_) (fin D (s1.free hD))⟩
          · have sH : Same H H4 := fun b o e => k4 b o (ne_of_none e (s1.free hD)) e
            exact ⟨SqL.of (sH _ _ h1), SqL.of (sH _ _ h2)⟩
          · exact ⟨T, _, rfl, SqT.of upd_same, rfl, _, _, rfl, _, _, rfl, rfl, rfl, _, rfl, _, rfl, turn D (s1.free hD) i x y T H4 hx hy pv4 hT⟩
        · refine .inr ⟨SqT.of (s1 _ _ h1), SqT.of (s1 _ _ h2), fun D hD => lc_zipT hxy (fun i H4 => Keep D H H4 ∧ H4 D = some (.lst (List.replicate i (V.bl true)))) ⟨inv0 D hD, upd_same⟩
            (fun i H4 ⟨k4, _⟩ => ?_) (fun i x y T H4 hx hy pv4 hT => ?_) (fin D (s1.free hD))⟩
          · have sH : Same H H4 := fun b o e => k4 b o (ne_of_none e (s1.free hD)) e
            exact ⟨SqT.of (sH _ _ h1), SqT.of (sH _ _ h2)⟩
          · exact ⟨T, _, rfl, SqT.of upd_same, rfl, _, _, rfl, _, _, rfl, rfl, rfl, _, rfl, _, rfl, turn D (s1.free hD) i x y T H4 hx hy pv4 hT⟩
end
end LK

namespace LK
open PySem PySem.Spec PyProof.Rows L2
/-! ### what makes the objects -/
/-- what is never run -/
theorem pe_never {X : Cx} {e : Expr} : PE X e (fun _ _ _ => False) := ⟨fun _ _ _ _ _ _ h => h.elim⟩
/-- a list by a comprehension over the characters of a text -/
theorem lc_str {x : Str} {g : TG} {tt : TT} {te : TE} {vs : List Nat} {σ : L2.St} {H1 : Hp} {D : Addr} {Qd : Hp → Prop} (Pv : Nat → Hp → Prop) (h0 : Pv 0 (upd H1 D (.lst [])))
    (hs : ∀ i c H, x.cps[i]? = some c → Pv i H → g (.str ⟨#[c]⟩) (wipe σ vs) H fun σ2 H2 => wipe σ2 vs = wipe σ vs ∧ tt σ2 H2 fun b H3 =>
      if b = true then te σ2 H3 fun y H4 => ∃ acc, H4 D = some (.lst acc) ∧ acc.length < sizeLine ∧ Pv (i + 1) (upd H4 D (.lst (acc ++ [y]))) else Pv (i + 1) H3) (hd : ∀ H, Pv x.cps.size H → Qd H) :
    ∃ W : Nat → Nat → Hp → Prop, (∃ m, W 0 m (upd H1 D (.lst []))) ∧ ∀ i m H, W i m H →
      ((Its x).stop i H ∧ Qd H) ∨ ((Its x).go i H ∧ ∃ Nx : Hp → Prop, (∀ H', Nx H' → ∃ m', m' < m ∧ W (i + 1) m' H') ∧ ∀ v H', (Its x).yld i H v H' → g v (wipe σ vs) H' fun σ2 H2 => wipe σ2 vs = wipe σ vs ∧ tt σ2 H2 fun b H3 =>
        if b = true then te σ2 H3 fun y H4 => ∃ acc, H4 D = some (.lst acc) ∧ acc.length < sizeLine ∧ Nx (upd H4 D (.lst (acc ++ [y]))) else Nx H3) := by
  refine ⟨fun i m H => m + i = x.cps.size ∧ Pv i H, ⟨x.cps.size, rfl, h0⟩, fun i m H w => ?_⟩
  obtain ⟨e, p⟩ := w
  by_cases lt : i < x.cps.size
  · refine .inr ⟨lt, Pv (i + 1), fun H' p' => ⟨m - 1, by omega, by omega, p'⟩, fun v H' y => ?_⟩
    obtain ⟨rfl, c, ec, rfl⟩ := y
    exact hs i c H' ec p
  · refine .inl ⟨by show x.cps.size ≤ i; omega, hd H ?_⟩
    rw [show x.cps.size = i by omega]
    exact p
theorem letters_all : ∀ c, c < 123 → 97 ≤ c → c ∈ TL.tl letters := by decide +kernel
def spName : Sp := fun vs H Q _ => ∃ z, vs = [.str z] ∧ NameOk z ∧ ∀ H', Same H H' → Q (.bl true) H'
/-- the constants of the names' module -/
structure Words (K : PySem.W.Frag) (mg : Str → Option Value) (kw : Addr) : Prop where
  longest : ∃ t, mg "LONGEST_NAME" = some (.int 4 t)
  letters : ∃ t, mg "LETTERS" = some (.str letters t)
  kept : mg "KEPT_WORDS" = some (.ref kw)
  tup : ∀ H, SqT K H kw [.str "if", .str "else", .str "end"]
section
variable {P : Program} {w : World} {K : PySem.W.Frag} {mg : Str → Option Value} {base : Heap}
def nIs : List Str := ["value", "letter"]
theorem scIs : FnScope nIs ["value"] (defScope sIsName) := ⟨rfl, rfl, rfl, by decide +kernel, rfl, by decide +kernel, by decide +kernel⟩
theorem ok_isName {f kw : Addr} {fd : FuncData} (S : Std mg) (W : Words K mg kw) (F : Fun K "is_name" "is_name" sIsName f fd) : FnOk P w K mg base CX0 1 f fd ["value"] spName := by
  refine F.ok scIs (fun vs H Q E h => ?_) (fun cdv A outer s H vs Q E hr h => ?_)
  · obtain ⟨z, rfl, _⟩ := h
    rfl
  · obtain ⟨z, rfl, hz, q⟩ := h
    obtain ⟨t1, m1⟩ := W.longest
    obtain ⟨t2, m2⟩ := W.letters
    refine ⟨_, pss_cons (ps_if (PW.pt (pw_or (pt_not (pt_val (pe_callB call_isi (by rfl) S.isi (by decide +kernel) (pa_cons (pv 0) (pa_cons (pe_bltn (v := .ty "str") (by rfl) S.str (by decide +kernel) rfl) pa_nil)))))
          (pw_or1 (pt_not (pt_chain op_le op_le pe_int (pe_callB call_len (by rfl) S.len PySem.boot_len (pa_cons (pv 0) pa_nil)) (pe_glob (v := .int 4) rfl m1 ⟨_, rfl⟩))))))
        (pss_one (ps_ret pe_bl)) pss_nil)
      (pss_one (ps_ret (pe_and (pe_cmpR op_notIn_seq (pv 0) (pe_glob (v := .ref kw) rfl W.kept rfl) (by rfl))
        (pe_one (pe_callB (cr_all rfl) (by rfl) S.all (by decide +kernel) (pa_cons (pe_lc (own := [("letter", 1)]) (g := gName 1) (tt := tYes) rfl scIs.nd
            (pi_str (pv 0)) (blkOk_by (N := nIs) (sc := defScope sIsName) (by decide +kernel)) (fun _ _ _ _ _ => pg_name (i := 1) scIs.nd rfl (Or.inl rfl)) (fun _ _ _ _ _ => pts_nil)
            (fun _ _ _ _ _ => pe_cmpR op_in_sign (pv 1) (pe_glob (v := .str letters) rfl m2 ⟨_, rfl⟩) (by rfl))) pa_nil)))))), ?_⟩
    have zl : z.length = z.cps.size := rfl
    have h4 := hz.len
    have h1 := hz.pos
    refine ⟨_, rfl, _, _, _, _, true, rfl, .ty "str", .base (.str z), kit_ty (by decide +kernel), true, rfl, iteF ?_⟩
    refine ⟨_, rfl, _, z.length, rfl, ⟨by rw [sizeLine_eq]; omega, rfl⟩, _, _, rfl, rfl, _, rfl, ?_⟩
    rw [decide_eq_true (show (1 : Int) ≤ (z.length : Int) by omega)]
    refine iteT ⟨_, _, rfl, rfl, _, rfl, ?_⟩
    rw [decide_eq_true (show (z.length : Int) ≤ 4 by omega)]
    refine iteF ⟨_, rfl, kw, _, rfl, .inr (W.tup H), rfl, by decide +kernel, ?_⟩
    have no : inV (.str z) [.str "if", .str "else", .str "end"] = false := by
      have e1 : (("if" : Str) == z) = false := beq_eq_false_iff_ne.mpr (Ne.symm hz.nif)
      have e2 : (("else" : Str) == z) = false := beq_eq_false_iff_ne.mpr (Ne.symm hz.nelse)
      have e3 : (("end" : Str) == z) = false := beq_eq_false_iff_ne.mpr (Ne.symm hz.nend)
      show (("if" : Str) == z || (("else" : Str) == z || (("end" : Str) == z || false))) = false
      rw [e1, e2, e3]
      rfl
    rw [if_pos rfl, no]
    refine ⟨_, rfl, iteT ⟨_, rfl, z, rfl, fun D hD => lc_str (fun i H4 => Keep D H H4 ∧ H4 D = some (.lst (List.replicate i (V.bl true)))) ⟨Keep.new hD, upd_same⟩ (fun i c H4 hc ⟨k4, d4⟩ => ?_) (fun H4 ⟨k4, d4⟩ => ?_)⟩⟩
    · have lt : i < z.cps.size := (Array.getElem?_eq_some_iff.mp hc).1
      have mem : c ∈ TL.tl letters := by
        obtain ⟨c0, c1⟩ := hz.low c (Array.mem_toList_iff.mpr (Array.mem_of_getElem? hc))
        exact letters_all c (by omega) c0
      refine ⟨rfl, _, rfl, c, letters, rfl, rfl, _, d4, by rw [List.length_replicate]; exact small1000 (by omega), fun b o n e => ?_, ?_⟩
      · rw [upd_ne n]
        exact k4 b o n e
      · rw [upd_same, decide_eq_true (show c ∈ letters.cps.toList from mem), List.replicate_succ']
    · refine ⟨D, List.replicate z.cps.size true, rfl, SqL.of (by rw [List.map_replicate]; exact d4), ?_⟩
      rw [show (List.replicate z.cps.size true).all id = true from by rw [List.all_eq_true]; intro b hb; exact (List.mem_replicate.mp hb).2]
      exact q _ fun b o e => k4 b o (ne_of_none e hD) e
end
end LK

/-! xs.extend(t), t a tuple -/
namespace LR
open PySem PySem.Spec PyProof.Rows L2
theorem meets_extT {l b : Addr} {its more : Array Value} {n : Nat} {ob : Obj} (few : its.size + more.size ≤ sizeLine) :
    Meets (Builtin.«list.extend» ⟨[.ref l, .ref b], []⟩) (fun _ R s => s.heap.get? l = some { cls := .type "list", dict := none, data := .seq its n, slots := #[] } ∧ (s.heap.get? b = some ob ∧ ob.cls = .type "tuple" ∧ ∃ k, ob.data = .seq more k) ∧
      R (.ok (.ret Value.none)) { s with heap := s.heap.update l (Obj.mapSeq fun x => x ++ more), toks := s.toks }) :=
  .of_wp fun prog w A R s h => by
    obtain ⟨a1, ⟨a2, a3, k, a4⟩, q⟩ := h
    change wpAny _ _ (Builtin.List.listExtendWith (.ref l) (.ref b) .none) _ _ s
    unfold Builtin.List.listExtendWith
    refine wpAny_bind (wpAny_typeOf ⟨ob, a2, a3⟩ ?_)
    rw [if_pos (by simp)]
    unfold Builtin.List.listItems
    refine wpAny_bind (wpAny_bind (wpAny_seqItems a2 a4 (wpAny_pure ?_)))
    refine wpAny_bind (wpAny_bind (wpAny_seqItems a1 rfl (wpAny_pure ?_)))
    have short : ¬ ((!its.isEmpty && Builtin.List.listTooLong (its.size + more.size)) = true) := by
      rw [notLongL few, Bool.and_false]
      exact Bool.false_ne_true
    rw [if_neg short]
    change wpAny _ _ (updateSeq l (· ++ more) >>= fun _ => ret Value.none) _ _ s
    refine wpAny_bind (wpAny_updateSeq a1 rfl ?_ (hz := by omega) (_hz' := by rw [Array.size_append]; omega))
    exact wpAny_pure ⟨_, rfl, q⟩
section
variable {X : Cx}
def rExtT (K : PySem.W.Frag) : V → List V → Hp → VK → Prop := fun x vs H Q => ∃ l b xs zs, x = V.ref l ∧ vs = [V.ref b] ∧ H l = some (.lst xs) ∧ SqT K H b zs ∧ xs.length + zs.length ≤ sizeLine ∧ Q .non (upd H l (.lst (xs ++ zs)))
theorem mt_extT : MtM X "list.extend" (rExtT X.K) := by
  intro pins s σ H x vs v us Q I rx rv h
  obtain ⟨l, b, xs, zs, rfl, rfl, hl, hb, few, q⟩ := h
  cases rx
  obtain ⟨u, rfl, ru⟩ := rv.one
  cases ru
  obtain ⟨_, its, n, r, len, e⟩ := I.lstM hl
  obtain ⟨its2, r2, it, _⟩ := I.tuple hb
  obtain ⟨ob, b1, b2, b3⟩ := it
  have len2 := r2.length
  refine call_meets PySem.F.slot_list_extend ⟨_, e, rfl⟩ PySem.F.entry_list_extend (PySem.F.args_list_extend_2 _ _) (meets_extT (its := its.toArray) (n := n) (more := its2.toArray) (ob := ob) (by rw [List.size_toArray, List.size_toArray]; omega)) ⟨e, ⟨b1, b2, b3⟩, ?_⟩
  refine ⟨.non, _, I.lset (its' := its ++ its2) hl e (by simp) (r.append r2) (by rw [List.length_append]; omega), rfl, q⟩
end
end LR

namespace LK
open PySem PySem.Spec PyProof.Rows L2 LR
/-! ### names and steps, gathered from what has them -/
/-- a def of the text with one default -/
structure Dd (K : PySem.W.Frag) (mg : Str → Option Value) (x : Str) (st : Stmt) (f : Addr) (fd : FuncData) (ps : List Str) : Prop where
  F : ∃ t, FunD K x x (defArgs st) (defBody st) (defScope st) [V.ref t] [] f fd
  b : Binds K fd ps []
  g : mg x = some (.ref f)
  kp : PySem.W.keepIn K (.ref f) = true
/-- v has a field that is a tuple -/
def FldT (K : PySem.W.Frag) (f : Str) (H : Hp) (v : V) (xs : List V) : Prop := ∃ a C dx fs q, v = .ref a ∧ H a = some (.ins C dx fs) ∧ Cls K C ∧ NoAttr K C f ∧ fs.lookup f = some (.ref q) ∧ SqT K H q xs
theorem FldT.same {K : PySem.W.Frag} {f : Str} {H H' : Hp} {v : V} {xs : List V} (s : Same H H') (h : FldT K f H v xs) : FldT K f H' v xs := by
  obtain ⟨a, C, dx, fs, q, e, ha, c, n, l, t⟩ := h
  exact ⟨a, C, dx, fs, q, e, s _ _ ha, c, n, l, SqT.same s t⟩
def tot (ks : List (V × Nat)) : Nat := (ks.map (·.2)).sum
theorem tot_take {ks : List (V × Nat)} {i : Nat} {e : V × Nat} (h : ks[i]? = some e) : tot (ks.take (i + 1)) = tot (ks.take i) + e.2 := by
  unfold tot
  rw [List.take_add_one, h, List.map_append, List.sum_append]
  simp
theorem tot_le (ks : List (V × Nat)) (i : Nat) : tot (ks.take i) ≤ tot ks := by
  have q : tot ks = tot (ks.take i) + tot (ks.drop i) := by
    unfold tot
    rw [← List.sum_append, ← List.map_append, List.take_append_drop]
  omega
def HasNames (K : PySem.W.Frag) (H : Hp) (e : V × Nat) : Prop := ∃ zs : List Str, FldT K "names" H e.1 (zs.map V.str) ∧ zs.length ≤ e.2
def IsSt (cS : Addr) (H : Hp) (v : V) : Prop := ∃ b z y, v = .ref b ∧ StepAt cS H b z y
theorem IsSt.same {cS : Addr} {H H' : Hp} {v : V} (s : Same H H') (h : IsSt cS H v) : IsSt cS H' v := by
  obtain ⟨b, z, y, e, dx, hb⟩ := h
  exact ⟨b, z, y, e, dx, s _ _ hb⟩
def HasSteps (K : PySem.W.Frag) (cS : Addr) (H : Hp) (e : V × Nat) : Prop := ∃ bs : List V, FldT K "steps" H e.1 bs ∧ bs.length ≤ e.2 ∧ ∀ b ∈ bs, IsSt cS H b
def spNames (K : PySem.W.Frag) : Sp := fun vs H Q _ => ∃ (p a : Addr) (own : List Str) (ks : List (V × Nat)), vs = [.ref p, .ref a] ∧ SqT K H p (ks.map (·.1)) ∧ H a = some (.lst (own.map V.str)) ∧ (∀ e ∈ ks, HasNames K H e) ∧ own.length + tot ks < 64 ∧
  ∀ (q : Addr) (ys : List Str) (H' : Hp), Same H H' → H q = none → H' q = some (.tup (ys.map V.str)) → ys.length ≤ own.length + tot ks → Q (.ref q) H'
def spSteps (K : PySem.W.Frag) (cS : Addr) : Sp := fun vs H Q _ => ∃ (p a : Addr) (own : List V) (ks : List (V × Nat)), vs = [.ref p, .ref a] ∧ SqT K H p (ks.map (·.1)) ∧ H a = some (.lst own) ∧ (∀ b ∈ own, IsSt cS H b) ∧ (∀ e ∈ ks, HasSteps K cS H e) ∧ own.length + tot ks < 64 ∧
  ∀ (q : Addr) (bs : List V) (H' : Hp), Same H H' → H q = none → H' q = some (.tup bs) → (∀ b ∈ bs, IsSt cS H' b) → bs.length ≤ own.length + tot ks → Q (.ref q) H'
theorem same_put {H H1 : Hp} {l : Addr} {o : HO} (hl : H l = none) (s : Same H H1) : Same H (upd H1 l o) := fun b u e => by
  rw [upd_ne (ne_of_none e hl)]
  exact s _ _ e
section
variable {P : Program} {w : World} {K : PySem.W.Frag} {mg : Str → Option Value} {base : Heap}
theorem Dd.ok {x : Str} {st : Stmt} {f : Addr} {fd : FuncData} {N ps : List Str} {k : Nat} {sp : Sp} (D : Dd K mg x st f fd ps) (S : FnScope N ps (defScope st)) (len : ∀ vs H Q E, sp vs H Q E → vs.length = ps.length)
    (walk : ∀ (cdv : Value) (A : Around) (outer : List Env) (s : Shared) (H : Hp) (vs : List V) (Q : VK) (E : XK), Room k (A.deeper (envOfC x (defScope st) s.heap.objs.size f cdv)) → sp vs H Q E →
      ∃ t, PSs (cxOf CX0 P w K mg base N x (defScope st) f cdv A outer s H E).nox (defBody st) t ∧ t { nx := fun _ H' => Q .non H', rt := Q } (start N vs) H) : FnOk P w K mg base CX0 (k + 1) f fd ps sp := by
  obtain ⟨t, F⟩ := D.F
  refine F.ok S len fun cdv A outer s H vs Q E hr h => ?_
  obtain ⟨t, p, q⟩ := walk cdv A outer s H vs Q E hr h
  exact ⟨t, p.nox, q⟩
def nAn : List Str := ["holders", "more", "found", "holder"]
theorem scAn : FnScope nAn ["holders", "more"] (defScope sAllNames) := ⟨rfl, rfl, rfl, by decide +kernel, rfl, by decide +kernel, by decide +kernel⟩
theorem ok_allNames {f : Addr} {fd : FuncData} (S : Std mg) (D : Dd K mg "all_names" sAllNames f fd ["holders", "more"]) : FnOk P w K mg base CX0 1 f fd ["holders", "more"] (spNames K) := by
  refine D.ok scAn (fun vs H Q E h => ?_) (fun cdv A outer s H vs Q E hr h => ?_)
  · obtain ⟨p, a, own, ks, rfl, _⟩ := h
    rfl
  · obtain ⟨p, a, own, ks, rfl, hp, ha, hk, few, q⟩ := h
    refine ⟨_, pss_cons (ps_set (i := 2) scAn.nd rfl (Or.inl rfl) (pe_callTy call_list_of (by rfl) S.list (by decide +kernel) (pa_cons (pv 1) pa_nil)))
      (pss_cons (ps_for PassesOwn.never rfl (pi_tup (pv 0)) (pg_name (i := 3) scAn.nd rfl (Or.inl rfl))
        (pss_one (ps_expr (pe_bm PySem.F.plainAttrs_list PySem.F.slot_list_extend PySem.F.type_list_extend mt_extT (pv 2) (pa_cons (pe_fld (pv 3) rfl) pa_nil)))))
      (pss_one (ps_ret (pe_callTy call_tuple_of (by rfl) S.tuple (by decide +kernel) (pa_cons (pe_callB (LR.cr_sortedSetS rfl) (by rfl) S.sorted (by decide +kernel)
        (pa_cons (pe_callTy (LR.cr_setL rfl) (by rfl) S.set (by decide +kernel) (pa_cons (pv 2) pa_nil)) pa_nil)) pa_nil))))), ?_⟩
    refine ⟨_, rfl, a, _, rfl, .inl (SqL.of ha), fun l hl => ?_⟩
    refine ⟨_, rfl, p, rfl, ⟨_, SqT.same (same_new hl) hp⟩, for_tup (xs := ks.map fun e : V × Nat => e.1) (fun i σ' H' => ∃ h zs, σ' = [some (.ref p), some (.ref a), some (.ref l), h] ∧ Same H H' ∧ H' l = some (.lst (zs.map V.str)) ∧ zs.length ≤ own.length + tot (ks.take i))
      ⟨_, own, rfl, same_new hl, upd_same, Nat.le_add_right _ _⟩ (fun i σ' H' _ h => ?_) (fun i x σ' H' hx h => ?_) (fun σ' H' h => ?_)⟩
    · obtain ⟨_, _, _, s1, _⟩ := h
      exact SqT.same s1 hp
    · obtain ⟨h0, zs, rfl, s1, hz, len⟩ := h
      rw [List.getElem?_map] at hx
      obtain ⟨e, he, rfl⟩ := Option.map_eq_some_iff.mp hx
      obtain ⟨ys, ⟨b, C, dx, fs, q1, e1, hb, c, n, lk, t⟩, few1⟩ := hk e (List.mem_of_getElem? he)
      refine ⟨_, rfl, .inl ⟨rfl, _, SqL.of hz⟩, _, rfl, b, C, dx, fs, .ref q1, e1, s1 _ _ hb, c, n, lk, l, q1, zs.map V.str, ys.map V.str, rfl, rfl, hz, SqT.same s1 t, ?_, ?_⟩
      · have := tot_le ks i
        rw [List.length_map, List.length_map, sizeLine_eq]
        have := tot_take he
        have := tot_le ks (i + 1)
        omega
      · refine ⟨_, zs ++ ys, rfl, same_put hl s1, by rw [upd_same, List.map_append], ?_⟩
        rw [List.length_append, tot_take he]
        omega
    · obtain ⟨h0, zs, rfl, s1, hz, len⟩ := h
      rw [List.take_of_length_le (by rw [List.length_map]; exact Nat.le_refl _)] at len
      refine ⟨_, rfl, l, zs, rfl, SqL.of hz, by omega, fun p2 c hp2 hc => ?_⟩
      refine ⟨p2, _, c, rfl, upd_same, by omega, fun ys p3 o1 o2 o3 o4 hp3 => ⟨p3, _, rfl, .inl ⟨SqL.of upd_same, fun l4 hl4 => q _ ys _ (((s1.trans (same_new hp2)).trans (same_new hp3)).trans (same_new hl4)) (Same.free ((s1.trans (same_new hp2)).trans (same_new hp3)) hl4) upd_same (by omega)⟩⟩⟩
end
end LK

namespace LK
open PySem PySem.Spec PyProof.Rows L2 LR
/-! ### all_steps -/
abbrev Dn := List ((Str × Str) × V)
def putP (es : Dn) (e : Str × Str) (v : V) : Dn := if (es.any fun x => decide (x.1 = e)) = true then es.map (fun x => if x.1 = e then (x.1, v) else x) else es ++ [(e, v)]
theorem kT_inj {a b : Str × Str} (h : kT a = kT b) : a = b := by
  unfold kT at h
  injection h with h1 h2
  injection h2 with h3 _
  injection h1 with h1
  injection h3 with h3
  exact Prod.ext h1 h3
theorem kT_eq (a b : Str × Str) : decide (kT a = kT b) = decide (a = b) := by
  by_cases h : a = b
  · rw [h]
    simp
  · rw [decide_eq_false h, decide_eq_false fun z => h (kT_inj z)]
theorem putK_ent (es : Dn) (e : Str × Str) (v : V) : putK (es.map ent2) (kT e) v = (putP es e v).map ent2 := by
  have q : ((es.map ent2).any fun kv => decide (kv.1 = kT e)) = es.any fun x => decide (x.1 = e) := by
    rw [List.any_map]
    congr 1
    funext x
    exact kT_eq x.1 e
  unfold putK putP
  rw [q]
  by_cases h : (es.any fun x => decide (x.1 = e)) = true
  · rw [if_pos h, if_pos h, List.map_map, List.map_map]
    apply List.map_congr_left
    intro x _
    show (if kT x.1 = kT e then (kT x.1, v) else (kT x.1, x.2)) = ent2 (if x.1 = e then (x.1, v) else x)
    by_cases g : x.1 = e
    · rw [if_pos g, if_pos (congrArg kT g)]
    · rw [if_neg g, if_neg fun z => g (kT_inj z)]
  · rw [if_neg h, if_neg h, List.map_append]
    rfl
theorem putP_len (es : Dn) (e : Str × Str) (v : V) : (putP es e v).length ≤ es.length + 1 := by
  unfold putP
  split
  · rw [List.length_map]
    omega
  · rw [List.length_append]
    exact Nat.le_refl _
theorem putP_all {Q : (Str × Str) × V → Prop} {es : Dn} {e : Str × Str} {v : V} (h : ∀ x ∈ es, Q x) (q : Q (e, v)) : ∀ x ∈ putP es e v, Q x := by
  intro x hx
  unfold putP at hx
  split at hx
  · obtain ⟨y, hy, rfl⟩ := List.mem_map.mp hx
    by_cases g : y.1 = e
    · rw [if_pos g, g]
      exact q
    · rw [if_neg g]
      exact h y hy
  · rcases List.mem_append.mp hx with hx | hx
    · exact h x hx
    · rw [List.mem_singleton.mp hx]
      exact q
theorem valV_ent : ∀ (es : Dn) (e : Str × Str), e ∈ es.map (·.1) → ∃ v, valV (es.map ent2) (kT e) = some v ∧ (e, v) ∈ es
  | [], e, h => nomatch h
  | x :: es, e, h => by
    by_cases g : x.1 = e
    · exact ⟨x.2, by rw [List.map_cons]; exact valV_pos (congrArg kT g), by rw [← g]; exact List.mem_cons_self⟩
    · rw [List.map_cons] at h
      rcases List.mem_cons.mp h with h | h
      · exact absurd h.symm g
      · obtain ⟨v, a, b⟩ := valV_ent es e h
        exact ⟨v, by rw [List.map_cons, valV_neg fun z => g (kT_inj z)]; exact a, List.mem_cons_of_mem _ b⟩
/-- a comprehension for a dict over a list that stays -/
theorem dcT_list {K : PySem.W.Frag} {a : Addr} {xs : List V} {g : TG} {tt : TT} {tk tv : TE} {vs : List Nat} {σ : L2.St} {H1 : Hp} {D : Addr} {Qd : Hp → Prop} (Pv : Nat → Hp → Prop) (h0 : Pv 0 (upd H1 D (.dT []))) (hl : ∀ i H, Pv i H → SqL K H a xs)
    (hs : ∀ i x H, xs[i]? = some x → Pv i H → g x (wipe σ vs) H fun σ2 H2 => wipe σ2 vs = wipe σ vs ∧ RowT D tt tk tv (Pv (i + 1)) σ2 H2) (hd : ∀ H, Pv xs.length H → Qd H) :
    ∃ W : Nat → Nat → Hp → Prop, (∃ m, W 0 m (upd H1 D (.dT []))) ∧ ∀ i m H, W i m H → ((Itl K a).stop i H ∧ Qd H) ∨
      ((Itl K a).go i H ∧ ∃ Nx : Hp → Prop, (∀ H', Nx H' → ∃ m', m' < m ∧ W (i + 1) m' H') ∧ ∀ x H', (Itl K a).yld i H x H' → g x (wipe σ vs) H' fun σ2 H2 => wipe σ2 vs = wipe σ vs ∧ RowT D tt tk tv Nx σ2 H2) := by
  refine ⟨fun i m H => m + i = xs.length ∧ Pv i H, ⟨xs.length, rfl, h0⟩, fun i m H w => ?_⟩
  obtain ⟨e, p⟩ := w
  have at_ := hl i H p
  by_cases lt : i < xs.length
  · refine .inr ⟨⟨xs, xs[i], at_, List.getElem?_eq_getElem lt⟩, Pv (i + 1), fun H' p' => ⟨m - 1, by omega, by omega, p'⟩, fun x H' y => ?_⟩
    obtain ⟨rfl, y⟩ := y
    exact hs i x H' (y xs at_) p
  · refine .inl ⟨⟨xs, at_, by omega⟩, hd H ?_⟩
    rw [show xs.length = i by omega]
    exact p
def StE (cS : Addr) (H : Hp) (x : (Str × Str) × V) : Prop := ∃ b, x.2 = .ref b ∧ StepAt cS H b x.1.1 x.1.2
theorem StE.same {cS : Addr} {H H' : Hp} {x : (Str × Str) × V} (s : Same H H') (h : StE cS H x) : StE cS H' x := by
  obtain ⟨b, e, dx, hb⟩ := h
  exact ⟨b, e, dx, s _ _ hb⟩
section
variable {P : Program} {w : World} {K : PySem.W.Frag} {mg : Str → Option Value} {base : Heap}
def nAs : List Str := ["holders", "more", "steps", "found", "holder", "step", "key"]
theorem scAs : FnScope nAs ["holders", "more"] (defScope sAllSteps) := ⟨rfl, rfl, rfl, by decide +kernel, rfl, by decide +kernel, by decide +kernel⟩
theorem ok_allSteps {cS f : Addr} {fd : FuncData} (S : Std mg) (cl : Cls K cS) (n1 : NoAttr K cS "name") (n2 : NoAttr K cS "ways") (D : Dd K mg "all_steps" sAllSteps f fd ["holders", "more"]) : FnOk P w K mg base CX0 1 f fd ["holders", "more"] (spSteps K cS) := by
  refine D.ok scAs (fun vs H Q E h => ?_) (fun cdv A outer s H vs Q E hr h => ?_)
  · obtain ⟨p, a, own, ks, rfl, _⟩ := h
    rfl
  · obtain ⟨p, a, own, ks, rfl, hp, ha, ho, hk, few, q⟩ := h
    refine ⟨_, pss_cons (ps_set (i := 2) scAs.nd rfl (Or.inl rfl) (pe_callTy call_list_of (by rfl) S.list (by decide +kernel) (pa_cons (pv 1) pa_nil)))
      (pss_cons (ps_for PassesOwn.never rfl (pi_tup (pv 0)) (pg_name (i := 4) scAs.nd rfl (Or.inl rfl))
        (pss_one (ps_expr (pe_bm PySem.F.plainAttrs_list PySem.F.slot_list_extend PySem.F.type_list_extend mt_extT (pv 2) (pa_cons (pe_fld (pv 4) rfl) pa_nil)))))
      (pss_cons (ps_set (i := 3) scAs.nd rfl (Or.inr rfl) (pe_dcT (own := [("step", 5)]) (g := gName 5) (tt := tYes) (tk := tTup (tCons (tFld K (tVar 5) "name") (tCons (tFld K (tVar 5) "ways") tNil))) (tv := tVar 5) rfl hr.units0 scAs.nd (pi_list (pv 2)) (blkOk_by (N := nAs) (sc := defScope sAllSteps) (by decide +kernel))
          (fun _ _ _ _ _ => pg_name (i := 5) scAs.nd rfl (Or.inl rfl)) (fun _ _ _ _ _ => pts_nil) (fun _ _ _ _ _ => pe_tup (pa_cons (pe_fld (pv 5) rfl) (pa_cons (pe_fld (pv 5) rfl) pa_nil))) (fun _ _ _ _ _ => pv 5)))
      (pss_one (ps_ret (pe_callTy call_tuple_of (by rfl) S.tuple (by decide +kernel) (pa_cons (pe_lc (own := [("key", 6)]) (g := gName 6) (tt := tYes) rfl scAs.nd
          (pi_list (pe_callB (cr_sortedDT rfl) (by rfl) S.sorted (by decide +kernel) (pa_cons (pv 3) pa_nil))) (blkOk_by (N := nAs) (sc := defScope sAllSteps) (by decide +kernel))
          (fun _ _ _ _ _ => pg_name (i := 6) scAs.nd rfl (Or.inl rfl)) (fun _ _ _ _ _ => pts_nil) (fun _ _ _ _ _ => pe_dget (by show (A.deeper (envOfC "all_steps" (defScope sAllSteps) s.heap.objs.size f cdv)).units + 1 < cLine; have := hr.units; omega) (pv 3) (pv 6) (fun _ _ => rfl))) pa_nil)))))), ?_⟩
    refine ⟨_, rfl, a, _, rfl, .inl (SqL.of ha), fun l hl => ?_⟩
    refine ⟨_, rfl, p, rfl, ⟨_, SqT.same (same_new hl) hp⟩, for_tup (xs := ks.map fun e : V × Nat => e.1) (fun i σ' H' => ∃ h zs, σ' = [some (.ref p), some (.ref a), some (.ref l), none, h, none, none] ∧ Same H H' ∧ H' l = some (.lst zs) ∧ (∀ b ∈ zs, IsSt cS H' b) ∧ zs.length ≤ own.length + tot (ks.take i))
      ⟨_, own, rfl, same_new hl, upd_same, fun b hb => (ho b hb).same (same_new hl), Nat.le_add_right _ _⟩ (fun i σ' H' _ h => ?_) (fun i x σ' H' hx h => ?_) (fun σ' H' h => ?_)⟩
    · obtain ⟨_, _, _, s1, _⟩ := h
      exact SqT.same s1 hp
    · obtain ⟨h0, zs, rfl, s1, hz, gz, len⟩ := h
      rw [List.getElem?_map] at hx
      obtain ⟨e, he, rfl⟩ := Option.map_eq_some_iff.mp hx
      obtain ⟨ys, ⟨b, C, dx, fs, q1, e1, hb, c, n, lk, t⟩, few1, gy⟩ := hk e (List.mem_of_getElem? he)
      refine ⟨_, rfl, .inl ⟨rfl, _, SqL.of hz⟩, _, rfl, b, C, dx, fs, .ref q1, e1, s1 _ _ hb, c, n, lk, l, q1, zs, ys, rfl, rfl, hz, SqT.same s1 t, ?_, ?_⟩
      · rw [sizeLine_eq]
        have := tot_take he
        have := tot_le ks (i + 1)
        omega
      · have s2 : Same H (upd H' l (.lst (zs ++ ys))) := same_put hl s1
        have low : ∀ v, IsSt cS H' v → IsSt cS (upd H' l (.lst (zs ++ ys))) v := fun v h => by
          obtain ⟨b, z, y, e2, d2, h2⟩ := h
          refine ⟨b, z, y, e2, d2, ?_⟩
          rw [upd_ne (ne_of h2 hz (by intro z; cases z))]
          exact h2
        refine ⟨_, zs ++ ys, rfl, s2, upd_same, fun v hv => ?_, ?_⟩
        · rcases List.mem_append.mp hv with hv | hv
          · exact low v (gz v hv)
          · exact low v ((gy v hv).same s1)
        · rw [List.length_append, tot_take he]
          omega
    · obtain ⟨h0, zs, rfl, s1, hz, gz, len⟩ := h
      rw [List.take_of_length_le (by rw [List.length_map]; exact Nat.le_refl _)] at len
      refine ⟨_, rfl, l, rfl, ⟨_, SqL.of hz⟩, fun d hd => dcT_list (xs := zs) (fun i H4 => Same H' H4 ∧ ∃ es : Dn, H4 d = some (.dT (es.map ent2)) ∧ es.length ≤ i ∧ ∀ x ∈ es, StE cS H' x) ⟨same_new hd, [], upd_same, Nat.le_refl _, fun _ h => nomatch h⟩
        (fun i H4 h => SqL.of (h.1 _ _ hz)) (fun i v H4 hv h => ?_) (fun H4 h => ?_)⟩
      · obtain ⟨s4, es, hd4, le, ge⟩ := h
        have le2 : i < zs.length := (List.getElem?_eq_some_iff.mp hv).1
        obtain ⟨b, z, y, rfl, dx, hb⟩ := gz v (List.mem_of_getElem? hv)
        refine ⟨rfl, ?_⟩
        refine ⟨_, rfl, b, cS, dx, _, _, rfl, s4 _ _ hb, cl, n1, rfl, _, rfl, b, cS, dx, _, _, rfl, s4 _ _ hb, cl, n2, rfl, (by show 2 ≤ sizeLine; decide), fun t ht => ?_⟩
        refine ⟨_, rfl, es.map ent2, kT (z, y), t, rfl, upd_same, ?_, ?_, ?_⟩
        · rw [upd_ne (ne_of_none hd4 ht)]
          exact hd4
        · rw [List.length_map, sizeLine_eq]
          omega
        · rw [putK_ent]
          refine ⟨same_put hd (s4.trans (same_new ht)), putP es (z, y) (.ref b), upd_same, Nat.le_trans (putP_len _ _ _) (by omega), putP_all ge ⟨b, rfl, dx, hb⟩⟩
      · obtain ⟨s4, es, hd4, le, ge⟩ := h
        refine ⟨_, rfl, d, es, rfl, hd4, fun kz p3 pm _ hk hp3 => ?_⟩
        have s5 : Same H' (upd H4 p3 (.lst (kz.map fun z => V.ref z.2))) := s4.trans (same_new hp3)
        have kl : kz.length = es.length := by
          have := pm.length_eq
          rwa [List.length_map, List.length_map] at this
        refine ⟨p3, rfl, ⟨_, SqL.of upd_same⟩, fun D5 hD5 => lc_list (xs := kz.map fun z => V.ref z.2) (fun i H6 => Same (upd H4 p3 (.lst (kz.map fun z => V.ref z.2))) H6 ∧ ∃ bs, H6 D5 = some (.lst bs) ∧ bs.length = i ∧ ∀ b ∈ bs, IsSt cS H' b)
          ⟨same_new hD5, [], upd_same, rfl, fun _ h => nomatch h⟩ (fun i H6 _ h => SqL.of (h.1 _ _ upd_same)) (fun i v H6 hv h => ?_) (fun H6 h => ?_)⟩
        · obtain ⟨s6, bs, hb6, lb, gb⟩ := h
          rw [List.getElem?_map] at hv
          obtain ⟨z, hz2, rfl⟩ := Option.map_eq_some_iff.mp hv
          have mz := List.mem_of_getElem? hz2
          obtain ⟨v, v1, v2⟩ := valV_ent es z.1 (pm.mem_iff.mp (List.mem_map_of_mem mz))
          obtain ⟨b, rfl, hb⟩ := ge _ v2
          have il : i < kz.length := (List.getElem?_eq_some_iff.mp hz2).1
          have pz : H6 z.2 = some (.tup ((kT z.1).map kV)) := s6 _ _ (same_new hp3 _ _ (hk z mz))
          have dz : H6 d = some (.dT (es.map ent2)) := s6 _ _ (same_new hp3 _ _ hd4)
          refine ⟨rfl, _, rfl, _, rfl, d, .ref b, rfl, v1 ▸ DGet.t dz pz, bs, hb6, by rw [lb, sizeLine_eq]; omega, same_put hD5 s6, bs ++ [.ref b], upd_same, by rw [List.length_append, lb]; rfl, fun x hx => ?_⟩
          rcases List.mem_append.mp hx with hx | hx
          · exact gb x hx
          · rw [List.mem_singleton.mp hx]
            exact ⟨b, _, _, rfl, hb⟩
        · obtain ⟨s6, bs, hb6, lb, gb⟩ := h
          have s7 : Same H' H6 := s5.trans s6
          refine ⟨D5, _, rfl, .inl ⟨SqL.of hb6, fun l5 hl5 => q _ bs _ ((s1.trans s7).trans (same_new hl5)) (Same.free (s1.trans s7) hl5) upd_same (fun b hb => (gb b hb).same (s7.trans (same_new hl5))) ?_⟩⟩
          rw [lb, List.length_map]
          omega
end
end LK

namespace LK
open PySem PySem.Spec PyProof.Rows L2 LR
/-! ### names and steps gathered, each once, ascending -/
def HasNmX (K : PySem.W.Frag) (H : Hp) (e : V × List Str) : Prop := ∃ zs, FldT K "names" H e.1 (zs.map V.str) ∧ NmsOf e.2 zs
/-- steps of these names and ways -/
def KeyL (cS : Addr) (H : Hp) (bs : List V) (ks : List (Str × Str)) : Prop := bs.length = ks.length ∧ ∀ (i : Nat) b k, bs[i]? = some b → ks[i]? = some k → ∃ a, b = .ref a ∧ StepAt cS H a k.1 k.2
theorem KeyL.same {cS : Addr} {H H' : Hp} {bs : List V} {ks : List (Str × Str)} (s : Same H H') (h : KeyL cS H bs ks) : KeyL cS H' bs ks := ⟨h.1, fun i b k h1 h2 => by
  obtain ⟨a, e, dx, st⟩ := h.2 i b k h1 h2
  exact ⟨a, e, dx, s _ _ st⟩⟩
theorem KeyL.nil {cS : Addr} {H : Hp} : KeyL cS H [] [] := ⟨rfl, fun i b k h => by simp at h⟩
theorem KeyL.app {cS : Addr} {H : Hp} {bs cs : List V} {ks js : List (Str × Str)} (h : KeyL cS H bs ks) (h' : KeyL cS H cs js) : KeyL cS H (bs ++ cs) (ks ++ js) := by
  refine ⟨by rw [List.length_append, List.length_append, h.1, h'.1], fun i b k h1 h2 => ?_⟩
  have l1 := h.1
  by_cases lt : i < bs.length
  · rw [List.getElem?_append_left (by omega)] at h1 h2
    exact h.2 i b k h1 h2
  · rw [List.getElem?_append_right (by omega)] at h1 h2
    rw [← l1] at h2
    exact h'.2 _ b k h1 h2
theorem KeyL.one {cS a : Addr} {H : Hp} {z y : Str} (h : StepAt cS H a z y) : KeyL cS H [.ref a] [(z, y)] := ⟨rfl, fun i b k h1 h2 => by
  cases i with
  | zero =>
    cases h1
    cases h2
    exact ⟨a, rfl, h⟩
  | succ i => simp at h1⟩
theorem KeyL.is {cS : Addr} {H : Hp} {bs : List V} {ks : List (Str × Str)} (h : KeyL cS H bs ks) : ∀ b ∈ bs, IsSt cS H b := fun b hb => by
  obtain ⟨i, hi⟩ := List.getElem?_of_mem hb
  have lt := (List.getElem?_eq_some_iff.mp hi).1
  obtain ⟨a, e, st⟩ := h.2 i b (ks[i]'(by rw [← h.1]; exact lt)) hi (List.getElem?_eq_getElem _)
  exact ⟨a, _, _, e, st⟩
theorem KeyL.lst {cS D : Addr} {H : Hp} {ys zs bs : List V} {ks : List (Str × Str)} (e : H D = some (.lst ys)) (h : KeyL cS H bs ks) : KeyL cS (upd H D (.lst zs)) bs ks := ⟨h.1, fun i b k h1 h2 => by
  obtain ⟨a, q, dx, st⟩ := h.2 i b k h1 h2
  exact ⟨a, q, dx, by rw [upd_ne (ne_of st e (by intro z; cases z))]; exact st⟩⟩
def HasStX (K : PySem.W.Frag) (cS : Addr) (H : Hp) (e : V × List (Str × Str)) : Prop := ∃ bs ks, FldT K "steps" H e.1 bs ∧ KeyL cS H bs ks ∧ KysOf e.2 ks
theorem flT {α : Type} {ks : List (V × List α)} {i : Nat} {e : V × List α} (h : ks[i]? = some e) : ((ks.take (i + 1)).map (·.2)).flatten = ((ks.take i).map (·.2)).flatten ++ e.2 := by
  rw [List.take_add_one, h, List.map_append, List.flatten_append]
  simp
theorem flT_le {α : Type} (ks : List (V × List α)) (i : Nat) : ((ks.take i).map (·.2)).flatten.length ≤ (ks.map (·.2)).flatten.length := by
  have q : (ks.map (·.2)).flatten = ((ks.take i).map (·.2)).flatten ++ ((ks.drop i).map (·.2)).flatten := by
    rw [← List.flatten_append, ← List.map_append, List.take_append_drop]
  rw [q, List.length_append]
  omega
def spNamesX (K : PySem.W.Frag) : Sp := fun vs H Q _ => ∃ (p a : Addr) (own : List Str) (ks : List (V × List Str)), vs = [.ref p, .ref a] ∧ SqT K H p (ks.map (·.1)) ∧ H a = some (.lst (own.map V.str)) ∧ (∀ e ∈ ks, HasNmX K H e) ∧ own.length + (ks.map (·.2)).flatten.length < 64 ∧
  ∀ (q : Addr) (ys : List Str) (H' : Hp), Same H H' → H q = none → H' q = some (.tup (ys.map V.str)) → NmsOf (own ++ (ks.map (·.2)).flatten) ys → Q (.ref q) H'
def spStepsX (K : PySem.W.Frag) (cS : Addr) : Sp := fun vs H Q _ => ∃ (p a : Addr) (own : List V) (ok : List (Str × Str)) (ks : List (V × List (Str × Str))), vs = [.ref p, .ref a] ∧ SqT K H p (ks.map (·.1)) ∧ H a = some (.lst own) ∧ KeyL cS H own ok ∧ (∀ e ∈ ks, HasStX K cS H e) ∧ ok.length + (ks.map (·.2)).flatten.length < 64 ∧
  ∀ (q : Addr) (bs : List V) (js : List (Str × Str)) (H' : Hp), Same H H' → H q = none → H' q = some (.tup bs) → KeyL cS H' bs js → KysOf (ok ++ (ks.map (·.2)).flatten) js → Q (.ref q) H'
theorem putP_keys (es : Dn) (e : Str × Str) (v : V) : (putP es e v).map (·.1) = if e ∈ es.map (·.1) then es.map (·.1) else es.map (·.1) ++ [e] := by
  have q : ((es.any fun x => decide (x.1 = e)) = true) ↔ e ∈ es.map (·.1) := by
    rw [List.any_eq_true, List.mem_map]
    exact ⟨fun ⟨x, h1, h2⟩ => ⟨x, h1, of_decide_eq_true h2⟩, fun ⟨x, h1, h2⟩ => ⟨x, h1, decide_eq_true h2⟩⟩
  unfold putP
  by_cases h : e ∈ es.map (·.1)
  · rw [if_pos h, if_pos (q.mpr h), List.map_map]
    apply List.map_congr_left
    intro x _
    show (if x.1 = e then (x.1, v) else x).1 = x.1
    split <;> rfl
  · rw [if_neg h, if_neg fun z => h (q.mp z), List.map_append]
    rfl
theorem putP_nodup {es : Dn} {e : Str × Str} {v : V} (h : (es.map (·.1)).Nodup) : ((putP es e v).map (·.1)).Nodup := by
  rw [putP_keys]
  split
  · exact h
  · rename_i n
    rw [List.nodup_append]
    exact ⟨h, by simp, fun a ha b hb => by rw [List.mem_singleton.mp hb]; intro q; rw [q] at ha; exact n ha⟩
theorem putP_mem {es : Dn} {e : Str × Str} {v : V} (k : Str × Str) : k ∈ (putP es e v).map (·.1) ↔ k ∈ es.map (·.1) ∨ k = e := by
  rw [putP_keys]
  split
  · rename_i m
    exact ⟨.inl, fun h => h.elim id fun q => q ▸ m⟩
  · rw [List.mem_append, List.mem_singleton]
section
variable {P : Program} {w : World} {K : PySem.W.Frag} {mg : Str → Option Value} {base : Heap}
theorem ok_allNamesX {f : Addr} {fd : FuncData} (S : Std mg) (D : Dd K mg "all_names" sAllNames f fd ["holders", "more"]) : FnOk P w K mg base CX0 1 f fd ["holders", "more"] (spNamesX K) := by
  refine D.ok scAn (fun vs H Q E h => ?_) (fun cdv A outer s H vs Q E hr h => ?_)
  · obtain ⟨p, a, own, ks, rfl, _⟩ := h
    rfl
  · obtain ⟨p, a, own, ks, rfl, hp, ha, hk, few, q⟩ := h
    refine ⟨_, pss_cons (ps_set (i := 2) scAn.nd rfl (Or.inl rfl) (pe_callTy call_list_of (by rfl) S.list (by decide +kernel) (pa_cons (pv 1) pa_nil)))
      (pss_cons (ps_for PassesOwn.never rfl (pi_tup (pv 0)) (pg_name (i := 3) scAn.nd rfl (Or.inl rfl))
        (pss_one (ps_expr (pe_bm PySem.F.plainAttrs_list PySem.F.slot_list_extend PySem.F.type_list_extend mt_extT (pv 2) (pa_cons (pe_fld (pv 3) rfl) pa_nil)))))
      (pss_one (ps_ret (pe_callTy call_tuple_of (by rfl) S.tuple (by decide +kernel) (pa_cons (pe_callB (LR.cr_sortedSetS rfl) (by rfl) S.sorted (by decide +kernel)
        (pa_cons (pe_callTy (LR.cr_setL rfl) (by rfl) S.set (by decide +kernel) (pa_cons (pv 2) pa_nil)) pa_nil)) pa_nil))))), ?_⟩
    refine ⟨_, rfl, a, _, rfl, .inl (SqL.of ha), fun l hl => ?_⟩
    refine ⟨_, rfl, p, rfl, ⟨_, SqT.same (same_new hl) hp⟩, for_tup (xs := ks.map fun e : V × List Str => e.1) (fun i σ' H' => ∃ h zs, σ' = [some (.ref p), some (.ref a), some (.ref l), h] ∧ Same H H' ∧ H' l = some (.lst (zs.map V.str)) ∧ zs.length ≤ own.length + ((ks.take i).map (·.2)).flatten.length ∧ ∀ k, k ∈ zs ↔ k ∈ own ++ ((ks.take i).map (·.2)).flatten)
      ⟨_, own, rfl, same_new hl, upd_same, Nat.le_add_right _ _, fun k => by simp⟩ (fun i σ' H' _ h => ?_) (fun i x σ' H' hx h => ?_) (fun σ' H' h => ?_)⟩
    · obtain ⟨_, _, _, s1, _⟩ := h
      exact SqT.same s1 hp
    · obtain ⟨h0, zs, rfl, s1, hz, len, mem⟩ := h
      rw [List.getElem?_map] at hx
      obtain ⟨e, he, rfl⟩ := Option.map_eq_some_iff.mp hx
      obtain ⟨ys, ⟨b, C, dx, fs, q1, e1, hb, c, n, lk, t⟩, no⟩ := hk e (List.mem_of_getElem? he)
      have e2 := flT he
      have few1 := no.le
      have e3 := flT_le ks (i + 1)
      rw [e2, List.length_append] at e3
      refine ⟨_, rfl, .inl ⟨rfl, _, SqL.of hz⟩, _, rfl, b, C, dx, fs, .ref q1, e1, s1 _ _ hb, c, n, lk, l, q1, zs.map V.str, ys.map V.str, rfl, rfl, hz, SqT.same s1 t, ?_, ?_⟩
      · rw [List.length_map, List.length_map, sizeLine_eq]
        omega
      · refine ⟨_, zs ++ ys, rfl, same_put hl s1, by rw [upd_same, List.map_append], ?_, fun k => ?_⟩
        · rw [List.length_append, e2, List.length_append]
          omega
        · rw [e2, List.mem_append, mem k, no.mem k, ← List.append_assoc, List.mem_append (s := own ++ _)]
    · obtain ⟨h0, zs, rfl, s1, hz, len, mem⟩ := h
      rw [List.take_of_length_le (by rw [List.length_map]; exact Nat.le_refl _)] at len mem
      refine ⟨_, rfl, l, zs, rfl, SqL.of hz, by omega, fun p2 c hp2 hc => ?_⟩
      refine ⟨p2, _, c, rfl, upd_same, by omega, fun ys p3 o1 o2 o3 o4 hp3 => ⟨p3, _, rfl, .inl ⟨SqL.of upd_same, fun l4 hl4 => q _ ys _ (((s1.trans (same_new hp2)).trans (same_new hp3)).trans (same_new hl4)) (Same.free ((s1.trans (same_new hp2)).trans (same_new hp3)) hl4) upd_same (nms_of o1 o2 fun k => ?_)⟩⟩⟩
      rw [o3 k, ← mem k]
      exact decide_eq_true_iff
theorem ok_allStepsX {cS f : Addr} {fd : FuncData} (S : Std mg) (cl : Cls K cS) (n1 : NoAttr K cS "name") (n2 : NoAttr K cS "ways") (D : Dd K mg "all_steps" sAllSteps f fd ["holders", "more"]) : FnOk P w K mg base CX0 1 f fd ["holders", "more"] (spStepsX K cS) := by
  refine D.ok scAs (fun vs H Q E h => ?_) (fun cdv A outer s H vs Q E hr h => ?_)
  · obtain ⟨p, a, own, ok, ks, rfl, _⟩ := h
    rfl
  · obtain ⟨p, a, own, ok, ks, rfl, hp, ha, ho, hk, few, q⟩ := h
    refine ⟨_, pss_cons (ps_set (i := 2) scAs.nd rfl (Or.inl rfl) (pe_callTy call_list_of (by rfl) S.list (by decide +kernel) (pa_cons (pv 1) pa_nil)))
      (pss_cons (ps_for PassesOwn.never rfl (pi_tup (pv 0)) (pg_name (i := 4) scAs.nd rfl (Or.inl rfl))
        (pss_one (ps_expr (pe_bm PySem.F.plainAttrs_list PySem.F.slot_list_extend PySem.F.type_list_extend mt_extT (pv 2) (pa_cons (pe_fld (pv 4) rfl) pa_nil)))))
      (pss_cons (ps_set (i := 3) scAs.nd rfl (Or.inr rfl) (pe_dcT (own := [("step", 5)]) (g := gName 5) (tt := tYes) (tk := tTup (tCons (tFld K (tVar 5) "name") (tCons (tFld K (tVar 5) "ways") tNil))) (tv := tVar 5) rfl hr.units0 scAs.nd (pi_list (pv 2)) (blkOk_by (N := nAs) (sc := defScope sAllSteps) (by decide +kernel))
          (fun _ _ _ _ _ => pg_name (i := 5) scAs.nd rfl (Or.inl rfl)) (fun _ _ _ _ _ => pts_nil) (fun _ _ _ _ _ => pe_tup (pa_cons (pe_fld (pv 5) rfl) (pa_cons (pe_fld (pv 5) rfl) pa_nil))) (fun _ _ _ _ _ => pv 5)))
      (pss_one (ps_ret (pe_callTy call_tuple_of (by rfl) S.tuple (by decide +kernel) (pa_cons (pe_lc (own := [("key", 6)]) (g := gName 6) (tt := tYes) rfl scAs.nd
          (pi_list (pe_callB (cr_sortedDT rfl) (by rfl) S.sorted (by decide +kernel) (pa_cons (pv 3) pa_nil))) (blkOk_by (N := nAs) (sc := defScope sAllSteps) (by decide +kernel))
          (fun _ _ _ _ _ => pg_name (i := 6) scAs.nd rfl (Or.inl rfl)) (fun _ _ _ _ _ => pts_nil) (fun _ _ _ _ _ => pe_dget (by show (A.deeper (envOfC "all_steps" (defScope sAllSteps) s.heap.objs.size f cdv)).units + 1 < cLine; have := hr.units; omega) (pv 3) (pv 6) (fun _ _ => rfl))) pa_nil)))))), ?_⟩
    refine ⟨_, rfl, a, _, rfl, .inl (SqL.of ha), fun l hl => ?_⟩
    refine ⟨_, rfl, p, rfl, ⟨_, SqT.same (same_new hl) hp⟩, for_tup (xs := ks.map fun e : V × List (Str × Str) => e.1) (fun i σ' H' => ∃ h zs js, σ' = [some (.ref p), some (.ref a), some (.ref l), none, h, none, none] ∧ Same H H' ∧ H' l = some (.lst zs) ∧ KeyL cS H' zs js ∧ js.length ≤ ok.length + ((ks.take i).map (·.2)).flatten.length ∧ ∀ k, k ∈ js ↔ k ∈ ok ++ ((ks.take i).map (·.2)).flatten)
      ⟨_, own, ok, rfl, same_new hl, upd_same, ho.same (same_new hl), Nat.le_add_right _ _, fun k => by simp⟩ (fun i σ' H' _ h => ?_) (fun i x σ' H' hx h => ?_) (fun σ' H' h => ?_)⟩
    · obtain ⟨_, _, _, _, s1, _⟩ := h
      exact SqT.same s1 hp
    · obtain ⟨h0, zs, js, rfl, s1, hz, gz, len, mem⟩ := h
      rw [List.getElem?_map] at hx
      obtain ⟨e, he, rfl⟩ := Option.map_eq_some_iff.mp hx
      obtain ⟨ys, is, ⟨b, C, dx, fs, q1, e1, hb, c, n, lk, t⟩, gy, no⟩ := hk e (List.mem_of_getElem? he)
      have e2 := flT he
      have few1 := no.le
      have e3 := flT_le ks (i + 1)
      rw [e2, List.length_append] at e3
      have l1 := gz.1
      have l2 := gy.1
      refine ⟨_, rfl, .inl ⟨rfl, _, SqL.of hz⟩, _, rfl, b, C, dx, fs, .ref q1, e1, s1 _ _ hb, c, n, lk, l, q1, zs, ys, rfl, rfl, hz, SqT.same s1 t, ?_, ?_⟩
      · rw [sizeLine_eq]
        omega
      · refine ⟨_, zs ++ ys, js ++ is, rfl, same_put hl s1, upd_same, (gz.app (gy.same s1)).lst hz, ?_, fun k => ?_⟩
        · rw [List.length_append, e2, List.length_append]
          omega
        · rw [e2, List.mem_append, mem k, no.mem k, ← List.append_assoc, List.mem_append (s := ok ++ _)]
    · obtain ⟨h0, zs, js, rfl, s1, hz, gz, len, mem⟩ := h
      rw [List.take_of_length_le (by rw [List.length_map]; exact Nat.le_refl _)] at len mem
      have l1 := gz.1
      refine ⟨_, rfl, l, rfl, ⟨_, SqL.of hz⟩, fun d hd => dcT_list (xs := zs) (fun i H4 => Same H' H4 ∧ ∃ es : Dn, H4 d = some (.dT (es.map ent2)) ∧ es.length ≤ i ∧ (∀ x ∈ es, StE cS H' x) ∧ (es.map (·.1)).Nodup ∧ ∀ k, k ∈ es.map (·.1) ↔ k ∈ js.take i) ⟨same_new hd, [], upd_same, Nat.le_refl _, (fun _ h => nomatch h), .nil, fun k => by simp⟩
        (fun i H4 h => SqL.of (h.1 _ _ hz)) (fun i v H4 hv h => ?_) (fun H4 h => ?_)⟩
      · obtain ⟨s4, es, hd4, le, ge, nd, me⟩ := h
        have le2 : i < zs.length := (List.getElem?_eq_some_iff.mp hv).1
        have hj : js[i]? = some (js[i]'(by omega)) := List.getElem?_eq_getElem _
        obtain ⟨b, rfl, dx, hb⟩ := gz.2 i v _ hv hj
        generalize js[i]'(by omega) = zy at hj hb
        obtain ⟨z, y⟩ := zy
        refine ⟨rfl, ?_⟩
        refine ⟨_, rfl, b, cS, dx, _, _, rfl, s4 _ _ hb, cl, n1, rfl, _, rfl, b, cS, dx, _, _, rfl, s4 _ _ hb, cl, n2, rfl, (by show 2 ≤ sizeLine; decide), fun t ht => ?_⟩
        refine ⟨_, rfl, es.map ent2, kT (z, y), t, rfl, upd_same, ?_, ?_, ?_⟩
        · rw [upd_ne (ne_of_none hd4 ht)]
          exact hd4
        · rw [List.length_map, sizeLine_eq]
          omega
        · rw [putK_ent]
          refine ⟨same_put hd (s4.trans (same_new ht)), putP es (z, y) (.ref b), upd_same, Nat.le_trans (putP_len _ _ _) (by omega), putP_all ge ⟨b, rfl, dx, hb⟩, putP_nodup nd, fun k => ?_⟩
          rw [putP_mem, me k, List.take_add_one, hj, List.mem_append]
          simp
      · obtain ⟨s4, es, hd4, le, ge, nd, me⟩ := h
        rw [l1, List.take_length] at me
        refine ⟨_, rfl, d, es, rfl, hd4, fun kz p3 pm up hk hp3 => ?_⟩
        have s5 : Same H' (upd H4 p3 (.lst (kz.map fun z => V.ref z.2))) := s4.trans (same_new hp3)
        have kl : kz.length = es.length := by
          have := pm.length_eq
          rwa [List.length_map, List.length_map] at this
        have kys : KysOf (ok ++ (ks.map (·.2)).flatten) (kz.map (·.1)) := by
          refine ⟨?_, fun k => by rw [pm.mem_iff, me k, mem k]⟩
          have n2 : (kz.map (·.1)).Nodup := pm.nodup_iff.mpr nd
          rw [List.pairwise_map]
          have n3 := List.pairwise_map.mp n2
          exact (up.and n3).imp fun h => ⟨h.1, h.2⟩
        refine ⟨p3, rfl, ⟨_, SqL.of upd_same⟩, fun D5 hD5 => lc_list (xs := kz.map fun z => V.ref z.2) (fun i H6 => Same (upd H4 p3 (.lst (kz.map fun z => V.ref z.2))) H6 ∧ ∃ bs, H6 D5 = some (.lst bs) ∧ bs.length = i ∧ KeyL cS H' bs ((kz.map (·.1)).take i))
          ⟨same_new hD5, [], upd_same, rfl, by rw [List.take_zero]; exact KeyL.nil⟩ (fun i H6 _ h => SqL.of (h.1 _ _ upd_same)) (fun i v H6 hv h => ?_) (fun H6 h => ?_)⟩
        · obtain ⟨s6, bs, hb6, lb, gb⟩ := h
          rw [List.getElem?_map] at hv
          obtain ⟨z, hz2, rfl⟩ := Option.map_eq_some_iff.mp hv
          have mz := List.mem_of_getElem? hz2
          obtain ⟨v, v1, v2⟩ := valV_ent es z.1 (pm.mem_iff.mp (List.mem_map_of_mem mz))
          obtain ⟨b, rfl, hb⟩ := ge _ v2
          have il : i < kz.length := (List.getElem?_eq_some_iff.mp hz2).1
          have pz : H6 z.2 = some (.tup ((kT z.1).map kV)) := s6 _ _ (same_new hp3 _ _ (hk z mz))
          have dz : H6 d = some (.dT (es.map ent2)) := s6 _ _ (same_new hp3 _ _ hd4)
          refine ⟨rfl, _, rfl, _, rfl, d, .ref b, rfl, v1 ▸ DGet.t dz pz, bs, hb6, by rw [lb, sizeLine_eq]; omega, same_put hD5 s6, bs ++ [.ref b], upd_same, by rw [List.length_append, lb]; rfl, ?_⟩
          rw [List.take_add_one, List.getElem?_map, hz2]
          exact gb.app (KeyL.one hb)
        · obtain ⟨s6, bs, hb6, lb, gb⟩ := h
          have s7 : Same H' H6 := s5.trans s6
          rw [List.take_of_length_le (by rw [List.length_map, List.length_map]; exact Nat.le_refl _)] at gb
          exact ⟨D5, _, rfl, .inl ⟨SqL.of hb6, fun l5 hl5 => q _ bs _ _ ((s1.trans s7).trans (same_new hl5)) (Same.free (s1.trans s7) hl5) upd_same (gb.same (s7.trans (same_new hl5))) kys⟩⟩
end
end LK

namespace LK
open PySem PySem.Spec PyProof.Rows L2 LR
/-! ### expressions -/
structure ExN (K : PySem.W.Frag) (C : Addr) : Prop where
  kind : NoAttr K C "kind"
  word : NoAttr K C "word"
  step : NoAttr K C "step"
  parts : NoAttr K C "parts"
  names : NoAttr K C "names"
  steps : NoAttr K C "steps"
  size : NoAttr K C "size"
  applied : NoAttr K C "applied"
  other : ∃ cS, cS ≠ C ∧ Cls K cS ∧ NoAttr K cS "name" ∧ NoAttr K cS "ways"
abbrev exFs (kd z : Str) (st : V) (p q1 q2 : Addr) (i j : Int) : List (Str × V) := [("kind", .str kd), ("word", .str z), ("step", st), ("parts", .ref p), ("names", .ref q1), ("steps", .ref q2), ("size", .int i), ("applied", .int j)]
/-- an expression of at most n names and steps -/
def ExF (C cS : Addr) (H : Hp) (a : Addr) (kd z : Str) (st : V) (p : Addr) (n : Nat) : Prop := ∃ dx q1 q2 i j, ∃ (zs : List Str) (bs : List V), H a = some (.ins C dx (exFs kd z st p q1 q2 i j)) ∧
  H q1 = some (.tup (zs.map V.str)) ∧ H q2 = some (.tup bs) ∧ zs.length ≤ n ∧ bs.length ≤ n ∧ ∀ b ∈ bs, IsSt cS H b
def IsEx (C cS : Addr) (H : Hp) (e : V × Nat) : Prop := ∃ a kd z st p, e.1 = .ref a ∧ ExF C cS H a kd z st p e.2
theorem ExF.same {C cS : Addr} {H H' : Hp} {a : Addr} {kd z : Str} {st : V} {p : Addr} {n : Nat} (s : Same H H') (h : ExF C cS H a kd z st p n) : ExF C cS H' a kd z st p n := by
  obtain ⟨dx, q1, q2, i, j, zs, bs, e, t1, t2, l1, l2, g⟩ := h
  exact ⟨dx, q1, q2, i, j, zs, bs, s _ _ e, s _ _ t1, s _ _ t2, l1, l2, fun b hb => (g b hb).same s⟩
theorem IsEx.same {C cS : Addr} {H H' : Hp} {e : V × Nat} (s : Same H H') (h : IsEx C cS H e) : IsEx C cS H' e := by
  obtain ⟨a, kd, z, st, p, q, f⟩ := h
  exact ⟨a, kd, z, st, p, q, f.same s⟩
/-- v is an expression of this kind, word and step, its parts ps, with at most n names and steps -/
def ExP (K : PySem.W.Frag) (C cS : Addr) (H : Hp) (v : V) (kd z : Str) (st : V) (ps : List V) (n : Nat) : Prop := ∃ a p, v = .ref a ∧ ExF C cS H a kd z st p n ∧ SqT K H p ps
theorem ExP.same {K : PySem.W.Frag} {C cS : Addr} {H H' : Hp} {v : V} {kd z : Str} {st : V} {ps : List V} {n : Nat} (s : Same H H') (h : ExP K C cS H v kd z st ps n) : ExP K C cS H' v kd z st ps n := by
  obtain ⟨a, p, e, f, t⟩ := h
  exact ⟨a, p, e, f.same s, SqT.same s t⟩
theorem ExP.is {K : PySem.W.Frag} {C cS : Addr} {H : Hp} {v : V} {kd z : Str} {st : V} {ps : List V} {n : Nat} (h : ExP K C cS H v kd z st ps n) : IsEx C cS H (v, n) := by
  obtain ⟨a, p, e, f, t⟩ := h
  exact ⟨a, kd, z, st, p, e, f⟩
theorem IsSt.put {C cS x dx : Addr} {H : Hp} {fs gs : List (Str × V)} {v : V} (ne : cS ≠ C) (e : H x = some (.ins C dx fs)) (h : IsSt cS H v) : IsSt cS (upd H x (.ins C dx gs)) v := by
  obtain ⟨b, z, y, q, d, hb⟩ := h
  refine ⟨b, z, y, q, d, ?_⟩
  rw [upd_ne (ne_of hb e (by intro z; injection z with z1; exact ne z1))]
  exact hb
theorem IsEx.put {C cS x dx : Addr} {H : Hp} {fs gs : List (Str × V)} {v : V × Nat} (ne : cS ≠ C) (e : H x = some (.ins C dx fs)) (fl : fs.length < 8) (h : IsEx C cS H v) : IsEx C cS (upd H x (.ins C dx gs)) v := by
  obtain ⟨a, kd, z, st, p, q, d, q1, q2, i, j, zs, bs, ha, t1, t2, l1, l2, g⟩ := h
  refine ⟨a, kd, z, st, p, q, d, q1, q2, i, j, zs, bs, ?_, ?_, ?_, l1, l2, fun b hb => (g b hb).put ne e⟩
  · rw [upd_ne (ne_of ha e (by intro z; injection z with _ _ z3; rw [← z3] at fl; simp at fl))]
    exact ha
  · rw [upd_ne (ne_of t1 e (by intro z; cases z))]
    exact t1
  · rw [upd_ne (ne_of t2 e (by intro z; cases z))]
    exact t2
/-- while it is filled -/
structure Fill (K : PySem.W.Frag) (C cS x dx l l2 : Addr) (own : List Str) (own2 : List V) (ks : List (V × Nat)) (ts tr : List (Addr × List V)) (gb : List V) (H0 H : Hp) (fs : List (Str × V)) : Prop where
  at_ : H x = some (.ins C dx fs)
  l1 : H l = some (.lst (own.map V.str))
  l2 : H l2 = some (.lst own2)
  ts : ∀ t ∈ ts, SqT K H t.1 t.2
  tr : ∀ t ∈ tr, H t.1 = some (.tup t.2)
  st : ∀ b ∈ gb, IsSt cS H b
  pk : ∀ e ∈ ks, IsEx C cS H e
  kp : Keep x H0 H
theorem sqT_put {K : PySem.W.Frag} {H : Hp} {x p C dx : Addr} {fs gs : List (Str × V)} {ys : List V} (h : SqT K H p ys) (e : H x = some (.ins C dx fs)) : SqT K (upd H x (.ins C dx gs)) p ys := by
  have ne : ∀ o, H p = some o → o ≠ .ins C dx fs → p ≠ x := fun o e1 n z => by
    rw [z, e] at e1
    exact n (Option.some.inj e1).symm
  rcases h with (h | ⟨o, h⟩) | h
  · exact .inl (.inl (by rw [upd_ne (ne _ h (by intro z; cases z))]; exact h))
  · exact .inl (.inr ⟨o, by rw [upd_ne (ne _ h (by intro z; cases z))]; exact h⟩)
  · exact .inr h
section
variable {K : PySem.W.Frag} {C cS x dx l l2 : Addr} {own : List Str} {own2 : List V} {ks : List (V × Nat)} {ts tr : List (Addr × List V)} {gb : List V} {H0 H H' : Hp} {fs : List (Str × V)}
theorem Fill.same (h : Fill K C cS x dx l l2 own own2 ks ts tr gb H0 H fs) (s : Same H H') : Fill K C cS x dx l l2 own own2 ks ts tr gb H0 H' fs :=
  ⟨s _ _ h.at_, s _ _ h.l1, s _ _ h.l2, fun t ht => SqT.same s (h.ts t ht), fun t ht => s _ _ (h.tr t ht), fun b hb => (h.st b hb).same s, fun e he => (h.pk e he).same s, h.kp.trans (Keep.same s)⟩
theorem Fill.put (h : Fill K C cS x dx l l2 own own2 ks ts tr gb H0 H fs) (ne : cS ≠ C) (fl : fs.length < 8) (gs : List (Str × V)) : Fill K C cS x dx l l2 own own2 ks ts tr gb H0 (upd H x (.ins C dx gs)) gs :=
  ⟨upd_same, by rw [upd_ne (ne_of h.l1 h.at_ (by intro z; cases z))]; exact h.l1, by rw [upd_ne (ne_of h.l2 h.at_ (by intro z; cases z))]; exact h.l2, fun t ht => sqT_put (h.ts t ht) h.at_, fun t ht => by rw [upd_ne (ne_of (h.tr t ht) h.at_ (by intro z; cases z))]; exact h.tr t ht, fun b hb => (h.st b hb).put ne h.at_, fun e he => (h.pk e he).put ne h.at_ fl, h.kp.trans Keep.put⟩
theorem Fill.tup (h : Fill K C cS x dx l l2 own own2 ks ts tr gb H0 H fs) {q : Addr} {ys : List V} (t : H q = some (.tup ys)) : Fill K C cS x dx l l2 own own2 ks ts ((q, ys) :: tr) gb H0 H fs :=
  ⟨h.at_, h.l1, h.l2, h.ts, fun u hu => (List.mem_cons.mp hu).elim (fun e => by rw [e]; exact t) (h.tr u), h.st, h.pk, h.kp⟩
theorem Fill.free (h : Fill K C cS x dx l l2 own own2 ks ts tr gb H0 H fs) {b : Addr} (n : H b = none) : H0 b = none := by
  cases e : H0 b with
  | none => rfl
  | some o =>
    rw [h.kp b o (ne_of_none h.at_ n).symm e] at n
    cases n
theorem Fill.sts (h : Fill K C cS x dx l l2 own own2 ks ts tr gb H0 H fs) {bs : List V} (t : ∀ b ∈ bs, IsSt cS H b) : Fill K C cS x dx l l2 own own2 ks ts tr (bs ++ gb) H0 H fs :=
  ⟨h.at_, h.l1, h.l2, h.ts, h.tr, fun u hu => (List.mem_append.mp hu).elim (t u) (h.st u), h.pk, h.kp⟩
end
theorem IsEx.hasNames {K : PySem.W.Frag} {C cS : Addr} {H : Hp} {e : V × Nat} (cl : Cls K C) (n : ExN K C) (h : IsEx C cS H e) : HasNames K H e := by
  obtain ⟨a, kd, z, st, p, q, d, q1, q2, i, j, zs, bs, ha, t1, t2, l1, l2, g⟩ := h
  exact ⟨zs, ⟨a, C, d, _, q1, q, ha, cl, n.names, rfl, SqT.of t1⟩, l1⟩
theorem IsEx.hasSteps {K : PySem.W.Frag} {C cS : Addr} {H : Hp} {e : V × Nat} (cl : Cls K C) (n : ExN K C) (h : IsEx C cS H e) : HasSteps K cS H e := by
  obtain ⟨a, kd, z, st, p, q, d, q1, q2, i, j, zs, bs, ha, t1, t2, l1, l2, g⟩ := h
  exact ⟨bs, ⟨a, C, d, _, q2, q, ha, cl, n.steps, rfl, SqT.of t2⟩, l2, g⟩
theorem ite_te {c : Prop} [Decidable c] {t1 t2 : TE} {σ : L2.St} {H : Hp} {G : VK} (P : V → Hp → Prop) (h1 : (∀ y H', P y H' → G y H') → c → t1 σ H G) (h2 : (∀ y H', P y H' → G y H') → ¬ c → t2 σ H G) (key : ∀ y H', P y H' → G y H') : if c then t1 σ H G else t2 σ H G := by
  by_cases h : c
  · rw [if_pos h]
    exact h1 key h
  · rw [if_neg h]
    exact h2 key h
def ownN (kd z : Str) : List Str := if kd = "name" then [z] else []
def ownS (st : V) : List V := if st = .non then [] else [st]
theorem ownN_le (kd z : Str) : (ownN kd z).length ≤ 1 := by
  unfold ownN
  split
  · exact Nat.le_refl _
  · exact Nat.zero_le _
theorem ownS_le (st : V) : (ownS st).length ≤ 1 := by
  unfold ownS
  split
  · exact Nat.zero_le _
  · exact Nat.le_refl _
def spExInit (K : PySem.W.Frag) (C cS : Addr) : Sp := fun vs H Q _ => ∃ (x dx p : Addr) (kd z : Str) (st : V) (ks : List (V × Nat)), vs = [.ref x, .str kd, .str z, st, .ref p] ∧ H x = some (.ins C dx []) ∧ SqT K H p (ks.map fun e => e.1) ∧ (∀ e ∈ ks, IsEx C cS H e) ∧
  (st = .non ∨ IsSt cS H st) ∧ 1 + tot ks < 64 ∧ ks.length < 64 ∧ ∀ H', (∃ q1 q2 i j, ∃ (zs : List Str) (bs : List V), H' x = some (.ins C dx (exFs kd z st p q1 q2 i j)) ∧ H q1 = none ∧ H q2 = none ∧ H' q1 = some (.tup (zs.map V.str)) ∧ H' q2 = some (.tup bs) ∧
    zs.length ≤ (ownN kd z).length + tot ks ∧ bs.length ≤ (ownS st).length + tot ks ∧ ∀ b ∈ bs, IsSt cS H' b) → Keep x H H' → Q .non H'
section
variable {P : Program} {w : World} {K : PySem.W.Frag} {mg : Str → Option Value} {base : Heap}
def nEx : List Str := ["self", "kind", "word", "step", "parts", "own_names", "own_steps", "part"]
theorem scEx : FnScope nEx ["self", "kind", "word", "step", "parts"] (defScope sExprInit) := ⟨rfl, rfl, rfl, by decide +kernel, rfl, by decide +kernel, by decide +kernel⟩
theorem ok_exInit {C cS f fN fS : Addr} {fd fdN fdS : FuncData} (S : Std mg) (cl : Cls K C) (n : ExN K C) (ne : cS ≠ C) (clS : Cls K cS) (s1 : NoAttr K cS "name") (s2 : NoAttr K cS "ways") (F : Fun K "__init__" "Expr.__init__" sExprInit f fd) (N : Dd K mg "all_names" sAllNames fN fdN ["holders", "more"]) (T : Dd K mg "all_steps" sAllSteps fS fdS ["holders", "more"]) :
    FnOk P w K mg base CX0 2 f fd ["self", "kind", "word", "step", "parts"] (spExInit K C cS) := by
  have GN : FnOk P w K mg base CX0 1 fN fdN ["holders", "more"] (spNames K) := ok_allNames S N
  have GS : FnOk P w K mg base CX0 1 fS fdS ["holders", "more"] (spSteps K cS) := ok_allSteps S clS s1 s2 T
  refine F.ok scEx (fun vs H Q E h => ?_) (fun cdv A outer s H vs Q E hr h => ?_)
  · obtain ⟨x, dx, p, kd, z, st, ks, rfl, _⟩ := h
    rfl
  · obtain ⟨x, dx, p, kd, z, st, ks, rfl, hx, hp, hk, hst, few, short, q⟩ := h
    refine ⟨_, pss_cons (ps_set (i := 5) scEx.nd rfl (Or.inl rfl) (pe_ifExp (pt_cmpR op_eq (pv 1) pe_str (nomark _)) (pe_lst (pa_cons (pv 2) pa_nil)) (pe_lst pa_nil)))
      (pss_cons (ps_set (i := 6) scEx.nd rfl (Or.inl rfl) (pe_ifExp (pt_cmp (pc_isN (pv 3))) (pe_lst pa_nil) (pe_lst (pa_cons (pv 3) pa_nil))))
      (pss_cons (ps_fld (pv 0) (pv 1) rfl) (pss_cons (ps_fld (pv 0) (pv 2) rfl) (pss_cons (ps_fld (pv 0) (pv 3) rfl) (pss_cons (ps_fld (pv 0) (pv 4) rfl)
      (pss_cons (ps_fld (pv 0) (pe_call GN hr rfl N.g N.kp N.b .nil pass0 (pa_cons (pv 4) (pa_cons (pv 5) pa_nil))) rfl)
      (pss_cons (ps_fld (pv 0) (pe_call GS hr rfl T.g T.kp T.b .nil pass0 (pa_cons (pv 4) (pa_cons (pv 6) pa_nil))) rfl)
      (pss_cons (ps_fld (pv 0) (pe_op op_add pe_int (pe_callB (cr_sum rfl) (by rfl) S.sum (by decide +kernel) (pa_cons (pe_lc (own := [("part", 7)]) (g := gName 7) (tt := tYes) (te := tFld K (tVar 7) "size") rfl scEx.nd
          (pi_tup (pv 4)) (blkOk_by (N := nEx) (sc := defScope sExprInit) (by decide +kernel)) (fun _ _ _ _ _ => pg_name (i := 7) scEx.nd rfl (Or.inl rfl)) (fun _ _ _ _ _ => pts_nil) (fun _ _ _ _ _ => pe_fld (pv 7) rfl)) pa_nil))) rfl)
      (pss_one (ps_fld (pv 0) (pe_op op_add (pe_callB call_len_seq (by rfl) S.len PySem.boot_len (pa_cons (pv 6) pa_nil)) (pe_callB (cr_sum rfl) (by rfl) S.sum (by decide +kernel) (pa_cons (pe_lc (own := [("part", 7)]) (g := gName 7) (tt := tYes) (te := tFld K (tVar 7) "applied") rfl scEx.nd
          (pi_tup (pv 4)) (blkOk_by (N := nEx) (sc := defScope sExprInit) (by decide +kernel)) (fun _ _ _ _ _ => pg_name (i := 7) scEx.nd rfl (Or.inl rfl)) (fun _ _ _ _ _ => pts_nil) (fun _ _ _ _ _ => pe_fld (pv 7) rfl)) pa_nil))) rfl)))))))))), ?_⟩
    refine ⟨_, rfl, rfl, _, rfl, ite_te (fun y H' => ∃ l, y = .ref l ∧ H' l = some (.lst ((ownN kd z).map V.str)) ∧ Same H H') (fun key c => ?_) (fun key c => ?_) (fun y Hl hl => ?_)⟩
    · refine ⟨_, rfl, (by show 1 ≤ sizeLine; decide), fun l hl => key _ _ ⟨l, rfl, ?_, same_new hl⟩⟩
      have e : kd = "name" := by simpa using c
      rw [upd_same, ownN, if_pos e]
      rfl
    · refine ⟨(by show 0 ≤ sizeLine; decide), fun l hl => key _ _ ⟨l, rfl, ?_, same_new hl⟩⟩
      have e : ¬ kd = "name" := by simpa using c
      rw [upd_same, ownN, if_neg e]
      rfl
    obtain ⟨l, rfl, hl1, sl⟩ := hl
    refine ⟨_, rfl, _, rfl, ite_te (fun y H' => ∃ l2, y = .ref l2 ∧ H' l2 = some (.lst (ownS st)) ∧ Same Hl H') (fun key c => ?_) (fun key c => ?_) (fun y Ha hl => ?_)⟩
    · refine ⟨(by show 0 ≤ sizeLine; decide), fun l hl => key _ _ ⟨l, rfl, ?_, same_new hl⟩⟩
      have e : st = .non := by simpa using c
      rw [upd_same, ownS, if_pos e]
    · refine ⟨_, rfl, (by show 1 ≤ sizeLine; decide), fun l hl => key _ _ ⟨l, rfl, ?_, same_new hl⟩⟩
      have e : ¬ st = .non := by simpa using c
      rw [upd_same, ownS, if_neg e]
    obtain ⟨l2, rfl, hl2, sl2⟩ := hl
    have s2 : Same H Ha := sl.trans sl2
    have f0 : Fill K C cS x dx l l2 (ownN kd z) (ownS st) ks [(p, ks.map fun e => e.1)] [] (ownS st) H Ha [] := by
      refine ⟨s2 _ _ hx, sl2 _ _ hl1, hl2, fun t ht => ?_, (fun _ h => nomatch h), fun b hb => ?_, fun e he => (hk e he).same s2, Keep.same s2⟩
      · rw [List.mem_singleton.mp ht]
        exact SqT.same s2 hp
      · unfold ownS at hb
        by_cases e : st = .non
        · rw [if_pos e] at hb
          cases hb
        · rw [if_neg e] at hb
          rw [List.mem_singleton.mp hb]
          exact (hst.resolve_left e).same s2
    refine ⟨_, rfl, _, rfl, x, C, dx, _, rfl, f0.at_, cl, n.kind, by decide, ?_⟩
    have f1 := f0.put ne (by decide) (putF "kind" (.str kd) [])
    generalize e1 : putF "kind" (.str kd) [] = g1 at f1 ⊢
    have m1 : g1.length = 1 := by rw [← e1]; rfl
    generalize upd Ha x (.ins C dx g1) = Hb at f1 ⊢
    refine ⟨_, rfl, _, rfl, x, C, dx, _, rfl, f1.at_, cl, n.word, by omega, ?_⟩
    have f2 := f1.put ne (by omega) (putF "word" (.str z) g1)
    generalize e2 : putF "word" (.str z) g1 = g2 at f2 ⊢
    have m2 : g2.length = 2 := by rw [← e2, ← e1]; rfl
    generalize upd Hb x (.ins C dx g2) = Hc at f2 ⊢
    refine ⟨_, rfl, _, rfl, x, C, dx, _, rfl, f2.at_, cl, n.step, by omega, ?_⟩
    have f3 := f2.put ne (by omega) (putF "step" st g2)
    generalize e3 : putF "step" st g2 = g3 at f3 ⊢
    have m3 : g3.length = 3 := by rw [← e3, ← e2, ← e1]; rfl
    generalize upd Hc x (.ins C dx g3) = Hd at f3 ⊢
    refine ⟨_, rfl, _, rfl, x, C, dx, _, rfl, f3.at_, cl, n.parts, by omega, ?_⟩
    have f4 := f3.put ne (by omega) (putF "parts" (.ref p) g3)
    generalize e4 : putF "parts" (.ref p) g3 = g4 at f4 ⊢
    have m4 : g4.length = 4 := by rw [← e4, ← e3, ← e2, ← e1]; rfl
    generalize upd Hd x (.ins C dx g4) = He at f4 ⊢
    have o1 := ownN_le kd z
    have o2 := ownS_le st
    refine ⟨_, rfl, _, rfl, p, l, ownN kd z, ks, rfl, f4.ts _ List.mem_cons_self, f4.l1, fun e he => (f4.pk e he).hasNames cl n, by omega, fun q4 ys J4 s4 n4 t4 len4 => ?_⟩
    have k4 := f4.free n4
    have f4' := (f4.same s4).tup t4
    refine ⟨_, rfl, x, C, dx, _, rfl, f4'.at_, cl, n.names, by omega, ?_⟩
    have f5 := f4'.put ne (by omega) (putF "names" (.ref q4) g4)
    generalize e5 : putF "names" (.ref q4) g4 = g5 at f5 ⊢
    have m5 : g5.length = 5 := by rw [← e5, ← e4, ← e3, ← e2, ← e1]; rfl
    generalize upd J4 x (.ins C dx g5) = Hf at f5 ⊢
    refine ⟨_, rfl, _, rfl, p, l2, ownS st, ks, rfl, f5.ts _ List.mem_cons_self, f5.l2, f5.st, fun e he => (f5.pk e he).hasSteps cl n, by omega, fun q5 bs J5 s5 n5 t5 g5s len5 => ?_⟩
    have k5 := f5.free n5
    have f5' := ((f5.same s5).tup t5).sts g5s
    refine ⟨_, rfl, x, C, dx, _, rfl, f5'.at_, cl, n.steps, by omega, ?_⟩
    have f6 := f5'.put ne (by omega) (putF "steps" (.ref q5) g5)
    generalize e6 : putF "steps" (.ref q5) g5 = g6 at f6 ⊢
    have m6 : g6.length = 6 := by rw [← e6, ← e5, ← e4, ← e3, ← e2, ← e1]; rfl
    generalize upd J5 x (.ins C dx g6) = Hg at f6 ⊢
    refine ⟨_, rfl, p, rfl, ⟨_, f6.ts _ List.mem_cons_self⟩, fun D6 hD6 => lc_tup (xs := ks.map fun e : V × Nat => e.1) (fun i H4 => Same Hg H4 ∧ ∃ is : List Int, H4 D6 = some (.lst (is.map V.int)) ∧ is.length = i)
      ⟨same_new hD6, [], upd_same, rfl⟩ (fun i H4 _ h => SqT.same h.1 (f6.ts _ List.mem_cons_self)) (fun i v H4 hv h => ?_) (fun J6 h6 => ?_)⟩
    · obtain ⟨sm, is, d6, li⟩ := h
      rw [List.getElem?_map] at hv
      obtain ⟨e, he, rfl⟩ := Option.map_eq_some_iff.mp hv
      have lt : i < ks.length := (List.getElem?_eq_some_iff.mp he).1
      obtain ⟨a, kd', z', st', p', q', d', q1, q2, i', j', zs', bs', ha, _⟩ := f6.pk e (List.mem_of_getElem? he)
      refine ⟨rfl, _, rfl, a, C, d', _, .int i', q', sm _ _ ha, cl, n.size, rfl, _, d6, by rw [List.length_map, li, sizeLine_eq]; omega, same_put hD6 sm, is ++ [i'], by rw [upd_same, List.map_append]; rfl, by rw [List.length_append, li]; rfl⟩
    obtain ⟨sm, is6, d6, li6⟩ := h6
    have f6' := f6.same sm
    refine ⟨D6, is6, rfl, SqL.of d6, _, _, rfl, rfl, ?_⟩
    refine ⟨_, rfl, x, C, dx, _, rfl, f6'.at_, cl, n.size, by omega, ?_⟩
    have f7 := f6'.put ne (by omega) (putF "size" (.int (1 + is6.sum)) g6)
    generalize e7 : putF "size" (.int (1 + is6.sum)) g6 = g7 at f7 ⊢
    have m7 : g7.length = 7 := by rw [← e7, ← e6, ← e5, ← e4, ← e3, ← e2, ← e1]; rfl
    generalize upd J6 x (.ins C dx g7) = Hh at f7 ⊢
    refine ⟨_, rfl, l2, _, rfl, .inl (SqL.of f7.l2), _, rfl, p, rfl, ⟨_, f7.ts _ List.mem_cons_self⟩, fun D7 hD7 => lc_tup (xs := ks.map fun e : V × Nat => e.1) (fun i H4 => Same Hh H4 ∧ ∃ is : List Int, H4 D7 = some (.lst (is.map V.int)) ∧ is.length = i)
      ⟨same_new hD7, [], upd_same, rfl⟩ (fun i H4 _ h => SqT.same h.1 (f7.ts _ List.mem_cons_self)) (fun i v H4 hv h => ?_) (fun J7 h7 => ?_)⟩
    · obtain ⟨sm, is, d7, li⟩ := h
      rw [List.getElem?_map] at hv
      obtain ⟨e, he, rfl⟩ := Option.map_eq_some_iff.mp hv
      have lt : i < ks.length := (List.getElem?_eq_some_iff.mp he).1
      obtain ⟨a, kd', z', st', p', q', d', q1, q2, i', j', zs', bs', ha, _⟩ := f7.pk e (List.mem_of_getElem? he)
      refine ⟨rfl, _, rfl, a, C, d', _, .int j', q', sm _ _ ha, cl, n.applied, rfl, _, d7, by rw [List.length_map, li, sizeLine_eq]; omega, same_put hD7 sm, is ++ [j'], by rw [upd_same, List.map_append]; rfl, by rw [List.length_append, li]; rfl⟩
    obtain ⟨sm, is7, d7, li7⟩ := h7
    have f7' := f7.same sm
    refine ⟨D7, is7, rfl, SqL.of d7, _, _, rfl, rfl, ?_⟩
    refine ⟨_, rfl, x, C, dx, _, rfl, f7'.at_, cl, n.applied, by omega, ?_⟩
    have f8 := f7'.put ne (by omega) (putF "applied" (.int ((((ownS st).length : Nat) : Int) + is7.sum)) g7)
    refine q _ ⟨q4, q5, 1 + is6.sum, ((((ownS st).length : Nat) : Int) + is7.sum), ys, bs, ?_, k4, k5, f8.tr (q4, ys.map V.str) (List.mem_cons_of_mem _ List.mem_cons_self), f8.tr (q5, bs) List.mem_cons_self, len4, len5, fun b hb => f8.st b (List.mem_append_left _ hb)⟩ f8.kp
    refine f8.at_.trans ?_
    rw [← e7, ← e6, ← e5, ← e4, ← e3, ← e2, ← e1]
    rfl
end
end LK

namespace LK
open PySem PySem.Spec PyProof.Rows L2 LR
/-! ### expressions, with just the names and steps that are in them -/
def kdM : Md → Str
  | .nm _ => "name"
  | .ap .le _ => "lesser"
  | .ap .gr _ => "greater"
  | .ap (.st _ _ _) _ => "step"
def wdM : Md → Str
  | .nm z => z
  | .ap _ _ => ""
def stM : Md → V
  | .ap (.st a _ _) _ => .ref a
  | _ => .non
def prM : Md → List Md
  | .nm _ => []
  | .ap _ ms => ms
def okM : Md → List (Str × Str)
  | .nm _ => []
  | .ap h _ => hdK h
def HdS (cS : Addr) (H : Hp) : Hd → Prop
  | .st a z y => StepAt cS H a z y ∧ NameOk z ∧ WaysOk y
  | _ => True
def OkM (cS : Addr) (H : Hp) : Md → Prop
  | .nm z => NameOk z
  | .ap h ms => ms.length = arity h ∧ HdS cS H h
def FldX (K : PySem.W.Frag) (C cS : Addr) (H : Hp) (m : Md) (e : V) (es : List V) : Prop := ∃ (a dx p q1 q2 : Addr) (j : Int) (ys : List Str) (bs : List V) (ks : List (Str × Str)), e = .ref a ∧ H a = some (.ins C dx (exFs (kdM m) (wdM m) (stM m) p q1 q2 (sz m) j)) ∧
  H p = some (.tup es) ∧ H q1 = some (.tup (ys.map V.str)) ∧ NmsOf (lvs m) ys ∧ H q2 = some (.tup bs) ∧ KeyL cS H bs ks ∧ KysOf (sts m) ks
/-- e is the expression of m, less than n deep -/
def ExR (K : PySem.W.Frag) (C cS : Addr) : Nat → Hp → Md → V → Prop
  | 0, _, _, _ => False
  | n + 1, H, m, e => ∃ es, FldX K C cS H m e es ∧ es.length = (prM m).length ∧ OkM cS H m ∧ ∀ (i : Nat) m' x, (prM m)[i]? = some m' → es[i]? = some x → ExR K C cS n H m' x
/-- instances and tuples stand -/
structure Tr (H H' : Hp) : Prop where
  ins : ∀ b C dx fs, H b = some (.ins C dx fs) → H' b = some (.ins C dx fs)
  tup : ∀ b xs, H b = some (.tup xs) → H' b = some (.tup xs)
  frz : ∀ b o xs, H b = some (.frz o (.tup xs)) → H' b = some (.frz o (.tup xs))
theorem Tr.trans {H H1 H2 : Hp} (a : Tr H H1) (b : Tr H1 H2) : Tr H H2 := ⟨fun c C dx fs e => b.ins c C dx fs (a.ins c C dx fs e), fun c xs e => b.tup c xs (a.tup c xs e), fun c o xs e => b.frz c o xs (a.frz c o xs e)⟩
theorem Tr.same {H H' : Hp} (s : Same H H') : Tr H H' := ⟨fun _ _ _ _ e => s _ _ e, fun _ _ e => s _ _ e, fun _ _ _ e => s _ _ e⟩
theorem Tr.keep {H H' : Hp} {l : Addr} (f : Feed H l) (k : Keep l H H') : Tr H H' := by
  obtain ⟨a, c, e, _⟩ := f
  exact ⟨fun b C dx fs h => k _ _ (ne_of h e (by intro z; cases z)) h, fun b xs h => k _ _ (ne_of h e (by intro z; cases z)) h, fun b o xs h => k _ _ (ne_of h e (by intro z; cases z)) h⟩
theorem Tr.lst {H : Hp} {D : Addr} {ys zs : List V} (e : H D = some (.lst ys)) : Tr H (upd H D (.lst zs)) :=
  ⟨fun b C dx fs h => by rw [upd_ne (ne_of h e (by intro z; cases z))]; exact h, fun b xs h => by rw [upd_ne (ne_of h e (by intro z; cases z))]; exact h, fun b o xs h => by rw [upd_ne (ne_of h e (by intro z; cases z))]; exact h⟩
section
variable {K : PySem.W.Frag} {C cS : Addr} {H H' : Hp} (t : Tr H H')
include t
theorem sqT_tr {p : Addr} {xs : List V} (h : SqT K H p xs) : SqT K H' p xs := by
  rcases h with (h | ⟨o, h⟩) | h
  · exact .inl (.inl (t.tup _ _ h))
  · exact .inl (.inr ⟨o, t.frz _ _ _ h⟩)
  · exact .inr h
theorem keyL_tr {bs : List V} {ks : List (Str × Str)} (h : KeyL cS H bs ks) : KeyL cS H' bs ks := ⟨h.1, fun i b k h1 h2 => by
  obtain ⟨a, e, dx, st⟩ := h.2 i b k h1 h2
  exact ⟨a, e, dx, t.ins _ _ _ _ st⟩⟩
theorem hdS_tr : ∀ {h : Hd}, HdS cS H h → HdS cS H' h
  | .le, _ => trivial
  | .gr, _ => trivial
  | .st _ _ _, ⟨⟨dx, e⟩, a, b⟩ => ⟨⟨dx, t.ins _ _ _ _ e⟩, a, b⟩
theorem okM_tr : ∀ {m : Md}, OkM cS H m → OkM cS H' m
  | .nm _, h => h
  | .ap _ _, ⟨l, h⟩ => ⟨l, hdS_tr t h⟩
theorem fldX_tr {m : Md} {e : V} {es : List V} (h : FldX K C cS H m e es) : FldX K C cS H' m e es := by
  obtain ⟨a, dx, p, q1, q2, j, ys, bs, ks, e, ha, hp, h1, n, h2, kl, ky⟩ := h
  exact ⟨a, dx, p, q1, q2, j, ys, bs, ks, e, t.ins _ _ _ _ ha, t.tup _ _ hp, t.tup _ _ h1, n, t.tup _ _ h2, keyL_tr t kl, ky⟩
theorem exR_tr : ∀ {n : Nat} {m : Md} {e : V}, ExR K C cS n H m e → ExR K C cS n H' m e
  | 0, _, _, h => h.elim
  | n + 1, m, e, ⟨es, f, l, ok, g⟩ => ⟨es, fldX_tr t f, l, okM_tr t ok, fun i m' x h1 h2 => exR_tr (g i m' x h1 h2)⟩
end
theorem ExR.up {K : PySem.W.Frag} {C cS : Addr} {H : Hp} : ∀ {n n' : Nat} {m : Md} {e : V}, n ≤ n' → ExR K C cS n H m e → ExR K C cS n' H m e
  | 0, _, _, _, _, h => h.elim
  | n + 1, 0, _, _, l, _ => by omega
  | n + 1, n' + 1, m, e, l, ⟨es, f, l1, ok, g⟩ => ⟨es, f, l1, ok, fun i m' x h1 h2 => ExR.up (by omega) (g i m' x h1 h2)⟩
theorem FldX.hasNm {K : PySem.W.Frag} {C cS : Addr} {H : Hp} {m : Md} {e : V} {es : List V} (cl : Cls K C) (n : ExN K C) (h : FldX K C cS H m e es) : HasNmX K H (e, lvs m) := by
  obtain ⟨a, dx, p, q1, q2, j, ys, bs, ks, e, ha, hp, h1, no, h2, kl, ky⟩ := h
  exact ⟨ys, ⟨a, C, dx, _, q1, e, ha, cl, n.names, rfl, SqT.of h1⟩, no⟩
theorem FldX.hasSt {K : PySem.W.Frag} {C cS : Addr} {H : Hp} {m : Md} {e : V} {es : List V} (cl : Cls K C) (n : ExN K C) (h : FldX K C cS H m e es) : HasStX K cS H (e, sts m) := by
  obtain ⟨a, dx, p, q1, q2, j, ys, bs, ks, e, ha, hp, h1, no, h2, kl, ky⟩ := h
  exact ⟨bs, ks, ⟨a, C, dx, _, q2, e, ha, cl, n.steps, rfl, SqT.of h2⟩, kl, ky⟩
theorem own_lvs (m : Md) : ownN (kdM m) (wdM m) ++ ((prM m).map lvs).flatten = lvs m := by
  cases m with
  | nm z => simp [kdM, wdM, prM, ownN, lvs]
  | ap h ms =>
    have e : ownN (kdM (.ap h ms)) (wdM (.ap h ms)) = [] := by
      unfold ownN
      rw [if_neg]
      cases h with
      | le => show ¬ ("lesser" : Str) = "name"; decide +kernel
      | gr => show ¬ ("greater" : Str) = "name"; decide +kernel
      | st _ _ _ => show ¬ ("step" : Str) = "name"; decide +kernel
    rw [e, lvs, lvsL_flat]
    rfl
theorem own_sts (m : Md) : okM m ++ ((prM m).map sts).flatten = sts m := by
  cases m with
  | nm z => simp [okM, prM, sts]
  | ap h ms =>
    rw [sts, stsL_flat]
    rfl
theorem own_sz (m : Md) : 1 + ((prM m).map sz).sum = sz m := by
  cases m with
  | nm z => simp [prM, sz]
  | ap h ms =>
    rw [sz, szL_sum]
    rfl
theorem own_key {cS : Addr} {H : Hp} {m : Md} (h : OkM cS H m) : KeyL cS H (ownS (stM m)) (okM m) := by
  cases m with
  | nm z =>
    have e : ownS (stM (.nm z)) = [] := if_pos rfl
    rw [e]
    exact KeyL.nil
  | ap hd ms =>
    cases hd with
    | le =>
      have e : ownS (stM (.ap .le ms)) = [] := if_pos rfl
      rw [e]
      exact KeyL.nil
    | gr =>
      have e : ownS (stM (.ap .gr ms)) = [] := if_pos rfl
      rw [e]
      exact KeyL.nil
    | st a z y =>
      have e : ownS (stM (.ap (.st a z y) ms)) = [.ref a] := if_neg (by intro q; cases q)
      rw [e]
      exact KeyL.one h.2.1
/-- putting a field keeps what is no such object -/
theorem tr_put {C cS x dx : Addr} {H : Hp} {fs gs : List (Str × V)} (ne : cS ≠ C) (e : H x = some (.ins C dx fs)) (fl : fs.length < 8) {K : PySem.W.Frag} {m : Md} {v : V} {es : List V} (h : FldX K C cS H m v es) : FldX K C cS (upd H x (.ins C dx gs)) m v es := by
  obtain ⟨a, d, p, q1, q2, j, ys, bs, ks, ev, ha, hp, h1, n, h2, kl, ky⟩ := h
  refine ⟨a, d, p, q1, q2, j, ys, bs, ks, ev, ?_, by rw [upd_ne (ne_of hp e (by intro z; cases z))]; exact hp, ?_, n, ?_, ⟨kl.1, fun i b k i1 i2 => ?_⟩, ky⟩
  · rw [upd_ne (ne_of ha e (by intro z; injection z with _ _ z3; rw [← z3] at fl; simp at fl))]
    exact ha
  · rw [upd_ne (ne_of h1 e (by intro z; cases z))]
    exact h1
  · rw [upd_ne (ne_of h2 e (by intro z; cases z))]
    exact h2
  · obtain ⟨a', e', d', st⟩ := kl.2 i b k i1 i2
    refine ⟨a', e', d', ?_⟩
    rw [upd_ne (ne_of st e (by intro z; injection z with z1; exact ne z1))]
    exact st
theorem keyL_put {C cS x dx : Addr} {H : Hp} {fs gs : List (Str × V)} {bs : List V} {ks : List (Str × Str)} (ne : cS ≠ C) (e : H x = some (.ins C dx fs)) (h : KeyL cS H bs ks) : KeyL cS (upd H x (.ins C dx gs)) bs ks := ⟨h.1, fun i b k i1 i2 => by
  obtain ⟨a', e', d', st⟩ := h.2 i b k i1 i2
  refine ⟨a', e', d', ?_⟩
  rw [upd_ne (ne_of st e (by intro z; injection z with z1; exact ne z1))]
  exact st⟩
/-- while it is filled -/
structure FillX (K : PySem.W.Frag) (C cS x dx l l2 p : Addr) (own : List Str) (own2 : List V) (ok : List (Str × Str)) (ks : List (V × Md)) (tr : List (Addr × List V)) (kk : List (List V × List (Str × Str))) (H0 H : Hp) (fs : List (Str × V)) : Prop where
  at_ : H x = some (.ins C dx fs)
  l1 : H l = some (.lst (own.map V.str))
  l2 : H l2 = some (.lst own2)
  ts : H p = some (.tup (ks.map (·.1)))
  tr : ∀ t ∈ tr, H t.1 = some (.tup t.2)
  st : KeyL cS H own2 ok
  sk : ∀ k ∈ kk, KeyL cS H k.1 k.2
  pk : ∀ e ∈ ks, ∃ es, FldX K C cS H e.2 e.1 es
  kp : Keep x H0 H
section
variable {K : PySem.W.Frag} {C cS x dx l l2 p : Addr} {own : List Str} {own2 : List V} {ok : List (Str × Str)} {ks : List (V × Md)} {tr : List (Addr × List V)} {kk : List (List V × List (Str × Str))} {H0 H H' : Hp} {fs : List (Str × V)}
theorem FillX.same (h : FillX K C cS x dx l l2 p own own2 ok ks tr kk H0 H fs) (s : Same H H') : FillX K C cS x dx l l2 p own own2 ok ks tr kk H0 H' fs :=
  ⟨s _ _ h.at_, s _ _ h.l1, s _ _ h.l2, s _ _ h.ts, fun t ht => s _ _ (h.tr t ht), h.st.same s, fun k hk => (h.sk k hk).same s, fun e he => (h.pk e he).imp fun _ f => fldX_tr (Tr.same s) f, h.kp.trans (Keep.same s)⟩
theorem FillX.put (h : FillX K C cS x dx l l2 p own own2 ok ks tr kk H0 H fs) (ne : cS ≠ C) (fl : fs.length < 8) (gs : List (Str × V)) : FillX K C cS x dx l l2 p own own2 ok ks tr kk H0 (upd H x (.ins C dx gs)) gs :=
  ⟨upd_same, by rw [upd_ne (ne_of h.l1 h.at_ (by intro z; cases z))]; exact h.l1, by rw [upd_ne (ne_of h.l2 h.at_ (by intro z; cases z))]; exact h.l2, by rw [upd_ne (ne_of h.ts h.at_ (by intro z; cases z))]; exact h.ts, fun t ht => by rw [upd_ne (ne_of (h.tr t ht) h.at_ (by intro z; cases z))]; exact h.tr t ht, keyL_put ne h.at_ h.st, fun k hk => keyL_put ne h.at_ (h.sk k hk), fun e he => (h.pk e he).imp fun _ f => tr_put ne h.at_ fl f, h.kp.trans Keep.put⟩
theorem FillX.tup (h : FillX K C cS x dx l l2 p own own2 ok ks tr kk H0 H fs) {q : Addr} {ys : List V} (t : H q = some (.tup ys)) : FillX K C cS x dx l l2 p own own2 ok ks ((q, ys) :: tr) kk H0 H fs :=
  ⟨h.at_, h.l1, h.l2, h.ts, fun u hu => (List.mem_cons.mp hu).elim (fun e => by rw [e]; exact t) (h.tr u), h.st, h.sk, h.pk, h.kp⟩
theorem FillX.key (h : FillX K C cS x dx l l2 p own own2 ok ks tr kk H0 H fs) {bs : List V} {js : List (Str × Str)} (t : KeyL cS H bs js) : FillX K C cS x dx l l2 p own own2 ok ks tr ((bs, js) :: kk) H0 H fs :=
  ⟨h.at_, h.l1, h.l2, h.ts, h.tr, h.st, fun u hu => (List.mem_cons.mp hu).elim (fun e => by rw [e]; exact t) (h.sk u), h.pk, h.kp⟩
end
theorem sum_cast : ∀ (ns : List Nat), (ns.map fun n : Nat => (n : Int)).sum = ((ns.sum : Nat) : Int)
  | [] => rfl
  | n :: r => by
    rw [List.map_cons, List.sum_cons, List.sum_cons, sum_cast r, Int.natCast_add]
def spExInitX (K : PySem.W.Frag) (C cS : Addr) : Sp := fun vs H Q _ => ∃ (x dx p : Addr) (m : Md) (ks : List (V × Md)), vs = [.ref x, .str (kdM m), .str (wdM m), stM m, .ref p] ∧ H x = some (.ins C dx []) ∧ H p = some (.tup (ks.map (·.1))) ∧ ks.map (·.2) = prM m ∧ (∀ e ∈ ks, ∃ es, FldX K C cS H e.2 e.1 es) ∧
  OkM cS H m ∧ sz m < 64 ∧ ∀ H', FldX K C cS H' m (.ref x) (ks.map (·.1)) → Keep x H H' → Q .non H'
section
variable {P : Program} {w : World} {K : PySem.W.Frag} {mg : Str → Option Value} {base : Heap}
theorem ok_exInitX {C cS f fN fS : Addr} {fd fdN fdS : FuncData} (S : Std mg) (cl : Cls K C) (n : ExN K C) (ne : cS ≠ C) (clS : Cls K cS) (s1 : NoAttr K cS "name") (s2 : NoAttr K cS "ways") (F : Fun K "__init__" "Expr.__init__" sExprInit f fd) (N : Dd K mg "all_names" sAllNames fN fdN ["holders", "more"]) (T : Dd K mg "all_steps" sAllSteps fS fdS ["holders", "more"]) :
    FnOk P w K mg base CX0 2 f fd ["self", "kind", "word", "step", "parts"] (spExInitX K C cS) := by
  have GN : FnOk P w K mg base CX0 1 fN fdN ["holders", "more"] (spNamesX K) := ok_allNamesX S N
  have GS : FnOk P w K mg base CX0 1 fS fdS ["holders", "more"] (spStepsX K cS) := ok_allStepsX S clS s1 s2 T
  refine F.ok scEx (fun vs H Q E h => ?_) (fun cdv A outer s H vs Q E hr h => ?_)
  · obtain ⟨x, dx, p, m, ks, rfl, _⟩ := h
    rfl
  · obtain ⟨x, dx, p, m, ks, rfl, hx, hp, em, hk, ok, short, q⟩ := h
    refine ⟨_, pss_cons (ps_set (i := 5) scEx.nd rfl (Or.inl rfl) (pe_ifExp (pt_cmpR op_eq (pv 1) pe_str (nomark _)) (pe_lst (pa_cons (pv 2) pa_nil)) (pe_lst pa_nil)))
      (pss_cons (ps_set (i := 6) scEx.nd rfl (Or.inl rfl) (pe_ifExp (pt_cmp (pc_isN (pv 3))) (pe_lst pa_nil) (pe_lst (pa_cons (pv 3) pa_nil))))
      (pss_cons (ps_fld (pv 0) (pv 1) rfl) (pss_cons (ps_fld (pv 0) (pv 2) rfl) (pss_cons (ps_fld (pv 0) (pv 3) rfl) (pss_cons (ps_fld (pv 0) (pv 4) rfl)
      (pss_cons (ps_fld (pv 0) (pe_call GN hr rfl N.g N.kp N.b .nil pass0 (pa_cons (pv 4) (pa_cons (pv 5) pa_nil))) rfl)
      (pss_cons (ps_fld (pv 0) (pe_call GS hr rfl T.g T.kp T.b .nil pass0 (pa_cons (pv 4) (pa_cons (pv 6) pa_nil))) rfl)
      (pss_cons (ps_fld (pv 0) (pe_op op_add pe_int (pe_callB (cr_sum rfl) (by rfl) S.sum (by decide +kernel) (pa_cons (pe_lc (own := [("part", 7)]) (g := gName 7) (tt := tYes) (te := tFld K (tVar 7) "size") rfl scEx.nd
          (pi_tup (pv 4)) (blkOk_by (N := nEx) (sc := defScope sExprInit) (by decide +kernel)) (fun _ _ _ _ _ => pg_name (i := 7) scEx.nd rfl (Or.inl rfl)) (fun _ _ _ _ _ => pts_nil) (fun _ _ _ _ _ => pe_fld (pv 7) rfl)) pa_nil))) rfl)
      (pss_one (ps_fld (pv 0) (pe_op op_add (pe_callB call_len_seq (by rfl) S.len PySem.boot_len (pa_cons (pv 6) pa_nil)) (pe_callB (cr_sum rfl) (by rfl) S.sum (by decide +kernel) (pa_cons (pe_lc (own := [("part", 7)]) (g := gName 7) (tt := tYes) (te := tFld K (tVar 7) "applied") rfl scEx.nd
          (pi_tup (pv 4)) (blkOk_by (N := nEx) (sc := defScope sExprInit) (by decide +kernel)) (fun _ _ _ _ _ => pg_name (i := 7) scEx.nd rfl (Or.inl rfl)) (fun _ _ _ _ _ => pts_nil) (fun _ _ _ _ _ => pe_fld (pv 7) rfl)) pa_nil))) rfl)))))))))), ?_⟩
    have fl1 : ((ks.map fun e => (e.1, lvs e.2)).map (·.2)).flatten = ((prM m).map lvs).flatten := by
      rw [← em, List.map_map, List.map_map]
      rfl
    have fl2 : ((ks.map fun e => (e.1, sts e.2)).map (·.2)).flatten = ((prM m).map sts).flatten := by
      rw [← em, List.map_map, List.map_map]
      rfl
    have p1 : (ks.map fun e => (e.1, lvs e.2)).map (·.1) = ks.map (·.1) := by
      rw [List.map_map]
      rfl
    have p2 : (ks.map fun e => (e.1, sts e.2)).map (·.1) = ks.map (·.1) := by
      rw [List.map_map]
      rfl
    have bnd := lvs_sz m
    refine ⟨_, rfl, rfl, _, rfl, ite_te (fun y H' => ∃ l, y = .ref l ∧ H' l = some (.lst ((ownN (kdM m) (wdM m)).map V.str)) ∧ Same H H') (fun key c => ?_) (fun key c => ?_) (fun y Hl hl => ?_)⟩
    · refine ⟨_, rfl, (by show 1 ≤ sizeLine; decide), fun l hl => key _ _ ⟨l, rfl, ?_, same_new hl⟩⟩
      have e : kdM m = "name" := by simpa using c
      rw [upd_same, ownN, if_pos e]
      rfl
    · refine ⟨(by show 0 ≤ sizeLine; decide), fun l hl => key _ _ ⟨l, rfl, ?_, same_new hl⟩⟩
      have e : ¬ kdM m = "name" := by simpa using c
      rw [upd_same, ownN, if_neg e]
      rfl
    obtain ⟨l, rfl, hl1, sl⟩ := hl
    refine ⟨_, rfl, _, rfl, ite_te (fun y H' => ∃ l2, y = .ref l2 ∧ H' l2 = some (.lst (ownS (stM m))) ∧ Same Hl H') (fun key c => ?_) (fun key c => ?_) (fun y Ha hl => ?_)⟩
    · refine ⟨(by show 0 ≤ sizeLine; decide), fun l hl => key _ _ ⟨l, rfl, ?_, same_new hl⟩⟩
      have e : stM m = .non := by simpa using c
      rw [upd_same, ownS, if_pos e]
    · refine ⟨_, rfl, (by show 1 ≤ sizeLine; decide), fun l hl => key _ _ ⟨l, rfl, ?_, same_new hl⟩⟩
      have e : ¬ stM m = .non := by simpa using c
      rw [upd_same, ownS, if_neg e]
    obtain ⟨l2, rfl, hl2, sl2⟩ := hl
    have s2 : Same H Ha := sl.trans sl2
    have f0 : FillX K C cS x dx l l2 p (ownN (kdM m) (wdM m)) (ownS (stM m)) (okM m) ks [] [] H Ha [] :=
      ⟨s2 _ _ hx, sl2 _ _ hl1, hl2, s2 _ _ hp, (fun _ h => nomatch h), own_key (okM_tr (Tr.same s2) ok), (fun _ h => nomatch h), fun e he => (hk e he).imp fun _ f => fldX_tr (Tr.same s2) f, Keep.same s2⟩
    refine ⟨_, rfl, _, rfl, x, C, dx, _, rfl, f0.at_, cl, n.kind, by decide, ?_⟩
    have f1 := f0.put ne (by decide) (putF "kind" (.str (kdM m)) [])
    generalize e1 : putF "kind" (.str (kdM m)) [] = g1 at f1 ⊢
    have m1 : g1.length = 1 := by rw [← e1]; rfl
    generalize upd Ha x (.ins C dx g1) = Hb at f1 ⊢
    refine ⟨_, rfl, _, rfl, x, C, dx, _, rfl, f1.at_, cl, n.word, by omega, ?_⟩
    have f2 := f1.put ne (by omega) (putF "word" (.str (wdM m)) g1)
    generalize e2 : putF "word" (.str (wdM m)) g1 = g2 at f2 ⊢
    have m2 : g2.length = 2 := by rw [← e2, ← e1]; rfl
    generalize upd Hb x (.ins C dx g2) = Hc at f2 ⊢
    refine ⟨_, rfl, _, rfl, x, C, dx, _, rfl, f2.at_, cl, n.step, by omega, ?_⟩
    have f3 := f2.put ne (by omega) (putF "step" (stM m) g2)
    generalize e3 : putF "step" (stM m) g2 = g3 at f3 ⊢
    have m3 : g3.length = 3 := by rw [← e3, ← e2, ← e1]; rfl
    generalize upd Hc x (.ins C dx g3) = Hd' at f3 ⊢
    refine ⟨_, rfl, _, rfl, x, C, dx, _, rfl, f3.at_, cl, n.parts, by omega, ?_⟩
    have f4 := f3.put ne (by omega) (putF "parts" (.ref p) g3)
    generalize e4 : putF "parts" (.ref p) g3 = g4 at f4 ⊢
    have m4 : g4.length = 4 := by rw [← e4, ← e3, ← e2, ← e1]; rfl
    generalize upd Hd' x (.ins C dx g4) = He at f4 ⊢
    refine ⟨_, rfl, _, rfl, p, l, ownN (kdM m) (wdM m), ks.map (fun e => (e.1, lvs e.2)), rfl, SqT.of (p1 ▸ f4.ts), f4.l1, fun e he => ?_, ?_, fun q4 ys J4 s4 n4 t4 no => ?_⟩
    · obtain ⟨e', he', rfl⟩ := List.mem_map.mp he
      obtain ⟨es, f⟩ := f4.pk e' he'
      exact f.hasNm cl n
    · rw [fl1, ← List.length_append, own_lvs]
      omega
    rw [fl1, own_lvs] at no
    have f4' := (f4.same s4).tup t4
    refine ⟨_, rfl, x, C, dx, _, rfl, f4'.at_, cl, n.names, by omega, ?_⟩
    have f5 := f4'.put ne (by omega) (putF "names" (.ref q4) g4)
    generalize e5 : putF "names" (.ref q4) g4 = g5 at f5 ⊢
    have m5 : g5.length = 5 := by rw [← e5, ← e4, ← e3, ← e2, ← e1]; rfl
    generalize upd J4 x (.ins C dx g5) = Hf at f5 ⊢
    refine ⟨_, rfl, _, rfl, p, l2, ownS (stM m), okM m, ks.map (fun e => (e.1, sts e.2)), rfl, SqT.of (p2 ▸ f5.ts), f5.l2, f5.st, fun e he => ?_, ?_, fun q5 bs js J5 s5 n5 t5 kl ky => ?_⟩
    · obtain ⟨e', he', rfl⟩ := List.mem_map.mp he
      obtain ⟨es, f⟩ := f5.pk e' he'
      exact f.hasSt cl n
    · rw [fl2, ← List.length_append, own_sts]
      omega
    rw [fl2, own_sts] at ky
    have f5' := ((f5.same s5).tup t5).key kl
    refine ⟨_, rfl, x, C, dx, _, rfl, f5'.at_, cl, n.steps, by omega, ?_⟩
    have f6 := f5'.put ne (by omega) (putF "steps" (.ref q5) g5)
    generalize e6 : putF "steps" (.ref q5) g5 = g6 at f6 ⊢
    have m6 : g6.length = 6 := by rw [← e6, ← e5, ← e4, ← e3, ← e2, ← e1]; rfl
    generalize upd J5 x (.ins C dx g6) = Hg at f6 ⊢
    refine ⟨_, rfl, p, rfl, ⟨_, SqT.of f6.ts⟩, fun D6 hD6 => lc_tup (xs := ks.map fun e : V × Md => e.1) (fun i H4 => Same Hg H4 ∧ H4 D6 = some (.lst (((((ks.take i).map fun e => sz e.2)).map fun n : Nat => (n : Int)).map V.int)))
      ⟨same_new hD6, upd_same⟩ (fun i H4 _ h => SqT.of (h.1 _ _ f6.ts)) (fun i v H4 hv h => ?_) (fun J6 h6 => ?_)⟩
    · obtain ⟨sm, d6⟩ := h
      rw [List.getElem?_map] at hv
      obtain ⟨e, he, rfl⟩ := Option.map_eq_some_iff.mp hv
      have lt : i < ks.length := (List.getElem?_eq_some_iff.mp he).1
      obtain ⟨es, a, d', p', q1, q2, j, ys', bs', ks', ea, ha, _⟩ := f6.pk e (List.mem_of_getElem? he)
      refine ⟨rfl, _, rfl, a, C, d', _, .int (sz e.2), ea, sm _ _ ha, cl, n.size, rfl, _, d6, ?_, same_put hD6 sm, ?_⟩
      · rw [List.length_map, List.length_map, List.length_map, List.length_take, sizeLine_eq]
        have l1 : ks.length = (prM m).length := by rw [← em, List.length_map]
        have l2 : (prM m).length ≤ ((prM m).map sz).sum := by
          have one : ∀ ms : List Md, ms.length ≤ (ms.map sz).sum := fun ms => by
            induction ms with
            | nil => exact Nat.le_refl _
            | cons m' r ih =>
              rw [List.map_cons, List.sum_cons, List.length_cons]
              have : 1 ≤ sz m' := by cases m' <;> (rw [sz] <;> omega)
              omega
          exact one _
        have := own_sz m
        omega
      · rw [upd_same, List.take_add_one, he, List.map_append, List.map_append, List.map_append]
        rfl
    obtain ⟨sm, d6⟩ := h6
    rw [List.length_map, List.take_length] at d6
    have f6' := f6.same sm
    have size_eq : (1 : Int) + ((ks.map fun e => sz e.2).map fun n : Nat => (n : Int)).sum = ((sz m : Nat) : Int) := by
      rw [sum_cast, ← own_sz m, ← em, List.map_map, Int.natCast_add]
      rfl
    generalize (ks.map fun e => sz e.2).map (fun n : Nat => (n : Int)) = is6 at d6 size_eq
    refine ⟨D6, is6, rfl, SqL.of d6, _, _, rfl, rfl, ?_⟩
    refine ⟨_, rfl, x, C, dx, _, rfl, f6'.at_, cl, n.size, by omega, ?_⟩
    have f7 := f6'.put ne (by omega) (putF "size" (.int (1 + is6.sum)) g6)
    generalize e7 : putF "size" (.int (1 + is6.sum)) g6 = g7 at f7 ⊢
    have m7 : g7.length = 7 := by rw [← e7, ← e6, ← e5, ← e4, ← e3, ← e2, ← e1]; rfl
    generalize upd J6 x (.ins C dx g7) = Hh at f7 ⊢
    refine ⟨_, rfl, l2, _, rfl, .inl (SqL.of f7.l2), _, rfl, p, rfl, ⟨_, SqT.of f7.ts⟩, fun D7 hD7 => lc_tup (xs := ks.map fun e : V × Md => e.1) (fun i H4 => Same Hh H4 ∧ ∃ is : List Int, H4 D7 = some (.lst (is.map V.int)) ∧ is.length = i)
      ⟨same_new hD7, [], upd_same, rfl⟩ (fun i H4 _ h => SqT.of (h.1 _ _ f7.ts)) (fun i v H4 hv h => ?_) (fun J7 h7 => ?_)⟩
    · obtain ⟨sm, is, d7, li⟩ := h
      rw [List.getElem?_map] at hv
      obtain ⟨e, he, rfl⟩ := Option.map_eq_some_iff.mp hv
      have lt : i < ks.length := (List.getElem?_eq_some_iff.mp he).1
      obtain ⟨es, a, d', p', q1, q2, j, ys', bs', ks', ea, ha, _⟩ := f7.pk e (List.mem_of_getElem? he)
      refine ⟨rfl, _, rfl, a, C, d', _, .int j, ea, sm _ _ ha, cl, n.applied, rfl, _, d7, ?_, same_put hD7 sm, is ++ [j], by rw [upd_same, List.map_append]; rfl, by rw [List.length_append, li]; rfl⟩
      rw [List.length_map, li, sizeLine_eq]
      have l1 : ks.length = (prM m).length := by rw [← em, List.length_map]
      have l2 : (prM m).length ≤ ((prM m).map sz).sum := by
        have one : ∀ ms : List Md, ms.length ≤ (ms.map sz).sum := fun ms => by
          induction ms with
          | nil => exact Nat.le_refl _
          | cons m' r ih =>
            rw [List.map_cons, List.sum_cons, List.length_cons]
            have : 1 ≤ sz m' := by cases m' <;> (rw [sz] <;> omega)
            omega
        exact one _
      have := own_sz m
      omega
    obtain ⟨sm, is7, d7, li7⟩ := h7
    have f7' := f7.same sm
    refine ⟨D7, is7, rfl, SqL.of d7, _, _, rfl, rfl, ?_⟩
    refine ⟨_, rfl, x, C, dx, _, rfl, f7'.at_, cl, n.applied, by omega, ?_⟩
    have f8 := f7'.put ne (by omega) (putF "applied" (.int ((((ownS (stM m)).length : Nat) : Int) + is7.sum)) g7)
    refine q _ ⟨x, dx, p, q4, q5, ((((ownS (stM m)).length : Nat) : Int) + is7.sum), ys, bs, js, rfl, ?_, f8.ts, f8.tr (q4, ys.map V.str) (List.mem_cons_of_mem _ List.mem_cons_self), no, f8.tr (q5, bs) List.mem_cons_self, f8.sk (bs, js) List.mem_cons_self, ky⟩ f8.kp
    refine f8.at_.trans ?_
    rw [← size_eq, ← e7, ← e6, ← e5, ← e4, ← e3, ← e2, ← e1]
    rfl
end
end LK

namespace LK
open PySem PySem.Spec PyProof.Rows L2
/-! ### named, steps -/
theorem same_of_keep {H H1 H' : Hp} {x dx : Addr} {o u : HO} (hx : H x = none) (hd : H dx = none) (k : Keep x (upd (upd H dx o) x u) H') : Same H H' := fun b v e => k b v (ne_of_none e hx) (by rw [upd_ne (ne_of_none e hx), upd_ne (ne_of_none e hd)]; exact e)
/-- what is new in a later heap -/
def nw (H H' : Hp) : Hp := fun b => match H b with | none => H' b | some _ => none
theorem nw_at {H H' : Hp} {b : Addr} (h : H b = none) : nw H H' b = H' b := by
  unfold nw
  rw [h]
theorem nw_some {H H' : Hp} {b : Addr} {o : HO} (h : nw H H' b = some o) : H b = none ∧ H' b = some o := by
  unfold nw at h
  cases e : H b with
  | none =>
    rw [e] at h
    exact ⟨rfl, h⟩
  | some u =>
    rw [e] at h
    cases h
def spNamed (K : PySem.W.Frag) (C : Addr) : Sp := fun vs H Q _ => ∃ z, vs = [.str z] ∧ NameOk z ∧ ∀ a H', ExprAt K C (nw H H') a → (∀ cS, ExP K C cS H' (.ref a) "name" z .non [] 1) → Same H H' → Q (.ref a) H'
def spWaysOk : Sp := fun vs H Q _ => ∃ y, vs = [.str y] ∧ WaysOk y ∧ ∀ H', Same H H' → Q (.bl true) H'
def spStInit (C : Addr) : Sp := fun vs H Q _ => ∃ (x dx : Addr) (z y : Str), vs = [.ref x, .str z, .str y] ∧ H x = some (.ins C dx []) ∧ NameOk z ∧ WaysOk y ∧ ∀ H', StepAt C H' x z y → Keep x H H' → Q .non H'
def spStLen (C : Addr) : Sp := fun vs H Q _ => ∃ (x : Addr) (z y : Str), vs = [.ref x] ∧ StepAt C H x z y ∧ y.length ≤ 3 ∧ Q (.int y.length) H
section
variable {P : Program} {w : World} {K : PySem.W.Frag} {mg : Str → Option Value} {base : Heap}
theorem scNamed : FnScope ["word"] ["word"] (defScope sNamed) := ⟨rfl, rfl, rfl, by decide +kernel, rfl, by decide +kernel, by decide +kernel⟩
theorem ok_named {C fI f fe fN fS kw : Addr} {fdI fd fde fdN fdS : FuncData} (S : Std mg) (W : Words K mg kw) (I : Df K mg "is_name" sIsName fI fdI ["value"]) (cl : Cls K C) (n : ExN K C) (gC : mg "Expr" = some (.ref C))
    (M : Mk K C fe) (Fe : Fun K "__init__" "Expr.__init__" sExprInit fe fde) (be : Binds K fde ["self", "kind", "word", "step", "parts"] []) (N : Dd K mg "all_names" sAllNames fN fdN ["holders", "more"]) (T : Dd K mg "all_steps" sAllSteps fS fdS ["holders", "more"])
    (F : Fun K "named" "named" sNamed f fd) : FnOk P w K mg base CX0 4 f fd ["word"] (spNamed K C) := by
  have GI : FnOk P w K mg base CX0 1 fI fdI ["value"] spName := ok_isName S W I.F
  obtain ⟨cS, ne, clS, a1, a2⟩ := n.other
  have GE : FnOk P w K mg base CX0 2 fe fde ["self", "kind", "word", "step", "parts"] (spExInit K C cS) := ok_exInit S cl n ne clS a1 a2 Fe N T
  refine F.ok scNamed (fun vs H Q E h => ?_) (fun cdv A outer s H vs Q E hr h => ?_)
  · obtain ⟨z, rfl, _⟩ := h
    rfl
  · obtain ⟨z, rfl, hz, q⟩ := h
    refine ⟨_, pss_cons (ps_if (pt_not (pt_val (pe_call GI (hr.mono (by decide)) rfl I.g I.F.kp I.b .nil pass0 (pa_cons (pv 0) pa_nil)))) (pss_one ps_never) pss_nil)
      (pss_one (ps_ret (pe_make M GE hr rfl gC be .nil pass0 (pa_cons pe_str (pa_cons (pv 0) (pa_cons pe_non (pa_cons (pe_tup pa_nil) pa_nil))))))), ?_⟩
    refine ⟨_, rfl, z, rfl, hz, fun H1 s1 => ⟨_, rfl, iteF ?_⟩⟩
    refine ⟨_, rfl, by show 0 ≤ sizeLine; decide, fun p hp => fun x dx nx nd ne => ?_⟩
    have h0 : H1 p = none := hp
    have px : p ≠ x := ne_of_none upd_same nx
    have pd : p ≠ dx := ne_of_none upd_same nd
    have hp2 : (upd (upd (upd H1 p (.tup [])) dx (.own x)) x (.ins C dx [])) p = some (.tup []) := by
      rw [upd_ne px, upd_ne pd]
      exact upd_same
    have old : ∀ {b : Addr}, H1 b = none → H b = none := fun {b} h => by
      cases e : H b with
      | none => rfl
      | some o =>
        rw [s1 _ _ e] at h
        cases h
    have nx1 : H1 x = none := by
      rw [upd_ne px.symm] at nx
      exact nx
    refine ⟨x, dx, p, "name", z, .non, [], rfl, upd_same, SqT.of hp2, (fun _ h => nomatch h), .inl rfl, (by decide), (by decide), fun H' hx k => ?_⟩
    obtain ⟨q1, q2, i, j, zs, bs, he, k1, k2, t1, t2, l1, l2, _⟩ := hx
    have all : Same H H' := (s1.trans (same_new hp)).trans (same_of_keep (H1 := upd H1 p (.tup [])) nx nd k)
    have older : ∀ {b : Addr}, (upd (upd (upd H1 p (.tup [])) dx (.own x)) x (.ins C dx [])) b = none → H b = none := fun {b} h => by
      cases e : H b with
      | none => rfl
      | some o =>
        have e2 := same_new (o := .tup []) hp _ _ (s1 _ _ e)
        have e3 : (upd (upd H1 p (.tup [])) dx (.own x)) b = some o := same_new (o := .own x) nd _ _ e2
        rw [upd_ne (ne_of_none e2 nx), e3] at h
        cases h
    obtain rfl : bs = [] := List.length_eq_zero_iff.mp (Nat.le_zero.mp l2)
    refine ⟨rfl, q x H' ⟨dx, z, p, .ref q1, .ref q2, .int i, .int j, ?_, SqT.of ?_, q1, q2, i, j, zs, rfl, rfl, rfl, rfl, ?_, l1, ?_, hz⟩ (fun cS => ⟨x, p, rfl, ⟨dx, q1, q2, i, j, zs, [], he, t1, t2, l1, Nat.zero_le _, fun _ h => nomatch h⟩, SqT.of (k _ _ px hp2)⟩) all⟩
    · rw [nw_at (old nx1)]
      exact he
    · rw [nw_at (old h0)]
      exact k _ _ px hp2
    · rw [nw_at (older k1)]
      exact t1
    · rw [nw_at (older k2)]
      exact t2
theorem scWaysOk : FnScope ["value", "way"] ["value"] (defScope sAreWays) := ⟨rfl, rfl, rfl, by decide +kernel, rfl, by decide +kernel, by decide +kernel⟩
theorem ok_areWays {f : Addr} {fd : FuncData} {t1 t2 : Tok} (S : Std mg) (m1 : mg "MOST_ARGUMENTS" = some (.int 3 t1)) (m2 : mg "WAYS" = some (.str "+-?" t2)) (F : Fun K "_are_ways" "_are_ways" sAreWays f fd) : FnOk P w K mg base CX0 1 f fd ["value"] spWaysOk := by
  refine F.ok scWaysOk (fun vs H Q E h => ?_) (fun cdv A outer s H vs Q E hr h => ?_)
  · obtain ⟨z, rfl, _⟩ := h
    rfl
  · obtain ⟨z, rfl, hz, q⟩ := h
    refine ⟨_, pss_cons (ps_if (PW.pt (pw_or (pt_not (pt_val (pe_callB call_isi (by rfl) S.isi (by decide +kernel) (pa_cons (pv 0) (pa_cons (pe_bltn (v := .ty "str") (by rfl) S.str (by decide +kernel) rfl) pa_nil)))))
          (pw_or1 (pt_not (pt_chain op_le op_le pe_int (pe_callB call_len (by rfl) S.len PySem.boot_len (pa_cons (pv 0) pa_nil)) (pe_glob (v := .int 3) rfl m1 ⟨_, rfl⟩))))))
        (pss_one (ps_ret pe_bl)) pss_nil)
      (pss_one (ps_ret (pe_callB (cr_all rfl) (by rfl) S.all (by decide +kernel) (pa_cons (pe_lc (own := [("way", 1)]) (g := gName 1) (tt := tYes) rfl scWaysOk.nd
            (pi_str (pv 0)) (blkOk_by (N := ["value", "way"]) (sc := defScope sAreWays) (by decide +kernel)) (fun _ _ _ _ _ => pg_name (i := 1) scWaysOk.nd rfl (Or.inl rfl)) (fun _ _ _ _ _ => pts_nil)
            (fun _ _ _ _ _ => pe_cmpR op_in_sign (pv 1) (pe_glob (v := .str "+-?") rfl m2 ⟨_, rfl⟩) (by rfl))) pa_nil)))), ?_⟩
    have zl : z.length = z.cps.size := rfl
    have h4 := hz.len
    have h1 := hz.pos
    refine ⟨_, rfl, _, _, _, _, true, rfl, .ty "str", .base (.str z), kit_ty (by decide +kernel), true, rfl, iteF ?_⟩
    refine ⟨_, rfl, _, z.length, rfl, ⟨by rw [sizeLine_eq]; omega, rfl⟩, _, _, rfl, rfl, _, rfl, ?_⟩
    rw [decide_eq_true (show (1 : Int) ≤ (z.length : Int) by omega)]
    refine iteT ⟨_, _, rfl, rfl, _, rfl, ?_⟩
    rw [decide_eq_true (show (z.length : Int) ≤ 3 by omega)]
    refine iteF ⟨_, rfl, z, rfl, fun D hD => lc_str (fun i H4 => Keep D H H4 ∧ H4 D = some (.lst (List.replicate i (V.bl true)))) ⟨Keep.new hD, upd_same⟩ (fun i c H4 hc ⟨k4, d4⟩ => ?_) (fun H4 ⟨k4, d4⟩ => ?_)⟩
    · have lt : i < z.cps.size := (Array.getElem?_eq_some_iff.mp hc).1
      have mem : c ∈ TL.tl ("+-?" : Str) := hz.sg c (Array.mem_toList_iff.mpr (Array.mem_of_getElem? hc))
      refine ⟨rfl, _, rfl, c, "+-?", rfl, rfl, _, d4, by rw [List.length_replicate]; exact small1000 (by omega), fun b o n e => ?_, ?_⟩
      · rw [upd_ne n]
        exact k4 b o n e
      · rw [upd_same, decide_eq_true (show c ∈ ("+-?" : Str).cps.toList from mem), List.replicate_succ']
    · refine ⟨D, List.replicate z.cps.size true, rfl, SqL.of (by rw [List.map_replicate]; exact d4), ?_⟩
      rw [show (List.replicate z.cps.size true).all id = true from by rw [List.all_eq_true]; intro b hb; exact (List.mem_replicate.mp hb).2]
      exact q _ fun b o e => k4 b o (ne_of_none e hD) e
theorem scStInit : FnScope ["self", "name", "ways"] ["self", "name", "ways"] (defScope sStepInit) := ⟨rfl, rfl, rfl, by decide +kernel, rfl, by decide +kernel, by decide +kernel⟩
theorem ok_stInit {C fI fW f kw : Addr} {fdI fdW fd : FuncData} {t1 t2 : Tok} (S : Std mg) (Wd : Words K mg kw) (I : Df K mg "is_name" sIsName fI fdI ["value"]) (m1 : mg "MOST_ARGUMENTS" = some (.int 3 t1)) (m2 : mg "WAYS" = some (.str "+-?" t2)) (W : Df K mg "_are_ways" sAreWays fW fdW ["value"])
    (cl : Cls K C) (n1 : NoAttr K C "name") (n2 : NoAttr K C "ways") (F : Fun K "__init__" "Step.__init__" sStepInit f fd) : FnOk P w K mg base CX0 2 f fd ["self", "name", "ways"] (spStInit C) := by
  have GI : FnOk P w K mg base CX0 1 fI fdI ["value"] spName := ok_isName S Wd I.F
  have GW : FnOk P w K mg base CX0 1 fW fdW ["value"] spWaysOk := ok_areWays S m1 m2 W.F
  refine F.ok scStInit (fun vs H Q E h => ?_) (fun cdv A outer s H vs Q E hr h => ?_)
  · obtain ⟨x, dx, z, y, rfl, _⟩ := h
    rfl
  · obtain ⟨x, dx, z, y, rfl, hx, hz, hy, q⟩ := h
    refine ⟨_, pss_cons (ps_if (pt_not (pt_val (pe_call GI hr rfl I.g I.F.kp I.b .nil pass0 (pa_cons (pv 1) pa_nil)))) (pss_one ps_never) pss_nil)
      (pss_cons (ps_if (pt_not (pt_val (pe_call GW hr rfl W.g W.F.kp W.b .nil pass0 (pa_cons (pv 2) pa_nil)))) (pss_one ps_never) pss_nil)
      (pss_cons (ps_fld (pv 0) (pv 1) rfl) (pss_one (ps_fld (pv 0) (pv 2) rfl)))), ?_⟩
    refine ⟨_, rfl, z, rfl, hz, fun H1 s1 => ⟨_, rfl, iteF ?_⟩⟩
    refine ⟨_, rfl, y, rfl, hy, fun H2 s2 => ⟨_, rfl, iteF ?_⟩⟩
    refine ⟨_, rfl, _, rfl, x, C, dx, _, rfl, s2 _ _ (s1 _ _ hx), cl, n1, by decide, ?_⟩
    refine ⟨_, rfl, _, rfl, x, C, dx, _, rfl, upd_same, cl, n2, by show 1 < 1000; decide, ?_⟩
    exact q _ ⟨dx, upd_same⟩ (((Keep.same (s1.trans s2)).trans Keep.put).trans Keep.put)
theorem scStLen : FnScope ["self"] ["self"] (defScope sStepLen) := ⟨rfl, rfl, rfl, by decide +kernel, rfl, by decide +kernel, by decide +kernel⟩
theorem ok_stLen {C f : Addr} {fd : FuncData} (S : Std mg) (cl : Cls K C) (n2 : NoAttr K C "ways") (F : Fun K "__len__" "Step.__len__" sStepLen f fd) : FnOk P w K mg base CX0 1 f fd ["self"] (spStLen C) := by
  refine F.ok scStLen (fun vs H Q E h => ?_) (fun cdv A outer s H vs Q E hr h => ?_)
  · obtain ⟨x, z, y, rfl, _⟩ := h
    rfl
  · obtain ⟨x, z, y, rfl, ⟨dx, hx⟩, hy, q⟩ := h
    refine ⟨_, pss_one (ps_ret (pe_callB call_len (by rfl) S.len PySem.boot_len (pa_cons (pe_fld (pv 0) rfl) pa_nil))), ?_⟩
    exact ⟨_, rfl, _, _, _, _, _, rfl, hx, cl, n2, rfl, _, _, rfl, ⟨by rw [sizeLine_eq]; omega, rfl⟩, q⟩
end
end LK

namespace LK
open PySem PySem.Spec PyProof.Rows L2
/-! ### chains -/
/-- a def with a star parameter -/
theorem okStar {P : Program} {w : World} {K : PySem.W.Frag} {mg : Str → Option Value} {base : Heap} {x qual pv : Str} {st : Stmt} {f : Addr} {fd : FuncData} {N ps : List Str} {k : Nat} {sp : Sp} (F : Fun K x qual st f fd) (S : FnScope N (ps ++ [pv]) (defScope st))
    (hb : ∀ (kV doc pm : Value) (an : Option Addr) (cdv ct : Value) (us rest : List Value), us.length = ps.length → bindArgs (PySem.W.fnOf x qual (defArgs st) (defBody st) (defScope st) .none kV doc pm an cdv ct) ⟨us ++ rest, []⟩ = (newTuple rest >>= fun t => pure (ps.zip us ++ [(pv, t)])))
    (walk : ∀ (cdv : Value) (A : Around) (outer : List Env) (s : Shared) (H : Hp) (vs : List V) (Q : VK) (E : XK), Room k (A.deeper (envOfC qual (defScope st) s.heap.objs.size f cdv)) → sp vs H Q E →
      ∃ t, PSs (cxOf CX0 P w K mg base N qual (defScope st) f cdv A outer s H E).nox (defBody st) t ∧ t { nx := fun _ H' => Q .non H', rt := Q } (start N vs) H) :
    FnR P w K mg base CX0 (k + 1) f (fun vs H Q E => ∃ ws rest, vs = ws ++ rest ∧ ws.length = ps.length ∧ rest.length ≤ sizeLine ∧ ∀ p, H p = Option.none → sp (ws ++ [V.ref p]) (upd H p (.tup rest)) Q E) := by
  obtain ⟨oc, od, kV, doc, pm, an, cdv, ct, osl, rfl, lk, hcd⟩ := F.ex
  refine StX.fn_star lk hcd S StX.cxUp_none (hb kV doc pm an cdv ct) fun A outer s H vs Q E hr h => ?_
  obtain ⟨t, p, q⟩ := walk cdv A outer s H vs Q E hr h
  exact ⟨t, p.nox, q⟩
/-- a class with its own __len__ -/
structure LenM (K : PySem.W.Frag) (C f : Addr) (fd : FuncData) (st : Stmt) (q : Str) : Prop where
  F : Fun K "__len__" q st f fd
  b : Binds K fd ["self"] []
  at_ : PySem.W.findIn K (.ref C) "__len__" = some (some (.ref f))
  fn : PySem.W.isFn K (.ref f) = true
end LK

namespace LK
open PySem PySem.Spec PyProof.Rows L2
theorem StepAt.same {C : Addr} {H H' : Hp} {a : Addr} {z y : Str} (s : Same H H') (h : StepAt C H a z y) : StepAt C H' a z y := by
  obtain ⟨dx, h⟩ := h
  exact ⟨dx, s _ _ h⟩
end LK

namespace LK
open PySem PySem.Spec PyProof.Rows L2
/-! ### texts that are drawn -/
def spSign : Sp := fun vs H Q _ => ∃ (l : Addr), vs = [.ref l] ∧ Feed H l ∧ ∀ c H', Feed H' l → Keep l H H' → Q (.str ⟨#[c]⟩) H'
def spBent : Sp := fun vs H Q _ => ∃ (l : Addr) (z : Str), vs = [.ref l, .str z] ∧ z.length ≤ 4 ∧ Feed H l ∧ ∀ y H', y.length ≤ 9 → Feed H' l → Keep l H H' → Q (.str y) H'
def spNear0 : Sp := fun vs H Q _ => ∃ (l : Addr), vs = [.ref l] ∧ Feed H l ∧ ∀ y H', y.length ≤ 9 → Feed H' l → Keep l H H' → Q (.str y) H'
def spWays : Sp := fun vs H Q _ => ∃ (l : Addr), vs = [.ref l] ∧ Feed H l ∧ ∀ y H', WaysOk y → Feed H' l → Keep l H H' → Q (.str y) H'
theorem len_app (x y : Str) : (x ++ y).length = x.length + y.length := by
  rw [TL.len_tl, TL.tl_append, List.length_append, ← TL.len_tl, ← TL.len_tl]
theorem fit {x y : Str} {m n : Nat} (a : x.length ≤ m) (b : y.length ≤ n) (c : m + n ≤ 1000) : x.length + y.length ≤ sizeLine := Nat.le_of_lt (small1000 (by omega))
theorem cut4 {z : Str} (h : z.length ≤ 4) (a b : Option Int) : (cutS z a b).length ≤ 4 := Nat.le_trans (cutS_length z a b) h
section
variable {P : Program} {w : World} {K : PySem.W.Frag} {mg : Str → Option Value} {base : Heap}
theorem scWays : FnScope ["_law_feed_here", "_law_k"] ["_law_feed_here"] (defScope sWays) := ⟨rfl, rfl, rfl, by decide +kernel, rfl, by decide +kernel, by decide +kernel⟩
theorem ok_ways {f fD fP : Addr} {fd fdD fdP : FuncData} (S : Std mg) (F : Fun K "_law_ways" "_law_ways" sWays f fd) (D : Df K mg "_law_draw" sDraw fD fdD ["_law_feed_here", "_law_many"]) (PK : Df K mg "_law_pick" sPick fP fdP ["_law_feed_here", "_law_items"]) : FnOk P w K mg base CX0 3 f fd ["_law_feed_here"] spWays := by
  have GD : FnOk P w K mg base CX0 1 fD fdD ["_law_feed_here", "_law_many"] spDraw := ok_draw S D.F
  have GP : FnOk P w K mg base CX0 2 fP fdP ["_law_feed_here", "_law_items"] (spPick K) := ok_pick S PK.F D
  refine F.ok scWays (fun vs H Q E h => ?_) (fun cdv A outer s H vs Q E hr h => ?_)
  · obtain ⟨l, rfl, _⟩ := h
    rfl
  · obtain ⟨l, rfl, hf, q⟩ := h
    have hr1 : Room 1 _ := hr.mono (by decide)
    refine ⟨_, pss_one (ps_ret (pe_join pe_str (pe_lc (own := [("_law_k", 1)]) (g := gName 1) (tt := tYes) rfl scWays.nd
          (pi_range1 (by rfl) S.range (pa_cons (pe_op op_add pe_int (pe_call GD hr1 rfl D.g D.F.kp D.b .nil pass0 (pa_cons (pv 0) (pa_cons pe_int pa_nil)))) pa_nil))
          (blkOk_by (N := ["_law_feed_here", "_law_k"]) (sc := defScope sWays) (by decide +kernel)) (fun _ _ _ _ _ => pg_name (i := 1) scWays.nd rfl (Or.inl rfl)) (fun _ _ _ _ _ => pts_nil)
          (fun _ _ _ _ _ => pe_call GP hr rfl PK.g PK.F.kp PK.b .nil pass0 (pa_cons (pv 0) (pa_cons pe_str pa_nil)))))), ?_⟩
    refine ⟨⟨_, rfl⟩, _, rfl, l, 3, rfl, hf, by decide, by decide, fun d H1 d0 d1 hf1 k1 => ⟨_, _, rfl, rfl, 1 + d, rfl, by omega, by omega, fun D hD => ?_⟩⟩
    have hlD : l ≠ D := hf1.ne hD
    refine lc_range (lo := 0) (n := (1 + d).toNat) (fun i H2 => Feed H2 l ∧ (∀ b o, b ≠ l → H b = some o → H2 b = some o) ∧ ∃ ys : List Str, ys.length = i ∧ H2 D = some (.lst (ys.map V.str)) ∧ ∀ y, y ∈ ys → y.length = 1 ∧ ∀ c, c ∈ TL.tl y → c ∈ TL.tl ("+-?" : Str))
      ⟨hf1.same (same_new hD), fun b o n e => same_new hD b o (k1 b o n e), [], rfl, upd_same, fun y hy => by simp at hy⟩ ?_ ?_
    · rintro i H2 hi ⟨hf2, k2, ys, el, hy, hys⟩
      refine ⟨rfl, _, rfl, l, .str "+-?", (fun v => ∃ c : Nat, v = .str ⟨#[c]⟩ ∧ c ∈ TL.tl ("+-?" : Str)), rfl, hf2, .inl ⟨_, rfl, by decide +kernel, by decide +kernel, fun c hc => ⟨c, rfl, hc⟩⟩, ?_⟩
      rintro v H3 ⟨c, rfl, hc⟩ hf3 k3
      refine ⟨ys.map V.str, k3 _ _ hlD.symm hy, ?_, ?_⟩
      · rw [List.length_map]
        exact small1000 (by omega)
      · refine ⟨hf3.keep (m := D) Keep.put hlD, fun b o n e => ?_, ys ++ [⟨#[c]⟩], by simp [el], by rw [upd_same]; simp, fun y hy' => ?_⟩
        · by_cases hb : b = D
          · exfalso
            rw [hb] at e n
            have z := k1 _ _ n e
            rw [hD] at z
            cases z
          · rw [upd_ne hb]
            exact k3 b o n (k2 b o n e)
        · rcases List.mem_append.mp hy' with z | z
          · exact hys y z
          · have e : y = ⟨#[c]⟩ := by simpa using z
            subst e
            exact ⟨rfl, fun c' hc' => by
              have e : c' = c := by simpa [TL.tl] using hc'
              subst e
              exact hc⟩
    · rintro H2 ⟨hf2, k2, ys, el, hy, hys⟩
      have hone : ∀ y, y ∈ ys → y.length = 1 := fun y h => (hys y h).1
      have l1 : ys.length = 1 + d.toNat := by omega
      have htl := tl_join0 ys
      have hlen : (Txt.join "" ys).length = ys.length := by rw [TL.len_tl, htl, flat_one hone]
      refine ⟨_, _, ys, rfl, rfl, .inl (SqL.of hy), ?_, q _ H2 ⟨by omega, by omega, fun c hc => ?_⟩ hf2 k2⟩
      · rw [sum_one hone]
        show ys.length + ys.length * 0 ≤ 16777216
        omega
      · rw [htl] at hc
        obtain ⟨l', h1, h2⟩ := List.mem_flatten.mp hc
        obtain ⟨y, hy', rfl⟩ := List.mem_map.mp h1
        exact (hys y hy').2 c h2
end
end LK

namespace LK
open PySem PySem.Spec PyProof.Rows L2
/-! ### any value -/
theorem old_none {H H1 : Hp} {l b : Addr} (k : Keep l H H1) (f : Feed H1 l) (h : H1 b = none) : H b = none := by
  cases e : H b with
  | none => rfl
  | some o =>
    by_cases hb : b = l
    · obtain ⟨x, y, q, _⟩ := f
      rw [hb, q] at h
      cases h
    · rw [k _ _ hb e] at h
      cases h
/-- an object just made, seen later -/
theorem made {H H1 H' : Hp} {l x dx : Addr} {o u : HO} (k : Keep l H H1) (f : Feed H1 l) (nx : H1 x = none) (nd : H1 dx = none) (k2 : Keep x (upd (upd H1 dx o) x u) H') : Feed H' l ∧ Keep l H H' ∧ H x = none := by
  have s := same_of_keep (H1 := H1) nx nd k2
  exact ⟨f.same s, k.trans (Keep.same s), old_none k f nx⟩
theorem nw_mono {H H1 H' : Hp} {l : Addr} (k : Keep l H H1) (f : Feed H1 l) : Same (nw H1 H') (nw H H') := fun b o e => by
  obtain ⟨e1, e2⟩ := nw_some e
  rw [nw_at (old_none k f e1)]
  exact e2
theorem StepAt.nw {C : Addr} {H H' : Hp} {x : Addr} {z y : Str} (hx : H x = none) (h : StepAt C H' x z y) : StepAt C (nw H H') x z y := by
  obtain ⟨dx, h⟩ := h
  exact ⟨dx, by rw [nw_at hx]; exact h⟩
theorem plusOk : WaysOk "+" := ⟨by decide +kernel, by decide +kernel, by decide +kernel⟩
end LK

namespace LK
open PySem PySem.Spec PyProof.Rows L2 LR
/-! ### expressions put together -/
theorem same_ins {H1 : Hp} {x dx : Addr} {o u : HO} (nx : H1 x = none) (nd : H1 dx = none) : Same H1 (upd (upd H1 dx o) x u) := fun b v e => by
  rw [upd_ne (ne_of_none e nx), upd_ne (ne_of_none e nd)]
  exact e
/-- what makes an expression -/
structure ExMk (K : PySem.W.Frag) (mg : Str → Option Value) (C cS fe fN fS : Addr) (fde fdN fdS : FuncData) : Prop where
  cl : Cls K C
  n : ExN K C
  ne : cS ≠ C
  clS : Cls K cS
  s1 : NoAttr K cS "name"
  s2 : NoAttr K cS "ways"
  g : mg "Expr" = some (.ref C)
  M : Mk K C fe
  F : Fun K "__init__" "Expr.__init__" sExprInit fe fde
  b : Binds K fde ["self", "kind", "word", "step", "parts"] []
  N : Dd K mg "all_names" sAllNames fN fdN ["holders", "more"]
  T : Dd K mg "all_steps" sAllSteps fS fdS ["holders", "more"]
/-- the made object's fields, seen from the heap it was made in -/
theorem ex_made {K : PySem.W.Frag} {C cS x dx p : Addr} {H1 H' : Hp} {kd z : Str} {st : V} {ps : List V} {m n : Nat} (nx : H1 x = none) (nd : H1 dx = none) (hp : SqT K H1 p ps) (le1 : (ownN kd z).length + m ≤ n) (le2 : (ownS st).length + m ≤ n)
    (h : ∃ q1 q2 i j, ∃ (zs : List Str) (bs : List V), H' x = some (.ins C dx (exFs kd z st p q1 q2 i j)) ∧ (upd (upd H1 dx (.own x)) x (.ins C dx [])) q1 = none ∧ (upd (upd H1 dx (.own x)) x (.ins C dx [])) q2 = none ∧ H' q1 = some (.tup (zs.map V.str)) ∧ H' q2 = some (.tup bs) ∧
      zs.length ≤ (ownN kd z).length + m ∧ bs.length ≤ (ownS st).length + m ∧ ∀ b ∈ bs, IsSt cS H' b) (k : Keep x (upd (upd H1 dx (.own x)) x (.ins C dx [])) H') :
    Same H1 H' ∧ ExP K C cS H' (.ref x) kd z st ps n := by
  obtain ⟨q1, q2, i, j, zs, bs, he, _, _, t1, t2, l1, l2, g⟩ := h
  have s := same_of_keep (H1 := H1) nx nd k
  exact ⟨s, x, p, rfl, ⟨dx, q1, q2, i, j, zs, bs, he, t1, t2, by omega, by omega, g⟩, SqT.same s hp⟩
def spApplied (K : PySem.W.Frag) (C cS : Addr) : Sp := fun vs H Q _ => ∃ (st : V) (l : Addr) (ks : List (V × Nat)), vs = [st, .ref l] ∧ IsSt cS H st ∧ SqL K H l (ks.map fun e => e.1) ∧ (∀ e ∈ ks, IsEx C cS H e) ∧ 1 + tot ks < 64 ∧ ks.length < 64 ∧
  ∀ v H', Same H H' → ExP K C cS H' v "step" "" st (ks.map fun e => e.1) (1 + tot ks) → Q v H'
def spTwo (K : PySem.W.Frag) (C cS : Addr) (kd : Str) : Sp := fun vs H Q _ => ∃ (x y : V) (m n : Nat), vs = [x, y] ∧ IsEx C cS H (x, m) ∧ IsEx C cS H (y, n) ∧ 1 + (m + n) < 64 ∧ ∀ v H', Same H H' → ExP K C cS H' v kd "" .non [x, y] (1 + (m + n)) → Q v H'
section
variable {P : Program} {w : World} {K : PySem.W.Frag} {mg : Str → Option Value} {base : Heap}
theorem scApplied : FnScope ["step", "parts"] ["step", "parts"] (defScope sApplied) := ⟨rfl, rfl, rfl, by decide +kernel, rfl, by decide +kernel, by decide +kernel⟩
theorem ok_applied {C cS fe fN fS f : Addr} {fde fdN fdS fd : FuncData} (S : Std mg) (X1 : ExMk K mg C cS fe fN fS fde fdN fdS) (F : Fun K "applied" "applied" sApplied f fd) : FnOk P w K mg base CX0 4 f fd ["step", "parts"] (spApplied K C cS) := by
  have GE : FnOk P w K mg base CX0 2 fe fde ["self", "kind", "word", "step", "parts"] (spExInit K C cS) := ok_exInit S X1.cl X1.n X1.ne X1.clS X1.s1 X1.s2 X1.F X1.N X1.T
  refine F.ok scApplied (fun vs H Q E h => ?_) (fun cdv A outer s H vs Q E hr h => ?_)
  · obtain ⟨st, l, ks, rfl, _⟩ := h
    rfl
  · obtain ⟨st, l, ks, rfl, hs, hl, hk, few, short, q⟩ := h
    refine ⟨_, pss_one (ps_ret (pe_make X1.M GE hr rfl X1.g X1.b .nil pass0 (pa_cons pe_str (pa_cons pe_str (pa_cons (pv 0) (pa_cons (pe_callTy call_tuple_of (by rfl) S.tuple (by decide +kernel) (pa_cons (pv 1) pa_nil)) pa_nil)))))), ?_⟩
    refine ⟨_, rfl, _, rfl, l, _, rfl, .inl ⟨hl, fun p hp => ?_⟩⟩
    have sp := same_new (o := .tup (ks.map fun e => e.1)) hp
    intro x dx nx nd ne
    have s2 := sp.trans (same_ins (o := .own x) (u := .ins C dx []) nx nd)
    refine ⟨x, dx, p, "step", "", st, ks, rfl, upd_same, SqT.same (same_ins nx nd) (SqT.of upd_same), fun e he => (hk e he).same s2, .inr (hs.same s2), few, short, fun H' h k => ⟨rfl, ?_⟩⟩
    obtain ⟨s3, ex⟩ := ex_made nx nd (SqT.of (K := K) upd_same) (n := 1 + tot ks) (by show 0 + tot ks ≤ _; omega) (by have := ownS_le st; omega) h k
    exact q _ H' (sp.trans s3) ex
theorem two_tot (x y : V) (m n : Nat) : tot [(x, m), (y, n)] = m + n := by
  simp [tot]
theorem scLesser : FnScope ["left", "right"] ["left", "right"] (defScope sLesser) := ⟨rfl, rfl, rfl, by decide +kernel, rfl, by decide +kernel, by decide +kernel⟩
theorem ok_lesser {C cS fe fN fS f : Addr} {fde fdN fdS fd : FuncData} (S : Std mg) (X1 : ExMk K mg C cS fe fN fS fde fdN fdS) (F : Fun K "_lesser" "_lesser" sLesser f fd) : FnOk P w K mg base CX0 4 f fd ["left", "right"] (spTwo K C cS "lesser") := by
  have GE : FnOk P w K mg base CX0 2 fe fde ["self", "kind", "word", "step", "parts"] (spExInit K C cS) := ok_exInit S X1.cl X1.n X1.ne X1.clS X1.s1 X1.s2 X1.F X1.N X1.T
  refine F.ok scLesser (fun vs H Q E h => ?_) (fun cdv A outer s H vs Q E hr h => ?_)
  · obtain ⟨x, y, m, n, rfl, _⟩ := h
    rfl
  · obtain ⟨x0, y0, m, n, rfl, hx, hy, few, q⟩ := h
    refine ⟨_, pss_one (ps_ret (pe_make X1.M GE hr rfl X1.g X1.b .nil pass0 (pa_cons pe_str (pa_cons pe_str (pa_cons pe_non (pa_cons (pe_tup (pa_cons (pv 0) (pa_cons (pv 1) pa_nil))) pa_nil)))))), ?_⟩
    refine ⟨_, rfl, _, rfl, (by show 2 ≤ sizeLine; decide), fun p hp => ?_⟩
    have sp := same_new (o := .tup [x0, y0]) hp
    intro x dx nx nd ne
    have s2 := sp.trans (same_ins (o := .own x) (u := .ins C dx []) nx nd)
    refine ⟨x, dx, p, "lesser", "", .non, [(x0, m), (y0, n)], rfl, upd_same, SqT.same (same_ins nx nd) (SqT.of upd_same), fun e he => ?_, .inl rfl, by rw [two_tot]; exact few, (by show 2 < 64; decide), fun H' h k => ⟨rfl, ?_⟩⟩
    · rcases List.mem_cons.mp he with rfl | he
      · exact hx.same s2
      · rw [List.mem_singleton.mp he]
        exact hy.same s2
    obtain ⟨s3, ex⟩ := ex_made nx nd (SqT.of (K := K) upd_same) (n := 1 + (m + n)) (by rw [two_tot]; show 0 + (m + n) ≤ _; omega) (by rw [two_tot]; show 0 + (m + n) ≤ _; omega) h k
    exact q _ H' (sp.trans s3) ex
theorem scGreater : FnScope ["left", "right"] ["left", "right"] (defScope sGreater) := ⟨rfl, rfl, rfl, by decide +kernel, rfl, by decide +kernel, by decide +kernel⟩
theorem ok_greater {C cS fe fN fS f : Addr} {fde fdN fdS fd : FuncData} (S : Std mg) (X1 : ExMk K mg C cS fe fN fS fde fdN fdS) (F : Fun K "_greater" "_greater" sGreater f fd) : FnOk P w K mg base CX0 4 f fd ["left", "right"] (spTwo K C cS "greater") := by
  have GE : FnOk P w K mg base CX0 2 fe fde ["self", "kind", "word", "step", "parts"] (spExInit K C cS) := ok_exInit S X1.cl X1.n X1.ne X1.clS X1.s1 X1.s2 X1.F X1.N X1.T
  refine F.ok scGreater (fun vs H Q E h => ?_) (fun cdv A outer s H vs Q E hr h => ?_)
  · obtain ⟨x, y, m, n, rfl, _⟩ := h
    rfl
  · obtain ⟨x0, y0, m, n, rfl, hx, hy, few, q⟩ := h
    refine ⟨_, pss_one (ps_ret (pe_make X1.M GE hr rfl X1.g X1.b .nil pass0 (pa_cons pe_str (pa_cons pe_str (pa_cons pe_non (pa_cons (pe_tup (pa_cons (pv 0) (pa_cons (pv 1) pa_nil))) pa_nil)))))), ?_⟩
    refine ⟨_, rfl, _, rfl, (by show 2 ≤ sizeLine; decide), fun p hp => ?_⟩
    have sp := same_new (o := .tup [x0, y0]) hp
    intro x dx nx nd ne
    have s2 := sp.trans (same_ins (o := .own x) (u := .ins C dx []) nx nd)
    refine ⟨x, dx, p, "greater", "", .non, [(x0, m), (y0, n)], rfl, upd_same, SqT.same (same_ins nx nd) (SqT.of upd_same), fun e he => ?_, .inl rfl, by rw [two_tot]; exact few, (by show 2 < 64; decide), fun H' h k => ⟨rfl, ?_⟩⟩
    · rcases List.mem_cons.mp he with rfl | he
      · exact hx.same s2
      · rw [List.mem_singleton.mp he]
        exact hy.same s2
    obtain ⟨s3, ex⟩ := ex_made nx nd (SqT.of (K := K) upd_same) (n := 1 + (m + n)) (by rw [two_tot]; show 0 + (m + n) ≤ _; omega) (by rw [two_tot]; show 0 + (m + n) ≤ _; omega) h k
    exact q _ H' (sp.trans s3) ex
end
end LK

namespace LK
open PySem PySem.Spec PyProof.Rows L2 LR
/-! ### expressions made -/
/-- y stands for the expression of m -/
def PartR (K : PySem.W.Frag) (C cS : Addr) (n : Nat) (H : Hp) (y : V) (m : Md) : Prop := ExR K C cS n H m y ∨ ∃ z, y = .str z ∧ m = .nm z ∧ NameOk z ∧ 1 ≤ n
theorem partR_tr {K : PySem.W.Frag} {C cS : Addr} {n : Nat} {H H' : Hp} {y : V} {m : Md} (t : Tr H H') (h : PartR K C cS n H y m) : PartR K C cS n H' y m := h.imp (exR_tr t) id
theorem ExR.same {K : PySem.W.Frag} {C cS : Addr} {n : Nat} {H H' : Hp} {m : Md} {e : V} (s : Same H H') (h : ExR K C cS n H m e) : ExR K C cS n H' m e := exR_tr (Tr.same s) h
theorem PartR.same {K : PySem.W.Frag} {C cS : Addr} {n : Nat} {H H' : Hp} {y : V} {m : Md} (s : Same H H') (h : PartR K C cS n H y m) : PartR K C cS n H' y m := partR_tr (Tr.same s) h
theorem ExR.fld {K : PySem.W.Frag} {C cS : Addr} {H : Hp} {m : Md} {e : V} : ∀ {n : Nat}, ExR K C cS n H m e → ∃ es, FldX K C cS H m e es
  | 0, h => h.elim
  | _ + 1, ⟨es, f, _⟩ => ⟨es, f⟩
theorem ExR.ins {K : PySem.W.Frag} {C cS : Addr} {H : Hp} {m : Md} {e : V} {n : Nat} (h : ExR K C cS n H m e) : ∃ a dx fs, e = .ref a ∧ H a = some (.ins C dx fs) := by
  obtain ⟨es, a, dx, p, q1, q2, j, ys, bs, ks, e, ha, _⟩ := h.fld
  exact ⟨a, dx, _, e, ha⟩
theorem ExR.pos {K : PySem.W.Frag} {C cS : Addr} {H : Hp} {m : Md} {e : V} : ∀ {n : Nat}, ExR K C cS n H m e → 1 ≤ n
  | 0, h => h.elim
  | _ + 1, _ => by omega
def spNamedX (K : PySem.W.Frag) (C cS : Addr) : Sp := fun vs H Q _ => ∃ z, vs = [.str z] ∧ NameOk z ∧ ∀ v H', Same H H' → ExR K C cS 1 H' (.nm z) v → Q v H'
def spAsX (K : PySem.W.Frag) (C cS : Addr) : Sp := fun vs H Q _ => ∃ (v : V) (n : Nat) (m : Md), vs = [v] ∧ PartR K C cS n H v m ∧ ∀ v' H', Same H H' → ExR K C cS n H' m v' → Q v' H'
def spTwoX (K : PySem.W.Frag) (C cS : Addr) (hd : Hd) : Sp := fun vs H Q _ => ∃ (x y : V) (n : Nat) (m m' : Md), vs = [x, y] ∧ ExR K C cS n H m x ∧ ExR K C cS n H m' y ∧ 1 + (sz m + sz m') < 64 ∧ ∀ v H', Same H H' → ExR K C cS (n + 1) H' (.ap hd [m, m']) v → Q v H'
def spAppliedX (K : PySem.W.Frag) (C cS : Addr) : Sp := fun vs H Q _ => ∃ (a l : Addr) (z y : Str) (n : Nat) (ks : List (V × Md)), vs = [.ref a, .ref l] ∧ HdS cS H (.st a z y) ∧ ks.length = y.length ∧ SqL K H l (ks.map (·.1)) ∧ (∀ e ∈ ks, ExR K C cS n H e.2 e.1) ∧ sz (.ap (.st a z y) (ks.map (·.2))) < 64 ∧
  ∀ v H', Same H H' → ExR K C cS (n + 1) H' (.ap (.st a z y) (ks.map (·.2))) v → Q v H'
def spBinX (K : PySem.W.Frag) (C cS : Addr) (hd : Hd) (rev : Bool) : Sp := fun vs H Q _ => ∃ (x y : V) (n : Nat) (m m' : Md), vs = [x, y] ∧ ExR K C cS n H m x ∧ PartR K C cS n H y m' ∧ 1 + (sz m + sz m') < 64 ∧
  ∀ v H', Same H H' → ExR K C cS (n + 1) H' (.ap hd (if rev = true then [m', m] else [m, m'])) v → Q v H'
/-- it is made -/
theorem exR_made {K : PySem.W.Frag} {C cS x dx : Addr} {H1 H' : Hp} {m : Md} {n : Nat} {ks : List (V × Md)} (nx : H1 x = none) (nd : H1 dx = none) (em : ks.map (·.2) = prM m) (hk : ∀ e ∈ ks, ExR K C cS n H1 e.2 e.1) (ok : OkM cS H1 m)
    (f : FldX K C cS H' m (.ref x) (ks.map (·.1))) (k : Keep x (upd (upd H1 dx (.own x)) x (.ins C dx [])) H') : Same H1 H' ∧ ExR K C cS (n + 1) H' m (.ref x) := by
  have s := same_of_keep (H1 := H1) nx nd k
  refine ⟨s, _, f, by rw [← em, List.length_map, List.length_map], okM_tr (Tr.same s) ok, fun i m' v h1 h2 => ?_⟩
  rw [← em, List.getElem?_map] at h1
  rw [List.getElem?_map] at h2
  obtain ⟨e, he, rfl⟩ := Option.map_eq_some_iff.mp h1
  obtain ⟨e', he', rfl⟩ := Option.map_eq_some_iff.mp h2
  rw [he] at he'
  cases he'
  exact (hk e (List.mem_of_getElem? he)).same s
section
variable {P : Program} {w : World} {K : PySem.W.Frag} {mg : Str → Option Value} {base : Heap}
theorem ok_namedX {C cS fI f fe fN fS kw : Addr} {fdI fd fde fdN fdS : FuncData} (S : Std mg) (W : Words K mg kw) (I : Df K mg "is_name" sIsName fI fdI ["value"]) (X1 : ExMk K mg C cS fe fN fS fde fdN fdS) (F : Fun K "named" "named" sNamed f fd) : FnOk P w K mg base CX0 4 f fd ["word"] (spNamedX K C cS) := by
  have GI : FnOk P w K mg base CX0 1 fI fdI ["value"] spName := ok_isName S W I.F
  have GE : FnOk P w K mg base CX0 2 fe fde ["self", "kind", "word", "step", "parts"] (spExInitX K C cS) := ok_exInitX S X1.cl X1.n X1.ne X1.clS X1.s1 X1.s2 X1.F X1.N X1.T
  refine F.ok scNamed (fun vs H Q E h => ?_) (fun cdv A outer s H vs Q E hr h => ?_)
  · obtain ⟨z, rfl, _⟩ := h
    rfl
  · obtain ⟨z, rfl, hz, q⟩ := h
    refine ⟨_, pss_cons (ps_if (pt_not (pt_val (pe_call GI (hr.mono (by decide)) rfl I.g I.F.kp I.b .nil pass0 (pa_cons (pv 0) pa_nil)))) (pss_one ps_never) pss_nil)
      (pss_one (ps_ret (pe_make X1.M GE hr rfl X1.g X1.b .nil pass0 (pa_cons pe_str (pa_cons (pv 0) (pa_cons pe_non (pa_cons (pe_tup pa_nil) pa_nil))))))), ?_⟩
    refine ⟨_, rfl, z, rfl, hz, fun H1 s1 => ⟨_, rfl, iteF ?_⟩⟩
    refine ⟨_, rfl, by show 0 ≤ sizeLine; decide, fun p hp => fun x dx nx nd ne => ?_⟩
    have sp := same_new (o := .tup []) hp
    refine ⟨x, dx, p, .nm z, [], rfl, upd_same, same_ins nx nd _ _ upd_same, rfl, (fun e he => absurd he List.not_mem_nil), hz, (by rw [sz]; decide), fun H' f k => ⟨rfl, ?_⟩⟩
    obtain ⟨s3, ex⟩ := exR_made (n := 0) (ks := []) nx nd rfl (fun e he => absurd he List.not_mem_nil) (show OkM cS _ (.nm z) from hz) f k
    exact q _ H' ((s1.trans sp).trans s3) ex
theorem scAs1 : FnScope ["value"] ["value"] (defScope sAsExpr) := ⟨rfl, rfl, rfl, by decide +kernel, rfl, by decide +kernel, by decide +kernel⟩
theorem ok_asExprX {C cS fI fM f kw : Addr} {fdI fdM fd : FuncData} (S : Std mg) (Wd : Words K mg kw) (c : OwnCl K mg "Expr" C) (kS : PySem.W.kitOne K (.type "str") (.ref C) = some false) (I : Df K mg "is_name" sIsName fI fdI ["value"]) (M : Df K mg "named" sNamed fM fdM ["word"]) (GM : FnOk P w K mg base CX0 4 fM fdM ["word"] (spNamedX K C cS))
    (F : Fun K "as_expr" "as_expr" sAsExpr f fd) : FnOk P w K mg base CX0 5 f fd ["value"] (spAsX K C cS) := by
  have GI : FnOk P w K mg base CX0 1 fI fdI ["value"] spName := ok_isName S Wd I.F
  refine F.ok scAs1 (fun vs H Q E h => ?_) (fun cdv A outer s H vs Q E hr h => ?_)
  · obtain ⟨v, n, m, rfl, _⟩ := h
    rfl
  · obtain ⟨v, n, m, rfl, h, q⟩ := h
    refine ⟨_, pss_cons (ps_if (pt_val (pe_callB call_isi (by rfl) S.isi (by decide +kernel) (pa_cons (pv 0) (pa_cons (pe_glob (v := .ref C) rfl c.g rfl) pa_nil)))) (pss_one (ps_ret (pv 0))) pss_nil)
      (pss_one (ps_ret (pe_ifExp (pt_val (pe_call GI (hr.mono (by decide)) rfl I.g I.F.kp I.b .nil pass0 (pa_cons (pv 0) pa_nil))) (pe_call GM hr rfl M.g M.F.kp M.b .nil pass0 (pa_cons (pv 0) pa_nil)) pe_non))), ?_⟩
    rcases h with h | ⟨z, rfl, rfl, ok, le⟩
    · obtain ⟨a, dx, fs, rfl, ha⟩ := h.ins
      exact ⟨_, rfl, _, _, _, _, true, rfl, .own C, c.ty ha, kit_self, true, rfl, iteT ⟨_, rfl, q _ H (Same.refl H) h⟩⟩
    · refine ⟨_, rfl, _, _, _, _, false, rfl, .own C, .base (.str z), kS, false, rfl, iteF ?_⟩
      exact ⟨_, rfl, z, rfl, ok, fun H1 s1 => ⟨_, rfl, iteT ⟨_, rfl, z, rfl, ok, fun v' H' s' ex => q v' H' (s1.trans s') (ex.up le)⟩⟩⟩
theorem scPart : FnScope ["value", "expr"] ["value"] (defScope sPartExpr) := ⟨rfl, rfl, rfl, by decide +kernel, rfl, by decide +kernel, by decide +kernel⟩
theorem ok_partExX {C cS fA f : Addr} {fdA fd : FuncData} (A1 : Df K mg "as_expr" sAsExpr fA fdA ["value"]) (GA : FnOk P w K mg base CX0 5 fA fdA ["value"] (spAsX K C cS)) (F : Fun K "part_expr" "part_expr" sPartExpr f fd) : FnOk P w K mg base CX0 6 f fd ["value"] (spAsX K C cS) := by
  refine F.ok scPart (fun vs H Q E h => ?_) (fun cdv A outer s H vs Q E hr h => ?_)
  · obtain ⟨v, n, m, rfl, _⟩ := h
    rfl
  · obtain ⟨v, n, m, rfl, h, q⟩ := h
    refine ⟨_, pss_cons (ps_set (i := 1) scPart.nd rfl (Or.inl rfl) (pe_call GA hr rfl A1.g A1.F.kp A1.b .nil pass0 (pa_cons (pv 0) pa_nil)))
      (pss_cons (ps_if (pt_cmp (pc_isN (pv 1))) (pss_one ps_never) pss_nil) (pss_one (ps_ret (pv 1)))), ?_⟩
    refine ⟨_, rfl, v, n, m, rfl, h, fun v' H' s' ex => ?_⟩
    obtain ⟨a, dx, fs, rfl, ha⟩ := ex.ins
    exact ⟨_, rfl, _, rfl, ite2 (fun e => absurd (of_decide_eq_true e) (by intro h; cases h)) (fun _ => ⟨_, rfl, q _ H' s' ex⟩)⟩
theorem ok_appliedX {C cS fe fN fS f : Addr} {fde fdN fdS fd : FuncData} (S : Std mg) (X1 : ExMk K mg C cS fe fN fS fde fdN fdS) (F : Fun K "applied" "applied" sApplied f fd) : FnOk P w K mg base CX0 4 f fd ["step", "parts"] (spAppliedX K C cS) := by
  have GE : FnOk P w K mg base CX0 2 fe fde ["self", "kind", "word", "step", "parts"] (spExInitX K C cS) := ok_exInitX S X1.cl X1.n X1.ne X1.clS X1.s1 X1.s2 X1.F X1.N X1.T
  refine F.ok scApplied (fun vs H Q E h => ?_) (fun cdv A outer s H vs Q E hr h => ?_)
  · obtain ⟨a, l, z, y, n, ks, rfl, _⟩ := h
    rfl
  · obtain ⟨a, l, z, y, n, ks, rfl, hs, len, hl, hk, short, q⟩ := h
    refine ⟨_, pss_one (ps_ret (pe_make X1.M GE hr rfl X1.g X1.b .nil pass0 (pa_cons pe_str (pa_cons pe_str (pa_cons (pv 0) (pa_cons (pe_callTy call_tuple_of (by rfl) S.tuple (by decide +kernel) (pa_cons (pv 1) pa_nil)) pa_nil)))))), ?_⟩
    refine ⟨_, rfl, _, rfl, l, _, rfl, .inl ⟨hl, fun p hp => ?_⟩⟩
    have sp := same_new (o := .tup (ks.map (·.1))) hp
    intro x dx nx nd ne
    have s2 := sp.trans (same_ins (o := .own x) (u := .ins C dx []) nx nd)
    have ok : OkM cS H (.ap (.st a z y) (ks.map (·.2))) := ⟨by rw [List.length_map]; exact len, hs⟩
    refine ⟨x, dx, p, .ap (.st a z y) (ks.map (·.2)), ks, rfl, upd_same, same_ins nx nd _ _ upd_same, rfl, fun e he => ((hk e he).same s2).fld, okM_tr (Tr.same s2) ok, short, fun H' f k => ⟨rfl, ?_⟩⟩
    obtain ⟨s3, ex⟩ := exR_made (n := n) nx nd rfl (fun e he => (hk e he).same sp) (okM_tr (Tr.same sp) ok) f k
    exact q _ H' (sp.trans s3) ex
theorem two_sz {hd : Hd} {m m' : Md} (h : 1 + (sz m + sz m') < 64) : sz (.ap hd [m, m']) < 64 := by
  simp only [sz, szL]
  omega
theorem ok_lesserX {C cS fe fN fS f : Addr} {fde fdN fdS fd : FuncData} (S : Std mg) (X1 : ExMk K mg C cS fe fN fS fde fdN fdS) (F : Fun K "_lesser" "_lesser" sLesser f fd) : FnOk P w K mg base CX0 4 f fd ["left", "right"] (spTwoX K C cS .le) := by
  have GE : FnOk P w K mg base CX0 2 fe fde ["self", "kind", "word", "step", "parts"] (spExInitX K C cS) := ok_exInitX S X1.cl X1.n X1.ne X1.clS X1.s1 X1.s2 X1.F X1.N X1.T
  refine F.ok scLesser (fun vs H Q E h => ?_) (fun cdv A outer s H vs Q E hr h => ?_)
  · obtain ⟨x, y, n, m, m', rfl, _⟩ := h
    rfl
  · obtain ⟨x0, y0, n, m, m', rfl, hx, hy, few, q⟩ := h
    refine ⟨_, pss_one (ps_ret (pe_make X1.M GE hr rfl X1.g X1.b .nil pass0 (pa_cons pe_str (pa_cons pe_str (pa_cons pe_non (pa_cons (pe_tup (pa_cons (pv 0) (pa_cons (pv 1) pa_nil))) pa_nil)))))), ?_⟩
    refine ⟨_, rfl, _, rfl, (by show 2 ≤ sizeLine; decide), fun p hp => ?_⟩
    have sp := same_new (o := .tup [x0, y0]) hp
    intro x dx nx nd ne
    have s2 := sp.trans (same_ins (o := .own x) (u := .ins C dx []) nx nd)
    have hk : ∀ e ∈ [(x0, m), (y0, m')], ExR K C cS n H e.2 e.1 := fun e he => by
      rcases List.mem_cons.mp he with rfl | he
      · exact hx
      · rw [List.mem_singleton.mp he]
        exact hy
    refine ⟨x, dx, p, .ap .le [m, m'], [(x0, m), (y0, m')], rfl, upd_same, same_ins nx nd _ _ upd_same, rfl, fun e he => ((hk e he).same s2).fld, ⟨rfl, trivial⟩, two_sz few, fun H' f k => ⟨rfl, ?_⟩⟩
    obtain ⟨s3, ex⟩ := exR_made (n := n) nx nd rfl (fun e he => (hk e he).same sp) (show OkM cS _ (.ap .le [m, m']) from ⟨rfl, trivial⟩) f k
    exact q _ H' (sp.trans s3) ex
theorem ok_greaterX {C cS fe fN fS f : Addr} {fde fdN fdS fd : FuncData} (S : Std mg) (X1 : ExMk K mg C cS fe fN fS fde fdN fdS) (F : Fun K "_greater" "_greater" sGreater f fd) : FnOk P w K mg base CX0 4 f fd ["left", "right"] (spTwoX K C cS .gr) := by
  have GE : FnOk P w K mg base CX0 2 fe fde ["self", "kind", "word", "step", "parts"] (spExInitX K C cS) := ok_exInitX S X1.cl X1.n X1.ne X1.clS X1.s1 X1.s2 X1.F X1.N X1.T
  refine F.ok scGreater (fun vs H Q E h => ?_) (fun cdv A outer s H vs Q E hr h => ?_)
  · obtain ⟨x, y, n, m, m', rfl, _⟩ := h
    rfl
  · obtain ⟨x0, y0, n, m, m', rfl, hx, hy, few, q⟩ := h
    refine ⟨_, pss_one (ps_ret (pe_make X1.M GE hr rfl X1.g X1.b .nil pass0 (pa_cons pe_str (pa_cons pe_str (pa_cons pe_non (pa_cons (pe_tup (pa_cons (pv 0) (pa_cons (pv 1) pa_nil))) pa_nil)))))), ?_⟩
    refine ⟨_, rfl, _, rfl, (by show 2 ≤ sizeLine; decide), fun p hp => ?_⟩
    have sp := same_new (o := .tup [x0, y0]) hp
    intro x dx nx nd ne
    have s2 := sp.trans (same_ins (o := .own x) (u := .ins C dx []) nx nd)
    have hk : ∀ e ∈ [(x0, m), (y0, m')], ExR K C cS n H e.2 e.1 := fun e he => by
      rcases List.mem_cons.mp he with rfl | he
      · exact hx
      · rw [List.mem_singleton.mp he]
        exact hy
    refine ⟨x, dx, p, .ap .gr [m, m'], [(x0, m), (y0, m')], rfl, upd_same, same_ins nx nd _ _ upd_same, rfl, fun e he => ((hk e he).same s2).fld, ⟨rfl, trivial⟩, two_sz few, fun H' f k => ⟨rfl, ?_⟩⟩
    obtain ⟨s3, ex⟩ := exR_made (n := n) nx nd rfl (fun e he => (hk e he).same sp) (show OkM cS _ (.ap .gr [m, m']) from ⟨rfl, trivial⟩) f k
    exact q _ H' (sp.trans s3) ex
/-! the four operators -/
theorem scAnd : FnScope ["self", "other"] ["self", "other"] (defScope sExprAnd) := ⟨rfl, rfl, rfl, by decide +kernel, rfl, by decide +kernel, by decide +kernel⟩
theorem scOr : FnScope ["self", "other"] ["self", "other"] (defScope sExprOr) := ⟨rfl, rfl, rfl, by decide +kernel, rfl, by decide +kernel, by decide +kernel⟩
theorem scRand : FnScope ["self", "other"] ["self", "other"] (defScope sExprRand) := ⟨rfl, rfl, rfl, by decide +kernel, rfl, by decide +kernel, by decide +kernel⟩
theorem scRor : FnScope ["self", "other"] ["self", "other"] (defScope sExprRor) := ⟨rfl, rfl, rfl, by decide +kernel, rfl, by decide +kernel, by decide +kernel⟩
variable {C cS fP fL f : Addr} {fdP fdL fd : FuncData} (P1 : Df K mg "part_expr" sPartExpr fP fdP ["value"]) (GP : FnOk P w K mg base CX0 6 fP fdP ["value"] (spAsX K C cS))
include P1 GP
theorem ok_andX (L1 : Df K mg "_lesser" sLesser fL fdL ["left", "right"]) (GL : FnOk P w K mg base CX0 4 fL fdL ["left", "right"] (spTwoX K C cS .le)) (F : Fun K "__and__" "Expr.__and__" sExprAnd f fd) : FnOk P w K mg base CX0 7 f fd ["self", "other"] (spBinX K C cS .le false) := by
  refine F.ok scAnd (fun vs H Q E h => ?_) (fun cdv A outer s H vs Q E hr h => ?_)
  · obtain ⟨x, y, n, m, m', rfl, _⟩ := h
    rfl
  · obtain ⟨x, y, n, m, m', rfl, hx, hy, few, q⟩ := h
    refine ⟨_, pss_one (ps_ret (pe_call GL (hr.mono (by decide)) rfl L1.g L1.F.kp L1.b .nil pass0 (pa_cons (pv 0) (pa_cons (pe_call GP hr rfl P1.g P1.F.kp P1.b .nil pass0 (pa_cons (pv 1) pa_nil)) pa_nil)))), ?_⟩
    exact ⟨_, rfl, _, rfl, y, n, m', rfl, hy, fun v H1 s1 ex => ⟨x, v, n, m, m', rfl, hx.same s1, ex, few, fun u H' s' r => q u H' (s1.trans s') r⟩⟩
theorem ok_randX (L1 : Df K mg "_lesser" sLesser fL fdL ["left", "right"]) (GL : FnOk P w K mg base CX0 4 fL fdL ["left", "right"] (spTwoX K C cS .le)) (F : Fun K "__rand__" "Expr.__rand__" sExprRand f fd) : FnOk P w K mg base CX0 7 f fd ["self", "other"] (spBinX K C cS .le true) := by
  refine F.ok scRand (fun vs H Q E h => ?_) (fun cdv A outer s H vs Q E hr h => ?_)
  · obtain ⟨x, y, n, m, m', rfl, _⟩ := h
    rfl
  · obtain ⟨x, y, n, m, m', rfl, hx, hy, few, q⟩ := h
    refine ⟨_, pss_one (ps_ret (pe_call GL (hr.mono (by decide)) rfl L1.g L1.F.kp L1.b .nil pass0 (pa_cons (pe_call GP hr rfl P1.g P1.F.kp P1.b .nil pass0 (pa_cons (pv 1) pa_nil)) (pa_cons (pv 0) pa_nil)))), ?_⟩
    exact ⟨_, rfl, y, n, m', rfl, hy, fun v H1 s1 ex => ⟨_, rfl, v, x, n, m', m, rfl, ex, hx.same s1, by omega, fun u H' s' r => q u H' (s1.trans s') r⟩⟩
theorem ok_orX (L1 : Df K mg "_greater" sGreater fL fdL ["left", "right"]) (GL : FnOk P w K mg base CX0 4 fL fdL ["left", "right"] (spTwoX K C cS .gr)) (F : Fun K "__or__" "Expr.__or__" sExprOr f fd) : FnOk P w K mg base CX0 7 f fd ["self", "other"] (spBinX K C cS .gr false) := by
  refine F.ok scOr (fun vs H Q E h => ?_) (fun cdv A outer s H vs Q E hr h => ?_)
  · obtain ⟨x, y, n, m, m', rfl, _⟩ := h
    rfl
  · obtain ⟨x, y, n, m, m', rfl, hx, hy, few, q⟩ := h
    refine ⟨_, pss_one (ps_ret (pe_call GL (hr.mono (by decide)) rfl L1.g L1.F.kp L1.b .nil pass0 (pa_cons (pv 0) (pa_cons (pe_call GP hr rfl P1.g P1.F.kp P1.b .nil pass0 (pa_cons (pv 1) pa_nil)) pa_nil)))), ?_⟩
    exact ⟨_, rfl, _, rfl, y, n, m', rfl, hy, fun v H1 s1 ex => ⟨x, v, n, m, m', rfl, hx.same s1, ex, few, fun u H' s' r => q u H' (s1.trans s') r⟩⟩
theorem ok_rorX (L1 : Df K mg "_greater" sGreater fL fdL ["left", "right"]) (GL : FnOk P w K mg base CX0 4 fL fdL ["left", "right"] (spTwoX K C cS .gr)) (F : Fun K "__ror__" "Expr.__ror__" sExprRor f fd) : FnOk P w K mg base CX0 7 f fd ["self", "other"] (spBinX K C cS .gr true) := by
  refine F.ok scRor (fun vs H Q E h => ?_) (fun cdv A outer s H vs Q E hr h => ?_)
  · obtain ⟨x, y, n, m, m', rfl, _⟩ := h
    rfl
  · obtain ⟨x, y, n, m, m', rfl, hx, hy, few, q⟩ := h
    refine ⟨_, pss_one (ps_ret (pe_call GL (hr.mono (by decide)) rfl L1.g L1.F.kp L1.b .nil pass0 (pa_cons (pe_call GP hr rfl P1.g P1.F.kp P1.b .nil pass0 (pa_cons (pv 1) pa_nil)) (pa_cons (pv 0) pa_nil)))), ?_⟩
    exact ⟨_, rfl, y, n, m', rfl, hy, fun v H1 s1 ex => ⟨_, rfl, v, x, n, m', m, rfl, ex, hx.same s1, by omega, fun u H' s' r => q u H' (s1.trans s') r⟩⟩
end
end LK

namespace LK
open PySem PySem.Spec PyProof.Rows L2 LR
/-! ### a step applied -/
/-- the method __call__ -/
structure CallM (K : PySem.W.Frag) (C f : Addr) (fd : FuncData) : Prop where
  F : FunD K "__call__" "Step.__call__" (defArgs sStepCall) (defBody sStepCall) (defScope sStepCall) [V.non, V.non] [] f fd
  b0 : Binds K fd ["self", "first", "second", "third"] []
  b1 : Binds K fd ["self", "first", "second", "third"] [.none]
  b2 : Binds K fd ["self", "first", "second", "third"] [.none, .none]
  o : StX.CallO K C f
def thereB (xs : List V) : List Bool := xs.map fun v => !decide (v = .non)
def wantB (n : Nat) : List Bool := (List.range 3).map fun i => decide (i < n)
def spCallX (K : PySem.W.Frag) (C cS : Addr) : Sp := fun vs H Q _ => ∃ (a : Addr) (v0 v1 v2 : V) (z y : Str) (n : Nat) (xs : List (V × Md)), vs = [.ref a, v0, v1, v2] ∧ HdS cS H (.st a z y) ∧ thereB [v0, v1, v2] = wantB y.length ∧
  [v0, v1, v2].take y.length = xs.map (fun e => e.1) ∧ (∀ x ∈ xs, PartR K C cS n H x.1 x.2) ∧ sz (.ap (.st a z y) (xs.map (·.2))) < 64 ∧ ∀ v H', Same H H' → ExR K C cS (n + 1) H' (.ap (.st a z y) (xs.map (·.2))) v → Q v H'
theorem slA_read {K : PySem.W.Frag} {G : Addr} {H : Hp} {xs : List V} {n : Nat} {Q : VK} (t : SqT K H G xs) (hn : n ≤ xs.length) (key : ∀ p H', Same H H' → SqT K H' p (xs.take n) → Q (.ref p) H') : rSlA K (.ref G) none (some (n : Int)) H Q := by
  have e0 : HT.sIx xs.length 0 none = 0 := rfl
  have e1 : HT.sIx xs.length xs.length (some (n : Int)) = n := by
    rw [HT.sIx_nat]
    exact Nat.min_eq_left hn
  refine ⟨G, xs, rfl, t, fun h => ?_, fun _ p hp => ?_⟩
  · rw [e1] at h
    refine key G H (Same.refl H) ?_
    rw [h.2, List.take_length]
    exact t
  · refine key p _ (same_new hp) ?_
    have c : cutV xs none (some (n : Int)) = xs.take n := by
      unfold cutV
      rw [e0, e1]
      rfl
    rw [c]
    exact SqT.of upd_same
theorem want_fit : ∀ n, n < 4 → SeqAt.shaped (.list ((wantB n).map PyData.bool)) = true ∧ PyData.eqv (.list ((wantB n).map PyData.bool)) (.list ((wantB n).map PyData.bool)) = true := by decide +kernel
theorem dp_bools {K : PySem.W.Frag} {H : Hp} : ∀ bs : List Bool, DpAll K H (bs.map V.bl) (bs.map PyData.bool)
  | [] => .nil
  | b :: bs => .cons (.bl b) (dp_bools bs)
section
variable {P : Program} {w : World} {K : PySem.W.Frag} {mg : Str → Option Value} {base : Heap}
def nCall : List Str := ["self", "first", "second", "third", "given", "wanted", "at", "part"]
theorem scCall : FnScope nCall ["self", "first", "second", "third"] (defScope sStepCall) := ⟨rfl, rfl, rfl, by decide +kernel, rfl, by decide +kernel, by decide +kernel⟩
theorem ok_callX {C cS fL fP fA f : Addr} {fdL fdP fdA fd : FuncData} {t3 : Tok} (S : Std mg) (c : OwnCl K mg "Step" cS) (n2 : NoAttr K cS "ways") (L : LenM K cS fL fdL sStepLen "Step.__len__") (m3 : mg "MOST_ARGUMENTS" = some (.int 3 t3))
    (P1 : Df K mg "part_expr" sPartExpr fP fdP ["value"]) (GP : FnOk P w K mg base CX0 6 fP fdP ["value"] (spAsX K C cS)) (A1 : Df K mg "applied" sApplied fA fdA ["step", "parts"]) (GA : FnOk P w K mg base CX0 4 fA fdA ["step", "parts"] (spAppliedX K C cS))
    (M : CallM K cS f fd) : FnOk P w K mg base CX0 7 f fd ["self", "first", "second", "third"] (spCallX K C cS) := by
  have GL : FnOk P w K mg base CX0 1 fL fdL ["self"] (spStLen cS) := ok_stLen S c.cl n2 L.F
  refine M.F.ok scCall (fun vs H Q E h => ?_) (fun cdv A outer s H vs Q E hr h => ?_)
  · obtain ⟨a, v0, v1, v2, z, y, n, xs, rfl, _⟩ := h
    rfl
  · obtain ⟨a, v0, v1, v2, z, y, n, xs, rfl, hs, ht, hxs, hp, few, q⟩ := h
    have body : ∃ t, PSs (cxOf CX0 P w K mg base nCall "Step.__call__" (defScope sStepCall) f cdv A outer s H E).nox (defBody sStepCall) t ∧ t { nx := fun _ H' => Q .non H', rt := Q } (start nCall [.ref a, v0, v1, v2]) H := by
      refine ⟨_, pss_cons (ps_set (i := 4) scCall.nd rfl (Or.inl rfl) (pe_tup (pa_cons (pv 1) (pa_cons (pv 2) (pa_cons (pv 3) pa_nil)))))
        (pss_cons (ps_setLc (i := 5) (own := [("at", 6)]) (g := gName 6) (tt := tYes) rfl scCall.nd rfl rfl rfl (pi_range1 (by rfl) S.range (pa_cons (pe_glob (v := .int 3) rfl m3 ⟨_, rfl⟩) pa_nil)) (blkOk_by (N := nCall) (sc := defScope sStepCall) (by decide +kernel))
            (fun _ _ _ _ _ => pg_name (i := 6) scCall.nd rfl (Or.inl rfl)) (fun _ _ _ _ _ => pts_nil) (fun _ _ _ _ _ => pe_cmpR op_lt (pv 6) (pe_callB (LR.call_lenOwn (C := cS) (E := fun _ _ _ => False) GL L.at_ L.fn L.b pass0 (hr.mono (by decide))) (by rfl) S.len PySem.boot_len (pa_cons (pv 0) pa_nil)) (nomark _)))
        (pss_cons (ps_if (pt_cmpR (op_neD (by have := hr.units; exact this)) (pe_lc (own := [("part", 7)]) (g := gName 7) (tt := tYes) rfl scCall.nd (pi_tup (pv 4)) (blkOk_by (N := nCall) (sc := defScope sStepCall) (by decide +kernel))
            (fun _ _ _ _ _ => pg_name (i := 7) scCall.nd rfl (Or.inl rfl)) (fun _ _ _ _ _ => pts_nil) (fun _ _ _ _ _ => pe_cmp (pc_notN (pv 7)))) (pv 5) (nomark _)) (pss_one ps_never) pss_nil)
        (pss_one (ps_ret (pe_call GA (hr.mono (by decide)) rfl A1.g A1.F.kp A1.b .nil pass0 (pa_cons (pv 0) (pa_cons (pe_lc (own := [("part", 7)]) (g := gName 7) (tt := tYes) rfl scCall.nd
            (pi_tup (pe_slice sl_tupA (pv 4) po_none (po_some (pe_callB (LR.call_lenOwn (C := cS) (E := fun _ _ _ => False) GL L.at_ L.fn L.b pass0 (hr.mono (by decide))) (by rfl) S.len PySem.boot_len (pa_cons (pv 0) pa_nil))))) (blkOk_by (N := nCall) (sc := defScope sStepCall) (by decide +kernel))
            (fun _ _ _ _ _ => pg_name (i := 7) scCall.nd rfl (Or.inl rfl)) (fun _ _ _ _ _ => pts_nil) (fun _ _ _ _ _ => pe_call GP hr rfl P1.g P1.F.kp P1.b .nil pass0 (pa_cons (pv 7) pa_nil))) pa_nil))))))), ?_⟩
      have hy := hs.2.2.len
      obtain ⟨dx, ha⟩ := id hs.1
      refine ⟨_, rfl, _, rfl, _, rfl, (by show 3 ≤ sizeLine; decide), fun G hG => ?_⟩
      have s1 := same_new (o := .tup [v0, v1, v2]) hG
      have tG : SqT K (upd H G (.tup [v0, v1, v2])) G [v0, v1, v2] := SqT.of upd_same
      generalize upd H G (.tup [v0, v1, v2]) = H1 at s1 tG ⊢
      refine ⟨3, rfl, by decide, by decide, fun D hD => lc_range (lo := 0) (n := 3) (fun i H4 => Same H1 H4 ∧ H4 D = some (.lst (((List.range 3).take i).map fun k => V.bl (decide (k < y.length))))) ⟨same_new hD, upd_same⟩ (fun i H4 lt h => ?_) (fun H4 h => ?_)⟩
      · obtain ⟨s4, d4⟩ := h
        refine ⟨rfl, _, rfl, _, rfl, a, dx, _, rfl, s4 _ _ (s1 _ _ ha), a, z, y, rfl, ⟨dx, s4 _ _ (s1 _ _ ha)⟩, hy, y.length, rfl, by omega, _, _, rfl, rfl, _, d4, ?_, same_put hD s4, ?_⟩
        · rw [List.length_map, List.length_take, sizeLine_eq]
          omega
        · rw [upd_same, List.take_add_one, List.map_append]
          have e : (List.range 3)[i]? = some i := by rw [List.getElem?_range lt]
          rw [e]
          have z : decide ((0 : Int) + (i : Int) < (y.length : Int)) = decide (i < y.length) := by
            by_cases h : i < y.length
            · rw [decide_eq_true h, decide_eq_true (by omega)]
            · rw [decide_eq_false h, decide_eq_false (by omega)]
          show some (HO.lst (_ ++ [V.bl (decide ((0 : Int) + (i : Int) < (y.length : Int)))])) = _
          rw [z]
          rfl
      obtain ⟨s4, d4⟩ := h
      have dW : H4 D = some (.lst ((wantB y.length).map V.bl)) := by
        rw [d4, wantB, List.map_map]
        rfl
      clear d4
      refine ⟨_, rfl, G, rfl, ⟨_, SqT.same s4 tG⟩, fun D2 hD2 => lc_tup (xs := [v0, v1, v2]) (fun i H5 => Same H4 H5 ∧ H5 D2 = some (.lst (([v0, v1, v2].take i).map fun v => V.bl (!decide (v = .non))))) ⟨same_new hD2, upd_same⟩ (fun i H5 _ h => SqT.same (s4.trans h.1) tG) (fun i v H5 hv h => ?_) (fun H5 h => ?_)⟩
      · obtain ⟨s5, d5⟩ := h
        refine ⟨rfl, _, rfl, _, d5, ?_, same_put hD2 s5, ?_⟩
        · rw [List.length_map, List.length_take, sizeLine_eq]
          exact Nat.lt_of_le_of_lt (Nat.min_le_right _ _) (by show 3 < 16777216; decide)
        · rw [upd_same, List.take_add_one, List.map_append, hv]
          rfl
      obtain ⟨s5, d5⟩ := h
      have d5' : H5 D2 = some (.lst ((thereB [v0, v1, v2]).map V.bl)) := by
        rw [d5, thereB, List.map_map]
        rfl
      rw [ht] at d5'
      refine ⟨_, rfl, _, _, .lst (SqL.of d5') (dp_bools _), .lst (SqL.of (s5 _ _ dW)) (dp_bools _), ?_, ?_, ?_⟩
      · exact (want_fit y.length (by omega)).1
      · exact (want_fit y.length (by omega)).1
      have same : (!PyData.eqv (.list ((wantB y.length).map PyData.bool)) (.list ((wantB y.length).map PyData.bool))) = false := by
        rw [(want_fit y.length (by omega)).2]
        rfl
      rw [same]
      refine ⟨false, rfl, iteF ?_⟩
      have s6 := s4.trans s5
      refine ⟨_, rfl, _, rfl, _, rfl, a, dx, _, rfl, s6 _ _ (s1 _ _ ha), a, z, y, rfl, ⟨dx, s6 _ _ (s1 _ _ ha)⟩, hy, y.length, rfl, by omega, _, rfl, slA_read (SqT.same s6 tG) hy fun p H6 s7 tp => ?_⟩
      rw [hxs] at tp
      have s8 : Same H H6 := (s1.trans s6).trans s7
      have len : xs.length = y.length := by
        have e := congrArg List.length hxs
        rw [List.length_map, List.length_take] at e
        show xs.length = _
        rw [← e]
        exact Nat.min_eq_left hy
      refine ⟨p, rfl, ⟨_, tp⟩, fun D5 hD5 => lc_tup (xs := xs.map fun e : V × Md => e.1) (fun i H7 => Same H6 H7 ∧ ∃ ps : List (V × Md), H7 D5 = some (.lst (ps.map (·.1))) ∧ ps.map (·.2) = (xs.take i).map (·.2) ∧ ∀ e ∈ ps, ExR K C cS n H7 e.2 e.1)
        ⟨same_new hD5, [], upd_same, rfl, fun _ h => nomatch h⟩ (fun i H7 _ h => SqT.same h.1 tp) (fun i v H7 hv h => ?_) (fun H7 h => ?_)⟩
      · obtain ⟨s9, ps, d9, lp, gp⟩ := h
        rw [List.getElem?_map] at hv
        obtain ⟨x, hx, rfl⟩ := Option.map_eq_some_iff.mp hv
        have lt : i < xs.length := (List.getElem?_eq_some_iff.mp hx).1
        have lp2 : ps.length = i := by
          have e := congrArg List.length lp
          rw [List.length_map, List.length_map, List.length_take] at e
          omega
        have px := hp x (List.mem_of_getElem? hx)
        refine ⟨rfl, _, rfl, x.1, n, x.2, rfl, px.same (s8.trans s9), fun y' H8 s' ex => ?_⟩
        have d8 := s' _ _ d9
        refine ⟨ps.map (·.1), d8, by rw [List.length_map, lp2, sizeLine_eq]; omega, same_put hD5 (s9.trans s'), ps ++ [(y', x.2)], by rw [upd_same, List.map_append]; rfl, by rw [List.map_append, lp, List.take_add_one, hx, List.map_append]; rfl, fun e he => ?_⟩
        rcases List.mem_append.mp he with he | he
        · exact exR_tr (Tr.lst d8) ((gp e he).same s')
        · rw [List.mem_singleton.mp he]
          exact exR_tr (Tr.lst d8) ex
      · obtain ⟨s9, ps, d9, lp, gp⟩ := h
        rw [List.length_map, List.take_length] at lp
        have lp2 : ps.length = xs.length := by
          have e := congrArg List.length lp
          rwa [List.length_map, List.length_map] at e
        refine ⟨a, D5, z, y, n, ps, rfl, hdS_tr (Tr.same (s8.trans s9)) hs, by omega, SqL.of d9, gp, by rw [lp]; exact few, fun v H' s' ex => ?_⟩
        rw [lp] at ex
        exact q v H' ((s8.trans s9).trans s') ex
    obtain ⟨t, p, h⟩ := body
    exact ⟨t, p.nox, h⟩
end
end LK

/-! a comprehension over an enumerated list while an exception is handled -/
namespace LR
open PySem PySem.Spec PyProof.Rows L2 HotX
section
variable {prog : Program} {w : World} {A : Around} {E : Value → Shared → Prop} {s : Shared} {it l x1 : Addr} {i : Nat} {items : Array Value}
/-- a list's iterator that is at its end, asked by enumerate -/
theorem listEnd_hot {Q : Value → Shared → Prop} (hot : HotAt A x1 s.heap) (ne : x1 ≠ it) (hit : s.heap.IsListIter it l i) (hl : s.heap.IsList l items) (hx : items[i]? = none)
    (stop : ∀ h' e, Heap.ExtBut it s.heap h' → (∃ o, h'.get? e = some o ∧ o.cls = .type "StopIteration") → E (.ref e) { s with heap := h' }) : wpAny (model prog w) A (Builtin.SmallTypes.nextOf (.ref it)) Q E s := by
  obtain ⟨oi, get_i, _, data_i⟩ := id hit
  obtain ⟨os, get_l, _, k, data_l⟩ := hl
  obtain ⟨hh, o1, f1, get_1, data_1, none_1⟩ := hot
  unfold Builtin.SmallTypes.nextOf
  refine wpAny_bind (wpAny_callSpecial?_slot (name := Str.ofString "__next__") hit.typeIs slot_listiter_next (wpAny_call_entry slot_listiter_next hit.typeIs entry_listiter_next ?_ (args_listiter_next _)))
  change wpAny _ _ (field (.ref it) 0 >>= _) _ _ _
  apply wpAny_bind
  apply wpAny_field get_i data_i (x := .ref l) rfl
  change wpAny _ _ (if (Value.ref l == Value.none) = true then _ else _) _ _ _
  have ll : ¬ ((Value.ref l == Value.none) = true) := Bool.false_ne_true
  rw [if_neg ll]
  change wpAny _ _ (field (.ref it) 1 >>= _) _ _ _
  apply wpAny_bind
  apply wpAny_field get_i data_i (x := .int i 0) rfl
  change wpAny _ _ (seqItems? (.ref l) >>= _) _ _ _
  apply wpAny_bind
  apply wpAny_seqItems get_l data_l
  simp only [Int.toNat_natCast, hx]
  refine wpAny_bind (wpAny_rule (wpAny_bind (wpAny_setField get_i data_i (by simp) ?_)))
  change wpAny _ _ (newExc (.type "StopIteration") [] >>= _) _ _ _
  apply wpAny_bind
  simp only [newExc, newTuple]
  apply wpAny_bind
  refine wpAny_newObj_type ?_ (by size_fits)
  refine wpAny_bind (m := firstArgMember _ _) (wpAny_of_eq (a := Value.none) (by simp only [firstArgMember]; rfl) ?_)
  refine wpAny_newObj_type ?_ (by size_fits)
  have old : ∀ {h : Heap} {u v : Obj}, h.get? x1 = some o1 → ((h.push u).push v).get? x1 = some o1 := fun q => Heap.get?_push_of_some _ (Heap.get?_push_of_some _ q)
  refine raiseNew_hot ⟨hh, o1, f1, old ((Heap.get?_update_other _ _ (Ne.symm ne)).trans get_1), data_1, none_1⟩ ?_ (Heap.get?_push_size _ rfl) rfl (by simp; omega) ?_
  · exact Nat.ne_of_lt (Heap.lt_size (Heap.get?_push_of_some _ ((Heap.get?_update_other _ _ (Ne.symm ne)).trans get_1)))
  · refine stop _ _ ?_ ⟨_, Heap.get?_update_self _ (Heap.get?_push_size _ rfl) rfl, rfl⟩
    intro b o nb e
    have e1 := (Heap.get?_update_other s.heap (Obj.mapFields (·.setIfInBounds 0 .none)) (Ne.symm nb)).trans e
    exact (Heap.get?_update_other _ _ (Nat.ne_of_gt (Heap.lt_size (Heap.get?_push_of_some _ e1)))).trans (Heap.get?_push_of_some _ (Heap.get?_push_of_some _ e1))
/-- enumerate at its end -/
theorem enumEnd_hot {e : Addr} {old : Value} {Q : Option Value → Shared → Prop} (hot : HotAt A x1 s.heap) (ne : x1 ≠ it) (he : IsEnum s.heap e it i old) (hit : s.heap.IsListIter it l i) (hl : s.heap.IsList l items) (hx : items[i]? = none)
    (hQ : ∀ h', Heap.ExtBut it s.heap h' → Q none { s with heap := h' }) : wpAny (model prog w) A (pyNext (.ref e)) Q E s := by
  have ty : s.TypeIs (.ref e) "enumerate" := ⟨_, he, rfl⟩
  unfold pyNext
  apply wpAny_bind
  apply wpAny_attempt
  refine wpAny_callSpecial?_slot (name := Str.ofString "__next__") ty F.slot_enumerate_next (wpAny_call_entry F.slot_enumerate_next ty F.entry_enumerate_next ?_ (F.args_enumerate_next_1 _))
  change wpAny _ _ (field (.ref e) 2 >>= _) _ _ _
  apply wpAny_bind
  apply wpAny_field he rfl (x := .ref it) rfl
  apply wpAny_bind
  refine listEnd_hot hot ne hit hl hx fun h' x ext end_ => ?_
  obtain ⟨o, at_o, cls_o⟩ := end_
  apply wpAny_bind
  exact wpAny_isInstance (T := "StopIteration") (b := true) ⟨o, at_o, cls_o⟩ isSubtype_stop (wpAny_pure (hQ _ ext))
/-- a tuple's iterator at its end -/
theorem tupEnd_hot {t : Addr} {Q : Option Value → Shared → Prop} (hot : HotAt A x1 s.heap) (ne : x1 ≠ it) (hit : IsTupIter s.heap it t i) (ht : IsTup s.heap t items) (hx : items[i]? = none)
    (stop : ∀ h', Heap.ExtBut it s.heap h' → Q none { s with heap := h' }) : wpAny (model prog w) A (pyNext (.ref it)) Q E s := by
  obtain ⟨oi, get_i, _, data_i⟩ := id hit
  obtain ⟨os, get_l, _, k, data_l⟩ := ht
  obtain ⟨hh, o1, f1, get_1, data_1, none_1⟩ := hot
  unfold pyNext
  apply wpAny_bind
  apply wpAny_attempt
  refine wpAny_callSpecial?_slot (name := Str.ofString "__next__") hit.typeIs slot_tupleiter_next (wpAny_call_entry slot_tupleiter_next hit.typeIs entry_tupleiter_next ?_ (args_tupleiter_next _))
  change wpAny _ _ (field (.ref it) 0 >>= _) _ _ _
  apply wpAny_bind
  apply wpAny_field get_i data_i (x := .ref t) rfl
  change wpAny _ _ (if (Value.ref t == Value.none) = true then _ else _) _ _ _
  have ll : ¬ ((Value.ref t == Value.none) = true) := Bool.false_ne_true
  rw [if_neg ll]
  change wpAny _ _ (field (.ref it) 1 >>= _) _ _ _
  apply wpAny_bind
  apply wpAny_field get_i data_i (x := .int i 0) rfl
  change wpAny _ _ (seqItems? (.ref t) >>= _) _ _ _
  apply wpAny_bind
  apply wpAny_seqItems get_l data_l
  simp only [Int.toNat_natCast, hx]
  refine wpAny_bind (wpAny_rule (wpAny_bind (wpAny_setField get_i data_i (by simp) ?_)))
  change wpAny _ _ (newExc (.type "StopIteration") [] >>= _) _ _ _
  apply wpAny_bind
  simp only [newExc, newTuple]
  apply wpAny_bind
  refine wpAny_newObj_type ?_ (by size_fits)
  refine wpAny_bind (m := firstArgMember _ _) (wpAny_of_eq (a := Value.none) (by simp only [firstArgMember]; rfl) ?_)
  refine wpAny_newObj_type ?_ (by size_fits)
  have old : ∀ {h : Heap} {u v : Obj}, h.get? x1 = some o1 → ((h.push u).push v).get? x1 = some o1 := fun q => Heap.get?_push_of_some _ (Heap.get?_push_of_some _ q)
  refine raiseNew_hot ⟨hh, o1, f1, old ((Heap.get?_update_other _ _ (Ne.symm ne)).trans get_1), data_1, none_1⟩ ?_ (Heap.get?_push_size _ rfl) rfl (by simp; omega) ?_
  · exact Nat.ne_of_lt (Heap.lt_size (Heap.get?_push_of_some _ ((Heap.get?_update_other _ _ (Ne.symm ne)).trans get_1)))
  · apply wpAny_bind
    refine wpAny_isInstance (T := "StopIteration") (b := true) ⟨_, Heap.get?_update_self _ (Heap.get?_push_size _ rfl) rfl, rfl⟩ isSubtype_stop (wpAny_pure (stop _ ?_))
    intro b o nb e
    have e1 := (Heap.get?_update_other s.heap (Obj.mapFields (·.setIfInBounds 0 .none)) (Ne.symm nb)).trans e
    exact (Heap.get?_update_other _ _ (Nat.ne_of_gt (Heap.lt_size (Heap.get?_push_of_some _ e1)))).trans (Heap.get?_push_of_some _ (Heap.get?_push_of_some _ e1))
/-- a tuple taken apart -/
theorem unpack_hot {t : Addr} {Q : List Value → Shared → Prop} (hot : HotAt A x1 s.heap) (ht : IsTup s.heap t items) (hQ : ∀ h', Heap.ExtBut s.heap.objs.size s.heap h' → Q items.toList { s with heap := h' }) : wpAny (model prog w) A (unpackItems (.ref t) items.size none) Q E s := by
  have tlt : t ≠ s.heap.objs.size := by
    obtain ⟨o, z, _⟩ := ht
    exact Nat.ne_of_lt (Heap.lt_size z)
  obtain ⟨hh, o1, f1, get_1, data_1, none_1⟩ := hot
  have xlt : x1 ≠ s.heap.objs.size := Nat.ne_of_lt (Heap.lt_size get_1)
  unfold unpackItems notIterableAtAll
  refine wpAny_bind (wpAny_bind (wpAny_specialOf ht.typeIs slot_tuple_iter.lookup (wpAny_pure ?_)))
  simp only [Bool.false_eq_true, if_false]
  refine wpAny_bind (wpAny_holding (iter_tuple ht (wpAny_bind (wpAny_holding (draw_tuple tlt items.size 0 _ _ ⟨_, Heap.get?_push_size _ rfl, rfl, rfl⟩ (ht.push _) (by omega) fun h1 it1 same1 => ?_)))))
  rw [show List.take items.size (List.drop 0 items.toList) = items.toList by rw [List.drop_zero]; exact List.take_of_length_le (by simp), if_neg (by simp)]
  have here : h1.get? x1 = some o1 := same1.extBut x1 o1 xlt (Heap.get?_push_of_some _ get_1)
  refine wpAny_bind (wpAny_holding (tupEnd_hot ⟨hh, o1, f1, here, data_1, none_1⟩ xlt it1 ((ht.push _).extBut same1.extBut tlt) (by simp) fun h2 ext2 => ?_))
  simp only [Option.isSome_none, Bool.false_eq_true, if_false]
  exact wpAny_pure (hQ h2 fun b o nb e => ext2 b o nb (same1.extBut b o nb (Heap.get?_push_of_some _ e)))
end
end LR
namespace LR
open PySem PySem.Spec PyProof.Rows L2 HotX
/-- an enumerate object over the list at a, with i behind it -/
structure EnumAt (a en it : Addr) (i : Nat) (h : Heap) : Prop where
  enum : ∃ old, IsEnum h en it ((i : Nat) : Int) old
  iter : h.IsListIter it a i
  ne : en ≠ it
theorem EnumAt.keep {a en it : Addr} {i : Nat} {h h' : Heap} (t : EnumAt a en it i h) (k : ∀ b, b ∈ [en, it] → ∀ o, h.get? b = some o → h'.get? b = some o) : EnumAt a en it i h' := by
  obtain ⟨old, e⟩ := t.enum
  exact ⟨⟨old, k en (by simp) _ e⟩, t.iter.at fun o q => k it (by simp) o q, t.ne⟩
theorem EnumAt.obj {a en it : Addr} {i : Nat} {h : Heap} (t : EnumAt a en it i h) : ∀ b, b ∈ [en, it] → ∃ o, h.get? b = some o ∧ ∀ v, o.data ≠ .cell v := fun b hb => by
  rcases List.mem_cons.mp hb with z | z
  · obtain ⟨old, e⟩ := t.enum
    subst z
    refine ⟨_, e, fun v q => ?_⟩
    cases q
  · obtain ⟨o, q1, _, q3⟩ := t.iter
    exact ⟨o, by rw [List.mem_singleton.mp z]; exact q1, fun v q => by rw [q3] at q; cases q⟩
/-- what `enumerate(e)` has left, ready to be walked -/
def Begun (X : Cx) (pins : List (Addr × Obj)) (σ : L2.St) (R : It → Hp → Prop) (itv : Value) (s : Shared) : Prop :=
  ∃ en it a xs H, itv = .ref en ∧ Inv X pins σ H s ∧ EnumAt a en it 0 s.heap ∧ (∀ b, b ∈ [en, it] → FpOk X pins H b) ∧ SqL X.K H a xs ∧ R (Ite X.K a) H
theorem enum_begun {X : Cx} {e : Expr} {ta : TA} {p pos : Pos} {pins : List (Addr × Obj)} {s : Shared} {σ : L2.St} {H : Hp} {R : It → Hp → Prop} (hg : Gl X "enumerate") (hm : X.mg "enumerate" = none) (ha : PA X [e] ta) (I : Inv X pins σ H s) (h : iEnum X.K ta σ H R)
    (hs : starEach [e] X.env = [(false, eval e X.env)] := by rfl) : wpAny (model X.prog X.w) X.A (eval (.Call (.Name "enumerate" p) [e] [] pos) X.env) (fun v s1 => wpAny (model X.prog X.w) X.A (pyIter v) (Begun X pins σ R) X.xe s1) X.xe s := by
  refine Call_ (ld_blt I hg hm boot_enumerate (PyProof.Rows.callWith_type1 (thn (ha.run pos pins s σ H _ I h) fun us s1 got => ?_) hs rfl))
  obtain ⟨vs, H1, I1, r1, a, xs, rfl, sq, q⟩ := got
  obtain rfl := Vals.ref1 r1
  obtain ⟨its, _, pl, _⟩ := I1.list sq
  refine call_enumerate_list pl.isList fun h' en it _ old => wpAny_pyIter_enum en ?_
  have I2 : Inv X pins σ H1 { s1 with heap := h' } := I1.kept (t' := s1.toks) old
  refine ⟨s1.heap.objs.size + 1, s1.heap.objs.size, a, xs, H1, rfl, I2, ⟨⟨.none, en⟩, it, Nat.succ_ne_self _⟩, fun b hb => ?_, sq, q⟩
  have big : s1.heap.objs.size ≤ b := by
    rcases List.mem_cons.mp hb with z | z
    · rw [z]
      exact Nat.le_succ _
    · rw [List.mem_singleton.mp z]
      exact Nat.le_refl _
  exact I1.fpOk big (I1.hok.fresh big)
/-- the context began with a handled exception that it can't reach -/
def HotB (B : Cx) : Prop := ∃ r : Addr × Obj, L2H.Hot1 B.A r ∧ B.s_0.heap.get? r.1 = some r.2 ∧ B.H_0 r.1 = none ∧ r.1 ∉ B.fs ∧ r.1 ∉ B.ex
theorem HotB.at {B : Cx} {pins : List (Addr × Obj)} {σ : L2.St} {H : Hp} {s : Shared} (c : HotB B) (J : Inv B pins σ H s) : ∃ x1, HotAt B.A x1 s.heap ∧ ∀ b, b ∈ B.ex → x1 ≠ b := by
  obtain ⟨r, ⟨hh, v1, e1, c1⟩, get, free, nf, nx⟩ := c
  exact ⟨r.1, ⟨hh, r.2, v1, J.base.keep r.1 r.2 get free nf nx, e1, c1⟩, fun b hb z => nx (by rw [z]; exact hb)⟩
/-- so does a block of a context that bears one -/
theorem hotB_blk {X : Cx} {pins : List (Addr × Obj)} {σ : L2.St} {H : Hp} {s : Shared} {scope : Scope} {ce : Env} {fp : List Addr} (c : L2H.HotC X) (I : Inv X pins σ H s) (off : ∀ b, b ∈ fp → FpOk X pins H b) : HotB (X.blk s H scope ce fp) := by
  obtain ⟨r, hot, hr⟩ := c
  obtain ⟨get, free, nl, nf, _⟩ := I.pin r (List.mem_append_left _ hr)
  refine ⟨r, hot, get, free, fun m => ?_, fun m => (off _ m).2.2.2.2.2 r (List.mem_append_left _ hr) rfl⟩
  exact (List.mem_cons.mp (I.stkSub r.1 m)).elim nl nf
/-- a, b = t where an exception is handled -/
theorem pg_tupH {B : Cx} {es : List Expr} {k n : Nat} {t : TGs} {pos : Pos} (c : HotB B) (h : PGs B es t) (many : (assignEach es B.env).length = n := by rfl) (plain : (assignEach es B.env).findIdx? (·.1) = none := by rfl) : PG B (.Tuple es k pos) (gTup B.K n t) := by
  refine ⟨fun pins s σ H v u Q I r asked => ?_⟩
  obtain ⟨a, xs, rfl, sq, len, asked⟩ := asked
  obtain rfl : u = Value.ref a := r
  obtain ⟨its, rv, ht, _⟩ := I.tuple sq
  obtain ⟨x1, hot, _⟩ := c.at I
  have size : (assignEach es B.env).length = its.toArray.size := by rw [many, ← len, rv.length, List.size_toArray]
  rw [assign_Tuple]
  refine wpAny_bind (wpAny_standAt ?_)
  unfold unpack
  rw [size, plain]
  refine wpAny_bind (wpAny_holding (unpack_hot hot ht fun h' ext => ?_))
  have J : Inv B pins σ H { s with heap := h' } := I.kept (t' := s.toks) fun b o z => ext b o (Nat.ne_of_lt (Heap.lt_size z)) z
  exact h.run pins _ σ H xs _ Q J (by simpa using rv) asked
end LR
namespace LR
open PySem PySem.Spec PyProof.Rows L2 HotX
section
variable {X : Cx} {elt e : Expr} {elts ifs : List Expr} {kk : Nat} {scope : Scope} {own : List (Str × Nat)} {pos p ipos tpos : Pos} {ta : TA} {g : TG} {tt : TT} {te : TE}
/-- one turn's item: a new pair, in the block B -/
theorem enum_item {B : Cx} {σ : L2.St} {H : Hp} {s : Shared} {a en it : Addr} {i : Nat} {xs : List V} {x : V} {E : Value → Shared → Prop} {Q : Option Value → Shared → Prop} (I : Inv B [] σ H s) (t : EnumAt a en it i s.heap) (off : ∀ b, b ∈ [en, it] → FpOk B [] H b)
    (sq : SqL B.K H a xs) (hx : xs[i]? = some x)
    (q : ∀ u s1, (∀ E' Q', (∀ T s2, H T = none → Inv B [] σ (upd H T (.tup [.int (i : Nat), x])) s2 → u = .ref T → EnumAt a en it (i + 1) s2.heap → T ≠ en → T ≠ it → Q' () s2) → wpAny (model B.prog B.w) B.A (letOwnedTupleGo (.Tuple elts kk tpos) (.ref en) u) Q' E' s1) → Q (some u) s1) :
    wpAny (model B.prog B.w) B.A (pyNext (.ref en)) Q E s := by
  obtain ⟨old, he⟩ := t.enum
  obtain ⟨its, rv, pl, _⟩ := I.list sq
  obtain ⟨u, hu, ru⟩ := rv.get hx
  have le : en < s.heap.objs.size := Heap.lt_size he
  have li : it < s.heap.objs.size := by
    obtain ⟨_, z, _⟩ := t.iter
    exact Heap.lt_size z
  refine wpAny_pyNext_enum_item he t.iter pl.isList (x := u) (by simpa using hu) t.ne fun h1 ho hi hT _ old1 => q _ _ fun E' Q' k => ?_
  refine wpAny_letOwnedTupleGo_enum (s := { s with heap := h1, toks := s.toks + 1 }) ho fun h2 en2 but => ?_
  have pair : h2.get? s.heap.objs.size = some { cls := .type "tuple", data := .seq #[.int i s.toks, u] } := (but.2 _ (Nat.ne_of_gt le)).trans hT
  have fresh : H s.heap.objs.size = none := I.hok.fresh (Nat.le_refl _)
  have stay : ∀ b o, b ∉ [en, it] → s.heap.get? b = some o → h2.get? b = some o := fun b o nb z => by
    have n1 : b ≠ en := fun y => nb (by simp [y])
    have n2 : b ≠ it := fun y => nb (by simp [y])
    exact (but.2 b n1).trans (old1 b o n1 n2 z)
  have laid : ObjOk B.prog B.w (upd H s.heap.objs.size (.tup [.int (i : Nat), x])) h2 s.heap.objs.size (.tup [.int (i : Nat), x]) := ⟨by show 2 ≤ sizeLine; decide, [.int i s.toks, u], .cons ⟨_, rfl⟩ (.cons ru .nil), ⟨_, pair, rfl, _, rfl⟩⟩
  have J := I.turnedNew (ch := [en, it]) (t' := s.toks + 1) stay off (Nat.le_refl _) laid
  refine k s.heap.objs.size _ fresh J rfl ⟨⟨u, ?_⟩, hi.at fun o z => (but.2 it t.ne.symm).trans z, t.ne⟩ (Nat.ne_of_gt le) (Nat.ne_of_gt li)
  rw [show ((i + 1 : Nat) : Int) = (i : Int) + 1 by omega]
  exact en2
end
end LR
namespace LR
open PySem PySem.Spec PyProof.Rows L2 HotX
section
variable {X : Cx} {elt e : Expr} {elts ifs : List Expr} {kk : Nat} {scope : Scope} {own : List (Str × Nat)} {pos p ipos tpos : Pos} {ta : TA} {g : TG} {tt : TT} {te : TE}
/-- [elt for a, b in enumerate(e) if ..] where an exception is handled -/
theorem pe_lcEH (hot : L2H.HotC X) (nd : X.N.Nodup) (hg : Gl X "enumerate") (hm : X.mg "enumerate" = none) (ha : PA X [e] ta) (ok : BlkOk X.N X.env.scope scope own)
    (pg : ∀ (s : Shared) (H : Hp) (C : Addr) (cl : List (Str × Addr)) (fp : List Addr), HotB (X.blk s H scope (compEnvC scope cl C X.env) fp) → PG (X.blk s H scope (compEnvC scope cl C X.env) fp) (.Tuple elts kk tpos) g)
    (pt : ∀ (s : Shared) (H : Hp) (C : Addr) (cl : List (Str × Addr)) (fp : List Addr), PTs (X.blk s H scope (compEnvC scope cl C X.env) fp) ifs tt)
    (pe : ∀ (s : Shared) (H : Hp) (C : Addr) (cl : List (Str × Addr)) (fp : List Addr), PE (X.blk s H scope (compEnvC scope cl C X.env) fp) elt te)
    (st : starEach [e] X.env = [(false, eval e X.env)] := by rfl) (fold : ∀ x, foldedSetIterable (.Call (.Name "enumerate" p) [e] [] ipos) X.env x = pure x := by intro _; rfl) :
    PE X (.ListComp elt [⟨.Tuple elts kk tpos, .Call (.Name "enumerate" p) [e] [] ipos, ifs, 0⟩] scope pos) (tLc (iEnum X.K ta) g tt te (own.map (·.2))) := by
  refine ⟨fun pins s σ H Q I h => ?_⟩
  rw [eval_ListComp]
  have cells : ∀ y ∈ scope.names, y.2 = .free → ∃ c, X.env.cells.lookup y.1 = some c := fun y hy z => (ok.free y hy z).elim (fun k => I.ok.has _ (.inl k)) fun k => I.ok.has _ (.inr k)
  refine wpAny_comprehension_free (use := none) rfl fold (closure_ok cells) ok.kind (fun y hy z => by rw [ok.uniq y hy, z]) (thn (enum_begun hg hm ha I h st) fun v1 s1 b1 => thn b1 fun v2 s2 b2 => ?_)
  obtain ⟨en, it, a, xs0, H2, rfl, I2, at0, off, _, q⟩ := b2
  refine wpAny_newObj_type (newEnv_comp ?_) (by show 0 ≤ sizeLine; decide)
  have freshD : H2 s2.heap.objs.size = none := I2.hok.fresh (Nat.le_refl _)
  obtain ⟨W, ⟨m0, w0⟩, turn⟩ := q s2.heap.objs.size freshD
  generalize eD : s2.heap.objs.size = D at freshD w0 turn ⊢
  have offD : ∀ b, b ∈ [en, it] → b ≠ D := fun b hb => by
    obtain ⟨o, z, _⟩ := at0.obj b hb
    rw [← eD]
    exact Nat.ne_of_lt (Heap.lt_size z)
  generalize e3 : ({ s2 with heap := s2.heap.push { cls := .type "list", data := .seq ([] : List Value).toArray } } : Shared) = s3
  have push3 : ∀ {b : Addr} {o : Obj}, s2.heap.get? b = some o → s3.heap.get? b = some o := fun {b o} z => by
    rw [← e3]
    exact Heap.get?_push_of_some _ z
  have size3 : s3.heap.objs.size = s2.heap.objs.size + 1 := by
    rw [← e3]
    exact Heap.size_push _ _
  have I3 : Inv X pins σ (upd H2 D (.lst [])) s3 := by
    subst e3
    refine I2.laid (t' := s2.toks) (fun b o z => Heap.get?_push_of_some _ z) (Nat.le_of_eq eD) ⟨Nat.zero_le _, [], 0, .nil, ?_⟩
    subst eD
    exact Heap.get?_push_size _ rfl
  have off3 : ∀ b, b ∈ [en, it] → FpOk X pins (upd H2 D (.lst [])) b ∧ b < s3.heap.objs.size := fun b hb => by
    obtain ⟨f0, f1⟩ := off b hb
    obtain ⟨o, z, _⟩ := at0.obj b hb
    exact ⟨⟨by rw [upd_ne (offD b hb)]; exact f0, f1⟩, Heap.lt_size (push3 z)⟩
  have J0 := block_start I3 ok nd off3
  have hotB := hotB_blk (scope := scope) (ce := compEnvC scope (cellsFrom (s3.heap.objs.size + 1) scope.names (cloFrom X.env.cells scope.names [])) s3.heap.objs.size X.env) hot I3 fun b hb => (off3 b hb).1
  have pg' := pg s3 (upd H2 D (.lst [])) s3.heap.objs.size (cellsFrom (s3.heap.objs.size + 1) scope.names (cloFrom X.env.cells scope.names [])) [en, it] (hotB_blk hot I3 fun b hb => (off3 b hb).1)
  have pt' := pt s3 (upd H2 D (.lst [])) s3.heap.objs.size (cellsFrom (s3.heap.objs.size + 1) scope.names (cloFrom X.env.cells scope.names [])) [en, it]
  have pe' := pe s3 (upd H2 D (.lst [])) s3.heap.objs.size (cellsFrom (s3.heap.objs.size + 1) scope.names (cloFrom X.env.cells scope.names [])) [en, it]
  change codeAny _ _ (.compStart (.ListComp elt [⟨.Tuple elts kk tpos, .Call (.Name "enumerate" p) [e] [] ipos, ifs, 0⟩] scope pos) 0 (.ref en) (.ref D)
    (compEnvC scope (cellsFrom (s3.heap.objs.size + 1) scope.names (cloFrom X.env.cells scope.names [])) s3.heap.objs.size X.env))
    (compPost (model X.prog X.w) X.A X.xe none (EP X pins σ Q) (.ref D) s3.heap.objs.size)
    { s3 with heap := pushCells (s3.heap.push { cls := .type "dict", data := .dict #[] }) scope.names }
  have locs : (compEnvC scope (cellsFrom (s3.heap.objs.size + 1) scope.names (cloFrom X.env.cells scope.names [])) s3.heap.objs.size X.env).locals = s3.heap.objs.size := rfl
  generalize compEnvC scope (cellsFrom (s3.heap.objs.size + 1) scope.names (cloFrom X.env.cells scope.names [])) s3.heap.objs.size X.env = ce at J0 hotB pg' pt' pe' locs ⊢
  generalize e4 : ({ s3 with heap := pushCells (s3.heap.push { cls := .type "dict", data := .dict #[] }) scope.names } : Shared) = s4 at J0 ⊢
  have at4 : EnumAt a en it 0 s4.heap := at0.keep fun b _ o z => by
    rw [← e4]
    exact pushCells_keeps _ _ _ _ (Heap.get?_push_of_some _ (push3 z))
  generalize upd H2 D (.lst []) = H3 at I3 off3 J0 hotB pg' pt' pe' w0 ⊢
  -- seen from the block the walker's two objects are no one's
  have offB : ∀ {σ' : L2.St} {H' : Hp} {s' : Shared}, Inv (X.blk s3 H3 scope ce [en, it]) [] σ' H' s' → (∀ b, b ∈ [en, it] → H' b = none) → ∀ b, b ∈ [en, it] → FpOk (X.blk s3 H3 scope ce [en, it]) [] H' b := fun J free b hb => by
    obtain ⟨z1, z2⟩ := J.ok.exf b hb
    refine ⟨free b hb, z1, J.ok.exfs b hb, .inl hb, z2, fun r hr => ?_⟩
    simp at hr
  have loop : codeAny (model X.prog X.w) X.A (.compLoop (.ListComp elt [⟨.Tuple elts kk tpos, .Call (.Name "enumerate" p) [e] [] ipos, ifs, 0⟩] scope pos) 0 (.ref en) (.ref D) ce) (compPost (model X.prog X.w) X.A X.xe none (EP X pins σ Q) (.ref D) s3.heap.objs.size) s4 := by
    refine compLoop_any (fun n s' => ∃ i H', Inv (X.blk s3 H3 scope ce [en, it]) [] (wipe σ (own.map (·.2))) H' s' ∧ EnumAt a en it i s'.heap ∧ (∀ b, b ∈ [en, it] → H' b = none) ∧ W i n H') (fun n s5 inv => ?_) m0 ⟨0, H3, J0, at4, fun b hb => (off3 b hb).1.1, w0⟩
    obtain ⟨i, H5, J5, at5, free5, w5⟩ := inv
    rcases turn i n H5 w5 with ⟨stop, done⟩ | ⟨go, Nx, again, step⟩
    · obtain ⟨xs, sq, len⟩ := stop
      obtain ⟨its, rv, pl, _⟩ := J5.list sq
      obtain ⟨x1, hx1, ne1⟩ := hotB.at J5
      obtain ⟨old, he⟩ := at5.enum
      have few := rv.length
      refine enumEnd_hot hx1 (ne1 it (by simp)) he at5.iter pl.isList (by simp; omega) fun h' ext => ?_
      obtain ⟨f0, f1, f2, f3, f4, f5⟩ := offB J5 free5 it (by simp)
      have J6 := J5.turned (t' := s5.toks) (fun b o nb z => ext b o nb z) f0 f1 f3 f4 f5
      have I7 : Inv X pins σ H5 { s5 with heap := h' } := I3.call' (ch := [en, it]) J6.os J6.base J6.hok J6.bare fun b hb => by
        obtain ⟨_, o1, _, o3, o4, o5⟩ := (off3 b hb).1
        exact ⟨o3, o1, o4, o5⟩
      have noC : H5 s3.heap.objs.size = none := by
        have z : H5 ce.locals = none := J6.free
        rwa [locs] at z
      obtain ⟨m, ns, _⟩ := J6.loc
      have ns' : h'.Ns ce.locals m := ns
      rw [locs] at ns'
      obtain ⟨c0, c1, _, c3, c4, c5⟩ := I3.fpOk (Nat.le_refl _) noC
      exact ⟨m, ns', fun h2 but => ⟨.ref D, H5, I7.turned (t' := s5.toks) (fun b o nb z => (but.2 b nb).trans z) c0 c1 c3 c4 c5, rfl, done⟩⟩
    · obtain ⟨xs, x, sq, hx⟩ := go
      refine enum_item (elts := elts) (kk := kk) (tpos := tpos) (B := X.blk s3 H3 scope ce [en, it]) J5 at5 (offB J5 free5) sq hx fun u s6 own6 => ?_
      refine own6 _ _ fun T s7 fT J7 eu at7 nT1 nT2 => ?_
      subst eu
      have free7 : ∀ b, b ∈ [en, it] → upd H5 T (.tup [.int (i : Nat), x]) b = none := fun b hb => by
        have nb : b ≠ T := by
          rcases List.mem_cons.mp hb with z | z
          · rw [z]
            exact nT1.symm
          · rw [List.mem_singleton.mp z]
            exact nT2.symm
        rw [upd_ne nb]
        exact free5 b hb
      have now := step (.ref T) _ ⟨T, x, rfl, fT, rfl, fun ys hy => by rw [J5.list_inj hy sq]; exact hx⟩
      have P7 := J7.pinned (offB J7 free7) at7.obj
      refine thnF (pg'.run _ s7 _ _ (.ref T) (.ref T) _ P7 rfl now) fun _ s8 r8 => ?_
      obtain ⟨σ8, H8, J8, w8, q8⟩ := r8
      refine thnF (pt'.run _ s8 σ8 H8 _ J8 q8) fun b s9 r9 => ?_
      obtain ⟨H9, J9, q9⟩ := r9
      have close : ∀ {s' : Shared} {H' : Hp}, Inv (X.blk s3 H3 scope ce [en, it]) ([] ++ pinsAt [en, it] s7.heap) σ8 H' s' → Nx H' → ∃ m, m < n ∧ ∃ i H', Inv (X.blk s3 H3 scope ce [en, it]) [] (wipe σ (own.map (·.2))) H' s' ∧ EnumAt a en it i s'.heap ∧ (∀ b, b ∈ [en, it] → H' b = none) ∧ W i m H' := fun {s' H'} J' nx => by
        obtain ⟨m', lt, w'⟩ := again H' nx
        have kept : ∀ b, b ∈ [en, it] → ∀ o, s7.heap.get? b = some o → s'.heap.get? b = some o ∧ H' b = none := fun b hb o z => by
          have r := J'.pin (b, o) (List.mem_append_right _ (List.mem_append_right _ (mem_pinsAt hb z)))
          exact ⟨r.1, r.2.1⟩
        refine ⟨m', lt, i + 1, H', (J'.unpinned (pins := [])).weak (by rw [← w8, wipe_length]) (fun j v z => (wipe_some (by rwa [← w8] at z)).1), at7.keep fun b hb o z => (kept b hb o z).1, fun b hb => ?_, w'⟩
        obtain ⟨o, z, _⟩ := at7.obj b hb
        exact (kept b hb o z).2
      cases b with
      | false => exact close J9 (by simpa using q9)
      | true =>
        rw [if_pos rfl] at q9 ⊢
        refine thnF (pe'.run _ s9 σ8 H9 _ J9 q9) fun z s10 r10 => ?_
        obtain ⟨yv, H10, J10, ry, acc, hD, few, nx⟩ := r10
        exact app_ok (X := X.blk s3 H3 scope ce [en, it]) J10 hD few ry fun s11 J11 => close J11 nx
  exact codeAny_compStart_list loop (by
    obtain ⟨old, z⟩ := at4.enum
    exact wpAny_pyIter_enum z loop)
end
end LR

/-! a def that is handed the exception that is handled -/
namespace LR
open PySem PySem.Spec PyProof.Rows L2 HotX
/-- a promise that speaks of the handled exception: where it stands, how -/
structure FnE (P : Program) (w : World) (K : PySem.W.Frag) (mg : Str → Option Value) (base : Heap) (k : Nat) (f : Addr) (fd : FuncData) (ps : List Str) (sp : Addr → Obj → Sp) : Prop where
  len : ∀ a oe vs H Q E, sp a oe vs H Q E → vs.length = ps.length
  run : ∀ (A : Around) (outer : List Env) (s : Shared) (H : Hp) (args : Args) (us : List Value) (vs : List V) (Q : VK) (p : Addr × Obj), L2H.RoomH k A → L2H.Hot1 A p → L2H.PinOk outer H s p → Env0 P w K mg base A outer s H → BindsTo s fd args (ps.zip us) → Vals vs us → sp p.1 p.2 vs H Q E0 →
    codeAny (model P w) A (.call (.ref f) args) (CR CX0 outer P w H s Q E0) s
section
variable {P : Program} {w : World} {K : PySem.W.Frag} {mg : Str → Option Value} {base : Heap} {k : Nat} {f : Addr} {fd : FuncData} {x qual : Str} {st : Stmt} {N ps : List Str} {sp : Addr → Obj → Sp}
theorem okE (F : Fun K x qual st f fd) (S : FnScope N ps (defScope st)) (len : ∀ a oe vs H Q E, sp a oe vs H Q E → vs.length = ps.length)
    (walk : ∀ (cdv : Value) (A : Around) (outer : List Env) (s : Shared) (H : Hp) (vs : List V) (Q : VK) (p : Addr × Obj), L2H.Hot1 A p → L2H.RoomH k (A.deeper (envOfC qual (defScope st) s.heap.objs.size f cdv)) → sp p.1 p.2 vs H Q E0 →
      ∃ t, PSs (L2H.cxH CX0 P w K mg base N qual (defScope st) f cdv A outer s H E0 p) (defBody st) t ∧ t { nx := fun _ H' => Q .non H', rt := Q } (L2.start N vs) H) : FnE P w K mg base (k + 1) f fd ps sp := by
  obtain ⟨oc, od, kV, doc, pm, an, cdv, ct, osl, rfl, lk, code⟩ := F.ex
  refine ⟨len, fun A outer s H args us vs Q p room hot pin e0 bind rel asked => ?_⟩
  have inK : K.In s.heap := e0.mod.kin.keeps fun b o z => (e0.bs b o z).1
  have free : s.heap.NoLimit := e0.mod.nolimit.keeps fun b o z => (e0.bs b o z).1
  refine codeAny_call_function room.depth (inK _ _ lk) rfl S.co S.gen rfl (PySem.W.codeRec_of inK code) (bind _ _ _ _ ?_)
  refine wpAny_newFunctionEnv_cells S.kind (fun y hy => ?_) fun env he s1 made => ?_
  · rcases S.par y.1 (List.of_mem_zip hy).1 with z | z
    · exact .inl z
    · exact .inr ⟨z, PySem.W.cellsFrom_some _ _ _ (.inl z)⟩
  · subst he
    refine ⟨free.keeps made.toInCall.keep, codeAny_func ?_⟩
    obtain ⟨t, body, read⟩ := walk cdv A outer s H vs Q p hot (room.deeper _) asked
    have I := L2H.inv_startH (CX := CX0) (E := E0) (P := P) (w := w) S pin e0 (len _ _ _ _ _ _ asked) rel made
    refine wpAny_mono (body.run [] s1 _ H _ I read) (fun fl s' out => ?_) fun _ _ z => z
    cases fl with
    | ret u =>
      obtain ⟨v, σ', H', J, rv, q⟩ := out
      exact ⟨v, H', J.os, J.bare, J.base, J.hok, rv, q⟩
    | next =>
      obtain ⟨σ', H', J, q⟩ := out
      exact ⟨V.non, H', J.os, J.bare, J.base, J.hok, rfl, q⟩
    | brk =>
      obtain ⟨_, _, _, q⟩ := out
      exact q.elim
    | cont =>
      obtain ⟨_, _, _, q⟩ := out
      exact q.elim
end
section
variable {X : Cx} {k : Nat} {f a : Addr} {oe : Obj} {fd : FuncData} {ps : List Str} {sp : Addr → Obj → Sp} {x : Str} {q pos : Pos} {e : Expr} {es : List Expr} {t : TA}
/-- such a def called where p is handled -/
theorem pe_callE (F : FnE X.prog X.w X.K X.mg X.base k f fd ps sp) (room : L2H.RoomH k X.A) (hot : L2H.Hot1 X.A (a, oe)) (mem : (a, oe) ∈ X.pn) (hg : Gl X x) (hm : X.mg x = some (.ref f)) (kp : PySem.W.keepIn X.K (.ref f) = true) (bind : Binds X.K fd ps [])
    (ha : PA X (e :: es) t) (dbg : (x == ("__debug__" : Str)) = false := by decide) (he : starEach (e :: es) X.env = (false, eval e X.env) :: starEach es X.env := by rfl) (plain : (backTo pos (starEach es X.env)).any (·.1) = false := by rfl) :
    PE X (.Call (.Name x q) (e :: es) [] pos) (fun σ H Q => t σ H fun vs H1 => sp a oe vs H1 Q E0) := by
  refine ⟨fun pins s σ H Q I h => wpAny_Call_Name_kw (ld_glob I hg hm (PySem.W.callWith_K (h₀ := X.base) I.ok.mod.kin kp (thn (ha.run pos pins s σ H _ I h) fun us s1 got => ?_) he plain) dbg)⟩
  obtain ⟨vs, H1, I1, rel, asked⟩ := got
  refine ⟨I1.kIn, ?_⟩
  obtain ⟨g, fr, nl, nf, nc⟩ := I1.pin (a, oe) (List.mem_append_left _ mem)
  have pin : L2H.PinOk X.stack H1 s1 (a, oe) := ⟨g, fr, fun m => (List.mem_cons.mp (I1.stkSub a m)).elim nl nf, nc⟩
  have many : us.length = ps.length := by rw [← rel.length, F.len _ _ _ _ _ _ asked]
  have b := bind s1 us I1.kIn (by rw [List.append_nil]; exact many)
  rw [List.append_nil] at b
  refine wpAny_call (codeAny_mono (F.run X.A X.stack s1 H1 ⟨us, []⟩ us vs Q (a, oe) room hot pin I1.env0 b rel asked) fun r s' out => ?_)
  cases r with
  | error er => exact out.elim
  | ok fl =>
    cases fl with
    | ret u => exact I1.after out
    | next => exact False.elim out
    | brk => exact False.elim out
    | cont => exact False.elim out
/-- isinstance of a pinned exception -/
def rIsPin (K : PySem.W.Frag) (a D : Addr) (d : Option Addr) : List V → Hp → VK → Prop := fun xs H Q => ∃ (c : V) (cv : Value) (b : Bool), xs = [.ref a, c] ∧ (∀ dx, d = some dx → ∃ fs, H dx = some (.xd fs)) ∧ ClsV c cv ∧ PySem.W.kitOne K (.ref D) cv = some b ∧ Q (.bl b) H
theorem call_isPin {D : Addr} {d : Option Addr} (mem : (a, oe) ∈ X.pn) (z : Zc (.ref D) d oe) (fl : ∃ vs, oe.data = .fields vs) (T : ExcC X.K D) : CallR X (.builtin "isinstance") (rIsPin X.K a D d) := by
  intro pins s σ H xs us Q I r h
  obtain ⟨c, cv, b, rfl, hd, kc, ans, q⟩ := h
  obtain ⟨u1, u2, rfl, r1, r2⟩ := vals2 r
  obtain rfl := kc.eq r2
  obtain rfl : u1 = Value.ref a := r1
  obtain ⟨get, _⟩ := I.pin (a, oe) (List.mem_append_left _ mem)
  obtain ⟨vs, dv⟩ := fl
  have known : (PySem.W.clsIn X.K D).isSome = true := by
    obtain ⟨cd, hc, _⟩ := PySem.W.any_some T.hd
    rw [hc]
    rfl
  have J : ∃ od, PySem.W.InstAt s.heap a oe D od := by
    cases d with
    | none => exact ⟨none, get, z.1, by unfold PySem.W.notCls; rw [dv] <;> rfl, by rw [z.2]; trivial⟩
    | some dx =>
      obtain ⟨fs, hx⟩ := hd dx rfl
      obtain ⟨mA, hns, _⟩ := (show ObjOk X.prog X.w H s.heap dx (.xd fs) from I.hok dx _ hx)
      obtain ⟨o, ho, _⟩ := lookIn_ns hns
      exact ⟨some o, get, z.1, by unfold PySem.W.notCls; rw [dv] <;> rfl, by rw [z.2]; exact ho⟩
  obtain ⟨od, J⟩ := J
  exact PySem.W.kia_one (PySem.W.kitx_exc known T.hg T.hk T.hs T.ha T.hn T.ht T.hm) I.kIn J ans (fun z => nomatch z) fun tk => ⟨.bl b, H, I.tok tk, rfl, q⟩
end
end LR

/-! own errors with an __init__, raised and let out; instances whose __init__ may raise -/
namespace LR
open PySem PySem.Spec PyProof.Rows L2
/-- a def that may let an error out -/
theorem okN {P : Program} {w : World} {K : PySem.W.Frag} {mg : Str → Option Value} {base : Heap} {x qual : Str} {st : Stmt} {f : Addr} {fd : FuncData} {N ps : List Str} {k : Nat} {sp : Sp} (F : Fun K x qual st f fd) (S : FnScope N ps (defScope st)) (len : ∀ vs H Q E, sp vs H Q E → vs.length = ps.length)
    (walk : ∀ (cdv : Value) (A : Around) (outer : List Env) (s : Shared) (H : Hp) (vs : List V) (Q : VK) (E : XK), Room k (A.deeper (envOfC qual (defScope st) s.heap.objs.size f cdv)) → sp vs H Q E →
      ∃ t, PSs (cxOf (L2N.CX P w) P w K mg base N qual (defScope st) f cdv A outer s H E) (defBody st) t ∧ t { nx := fun _ H' => Q .non H', rt := Q } (start N vs) H) : FnOk P w K mg base (L2N.CX P w) (k + 1) f fd ps sp := by
  obtain ⟨oc, od, kV, doc, pm, an, cdv, ct, osl, rfl, lk, code⟩ := F.ex
  exact fn_of lk code S len fun A outer s H vs Q E room asked => walk cdv A outer s H vs Q E room asked
section
variable {X : Cx} {e : Expr} {es : List Expr} {ta : TA} {p pos : Pos} {x : Str} {C fI : Addr} {k : Nat} {fd : FuncData} {ps : List Str} {sp : Sp}
/-- raise Err(e, ..): the object is let go -/
theorem pmk_errN (T : OexC X.K C) (iC : PySem.W.findIn X.K (.ref C) "__init__" = some (some (.ref fI))) (tI : PySem.W.typeIn X.K (.ref fI) = some (.type "function")) (F1 : FnOk X.prog X.w X.K X.mg X.base CX0 k fI fd ps sp) (room : Room (k + 1) X.A) (bind : Binds X.K fd ps [])
    (hg : Gl X x) (hm : X.mg x = some (.ref C)) (ha : PA X (e :: es) ta) (dbg : (x == ("__debug__" : Str)) = false := by decide) (he : starEach (e :: es) X.env = (false, eval e X.env) :: starEach es X.env := by rfl) (plain : (backTo pos (starEach es X.env)).any (·.1) = false := by rfl) :
    L2N.PMk X (.Call (.Name x p) (e :: es) [] pos) (tMkO C sp [] ta) := by
  intro pins s σ H Q I h
  obtain ⟨nm, q, N, bs, bm, sn, sub, ab, col, dd, k0, k1, k2, k3, k5, hC, hbm⟩ := T.cls
  refine wpAny_Call_Name_kw (ld_glob I hg hm (PySem.W.callWith_K (h₀ := X.base) I.ok.mod.kin T.kC (thn (ha.run pos pins s σ H _ I h) fun us s1 got => ?_) he plain) dbg)
  obtain ⟨vs, H1, I1, r1, few1, q1⟩ := got
  refine ⟨I1.kIn, ?_⟩
  obtain ⟨hp, g, dr, tk, os⟩ := s1
  have new := q1 (hp.objs.size + 1) (I1.hok.fresh (Nat.le_succ _))
  rw [List.append_nil] at new
  have keep : ∀ b o, hp.get? b = some o → ((hp.push (PySem.W.kdv_tup us)).push (PySem.HandSPX.excO C hp.objs.size)).get? b = some o := fun b o z => Heap.get?_push_of_some _ (Heap.get?_push_of_some _ z)
  have J := I1.laid (t' := tk) keep (Nat.le_succ hp.objs.size) (exo_ok (C := C) (d := none) (t1 := hp.objs.size) (by heap_get))
  have rels : Vals (V.ref (hp.objs.size + 1) :: vs) (Value.ref (hp.objs.size + 1) :: us) := .cons rfl r1
  have many : (Value.ref (hp.objs.size + 1) :: us).length = ps.length := by rw [← rels.length, F1.len _ _ _ _ new]
  have few : us.length ≤ sizeLine := by rw [← Paired.length r1, sizeLine_eq]; omega
  have bound := bind _ (Value.ref (hp.objs.size + 1) :: us) J.kIn (by simpa using many)
  rw [List.append_nil] at bound
  refine wpAny_call (PySem.HandSPX.call_own F.excBase_ValueError (fun Y => PySem.HandSPX.refsVE_contains Y bm hbm) (I1.kIn _ _ hC) (PySem.W.looks_findIn I1.kIn iC) (fun self => PySem.W.bind_fn I1.kIn self tI) few
    (codeAny_mono (F1.run _ X.stack _ _ _ _ _ _ E0 (room.make C us []) (J.env0.make C us []) bound rels new) fun r s' out => ?_))
  cases r with
  | error er => exact out.elim
  | ok fl =>
    cases fl with
    | ret u =>
      obtain ⟨v, H2, os2, bare2, un2, hok2, rv, ev, d, fs, ea, ed, hd1, q2⟩ := out
      subst ev
      obtain ⟨h2, g2, d2, t2, os'⟩ := s'
      obtain ⟨t0, G, J2, kG, ge, hoe, na⟩ := mk_end0 (d2 := d2) (t2 := t2) I1 (Nat.le_succ hp.objs.size) keep un2 hok2 os2 bare2 ea ed hd1
      refine ⟨rv, hp.objs.size + 1, _, _, ⟨G, g2, d2, t2, os'⟩, _, .ref C, some d, rfl, J2, kG, ge, hoe, ⟨rfl, rfl, fun vs hv => ?_⟩, rfl, rfl, na, rfl, bare2, raises_own T.exC T.tyC, q2⟩
      cases hv
      rfl
    | next => exact False.elim out
    | brk => exact False.elim out
    | cont => exact False.elim out
end
/-- C(e, ..), whose __init__ may let an error out at the slots that stand -/
def tMakeS (C : Addr) (sp : Sp) (E : L2.St → XK) (t : TA) : TE := fun σ H Q => t σ H fun vs H1 => ∀ x dx, H1 x = none → H1 dx = none → dx ≠ x → sp (.ref x :: vs) (upd (upd H1 dx (.own x)) x (.ins C dx [])) (fun v H2 => v = .non ∧ Q (.ref x) H2) (E σ)
section
variable {X : Cx} {CX : CXT} {e : Expr} {es : List Expr} {t : TA} {p pos : Pos} {x : Str} {C f : Addr} {k : Nat} {fd : FuncData} {ps : List Str} {sp : Sp} {E : L2.St → XK}
theorem pe_makeS (M : Mk X.K C f) (F : FnOk X.prog X.w X.K X.mg X.base CX k f fd ps sp) (room : Room (k + 1) X.A) (hg : Gl X x) (hm : X.mg x = some (.ref C)) (bind : Binds X.K fd ps []) (out : ∀ σ, PassesAt CX X σ (E σ))
    (ha : PA X (e :: es) t) (dbg : (x == ("__debug__" : Str)) = false := by decide) (he : starEach (e :: es) X.env = (false, eval e X.env) :: starEach es X.env := by rfl) (plain : (backTo pos (starEach es X.env)).any (·.1) = false := by rfl) :
    PE X (.Call (.Name x p) (e :: es) [] pos) (tMakeS C sp E t) := by
  refine ⟨fun pins s σ H Q I h => wpAny_Call_Name_kw (ld_glob I hg hm (PySem.W.callWith_K (h₀ := X.base) I.ok.mod.kin M.kp (thn (ha.run pos pins s σ H _ I h) fun us s1 got => ?_) he plain) dbg)⟩
  obtain ⟨vs, H1, I1, r1, q1⟩ := got
  refine ⟨I1.kIn, ?_⟩
  have asked := q1 (s1.heap.objs.size + 1) s1.heap.objs.size (I1.hok.fresh (Nat.le_succ _)) (I1.hok.fresh (Nat.le_refl _)) (Nat.ne_of_lt (Nat.lt_succ_self _))
  have J := Inv.made (C := C) I1
  have rels : Vals (V.ref (s1.heap.objs.size + 1) :: vs) (Value.ref (s1.heap.objs.size + 1) :: us) := .cons rfl r1
  have many : (Value.ref (s1.heap.objs.size + 1) :: us).length = ps.length := by rw [← rels.length, F.len _ _ _ _ asked]
  have bound := bind _ (Value.ref (s1.heap.objs.size + 1) :: us) J.kIn (by simpa using many)
  rw [List.append_nil] at bound
  refine wpAny_call (make_map (f := f) I1.kIn M.makes M.init (beq_iff_eq.mp M.fn) (codeAny_mono (F.run _ X.stack _ _ ⟨Value.ref (s1.heap.objs.size + 1) :: us, []⟩ _ _ _ (E σ) (room.make C us []) (J.env0.make C us []) bound rels asked) fun r s' res => ?_))
  cases r with
  | error er => exact out σ pins _ _ er s' J res
  | ok fl =>
    cases fl with
    | ret u =>
      obtain ⟨v, H2, J2, rv, ev, q3⟩ := J.after res
      subst ev
      exact ⟨rv, ⟨V.ref (s1.heap.objs.size + 1), H2, J2, rfl, q3⟩⟩
    | next => exact False.elim res
    | brk => exact False.elim res
    | cont => exact False.elim res
end
end LR

/-! a list and an empty list compared: == says whether the first is empty, whatever it holds -/
namespace PySem.SeqAt
open AutoSeq1 (wpAny_loadPart')
open MeetsSeq MeetsSeq2 MeetsSeq3 SeqRoads2
section
variable {prog : Program} {w : World} {dd dd2 : Option Addr}
theorem lr_list_lenIn (l b : Addr) (items items2 : Array Value) (n n2 : Nat) (sl sl2 : Array (Option Value)) (hsz : items.size ≠ items2.size) :
    MeetsIn prog w (Builtin.«list.__eq__» ⟨[.ref l, .ref b], []⟩)
      (fun A R s => s.heap.get? l = some { cls := .type "list", dict := dd, data := .seq items n, slots := sl } ∧ s.heap.get? b = some { cls := .type "list", dict := dd2, data := .seq items2 n2, slots := sl2 } ∧
        R (.ok (.ret (.bool false))) s) := by
  intro A R s h
  obtain ⟨hp, g, d, tk, os⟩ := s; obtain ⟨hl, hb, h⟩ := h
  have f3 := AutoSeq1.sub_list_list
  have hne : (items.size != items2.size) = true := by simpa using hsz
  wp_walk using wpAny_loadPart' hl, wpAny_loadPart' hb
  exact h
theorem lr_rcP_len {A : Around} {s : Shared} {l b : Addr} {items items2 : Array Value} (hl : s.heap.IsList l items) (hb : s.heap.IsList b items2) (hsz : items.size ≠ items2.size) (hu : A.units < cLine)
    (E Q : Value → Shared → Prop) (h : Q (.bool false) s) : wpAny (model prog w) A (richCompare .Eq (.ref l) (.ref b)) Q E s := by
  obtain ⟨⟨cls, dd, data, sl⟩, ho, hc, n, hd⟩ := id hl
  obtain ⟨⟨cls2, dd2, data2, sl2⟩, ho2, hc2, n2, hd2⟩ := id hb
  simp only at hc hd hc2 hd2
  subst hc hd hc2 hd2
  have ta : s.TypeIs (.ref l) "list" := ⟨_, ho, rfl⟩
  have tb : s.TypeIs (.ref b) "list" := ⟨_, ho2, rfl⟩
  exact wpAny_richCompare_same_room (op := .Eq) ta tb F.slot_list_eq (call_meetsIn F.slot_list_eq ta F.entry_list_eq (F.args_list_eq_2 _ _) (lr_list_lenIn l b items items2 n n2 sl sl2 hsz)
    ⟨ho, ho2, show Value.bool false ≠ Value.notImplemented ∧ Q (.bool false) s from ⟨(fun x => nomatch x), h⟩⟩) hu
end
end PySem.SeqAt
namespace LR
open PySem PySem.Spec PyProof.Rows L2
section
variable {X : Cx}
def rEqEnd : R2 := fun x y H Q => ∃ a b xs, x = .ref a ∧ y = .ref b ∧ H a = some (.lst xs) ∧ H b = some (.lst []) ∧ Q (.bl xs.isEmpty) H
theorem op_eqEnd (hu : X.A.units < cLine) : OpR X (compareOp .Eq) rEqEnd := by
  intro pins s σ H x y v u Q I rx ry h
  obtain ⟨a, b, xs, rfl, rfl, ha, hb, q⟩ := h
  cases (show v = Value.ref a from rx)
  cases (show u = Value.ref b from ry)
  obtain ⟨us, r1, p1, _⟩ := I.list (SqL.of ha)
  obtain ⟨ws, r2, p2, _⟩ := I.list (SqL.of hb)
  cases r2
  cases xs with
  | nil =>
    cases r1
    refine SeqAt.rcP_lists (e := fun _ => true) p1.isList p2.isList rfl hu (fun j h1 h2 => absurd h1 (by simp)) _ _ ⟨.bl true, H, I, rfl, q⟩
  | cons x r =>
    cases r1 with
    | cons r0 r1 => exact SeqAt.lr_rcP_len p1.isList p2.isList (by simp) hu _ _ ⟨.bl false, H, I, rfl, q⟩
end
end LR

/-! defs with a star parameter that may let an error out; a list beside an empty one -/
namespace PySem.SeqAt
open AutoSeq1 (wpAny_loadPart')
open MeetsSeq MeetsSeq2 MeetsSeq3 SeqRoads2
section
variable {prog : Program} {w : World} {dd dd2 : Option Addr}
theorem lr_ne_lenIn (l b : Addr) (items items2 : Array Value) (n n2 : Nat) (sl sl2 : Array (Option Value)) (hsz : items.size ≠ items2.size) :
    MeetsIn prog w (Builtin.«list.__ne__» ⟨[.ref l, .ref b], []⟩)
      (fun A R s => s.heap.get? l = some { cls := .type "list", dict := dd, data := .seq items n, slots := sl } ∧ s.heap.get? b = some { cls := .type "list", dict := dd2, data := .seq items2 n2, slots := sl2 } ∧
        R (.ok (.ret (.bool true))) s) := by
  intro A R s h
  obtain ⟨hp, g, d, tk, os⟩ := s; obtain ⟨hl, hb, h⟩ := h
  have f3 := AutoSeq1.sub_list_list
  have hne : (items.size != items2.size) = true := by simpa using hsz
  wp_walk using wpAny_loadPart' hl, wpAny_loadPart' hb
  exact h
theorem lr_ne_end (l b : Addr) (n n2 : Nat) (sl sl2 : Array (Option Value)) :
    MeetsIn prog w (Builtin.«list.__ne__» ⟨[.ref l, .ref b], []⟩)
      (fun A R s => s.heap.get? l = some { cls := .type "list", dict := dd, data := .seq #[] n, slots := sl } ∧ s.heap.get? b = some { cls := .type "list", dict := dd2, data := .seq #[] n2, slots := sl2 } ∧
        R (.ok (.ret (.bool false))) s) := by
  intro A R s h
  obtain ⟨hp, g, d, tk, os⟩ := s; obtain ⟨hl, hb, h⟩ := h
  have f3 := AutoSeq1.sub_list_list
  wp_walk using wpAny_loadPart' hl, wpAny_loadPart' hb
  exact ⟨plainId_quiet plain_eq_loop _, codeAny_builtin entry_eq_loop (by
    rw [Around.under_plainId plain_eq_loop _]
    wp_walk using wpAny_loadPart' hl, wpAny_loadPart' hb
    exact h)⟩
theorem lr_rcN_len {A : Around} {s : Shared} {l b : Addr} {items items2 : Array Value} (hl : s.heap.IsList l items) (hb : s.heap.IsList b items2) (hsz : items.size ≠ items2.size) (hu : A.units < cLine)
    (E Q : Value → Shared → Prop) (h : Q (.bool true) s) : wpAny (model prog w) A (richCompare .NotEq (.ref l) (.ref b)) Q E s := by
  obtain ⟨⟨cls, dd, data, sl⟩, ho, hc, n, hd⟩ := id hl
  obtain ⟨⟨cls2, dd2, data2, sl2⟩, ho2, hc2, n2, hd2⟩ := id hb
  simp only at hc hd hc2 hd2
  subst hc hd hc2 hd2
  have ta : s.TypeIs (.ref l) "list" := ⟨_, ho, rfl⟩
  have tb : s.TypeIs (.ref b) "list" := ⟨_, ho2, rfl⟩
  exact wpAny_richCompare_same_room (op := .NotEq) ta tb F.slot_list_ne (call_meetsIn F.slot_list_ne ta F.entry_list_ne (F.args_list_ne_2 _ _) (lr_ne_lenIn l b items items2 n n2 sl sl2 hsz)
    ⟨ho, ho2, show Value.bool true ≠ Value.notImplemented ∧ Q (.bool true) s from ⟨(fun x => nomatch x), h⟩⟩) hu
theorem lr_rcN_end {A : Around} {s : Shared} {l b : Addr} (hl : s.heap.IsList l #[]) (hb : s.heap.IsList b #[]) (hu : A.units < cLine)
    (E Q : Value → Shared → Prop) (h : Q (.bool false) s) : wpAny (model prog w) A (richCompare .NotEq (.ref l) (.ref b)) Q E s := by
  obtain ⟨⟨cls, dd, data, sl⟩, ho, hc, n, hd⟩ := id hl
  obtain ⟨⟨cls2, dd2, data2, sl2⟩, ho2, hc2, n2, hd2⟩ := id hb
  simp only at hc hd hc2 hd2
  subst hc hd hc2 hd2
  have ta : s.TypeIs (.ref l) "list" := ⟨_, ho, rfl⟩
  have tb : s.TypeIs (.ref b) "list" := ⟨_, ho2, rfl⟩
  exact wpAny_richCompare_same_room (op := .NotEq) ta tb F.slot_list_ne (call_meetsIn F.slot_list_ne ta F.entry_list_ne (F.args_list_ne_2 _ _) (lr_ne_end l b n n2 sl sl2)
    ⟨ho, ho2, show Value.bool false ≠ Value.notImplemented ∧ Q (.bool false) s from ⟨(fun x => nomatch x), h⟩⟩) hu
end
end PySem.SeqAt
namespace LR
open PySem PySem.Spec PyProof.Rows L2
/-- xs != [] -/
def rNeEnd : R2 := fun x y H Q => ∃ a b xs, x = .ref a ∧ y = .ref b ∧ H a = some (.lst xs) ∧ H b = some (.lst []) ∧ Q (.bl (!xs.isEmpty)) H
theorem op_neEnd {X : Cx} (hu : X.A.units < cLine) : OpR X (compareOp .NotEq) rNeEnd := by
  intro pins s σ H x y v u Q I rx ry h
  obtain ⟨a, b, xs, rfl, rfl, ha, hb, q⟩ := h
  cases (show v = Value.ref a from rx)
  cases (show u = Value.ref b from ry)
  obtain ⟨us, r1, p1, _⟩ := I.list (SqL.of ha)
  obtain ⟨ws, r2, p2, _⟩ := I.list (SqL.of hb)
  cases r2
  cases xs with
  | nil =>
    cases r1
    exact SeqAt.lr_rcN_end p1.isList p2.isList hu _ _ ⟨.bl false, H, I, rfl, q⟩
  | cons x r =>
    cases r1 with
    | cons r0 r1 => exact SeqAt.lr_rcN_len p1.isList p2.isList (by simp) hu _ _ ⟨.bl true, H, I, rfl, q⟩
theorem cxUpN {P : Program} {w : World} : StX.CXUp (L2N.CX P w) := by
  rintro outer s H s2 H2 E e s' un kp ho ⟨a, B, H', cls, d, ea, fl, hok, ub, na, os, ag, he⟩
  refine ⟨a, B, H', cls, d, ea, fl, hok, ⟨fun b o q n hb => ub.keep b o (kp b o q) (un.free b o q n (by simp)) hb, fun b o q hb => ub.slot b o (kp b o q) hb, fun b o q n => ub.free b o (kp b o q) (un.free b o q n (by simp)),
    fun b o q hb => ub.there b o (kp b o q) hb, fun b xs q => ub.tups b xs (un.tups b xs q), fun b o xs q => ub.frzs b o xs (un.frzs b o xs q), fun b ps q => ?_⟩, na, os.trans ho, ag, he⟩
  obtain ⟨m1, e1⟩ := un.tbls b ps q
  obtain ⟨m2, e2⟩ := ub.tbls b _ e1
  exact ⟨m1 ++ m2, by rw [e2, Array.append_assoc]⟩
/-- a def with a star parameter that may let an error out -/
theorem okStarN {P : Program} {w : World} {K : PySem.W.Frag} {mg : Str → Option Value} {base : Heap} {x qual pv : Str} {st : Stmt} {f : Addr} {fd : FuncData} {N ps : List Str} {k : Nat} {sp : Sp} (F : Fun K x qual st f fd) (S : FnScope N (ps ++ [pv]) (defScope st))
    (hb : ∀ (kV doc pm : Value) (an : Option Addr) (cdv ct : Value) (us rest : List Value), us.length = ps.length → bindArgs (PySem.W.fnOf x qual (defArgs st) (defBody st) (defScope st) .none kV doc pm an cdv ct) ⟨us ++ rest, []⟩ = (newTuple rest >>= fun t => pure (ps.zip us ++ [(pv, t)])))
    (walk : ∀ (cdv : Value) (A : Around) (outer : List Env) (s : Shared) (H : Hp) (vs : List V) (Q : VK) (E : XK), Room k (A.deeper (envOfC qual (defScope st) s.heap.objs.size f cdv)) → sp vs H Q E →
      ∃ t, PSs (cxOf (L2N.CX P w) P w K mg base N qual (defScope st) f cdv A outer s H E) (defBody st) t ∧ t { nx := fun _ H' => Q .non H', rt := Q } (start N vs) H) :
    FnR P w K mg base (L2N.CX P w) (k + 1) f (fun vs H Q E => ∃ ws rest, vs = ws ++ rest ∧ ws.length = ps.length ∧ rest.length ≤ sizeLine ∧ ∀ p, H p = Option.none → sp (ws ++ [V.ref p]) (upd H p (.tup rest)) Q E) := by
  obtain ⟨oc, od, kV, doc, pm, an, cdv, ct, osl, rfl, lk, hcd⟩ := F.ex
  exact StX.fn_star lk hcd S cxUpN (hb kV doc pm an cdv ct) fun A outer s H vs Q E hr h => walk cdv A outer s H vs Q E hr h
/-- C(e, ..), whose __init__ has a star parameter and may let an error out -/
def tMakeRS (C : Addr) (sp : Sp) (E : L2.St → XK) (t : TA) : TE := fun σ H Q => t σ H fun vs H1 => ∀ x dx, H1 x = Option.none → H1 dx = Option.none → dx ≠ x →
  sp (V.ref x :: vs) (upd (upd H1 dx (.own x)) x (.ins C dx [])) (fun v H2 => v = .non ∧ Q (.ref x) H2) (E σ)
section
variable {X : Cx} {CX : CXT} {k : Nat} {f C : Addr} {sp : Sp} {E : L2.St → XK} {x : Str} {e : Expr} {es : List Expr} {t : TA} {p pos : Pos}
theorem pe_makeRS (M : Mk X.K C f) (F : FnR X.prog X.w X.K X.mg X.base CX k f sp) (hr : Room (k + 1) X.A) (hg : Gl X x) (hm : X.mg x = some (.ref C)) (out : ∀ σ, PassesAt CX X σ (E σ)) (ha : PA X (e :: es) t) (hdb : (x == ("__debug__" : Str)) = false := by decide)
    (he : starEach (e :: es) X.env = (false, eval e X.env) :: starEach es X.env := by rfl) (hpl : (backTo pos (starEach es X.env)).any (·.1) = false := by rfl) : PE X (.Call (.Name x p) (e :: es) [] pos) (tMakeRS C sp E t) := by
  refine ⟨fun pins s σ H Q I h => ?_⟩
  refine wpAny_Call_Name_kw (ld_glob I hg hm ?_ hdb)
  refine PySem.W.callWith_K (h₀ := X.base) I.ok.mod.kin M.kp (thn (ha.run pos pins s σ H _ I h) fun us s1 ⟨vs, H1, I1, r, q⟩ => ⟨I1.kIn, ?_⟩) he hpl
  have hq := q (s1.heap.objs.size + 1) s1.heap.objs.size (I1.hok.fresh (Nat.le_succ _)) (I1.hok.fresh (Nat.le_refl _)) (Nat.ne_of_lt (Nat.lt_succ_self _))
  have I2 := Inv.made (C := C) I1
  have r2 : Vals (V.ref (s1.heap.objs.size + 1) :: vs) (Value.ref (s1.heap.objs.size + 1) :: us) := .cons rfl r
  refine wpAny_call (make_map (f := f) I1.kIn M.makes M.init (beq_iff_eq.mp M.fn) (codeAny_mono (F _ X.stack _ _ (Value.ref (s1.heap.objs.size + 1) :: us) _ _ (E σ) (hr.make C us []) (I2.env0.make C us []) r2 hq) fun r s' hq' => ?_))
  cases r with
  | error e => exact out σ pins _ _ e s' I2 hq'
  | ok fl =>
    cases fl with
    | ret u =>
      obtain ⟨v, H', I3, rv, ev, q3⟩ := I2.after hq'
      subst ev
      exact ⟨rv, ⟨V.ref (s1.heap.objs.size + 1), H', I3, rfl, q3⟩⟩
    | next => exact False.elim hq'
    | brk => exact False.elim hq'
    | cont => exact False.elim hq'
end
end LR

/-! a tuple times a number, whatever they are; xs[::-1] of a tuple; C(*xs); C() -/
namespace LR
open PySem PySem.Spec PyProof.Rows L2
theorem mul_empty (l : Addr) (items : Array Value) (n : Nat) (dd : Option Addr) (sl : Array (Option Value)) (x : Int) (u : Tok) (c0 : (decide (x < -(2 ^ 63)) || decide (x ≥ 2 ^ 63)) = false) (c1 : (items.isEmpty || x == 1) = true) :
    Meets (Builtin.«tuple.__mul__» ⟨[.ref l, .int x u], []⟩) (fun _ R s => s.heap.get? l = some { cls := .type "tuple", dict := dd, data := .seq items n, slots := sl } ∧ R (.ok (.ret (Value.ref l))) s) :=
  .of_wp fun prog w A R s h => by
    obtain ⟨hp, g, d, tk, os⟩ := s
    obtain ⟨hl, h⟩ := h
    have f1 := AutoSeq1.idx_int
    wp_walk using wpAny_loadPart' hl
    repeat (first
      | (refine wpAny_ite_false (decide_eq_false (by rw [c0]; exact Bool.false_ne_true)) ?_; wp_walk using wpAny_loadPart' hl)
      | (refine wpAny_ite_true (decide_eq_true (by rw [c1])) ?_; wp_walk using wpAny_loadPart' hl))
    exact ⟨_, rfl, h⟩
theorem mul_none (l : Addr) (items : Array Value) (n : Nat) (dd : Option Addr) (sl : Array (Option Value)) (x : Int) (u : Tok) (c0 : (decide (x < -(2 ^ 63)) || decide (x ≥ 2 ^ 63)) = false) (c1 : (items.isEmpty || x == 1) = false) (c2 : (decide (x ≤ 0) || items.isEmpty) = true) :
    Meets (Builtin.«tuple.__mul__» ⟨[.ref l, .int x u], []⟩) (fun _ R s => s.heap.get? l = some { cls := .type "tuple", dict := dd, data := .seq items n, slots := sl } ∧
      R (.ok (.ret (Value.ref s.heap.objs.size))) { s with heap := s.heap.push { cls := Value.type "tuple", data := Data.seq #[] } }) :=
  .of_wp fun prog w A R s h => by
    obtain ⟨hp, g, d, tk, os⟩ := s
    obtain ⟨hl, h⟩ := h
    have f1 := AutoSeq1.idx_int
    wp_walk using wpAny_loadPart' hl
    repeat (first
      | (refine wpAny_ite_false (decide_eq_false (by rw [c0]; exact Bool.false_ne_true)) ?_; wp_walk using wpAny_loadPart' hl)
      | (refine wpAny_ite_false (decide_eq_false (by rw [c1]; exact Bool.false_ne_true)) ?_; wp_walk using wpAny_loadPart' hl)
      | (refine wpAny_ite_true (decide_eq_true (by rw [c2])) ?_; wp_walk using wpAny_loadPart' hl))
    exact ⟨_, rfl, h⟩
/-- from nought on: the same tuple, none of it, or so many of it -/
def rRepU (K : PySem.W.Frag) : R2 := fun x y H Q => ∃ l k xs, x = .ref l ∧ y = .int k ∧ SqT K H l xs ∧ 0 ≤ k ∧ k ≤ 1000 ∧ xs.length ≤ 1000 ∧ (∀ p, H p = none → Q (.ref p) (upd H p (.tup (List.replicate k.toNat xs).flatten))) ∧ ((xs = [] ∨ k = 1) → Q (.ref l) H)
section
variable {X : Cx}
theorem op_repU : OpR X (binaryOp .Mult) (rRepU X.K) := by
  intro pins s σ H x y v u Q I rx ry h
  obtain ⟨l, k, xs, rfl, rfl, hT, k0, k1, hz, q, q1⟩ := h
  by_cases many : xs ≠ [] ∧ 2 ≤ k
  · exact op_repT pins s σ H _ _ v u Q I rx ry ⟨l, k, xs, rfl, rfl, hT, many.1, many.2, k1, hz, q⟩
  cases rx
  obtain ⟨t, rfl⟩ := ry
  obtain ⟨its, r, ⟨⟨cls, dd, data, sl⟩, ho, hc, n, hd⟩, hs⟩ := I.tuple hT
  simp only at hc hd
  subst hc hd
  have hle : its.length = xs.length := r.length.symm
  have c0 : (decide (k < -(2 ^ 63)) || decide (k ≥ 2 ^ 63)) = false := by
    rw [decide_eq_false (by omega), decide_eq_false (by omega)] <;> rfl
  have way : ∀ {S : PySem.Spec}, Meets (Builtin.«tuple.__mul__» ⟨[.ref l, .int k t], []⟩) S → S X.A (wants (EP X pins σ Q) X.xe) s → wpAny (model X.prog X.w) X.A (binaryOp .Mult (.ref l) (.int k t)) (EP X pins σ Q) X.xe s := fun m h =>
    wpAny_binaryOp_repeat_ref (T := "tuple") (U := "int") (by decide) ⟨_, ho, rfl⟩ (fun s' => typeIs_int s' k t) noFill_tuple_mul F.fills_int_mul F.slot_int_rmul repeat_tuple F.slot_int_index.lookup
      (call_meets F.slot_int_rmul (typeIs_int s k t) F.entry_int_rmul (F.args_int_rmul_2 _ _) (int_rmul_tuple k t l its.toArray n dd sl) ⟨ho, rfl, ⟨_, ho, rfl⟩, call_meets F.slot_tuple_mul ⟨_, ho, rfl⟩ F.entry_tuple_mul (F.args_tuple_mul_2 _ _) m h⟩)
  by_cases e : xs = [] ∨ k = 1
  · have c1 : (its.toArray.isEmpty || k == 1) = true := by
      rcases e with e | e
      · have : its = [] := List.eq_nil_of_length_eq_zero (by rw [hle, e]; rfl)
        rw [this]
        rfl
      · rw [e, beq_self_eq_true, Bool.or_true]
    exact way (mul_empty l its.toArray n dd sl k t c0 c1) ⟨ho, .ref l, H, I, rfl, q1 e⟩
  · have k00 : k = 0 := by
      by_cases h2 : 2 ≤ k
      · exact absurd ⟨fun z => e (.inl z), h2⟩ many
      · have : k ≠ 1 := fun z => e (.inr z)
        omega
    have ne : its ≠ [] := fun z => e (.inl (List.eq_nil_of_length_eq_zero (by rw [← hle, z]; rfl)))
    have hi : its.toArray.isEmpty = false := by
      cases its with
      | nil => exact absurd rfl ne
      | cons a b => rfl
    subst k00
    refine way (mul_none l its.toArray n dd sl 0 t c0 (by rw [hi]; rfl) rfl) ⟨ho, ?_⟩
    refine ⟨.ref s.heap.objs.size, _, I.laid (t' := s.toks) (o := .tup []) (fun b ob q => Heap.get?_push_of_some _ q) (Nat.le_refl _) ?_, rfl, q _ (I.hok.fresh (Nat.le_refl _))⟩
    exact ⟨Nat.zero_le _, _, .nil, IsTup.new _ _⟩
/-- xs[::-1] of a tuple -/
def tRevT (K : PySem.W.Frag) (te : TE) : TE := fun σ H Q => te σ H fun x H1 => ∃ a xs, x = .ref a ∧ SqT K H1 a xs ∧ ∀ p, H1 p = none → Q (.ref p) (upd H1 p (.tup xs.reverse))
/-- C(*xs) -/
def tMakeS1 (K : PySem.W.Frag) (C : Addr) (sp : Sp) (E : XK) (te : TE) : TE := fun σ H Q => te σ H fun y H1 => ∃ a xs, y = V.ref a ∧ (SqT K H1 a xs ∨ SqL K H1 a xs) ∧ ∀ x dx, H1 x = Option.none → H1 dx = Option.none → dx ≠ x →
  sp (V.ref x :: xs) (upd (upd H1 dx (.own x)) x (.ins C dx [])) (fun v H2 => v = .non ∧ Q (.ref x) H2) E
variable {CX : CXT} {k : Nat} {f C : Addr} {sp : Sp} {E : XK} {x : Str} {e : Expr} {te : TE} {p sp_ pos : Pos}
theorem pe_makeS1 (M : Mk X.K C f) (F : FnR X.prog X.w X.K X.mg X.base CX k f sp) (hr : Room (k + 1) X.A) (hg : Gl X x) (hm : X.mg x = some (.ref C)) (hx : Passes CX X E) (he : PE X e te) (hd : (x == ("__debug__" : Str)) = false := by decide)
    (hst : starEach [.Starred e sp_] X.env = [(true, eval e X.env)] := by rfl) : PE X (.Call (.Name x p) [.Starred e sp_] [] pos) (tMakeS1 X.K C sp E te) := by
  refine ⟨fun pins s σ H Q I h => ?_⟩
  refine wpAny_Call_Name_kw (ld_glob I hg hm ?_ hd)
  refine PySem.W.callWith_S (h₀ := X.base) I.ok.mod.kin M.kp (thn (he.run pins s σ H _ I h) fun v s1 ⟨y, H1, I1, ry, a, xs, ey, hxs, q⟩ => ?_) hst
  subst ey
  obtain rfl : v = Value.ref a := ry
  exact StX.star_any I1 hxs fun us s2 I2 rv => ⟨I2.kIn, StX.run_makeR M F hr hx I2 rv q⟩
/-- C() -/
theorem pe_make0 (M : Mk X.K C f) (F : FnR X.prog X.w X.K X.mg X.base CX k f sp) (hr : Room (k + 1) X.A) (hg : Gl X x) (hm : X.mg x = some (.ref C)) (hx : Passes CX X E) (hd : (x == ("__debug__" : Str)) = false := by decide) :
    PE X (.Call (.Name x p) [] [] pos) (fun σ H Q => ∀ x dx, H x = Option.none → H dx = Option.none → dx ≠ x → sp [V.ref x] (upd (upd H dx (.own x)) x (.ins C dx [])) (fun v H2 => v = .non ∧ Q (.ref x) H2) E) := by
  refine ⟨fun pins s σ H Q I h => ?_⟩
  refine wpAny_Call_Name_kw (ld_glob I hg hm ?_ hd)
  exact PySem.W.callWith_K0 I.kIn M.kp (StX.run_makeR M F hr hx I .nil h)
end
end LR

/-! xs[::-1] of a tuple -/
namespace LR
open PySem PySem.Spec PyProof.Rows HT
section
variable {prog : Program} {w : World} {A : Around} {E : Value → Shared → Prop} {s : Shared}
theorem places_back (n : Nat) : Builtin.Slice.slicePlaces ((n : Int) - 1) (-1) (-1) = n := by
  unfold Builtin.Slice.slicePlaces
  rw [if_neg (by decide)]
  by_cases h : ((n : Int) - 1) > -1
  · rw [if_pos h]
    show (((n : Int) - 1 - (-1) - 1) / 1 + 1).toNat = n
    rw [Int.ediv_one]
    omega
  · rw [if_neg h]
    omega
theorem back_applied {sl : Addr} {t : Tok} {n : Nat} {Q : Int × Int × Nat → Shared → Prop} (hs : s.heap.IsSliceOf sl .none .none (.int (-1) t)) (h : Q ((n : Int) - 1, -1, n) s) : wpAny (model prog w) A (Builtin.Slice.sliceApplied (.ref sl) (pure (n : Int))) Q E s := by
  obtain ⟨os, hos, hcs, hds⟩ := id hs
  unfold Builtin.Slice.sliceApplied Builtin.Slice.sliceFields
  refine wpAny_bind (wpAny_bind (wpAny_field hos hds (x := .none) rfl (wpAny_bind (wpAny_field hos hds (x := .none) rfl (wpAny_bind (wpAny_field hos hds (x := .int (-1) t) rfl (wpAny_pure ?_)))))))
  refine wpAny_bind (slicePart_int ?_)
  show wpAny _ _ (if ((-1 : Int) == 0) = true then _ else _) _ _ s
  rw [if_neg (by decide)]
  refine wpAny_bind (slicePart_none (wpAny_bind (slicePart_none (wpAny_bind (wpAny_pure ?_)))))
  show wpAny _ _ (pure ((n : Int) - 1, (-1 : Int), Builtin.Slice.slicePlaces ((n : Int) - 1) (-1) (-1))) _ _ s
  rw [places_back]
  exact wpAny_pure h
theorem fm_congr {α β : Type} {f g : α → Option β} : ∀ {l : List α}, (∀ m ∈ l, f m = g m) → l.filterMap f = l.filterMap g
  | [], _ => rfl
  | a :: r, h => by
    rw [List.filterMap_cons, List.filterMap_cons, h a List.mem_cons_self, fm_congr fun m hm => h m (List.mem_cons_of_mem _ hm)]
theorem pick_back (xs : Array Value) : ((List.range xs.size).filterMap fun (m : Nat) => xs[(((xs.size : Int) - 1) + (m : Int) * (-1)).toNat]?).toArray = xs.toList.reverse.toArray := by
  congr 1
  have e : ∀ m ∈ List.range xs.size, (fun (m : Nat) => xs[(((xs.size : Int) - 1) + (m : Int) * (-1)).toNat]?) m = (fun (m : Nat) => xs.toList.reverse[m]?) m := fun m hm => by
    have lt := List.mem_range.mp hm
    show xs[(((xs.size : Int) - 1) + (m : Int) * (-1)).toNat]? = xs.toList.reverse[m]?
    rw [List.getElem?_reverse (by rw [Array.length_toList]; exact lt), Array.getElem?_toList]
    congr 1
    rw [Array.length_toList]
    omega
  rw [fm_congr e]
  have l : xs.size = xs.toList.reverse.length := by rw [List.length_reverse, Array.length_toList]
  rw [l]
  generalize xs.toList.reverse = ys
  induction ys with
  | nil => rfl
  | cons a r ih =>
    rw [List.length_cons, List.range_succ_eq_map, List.filterMap_cons]
    show a :: _ = _
    rw [List.filterMap_map]
    congr 1
theorem item_back {t sl : Addr} {items : Array Value} {tk : Tok} {Q : Value → Shared → Prop} (ht : IsTup s.heap t items) (hs : s.heap.IsSliceOf sl .none .none (.int (-1) tk)) (h : Q (.ref s.heap.objs.size) { s with heap := s.heap.push { cls := .type "tuple", data := .seq items.toList.reverse.toArray } })
    (hsz : items.size ≤ sizeLine) : wpAny (model prog w) A (getItem (.ref t) (.ref sl)) Q E s := by
  have fits : sizeOk (.seq items.toList.reverse.toArray) := by
    show items.toList.reverse.toArray.size ≤ sizeLine
    rw [List.size_toArray, List.length_reverse, Array.length_toList]
    exact hsz
  obtain ⟨os, hos, hcs, hds⟩ := id hs
  have hT : s.TypeIs (.ref sl) "slice" := ⟨os, hos, hcs⟩
  unfold getItem
  try with_reducible refine wpAny_holding ?_
  first | refine wpAny_bind (wpAny_pure ?_) | skip
  refine wpAny_bind (wpAny_sequenceKey ht.typeIs (by decide) ?_)
  refine wpAny_bind (wpAny_callSpecial?_slot (name := Str.ofString "__getitem__") ht.typeIs PyProof.Rows.slot_tuple_getitem
    (wpAny_call_entry PyProof.Rows.slot_tuple_getitem ht.typeIs entry_tuple_getitem ?_ (args_tuple_getitem _ _)))
  show wpAny _ _ (Builtin.Tuple.tupleItemsOf (.ref t) >>= _) _ _ s
  refine wpAny_bind (tupleItemsOf_ ht (wpAny_bind (wpAny_typeOf hT ?_)))
  rw [if_pos (by decide)]
  refine wpAny_bind (back_applied hs ?_)
  show wpAny _ _ (if ((((items.size : Int) - 1) == 0 && (-1 : Int) == 1) && items.size == items.size) = true then _ else _) _ _ s
  rw [if_neg (by rw [show ((-1 : Int) == 1) = false from rfl, Bool.and_false, Bool.false_and]; exact Bool.false_ne_true), pick_back]
  first
    | exact wpAny_bind (m := Builtin.Tuple.tupleExact _) (wpAny_newObj_type (wpAny_pure ⟨_, rfl, wpAny_pure h⟩) fits)
    | exact wpAny_bind (m := Builtin.Tuple.tupleExact _) (wpAny_newObj_type (wpAny_bind (wpAny_pure (wpAny_pure ⟨_, rfl, wpAny_pure h⟩))) fits)
    | exact wpAny_bind (wpAny_bind (m := Builtin.Tuple.tupleExact _) (wpAny_newObj_type (wpAny_pure (wpAny_pure ⟨_, rfl, wpAny_pure h⟩)) fits))
    | exact wpAny_bind (wpAny_bind (m := Builtin.Tuple.tupleExact _) (wpAny_newObj_type (wpAny_pure ⟨_, rfl, wpAny_pure h⟩) fits))
end
end LR
namespace LR
open PySem PySem.Spec PyProof.Rows L2
variable {X : Cx}
theorem pe_revT {e : Expr} {te : TE} {k : Nat} {p1 p2 p3 pos : Pos} (he : PE X e te) : PE X (.Subscript e (.Slice none none (some (.UnaryOp .USub (.Constant (.int 1) k p1) p2)) p3) pos) (tRevT X.K te) := by
  refine ⟨fun pins s σ H Q I h => Subscript_ (thn (he.run pins s σ H _ I h) fun v s1 got => ?_)⟩
  obtain ⟨x, H1, I1, r1, a, xs, rfl, hx, q⟩ := got
  cases r1
  have st : PO X (some (.UnaryOp .USub (.Constant (.int 1) k p1) p2)) (tPart (tUn (rU fun i => .int (-i)) (tC (.int 1)))) := po_some (pe_un un_neg pe_int)
  refine wpAny_Slice (thn (po_none.run pins s1 σ H1 (fun o G => o = none ∧ G = H1) I1 ⟨rfl, rfl⟩) fun vl s2 g2 => ?_)
  obtain ⟨_, _, I2, pl, rfl, rfl⟩ := g2
  refine thn (po_none.run pins s2 σ _ (fun o G => o = none ∧ G = _) I2 ⟨rfl, rfl⟩) fun vu s3 g3 => ?_
  obtain ⟨_, _, I3, pu, rfl, rfl⟩ := g3
  refine thn (st.run pins s3 σ _ (fun o G => o = some (-1) ∧ G = _) I3 ⟨1, rfl, -1, rfl, rfl, rfl⟩) fun vs s4 g4 => ?_
  obtain ⟨_, _, I4, pt, rfl, rfl⟩ := g4
  cases pl
  cases pu
  cases pt
  rename_i tk
  have I5 : Inv X pins σ _ { s4 with heap := s4.heap.push { cls := .type "slice", data := .fields #[.none, .none, .int (-1) tk] } } := I4.kept (t' := s4.toks) fun b ob z => Heap.get?_push_of_some _ z
  obtain ⟨its, r, ht, hz⟩ := I5.tuple hx
  show wpAny (model X.prog X.w) X.A (subscriptTail e (.Slice none none (some (.UnaryOp .USub (.Constant (.int 1) k p1) p2)) p3) (.ref a) (.ref s4.heap.objs.size)) (EP X pins σ Q) X.xe { s4 with heap := s4.heap.push { cls := .type "slice", data := .fields #[.none, .none, .int (-1) tk] } }
  refine tail_any (ops := [.ref a, .ref s4.heap.objs.size]) ht.typeIs PyProof.Rows.slot_tuple_getitem.lookup ?_ (by with_unfolding_all rfl)
  refine item_back ht (Heap.IsSliceOf.new _ _ _ _) ?_ (by rw [List.size_toArray, ← r.length]; exact hz)
  exact ⟨.ref _, _, I5.laid (t' := s4.toks) (o := .tup xs.reverse) (fun b ob z => Heap.get?_push_of_some _ z) (Nat.le_refl _) ⟨by rw [List.length_reverse]; exact hz, _, r.reverse, IsTup.new _ _⟩, rfl, q _ (I5.hok.fresh (Nat.le_refl _))⟩
end LR

namespace LK
open PySem PySem.Spec PyProof.Rows L2 LR
/-! ### chains applied -/
abbrev St3 := Addr × Str × Str
def nestM : List St3 → Md → Md
  | [], m => m
  | s :: r, m => .ap (.st s.1 s.2.1 s.2.2) [nestM r m]
def OneS (cS : Addr) (H : Hp) (s : St3) : Prop := HdS cS H (.st s.1 s.2.1 s.2.2) ∧ s.2.2.length = 1
theorem OneS.same {cS : Addr} {H H' : Hp} {s : St3} (t : Same H H') (h : OneS cS H s) : OneS cS H' s := ⟨hdS_tr (Tr.same t) h.1, h.2⟩
def refS (ss : List St3) : List V := ss.map fun s => .ref s.1
def spChainI (K : PySem.W.Frag) (cS C : Addr) : Sp := fun vs H Q _ => ∃ (x dx p : Addr) (ss : List St3), vs = [.ref x, .ref p] ∧ H x = some (.ins C dx []) ∧ H p = some (.tup (refS ss)) ∧ (∀ s ∈ ss, OneS cS H s) ∧ ∀ H', H' x = some (.ins C dx [("steps", .ref p)]) → Keep x H H' → Q .non H'
def spChCallX (K : PySem.W.Frag) (E C cS : Addr) : Sp := fun vs H Q _ => ∃ (a dx p : Addr) (v : V) (ss : List St3) (n : Nat) (m : Md), vs = [.ref a, v] ∧ H a = some (.ins C dx [("steps", .ref p)]) ∧ H p = some (.tup (refS ss)) ∧ (∀ s ∈ ss, OneS cS H s) ∧ PartR K E cS n H v m ∧ sz (nestM ss m) < 64 ∧
  ∀ e H', Same H H' → ExR K E cS (n + ss.length) H' (nestM ss m) e → Q e H'
theorem nest_sz : ∀ (ss : List St3) (i : Nat) (m : Md), sz (nestM (ss.drop i) m) ≤ sz (nestM ss m)
  | [], i, m => by rw [List.drop_nil]; exact Nat.le_refl _
  | s :: r, 0, m => Nat.le_refl _
  | s :: r, i + 1, m => by
    have := nest_sz r i m
    show sz (nestM (r.drop i) m) ≤ sz (.ap (.st s.1 s.2.1 s.2.2) [nestM r m])
    simp only [sz, szL]
    omega
section
variable {P : Program} {w : World} {K : PySem.W.Frag} {mg : Str → Option Value} {base : Heap}
theorem scChInit : FnScope ["self", "steps", "step"] ((["self"] : List Str) ++ (["steps"] : List Str)) (defScope sChainInit) := ⟨rfl, rfl, rfl, by decide +kernel, rfl, by decide +kernel, by decide +kernel⟩
theorem ok_chainI {cS C fL f : Addr} {fdL fd : FuncData} (S : Std mg) (c : OwnCl K mg "Step" cS) (n2 : NoAttr K cS "ways") (L : LenM K cS fL fdL sStepLen "Step.__len__") (cl : Cls K C) (m : NoAttr K C "steps") (F : Fun K "__init__" "Chain.__init__" sChainInit f fd) :
    FnR P w K mg base CX0 3 f (fun vs H Q E => ∃ ws rest, vs = ws ++ rest ∧ ws.length = ([("self" : Str)] : List Str).length ∧ rest.length ≤ sizeLine ∧ ∀ p, H p = Option.none → spChainI K cS C (ws ++ [V.ref p]) (upd H p (.tup rest)) Q E) := by
  refine okStar (ps := ["self"]) (pv := "steps") F scChInit (fun kV doc pm an cdv ct => StX.bind_star1 (B := fun us => bindArgs (PySem.W.fnOf "__init__" "Chain.__init__" (defArgs sChainInit) (defBody sChainInit) (defScope sChainInit) .none kV doc pm an cdv ct) ⟨us, []⟩) (p1 := "self") (pv := "steps") (fun a => rfl) (fun a r rs => rfl)) (fun cdv A outer s H vs Q E hr h => ?_)
  obtain ⟨x, dx, p, ss, rfl, hx, hp, hs, q⟩ := h
  have GL := fun (P : Program) (w : World) (base : Heap) => ok_stLen (P := P) (w := w) (base := base) S c.cl n2 L.F
  refine ⟨_, pss_cons (ps_for PassesOwn.never rfl (pi_tup (pv 1)) (pg_name (i := 2) scChInit.nd rfl (Or.inl rfl)) (pss_one (ps_if (PW.pt (pw_or (pt_not (pt_val (pe_callB call_isi (by rfl) S.isi (by decide +kernel) (pa_cons (pv 2) (pa_cons (pe_glob (v := .ref cS) rfl c.g rfl) pa_nil)))))
        (pw_or1 (pt_cmpR op_ne (pe_callB (LR.call_lenOwn (GL _ _ _) L.at_ L.fn L.b pass0 hr) (by rfl) S.len PySem.boot_len (pa_cons (pv 2) pa_nil)) pe_int (nomark _))))) (pss_one ps_never) pss_nil)))
    (pss_one (ps_fld (pv 0) (pv 1) rfl)), ?_⟩
  refine ⟨_, rfl, p, rfl, ⟨_, SqT.of hp⟩, for_tup (xs := refS ss) (fun i σ' H' => (∃ o, σ' = [some (.ref x), some (.ref p), o]) ∧ H' = H) ⟨⟨_, rfl⟩, rfl⟩ (fun i σ' H' _ h => ?_) (fun i v σ' H' hv h => ?_) (fun σ' H' h => ?_)⟩
  · rw [h.2]
    exact SqT.of hp
  · obtain ⟨⟨o, rfl⟩, rfl⟩ := h
    unfold refS at hv
    rw [List.getElem?_map] at hv
    obtain ⟨t, ht, rfl⟩ := Option.map_eq_some_iff.mp hv
    obtain ⟨⟨⟨db, hb⟩, no, wo⟩, hy⟩ := hs t (List.mem_of_getElem? ht)
    refine ⟨_, rfl, _, _, _, _, true, rfl, .own cS, c.ty hb, kit_self, true, rfl, iteF ?_⟩
    refine ⟨_, rfl, t.1, db, _, rfl, hb, t.1, t.2.1, t.2.2, rfl, ⟨db, hb⟩, by omega, t.2.2.length, rfl, by omega, rfl, _, rfl, ?_⟩
    rw [hy]
    exact iteF ⟨⟨_, rfl⟩, rfl⟩
  · obtain ⟨⟨o, rfl⟩, rfl⟩ := h
    refine ⟨_, rfl, _, rfl, x, C, dx, _, rfl, hx, cl, m, by decide, ?_⟩
    exact q _ upd_same Keep.put
def nCC : List Str := ["self", "part", "expr", "step"]
theorem scCC : FnScope nCC ["self", "part"] (defScope sChainCall) := ⟨rfl, rfl, rfl, by decide +kernel, rfl, by decide +kernel, by decide +kernel⟩
theorem ok_chCallX {cE C cS fP fA f : Addr} {fdP fdA fd : FuncData} (S : Std mg) (cl : Cls K C) (mA : NoAttr K C "steps") (P1 : Df K mg "part_expr" sPartExpr fP fdP ["value"]) (GP : FnOk P w K mg base CX0 6 fP fdP ["value"] (spAsX K cE cS)) (A1 : Df K mg "applied" sApplied fA fdA ["step", "parts"])
    (GA : FnOk P w K mg base CX0 4 fA fdA ["step", "parts"] (spAppliedX K cE cS)) (F : Fun K "__call__" "Chain.__call__" sChainCall f fd) : FnOk P w K mg base CX0 7 f fd ["self", "part"] (spChCallX K cE C cS) := by
  refine F.ok scCC (fun vs H Q E h => ?_) (fun cdv A outer s H vs Q E hr h => ?_)
  · obtain ⟨a, dx, p, v, ss, n, m, rfl, _⟩ := h
    rfl
  · obtain ⟨a, dx, p, v, ss, n, m, rfl, ha, hp, hs, hv, few, q⟩ := h
    have rm4 : Room 4 _ := hr.mono (by decide)
    refine ⟨_, pss_cons (ps_set (i := 2) scCC.nd rfl (Or.inl rfl) (pe_call GP hr rfl P1.g P1.F.kp P1.b .nil pass0 (pa_cons (pv 1) pa_nil)))
      (pss_cons (ps_for PassesOwn.never rfl (pi_tup (LR.pe_revT (pe_fld (pv 0) rfl))) (pg_name (i := 3) scCC.nd rfl (Or.inl rfl)) (pss_one (ps_set (i := 2) scCC.nd rfl (Or.inl rfl) (pe_call GA rm4 rfl A1.g A1.F.kp A1.b .nil pass0 (pa_cons (pv 3) (pa_cons (pe_lst (pa_cons (pv 2) pa_nil)) pa_nil))))))
      (pss_one (ps_ret (pv 2)))), ?_⟩
    refine ⟨_, rfl, v, n, m, rfl, hv, fun x H1 s1 hx => ?_⟩
    refine ⟨_, rfl, a, C, dx, _, .ref p, rfl, s1 _ _ ha, cl, mA, rfl, p, refS ss, rfl, SqT.of (s1 _ _ hp), fun r hr' => ?_⟩
    have s2 := same_new (o := .tup (refS ss).reverse) hr'
    have ll : (refS ss).length = ss.length := List.length_map ..
    refine ⟨r, rfl, ⟨_, SqT.of upd_same⟩, for_tup (xs := (refS ss).reverse) (fun i σ' H' => ∃ e o, σ' = [some (.ref a), some v, some e, o] ∧ Same (upd H1 r (.tup (refS ss).reverse)) H' ∧ ExR K cE cS (n + i) H' (nestM (ss.drop (ss.length - i)) m) e) ⟨x, none, rfl, Same.refl _, ?_⟩ (fun i σ' H' _ h => ?_) (fun i u σ' H' hu h => ?_) (fun σ' H' h => ?_)⟩
    · rw [Nat.sub_zero, List.drop_length]
      exact hx.same s2
    · obtain ⟨_, _, _, s3, _⟩ := h
      exact SqT.of (s3 _ _ upd_same)
    · obtain ⟨e, o, rfl, s3, he⟩ := h
      have lt := (List.getElem?_eq_some_iff.mp hu).1
      rw [List.length_reverse] at lt
      rw [List.getElem?_reverse lt] at hu
      unfold refS at hu
      rw [List.getElem?_map] at hu
      obtain ⟨t, ht, rfl⟩ := Option.map_eq_some_iff.mp hu
      have s13 := (s1.trans s2).trans s3
      have one := (hs t (List.mem_of_getElem? ht)).same s13
      have l2 : ss.length - (i + 1) < ss.length := by omega
      have dl : ss.drop (ss.length - (i + 1)) = t :: ss.drop (ss.length - i) := by
        rw [List.drop_eq_getElem_cons l2]
        have e1 : ss[ss.length - (i + 1)] = t := by
          have h1 := List.getElem?_eq_getElem l2
          rw [List.length_map] at ht
          rw [show ss.length - 1 - i = ss.length - (i + 1) by omega, h1] at ht
          exact Option.some.inj ht
        rw [e1, show ss.length - (i + 1) + 1 = ss.length - i by omega]
      refine ⟨_, rfl, _, rfl, (by show 1 ≤ sizeLine; decide), fun l hl => ?_⟩
      have s4 := same_new (o := .lst [e]) hl
      refine ⟨t.1, l, t.2.1, t.2.2, n + i, [(e, nestM (ss.drop (ss.length - i)) m)], rfl, hdS_tr (Tr.same s4) one.1, one.2.symm, SqL.of upd_same, fun u hu => ?_, ?_, fun e2 H2 s5 ex => ?_⟩
      · rw [List.mem_singleton.mp hu]
        exact he.same s4
      · have := nest_sz ss (ss.length - (i + 1)) m
        rw [dl] at this
        exact Nat.lt_of_le_of_lt this few
      · refine ⟨e2, _, rfl, (s3.trans s4).trans s5, ?_⟩
        rw [dl]
        exact ex
    · obtain ⟨e, o, rfl, s3, he⟩ := h
      rw [List.length_reverse, ll, Nat.sub_self, List.drop_zero] at he
      exact ⟨_, rfl, q e H' ((s1.trans s2).trans s3) he⟩
end
end LK

/-! == of tuples and lists of things with an own __eq__: either answer -/
namespace LR
open PySem PySem.SeqAt
open AutoSeq1 (wpAny_loadPart')
open MeetsSeq MeetsSeq2 MeetsSeq3 SeqRoads2
section
variable {prog : Program} {w : World} {A : Around} {R : Result → Shared → Prop}
theorem tuple_eqB (l b : Addr) (items items2 : Array Value) (n n2 : Nat) (dd dd2 : Option Addr) (sl sl2 : Array (Option Value)) (f : Nat → Bool) (I : Shared → Prop)
    (turn : ∀ i (h1 : i < items.size) (h2 : i < items2.size) s, I s → wpAny (model prog w) A.in1 (eqBool items[i] items2[i]) (fun r s' => r = f i ∧ I s') (fun e s' => R (.error e) s') s)
    (res : Bool) (no : ∀ i, i < items.size → i < items2.size → f i = false → res = false) (yes : (∀ i, i < items.size → i < items2.size → f i = true) → res = (items.size == items2.size))
    (fin : ∀ s, I s → R (.ok (.ret (.bool res))) s) {s : Shared} (hl1 : s.heap.get? l = some { cls := .type "tuple", dict := dd, data := .seq items n, slots := sl }) (hb1 : s.heap.get? b = some { cls := .type "tuple", dict := dd2, data := .seq items2 n2, slots := sl2 }) (h : I s) :
    wpAny (model prog w) A.in1 (Builtin.«tuple.__eq__» ⟨[.ref l, .ref b], []⟩) (GQ.FinOf prog w A R) (fun e s' => R (.error e) s') s := by
  have f2 := AutoSeq1.sub_tuple_tuple
  have h0 := h
  have hZ : (items.toList.zip items2.toList).length = min items.size items2.size := by simp
  obtain ⟨hp, g, d, tk, os⟩ := s
  wp_walk using wpAny_loadPart' hl1, wpAny_loadPart' hb1, wpAny_forIn_list _ (fun rest b s' => b.1 = none ∧ ∃ i, rest = (items.toList.zip items2.toList).drop i ∧ (∀ j, j < i → f j = true) ∧ I s') _
  case turn =>
    rintro ⟨y, x⟩ rest b s' ⟨hb', i, hz, hi, hI⟩
    have hlt : i < (items.toList.zip items2.toList).length := by
      rcases Nat.lt_or_ge i (items.toList.zip items2.toList).length with h' | h'
      · exact h'
      · rw [List.drop_of_length_le h'] at hz; cases hz
    have h1 : i < items.size := by rw [hZ] at hlt; omega
    have h2 : i < items2.size := by rw [hZ] at hlt; omega
    rw [List.drop_eq_getElem_cons hlt] at hz
    injection hz with hyx hrest
    have hy : y = items[i] := by have := congrArg Prod.fst hyx; simpa using this
    have hx : x = items2[i] := by have := congrArg Prod.snd hyx; simpa using this
    subst hy hx
    refine wpAny_bind (wpAny_mono (turn i h1 h2 s' hI) (fun r s2 q2 => ?_) fun _ _ x => x)
    obtain ⟨hr, q2⟩ := q2
    subst hr
    cases hf : f i with
    | true =>
      wp_walk
      exact ⟨rfl, i + 1, hrest, fun j hj => by
        rcases Nat.lt_or_ge j i with q | q
        · exact hi j q
        · rw [show j = i by omega]; exact hf, q2⟩
    | false =>
      have hR : R (.ok (.ret (.bool res))) s2 := fin s2 q2
      rw [no i h1 h2 hf] at hR
      wp_walk
      exact hR
  case fin =>
    rintro ⟨b1, b2⟩ s' ⟨hb', i, hz, hi, hI⟩
    simp only at hb'
    subst hb'
    have hge : min items.size items2.size ≤ i := by
      rcases Nat.lt_or_ge i (items.toList.zip items2.toList).length with h' | h'
      · rw [List.drop_eq_getElem_cons h'] at hz; cases hz
      · exact hZ ▸ h'
    have hR : R (.ok (.ret (.bool res))) s' := fin s' hI
    rw [yes fun j h1 h2 => hi j (by omega)] at hR
    wp_walk
    simpa [Builtin.Tuple.tupleCompareSizes] using hR
  case h =>
    exact ⟨rfl, 0, rfl, fun j hj => absurd hj (Nat.not_lt_zero _), h0⟩
/-- at each turn the two lists are read anew -/
def ListB (l b : Addr) (N : Nat) (I : Shared → Prop) : Prop :=
  ∀ s, I s → ∃ (items items2 : Array Value) (n n2 : Nat), s.heap.get? l = some { cls := .type "list", data := .seq items n } ∧ s.heap.get? b = some { cls := .type "list", data := .seq items2 n2 } ∧ items.size = N ∧ items2.size = N
def TurnB (prog : Program) (w : World) (A : Around) (E : Value → Shared → Prop) (l b : Addr) (f : Nat → Bool) (I : Shared → Prop) : Prop :=
  ∀ s (items items2 : Array Value) (n n2 : Nat), I s → s.heap.get? l = some { cls := .type "list", data := .seq items n } → s.heap.get? b = some { cls := .type "list", data := .seq items2 n2 } →
    ∀ i (h1 : i < items.size) (h2 : i < items2.size), wpAny (model prog w) A.in1 (eqBool items[i] items2[i]) (fun r s' => r = f i ∧ I s') E s
theorem eq_loopB (l b : Addr) (N : Nat) (f : Nat → Bool) (I : Shared → Prop) (hl : ListB l b N I) (turn : TurnB prog w A (fun e s' => R (.error e) s') l b f I)
    (res : Bool) (no : ∀ i, i < N → f i = false → res = false) (yes : (∀ i, i < N → f i = true) → res = true)
    (fin : ∀ s, I s → R (.ok (.ret (.bool res))) s) (k : Nat) :
    ∀ i : Nat, N - i = k → i ≤ N → (∀ j, j < i → f j = true) → ∀ s, I s →
      wpAny (model prog w) A.in1 (Builtin.«list.__eq__.loop» ⟨[.ref l, .ref b, rawInt i, rawInt 2], []⟩) (GQ.FinOf prog w A R) (fun e s' => R (.error e) s') s := by
  induction k with
  | zero =>
    intro i hk hi hj s h
    obtain ⟨items, items2, n, n2, hl1, hb1, hs1, hs2⟩ := hl _ h
    have hi' : i = N := by omega
    have hR : R (.ok (.ret (.bool res))) s := fin s h
    rw [yes fun j q => hj j (by omega)] at hR
    obtain ⟨hp, g, d, tk, os⟩ := s
    wp_walk using wpAny_loadPart' hl1, wpAny_loadPart' hb1
    have hi1 : items[((i : Nat) : Int).toNat]? = none := by simp; omega
    have hi2 : items2[((i : Nat) : Int).toNat]? = none := by simp; omega
    rw [hi1, hi2]
    wp_walk using wpAny_loadPart' hl1, wpAny_loadPart' hb1
    show R (.ok (.ret (.bool (items.size == items2.size)))) _
    rw [hs1, hs2]
    simpa using hR
  | succ k ih =>
    intro i hk hi hj s h
    obtain ⟨items, items2, n, n2, hl1, hb1, hs1, hs2⟩ := hl _ h
    have hlt : i < items.size := by omega
    have hlt2 : i < items2.size := by omega
    have ht := turn s items items2 n n2 h hl1 hb1 i hlt hlt2
    obtain ⟨hp, g, d, tk, os⟩ := s
    wp_walk using wpAny_loadPart' hl1, wpAny_loadPart' hb1
    have hi1 : items[((i : Nat) : Int).toNat]? = some items[i] := by simp [hlt]
    have hi2 : items2[((i : Nat) : Int).toNat]? = some items2[i] := by simp [hlt2]
    have hc : ((i : Int) + 1) = ((i + 1 : Nat) : Int) := by omega
    rw [hi1, hi2]
    refine wpAny_bind (wpAny_mono ht (fun r s2 h2 => ?_) fun _ _ x => x)
    obtain ⟨hr, h2⟩ := h2
    subst hr
    cases hf : f i with
    | true =>
      have hrec := ih (i + 1) (by omega) (by omega) (fun j q => by
        rcases Nat.lt_or_ge j i with q' | q'
        · exact hj j q'
        · rw [show j = i by omega]; exact hf) s2 h2
      obtain ⟨hp2, g2, d2, tk2, os2⟩ := s2
      wp_walk
      rw [hc]
      exact ⟨plainId_quiet plain_eq_loop _, codeAny_builtin entry_eq_loop (by
        rw [Around.under_plainId plain_eq_loop _]
        exact hrec)⟩
    | false =>
      have hR : R (.ok (.ret (.bool res))) s2 := fin s2 h2
      rw [no i (by omega) hf] at hR
      obtain ⟨items', items2', n', n2', hl1', hb1', hs1', hs2'⟩ := hl _ h2
      obtain ⟨hp2, g2, d2, tk2, os2⟩ := s2
      wp_walk using wpAny_loadPart' hl1', wpAny_loadPart' hb1'
      have hi1' : items'[((i : Nat) : Int).toNat]? = some (items'[i]'(by omega)) := by simp
      have hi2' : items2'[((i : Nat) : Int).toNat]? = some (items2'[i]'(by omega)) := by simp
      rw [hi1', hi2']
      wp_walk
      exact hR
theorem list_eqB (l b : Addr) (N : Nat) (f : Nat → Bool) (I : Shared → Prop) (hl : ListB l b N I) (turn : TurnB prog w A (fun e s' => R (.error e) s') l b f I)
    (res : Bool) (no : ∀ i, i < N → f i = false → res = false) (yes : (∀ i, i < N → f i = true) → res = true)
    (fin : ∀ s, I s → R (.ok (.ret (.bool res))) s) {s : Shared} (h : I s) :
    wpAny (model prog w) A.in1 (Builtin.«list.__eq__» ⟨[.ref l, .ref b], []⟩) (GQ.FinOf prog w A R) (fun e s' => R (.error e) s') s := by
  obtain ⟨items, items2, n, n2, hl1, hb1, hs1, hs2⟩ := hl _ h
  have hrec := eq_loopB (A := A) (R := R) l b N f I hl turn res no yes fin _ 0 rfl (Nat.zero_le _) (fun j q => absurd q (Nat.not_lt_zero _)) s h
  obtain ⟨hp, g, d, tk, os⟩ := s
  have f3 := AutoSeq1.sub_list_list
  have hne : ¬ (items.size != items2.size) = true := by simp [hs1, hs2]
  wp_walk using wpAny_loadPart' hl1, wpAny_loadPart' hb1
  exact ⟨plainId_quiet plain_eq_loop _, codeAny_builtin entry_eq_loop (by
    rw [Around.under_plainId plain_eq_loop _]
    exact hrec)⟩
theorem list_lenB (l b : Addr) (items items2 : Array Value) (n n2 : Nat) (hne : items.size ≠ items2.size) {s : Shared} (hl1 : s.heap.get? l = some { cls := .type "list", data := .seq items n }) (hb1 : s.heap.get? b = some { cls := .type "list", data := .seq items2 n2 })
    (fin : R (.ok (.ret (.bool false))) s) :
    wpAny (model prog w) A.in1 (Builtin.«list.__eq__» ⟨[.ref l, .ref b], []⟩) (GQ.FinOf prog w A R) (fun e s' => R (.error e) s') s := by
  obtain ⟨hp, g, d, tk, os⟩ := s
  have f3 := AutoSeq1.sub_list_list
  have hne' : (items.size != items2.size) = true := by simp [hne]
  wp_walk using wpAny_loadPart' hl1, wpAny_loadPart' hb1
  exact fin
end
section
variable {prog : Program} {w : World} {A : Around} {E : Value → Shared → Prop} {s : Shared}
theorem rc_tupB {l b : Addr} {items items2 : Array Value} {Q : Value → Shared → Prop} (hu : A.units < cLine) (f : Nat → Bool) (I : Shared → Prop)
    (hl : s.heap.IsTuple l items) (hb : s.heap.IsTuple b items2)
    (turn : ∀ i (h1 : i < items.size) (h2 : i < items2.size) s, I s → wpAny (model prog w) A.in1 (eqBool items[i] items2[i]) (fun r s' => r = f i ∧ I s') E s)
    (res : Bool) (no : ∀ i, i < items.size → i < items2.size → f i = false → res = false) (yes : (∀ i, i < items.size → i < items2.size → f i = true) → res = (items.size == items2.size))
    (fin : ∀ s, I s → Q (.bool res) s) (h : I s) : wpAny (model prog w) A (richCompare .Eq (.ref l) (.ref b)) Q E s := by
  obtain ⟨⟨cls, dd, data, sl⟩, ho, hc, n, hd⟩ := id hl
  obtain ⟨⟨cls2, dd2, data2, sl2⟩, ho2, hc2, n2, hd2⟩ := id hb
  simp only at hc hd hc2 hd2
  subst hc hd hc2 hd2
  refine wpAny_richCompare_same_room (op := .Eq) ⟨_, ho, rfl⟩ ⟨_, ho2, rfl⟩ F.slot_tuple_eq (GQ.call_here F.slot_tuple_eq ⟨_, ho, rfl⟩ F.entry_tuple_eq (F.args_tuple_eq_2 _ _) ?_) hu
  exact tuple_eqB (R := wants (fun v s' => v ≠ .notImplemented ∧ Q v s') E) l b items items2 n n2 dd dd2 sl sl2 f I turn res no yes (fun s' q => ⟨(fun x => nomatch x), fin s' q⟩) ho ho2 h
theorem rc_listB {l b : Addr} {N : Nat} {Q : Value → Shared → Prop} (hu : A.units < cLine) (f : Nat → Bool) (I : Shared → Prop) (hl : ListB l b N I) (turn : TurnB prog w A E l b f I)
    (res : Bool) (no : ∀ i, i < N → f i = false → res = false) (yes : (∀ i, i < N → f i = true) → res = true)
    (fin : ∀ s, I s → Q (.bool res) s) (h : I s) : wpAny (model prog w) A (richCompare .Eq (.ref l) (.ref b)) Q E s := by
  obtain ⟨items, items2, n, n2, hl1, hb1, _, _⟩ := hl _ h
  refine wpAny_richCompare_same_room (op := .Eq) ⟨_, hl1, rfl⟩ ⟨_, hb1, rfl⟩ F.slot_list_eq (GQ.call_here F.slot_list_eq ⟨_, hl1, rfl⟩ F.entry_list_eq (F.args_list_eq_2 _ _) ?_) hu
  exact list_eqB (R := wants (fun v s' => v ≠ .notImplemented ∧ Q v s') E) l b N f I hl turn res no yes (fun s' q => ⟨(fun x => nomatch x), fin s' q⟩) h
theorem rc_listL {l b : Addr} {items items2 : Array Value} {n n2 : Nat} {Q : Value → Shared → Prop} (hu : A.units < cLine) (hne : items.size ≠ items2.size) (hl1 : s.heap.get? l = some { cls := .type "list", data := .seq items n }) (hb1 : s.heap.get? b = some { cls := .type "list", data := .seq items2 n2 })
    (fin : Q (.bool false) s) : wpAny (model prog w) A (richCompare .Eq (.ref l) (.ref b)) Q E s := by
  refine wpAny_richCompare_same_room (op := .Eq) ⟨_, hl1, rfl⟩ ⟨_, hb1, rfl⟩ F.slot_list_eq (GQ.call_here F.slot_list_eq ⟨_, hl1, rfl⟩ F.entry_list_eq (F.args_list_eq_2 _ _) ?_) hu
  exact list_lenB (R := wants (fun v s' => v ≠ .notImplemented ∧ Q v s') E) l b items items2 n n2 hne hl1 hb1 ⟨(fun x => nomatch x), fin⟩
theorem eqBool_refB {l b : Addr} {Q : Bool → Shared → Prop} (hne : l ≠ b) (h : wpAny (model prog w) A (richCompare .Eq (.ref l) (.ref b)) (fun v s' => ∃ r, v = .bool r ∧ Q r s') E s) : wpAny (model prog w) A (eqBool (.ref l) (.ref b)) Q E s := GQ.eqBool_refG hne h
end
end LR
namespace LR
open PySem PySem.Spec PyProof.Rows L2
/-- how == of two values comes out, by the abstract heap -/
abbrev EqvB := V → V → Bool → Hp → Prop
def MonB (D : EqvB) : Prop := ∀ x y b H H', Ext H H' → D x y b H → D x y b H'
def EqGB (X : Cx) (n : Nat) (D : EqvB) : Prop :=
  ∀ (A : Around) (pins : List (Addr × Obj)) (s : Shared) (σ : L2.St) (H : Hp) (x y : V) (b : Bool) (u v : Value), Sub X n A → Inv X pins σ H s → RelV x u → RelV y v → D x y b H →
    wpAny (model X.prog X.w) A (eqBool u v) (fun r s' => r = b ∧ ∃ H', Inv X pins σ H' s' ∧ Ext H H') X.xe s
def RcGB (X : Cx) (n : Nat) (D : EqvB) : Prop :=
  ∀ (A : Around) (pins : List (Addr × Obj)) (s : Shared) (σ : L2.St) (H : Hp) (x y : V) (b : Bool) (u v : Value), Sub X n A → Inv X pins σ H s → RelV x u → RelV y v → D x y b H →
    wpAny (model X.prog X.w) A (richCompare .Eq u v) (fun r s' => r = .bool b ∧ ∃ H', Inv X pins σ H' s' ∧ Ext H H') X.xe s
section
variable {X : Cx} {n m : Nat} {D D' : EqvB}
theorem EqGB.mono (h : EqGB X n D) (hn : n ≤ m) : EqGB X m D := fun A pins s σ H x y b u v sb => h A pins s σ H x y b u v (sb.mono hn)
theorem RcGB.mono (h : RcGB X n D) (hn : n ≤ m) : RcGB X m D := fun A pins s σ H x y b u v sb => h A pins s σ H x y b u v (sb.mono hn)
theorem EqGB.or (h : EqGB X n D) (h' : EqGB X n D') : EqGB X n (fun x y b H => D x y b H ∨ D' x y b H) := fun A pins s σ H x y b u v sb I rx ry d => d.elim (fun d => h A pins s σ H x y b u v sb I rx ry d) fun d => h' A pins s σ H x y b u v sb I rx ry d
theorem RcGB.or (h : RcGB X n D) (h' : RcGB X n D') : RcGB X n (fun x y b H => D x y b H ∨ D' x y b H) := fun A pins s σ H x y b u v sb I rx ry d => d.elim (fun d => h A pins s σ H x y b u v sb I rx ry d) fun d => h' A pins s σ H x y b u v sb I rx ry d
/-- flat values -/
def DFlatB : EqvB := fun x y b _ => flatV x = true ∧ flatV y = true ∧ eqV x y = b
theorem mon_flatB : MonB DFlatB := fun _ _ _ _ _ _ d => d
theorem eqGB_flat : EqGB X 0 DFlatB := by
  intro A pins s σ H x y b u v sb I rx ry d
  obtain ⟨fx, fy, e⟩ := d
  have q := eqAt_V (A := A) (s := s) rx ry fx fy
  rw [e] at q
  exact q X.prog X.w X.xe _ ⟨rfl, H, I, Ext.rfl'⟩
/-- item by item -/
def PrsB (D : EqvB) (xs ys : List V) (f : Nat → Bool) (H : Hp) : Prop := ∀ (i : Nat) x y, xs[i]? = some x → ys[i]? = some y → D x y (f i) H
theorem PrsB.mon (hD : MonB D) {xs ys : List V} {f : Nat → Bool} {H H' : Hp} (e : Ext H H') (p : PrsB D xs ys f H) : PrsB D xs ys f H' := fun i x y h1 h2 => hD x y _ H H' e (p i x y h1 h2)
def ansB (xs ys : List V) (f : Nat → Bool) : Bool := (List.range (min xs.length ys.length)).all f && (xs.length == ys.length)
theorem ansB_no {xs ys : List V} {f : Nat → Bool} {i : Nat} (h1 : i < xs.length) (h2 : i < ys.length) (h : f i = false) : ansB xs ys f = false := by
  unfold ansB
  rw [Bool.and_eq_false_iff]
  left
  rw [List.all_eq_false]
  exact ⟨i, List.mem_range.mpr (by omega), by rw [h]; decide⟩
theorem ansB_yes {xs ys : List V} {f : Nat → Bool} (h : ∀ i, i < xs.length → i < ys.length → f i = true) : ansB xs ys f = (xs.length == ys.length) := by
  unfold ansB
  have : (List.range (min xs.length ys.length)).all f = true := by
    rw [List.all_eq_true]
    intro i hi
    have := List.mem_range.mp hi
    exact h i (by omega) (by omega)
  rw [this, Bool.true_and]
/-- what the loop over the items keeps -/
theorem turnB (hD : MonB D) (h : EqGB X n D) {A : Around} (sb : Sub X (n + 1) A) {pins : List (Addr × Obj)} {σ : L2.St} {H : Hp} {xs ys : List V} {f : Nat → Bool} {its its2 : List Value} (p : PrsB D xs ys f H) (r : Vals xs its) (r2 : Vals ys its2)
    (i : Nat) (h1 : i < its.toArray.size) (h2 : i < its2.toArray.size) (s' : Shared) (l : LoopI X pins σ H s') :
    wpAny (model X.prog X.w) A.in1 (eqBool its.toArray[i] its2.toArray[i]) (fun r s2 => r = f i ∧ LoopI X pins σ H s2) X.xe s' := by
  obtain ⟨H1, I1, e1⟩ := l
  have g1 : its[i]? = some its.toArray[i] := by
    have h1' : i < its.length := by simpa using h1
    rw [List.getElem?_eq_getElem h1'] <;> simp
  have g2 : its2[i]? = some its2.toArray[i] := by
    have h2' : i < its2.length := by simpa using h2
    rw [List.getElem?_eq_getElem h2'] <;> simp
  have k1 : i < xs.length := by rw [r.length]; simpa using h1
  have k2 : i < ys.length := by rw [r2.length]; simpa using h2
  obtain ⟨u, hu, ru⟩ := r.get (List.getElem?_eq_getElem k1)
  obtain ⟨v, hv, rv⟩ := r2.get (List.getElem?_eq_getElem k2)
  rw [g1] at hu
  rw [g2] at hv
  rw [Option.some.inj hu, Option.some.inj hv]
  refine wpAny_mono (h A.in1 pins s' σ H1 _ _ _ u v sb.in1 I1 ru rv (hD _ _ _ _ _ e1 (p i _ _ (List.getElem?_eq_getElem k1) (List.getElem?_eq_getElem k2)))) (fun r s2 q => ?_) fun _ _ x => x
  obtain ⟨hr, H2, I2, e2⟩ := q
  exact ⟨hr, H2, I2, e1.trans e2⟩
def DTupB (K : PySem.W.Frag) (D : EqvB) : EqvB := fun x y r H => ∃ a b xs ys f, x = .ref a ∧ y = .ref b ∧ SqT K H a xs ∧ SqT K H b ys ∧ PrsB D xs ys f H ∧ r = ansB xs ys f
def DListB (D : EqvB) : EqvB := fun x y r H => ∃ a b xs ys f, x = .ref a ∧ y = .ref b ∧ H a = some (.lst xs) ∧ H b = some (.lst ys) ∧ (xs.length = ys.length → PrsB D xs ys f H) ∧ r = ansB xs ys f
theorem mon_tupB {K : PySem.W.Frag} (hD : MonB D) : MonB (DTupB K D) := fun x y r H H' e d => by
  obtain ⟨a, b, xs, ys, f, hx, hy, h1, h2, p, hr⟩ := d
  exact ⟨a, b, xs, ys, f, hx, hy, h1.ext e, h2.ext e, p.mon hD e, hr⟩
theorem mon_listB (hD : MonB D) : MonB (DListB D) := fun x y r H H' e d => by
  obtain ⟨a, b, xs, ys, f, hx, hy, h1, h2, p, hr⟩ := d
  exact ⟨a, b, xs, ys, f, hx, hy, e _ _ h1, e _ _ h2, fun l => (p l).mon hD e, hr⟩
theorem rcGB_tup (hD : MonB D) (h : EqGB X n D) : RcGB X (n + 1) (DTupB X.K D) := by
  intro A pins s σ H x y r u v sb I rx ry d
  obtain ⟨a, b, xs, ys, f, rfl, rfl, ha, hb, p, rfl⟩ := d
  cases rx
  cases ry
  obtain ⟨its, r, e, z⟩ := I.tuple ha
  obtain ⟨its2, r2, e2, z2⟩ := I.tuple hb
  have l1 : its.toArray.size = xs.length := by rw [List.size_toArray, ← r.length]
  have l2 : its2.toArray.size = ys.length := by rw [List.size_toArray, ← r2.length]
  exact rc_tupB sb.room.units0 f (fun s' => LoopI X pins σ H s') e e2 (fun i h1 h2 s' q => turnB hD h sb p r r2 i h1 h2 s' q) (ansB xs ys f) (fun i h1 h2 q => ansB_no (by omega) (by omega) q) (fun q => by rw [l1, l2]; exact ansB_yes fun i h1 h2 => q i (by omega) (by omega)) (fun s' q => ⟨rfl, q⟩) ⟨H, I, Ext.rfl'⟩
theorem rcGB_list (hD : MonB D) (h : EqGB X n D) : RcGB X (n + 1) (DListB D) := by
  intro A pins s σ H x y r u v sb I rx ry d
  obtain ⟨a, b, xs, ys, f, rfl, rfl, ha, hb, p, rfl⟩ := d
  cases rx
  cases ry
  by_cases hl : xs.length = ys.length
  · have key : ∀ s', LoopI X pins σ H s' → ∃ (its its2 : List Value) (k k2 : Nat), Vals xs its ∧ Vals ys its2 ∧ s'.heap.get? a = some { cls := .type "list", data := .seq its.toArray k } ∧ s'.heap.get? b = some { cls := .type "list", data := .seq its2.toArray k2 } := by
      rintro s' ⟨H1, I1, e1⟩
      obtain ⟨z, its, k, r, e⟩ := I1.hok a _ (e1 _ _ ha)
      obtain ⟨z2, its2, k2, r2, e2⟩ := I1.hok b _ (e1 _ _ hb)
      exact ⟨its, its2, k, k2, r, r2, e, e2⟩
    refine rc_listB (N := xs.length) sb.room.units0 f (fun s' => LoopI X pins σ H s') (fun s' q => ?_) (fun s' items items2 n1 n2 q g1 g2 i h1 h2 => ?_) (ansB xs ys f) (fun i h1 q => ansB_no h1 (by omega) q) (fun q => by rw [ansB_yes fun i h1 h2 => q i h1, hl]; simp) (fun s' q => ⟨rfl, q⟩) ⟨H, I, Ext.rfl'⟩
    · obtain ⟨its, its2, k, k2, r, r2, e, e2⟩ := key s' q
      exact ⟨its.toArray, its2.toArray, k, k2, e, e2, by rw [List.size_toArray, ← r.length], by rw [List.size_toArray, ← r2.length, ← hl]⟩
    · obtain ⟨its, its2, k, k2, r, r2, e, e2⟩ := key s' q
      rw [g1] at e
      rw [g2] at e2
      obtain ⟨rfl⟩ : items = its.toArray := by injection e with e; injection e with _ _ e; injection e
      obtain ⟨rfl⟩ : items2 = its2.toArray := by injection e2 with e; injection e with _ _ e; injection e
      exact turnB hD h sb (p hl) r r2 i h1 h2 s' q
  · obtain ⟨z, its, k, r, e⟩ := I.hok a _ ha
    obtain ⟨z2, its2, k2, r2, e2⟩ := I.hok b _ hb
    have ans : ansB xs ys f = false := by
      unfold ansB
      rw [show (xs.length == ys.length) = false by simpa using hl, Bool.and_false]
    rw [ans]
    refine rc_listL sb.room.units0 ?_ e e2 ⟨rfl, H, I, Ext.rfl'⟩
    rw [List.size_toArray, List.size_toArray, ← r.length, ← r2.length]
    exact hl
/-- objects of an own class with an own == -/
def DInsB (C : Addr) (R : Addr → Addr → Bool → Hp → Prop) : EqvB := fun x y r H => ∃ a b dx dy fs gs, x = .ref a ∧ y = .ref b ∧ H a = some (.ins C dx fs) ∧ H b = some (.ins C dy gs) ∧ R a b r H
theorem mon_insB {C : Addr} {R : Addr → Addr → Bool → Hp → Prop} (hR : ∀ a b r H H', Ext H H' → R a b r H → R a b r H') : MonB (DInsB C R) := fun x y r H H' e d => by
  obtain ⟨a, b, dx, dy, fs, gs, hx, hy, h1, h2, q⟩ := d
  exact ⟨a, b, dx, dy, fs, gs, hx, hy, e _ _ h1, e _ _ h2, hR a b r H H' e q⟩
/-- what such an own == promises -/
def spEqR (R : Addr → Addr → Bool → Hp → Prop) : Sp := fun vs H Q _ => ∃ a b r, vs = [.ref a, .ref b] ∧ R a b r H ∧ ∀ H', Ext H H' → Q (.bl r) H'
theorem rcGB_ins {CX : CXT} {C f : Addr} {fd : FuncData} {ps : List Str} {R : Addr → Addr → Bool → Hp → Prop} {E : XK} (F : FnOk X.prog X.w X.K X.mg X.base CX n f fd ps (spEqR R))
    (hs : PySem.W.findIn X.K (.ref C) "__eq__" = some (some (.ref f))) (hf : PySem.W.isFn X.K (.ref f) = true) (hb : Binds X.K fd ps []) (hx : Passes CX X E) : RcGB X n (DInsB C R) := by
  intro A pins s σ H x y r u v sb I rx ry d
  obtain ⟨a, b, dx, dy, fs, gs, rfl, rfl, ha, hb', hr⟩ := d
  cases rx
  cases ry
  obtain ⟨mA, J, _⟩ := ins_get I.hok ha
  obtain ⟨mB, J', _⟩ := ins_get I.hok hb'
  obtain ⟨od, J, _⟩ := J.look
  obtain ⟨od', J', _⟩ := J'.look
  obtain ⟨m, hF⟩ := I.fr
  refine PySem.W.cmp_K (op := .Eq) (tb := .ref C) sb.room.units0 hF I.ok.mod.kin J J'.type (by simp [PySem.W.notFirst]) hs hf ?_
  have hsp : spEqR R [.ref a, .ref b] H (fun v H' => v = .bl r ∧ Ext H H') E := ⟨a, b, r, rfl, hr, fun H' e => ⟨rfl, e⟩⟩
  refine wpAny_mono (call_run (A := A) sb F hb hx I (.cons (show RelV (V.ref a) (Value.ref a) from rfl) (.cons (show RelV (V.ref b) (Value.ref b) from rfl) .nil)) hsp) (fun v s' q => ?_) fun _ _ z => z
  obtain ⟨y, H', I', ry, rfl, e⟩ := q
  cases ry
  exact ⟨rfl, H', I', e⟩
theorem RcGB.eqG (h : RcGB X n D) (hr : ∀ x y r H, D x y r H → ∃ a b, x = .ref a ∧ y = .ref b ∧ (a = b → r = true)) : EqGB X n D := by
  intro A pins s σ H x y r u v sb I rx ry d
  obtain ⟨a, b, rfl, rfl, ht⟩ := hr _ _ _ _ d
  cases rx
  cases ry
  by_cases hab : a = b
  · have rt := ht hab
    subst hab
    subst rt
    exact SeqAt.EqAt.same (A := A) (s := s) (.ref a) X.prog X.w X.xe _ ⟨rfl, H, I, Ext.rfl'⟩
  · refine GQ.eqBool_refG hab (wpAny_mono (h A pins s σ H (.ref a) (.ref b) _ _ _ sb I rfl rfl d) (fun r' s' q => ?_) fun _ _ x => x)
    obtain ⟨hr', q⟩ := q
    exact ⟨r, hr', rfl, q⟩
/-- x == y as an expression -/
def rEqGB (D : EqvB) : R2 := fun x y H Q => ∃ b, D x y b H ∧ ∀ H', Ext H H' → Q (.bl b) H'
theorem op_eqGB (h : RcGB X n D) (hr : Room n X.A) : OpR X (compareOp .Eq) (rEqGB D) := by
  intro pins s σ H x y v u Q I rx ry hq
  obtain ⟨b, d, q⟩ := hq
  show wpAny (model X.prog X.w) X.A (richCompare .Eq v u) (EP X pins σ Q) X.xe s
  refine wpAny_mono (h X.A pins s σ H x y b v u ⟨hr, rfl⟩ I rx ry d) (fun r s' z => ?_) fun _ _ x => x
  obtain ⟨hr', H', I', e⟩ := z
  subst hr'
  exact ⟨.bl b, H', I', rfl, q H' e⟩
end
end LR

namespace LK
open PySem PySem.Spec PyProof.Rows L2 LR
/-! ### steps compared -/
theorem TyX.same {K : PySem.W.Frag} {H H' : Hp} {v : V} {t : Value} (s : Same H H') (h : TyX K H v t) : TyX K H' v t := by
  cases h with
  | base h =>
    refine .base ?_
    cases h with
    | non => exact .non
    | bl b => exact .bl b
    | int i => exact .int i
    | str z => exact .str z
    | flt f => exact .flt f
    | lst e => exact .lst (s _ _ e)
    | frz e => exact .frz (s _ _ e)
    | tup e => exact .tup (s _ _ e)
    | dK e => exact .dK (s _ _ e)
    | dT e => exact .dT (s _ _ e)
    | ins e cl ha hn htk hm => exact .ins (s _ _ e) cl ha hn htk hm
  | byt b => exact .byt b
  | set e => exact .set (s _ _ e)
  | kList e c => exact .kList e c
  | kTuple e c => exact .kTuple e c
  | kDict e c => exact .kDict e c
  | fTuple e => exact .fTuple (s _ _ e)
  | fDict e => exact .fDict (s _ _ e)
def spEqB (K : PySem.W.Frag) (C : Addr) : Sp := fun vs H Q _ => ∃ a y z w, vs = [.ref a, y] ∧ StepAt C H a z w ∧ ((∃ b z' w', y = .ref b ∧ StepAt C H b z' w' ∧ Q (.bl (decide (z = z') && decide (w = w'))) H) ∨ (∃ t, TyX K H y t ∧ PySem.W.kitOne K t (.ref C) = some false ∧ Q (.bl false) H))
theorem nf_str {K : PySem.W.Frag} {C : Addr} : PySem.W.notFirst K C (.type "str") = true := by kernel_rfl
theorem nf_tup {K : PySem.W.Frag} {C : Addr} : PySem.W.notFirst K C (.type "tuple") = true := by kernel_rfl
theorem nf_non {K : PySem.W.Frag} {C : Addr} : PySem.W.notFirst K C (.type "NoneType") = true := by kernel_rfl
theorem nf_own {K : PySem.W.Frag} {C : Addr} : PySem.W.notFirst K C (.ref C) = true := by
  unfold PySem.W.notFirst
  rw [beq_self_eq_true]
  rfl
section
variable {P : Program} {w : World} {K : PySem.W.Frag} {mg : Str → Option Value} {base : Heap}
theorem ok_stepEqB {C f : Addr} {fd : FuncData} (S : Std mg) (c : OwnCl K mg "Step" C) (n1 : NoAttr K C "name") (n2 : NoAttr K C "ways") (F : Fun K "__eq__" "Step.__eq__" sStepEq f fd) :
    FnOk P w K mg base CX0 1 f fd ["self", "other"] (spEqB K C) := by
  refine F.ok scStepEq (fun vs H Q E h => ?_) (fun cdv A outer s H vs Q E hr h => ?_)
  · obtain ⟨a, y, z, w, rfl, _⟩ := h
    rfl
  · obtain ⟨a, u, z, y, rfl, ⟨dx, ha⟩, h⟩ := h
    refine ⟨_, pss_one (ps_ret (pe_and (pe_callB call_isi (by rfl) S.isi (by decide +kernel) (pa_cons (pv 1) (pa_cons (pe_glob (v := .ref C) rfl c.g rfl) pa_nil)))
      (pe_and (pe_cmpR op_eq (pe_fld (pv 0) rfl) (pe_fld (pv 1) rfl) (nomark _)) (pe_one (pe_cmpR op_eq (pe_fld (pv 0) rfl) (pe_fld (pv 1) rfl) (nomark _)))))), ?_⟩
    rcases h with ⟨b, z', y', rfl, ⟨dy, hb⟩, q⟩ | ⟨t, ty, kt, q⟩
    · refine ⟨_, rfl, _, _, _, _, true, rfl, .own C, c.ty hb, kit_self, true, rfl, iteT ?_⟩
      refine ⟨_, rfl, _, _, _, _, _, rfl, ha, c.cl, n1, rfl, _, rfl, _, _, _, _, _, rfl, hb, c.cl, n1, rfl, rfl, _, rfl, ?_⟩
      by_cases hz : z = z'
      · rw [decide_eq_true hz] at q
        rw [decide_eq_true (show V.str z = V.str z' from by rw [hz])]
        refine iteT ⟨_, rfl, _, _, _, _, _, rfl, ha, c.cl, n2, rfl, _, rfl, _, _, _, _, _, rfl, hb, c.cl, n2, rfl, rfl, ?_⟩
        by_cases hy : y = y'
        · rw [decide_eq_true hy] at q
          rw [decide_eq_true (show V.str y = V.str y' from by rw [hy])]
          exact q
        · rw [decide_eq_false hy] at q
          rw [decide_eq_false (show ¬ V.str y = V.str y' from fun e => hy (by injection e))]
          exact q
      · rw [decide_eq_false hz] at q
        rw [decide_eq_false (show ¬ V.str z = V.str z' from fun e => hz (by injection e))]
        exact iteF q
    · exact ⟨_, rfl, _, _, _, _, false, rfl, .own C, ty, kt, false, rfl, iteF q⟩
end
def stepR (cS : Addr) : Addr → Addr → Bool → Hp → Prop := fun a b r H => ∃ z y z' y', StepAt cS H a z y ∧ StepAt cS H b z' y' ∧ r = (decide (z = z') && decide (y = y'))
def DStep (cS : Addr) : EqvB := DInsB cS (stepR cS)
theorem mon_step {cS : Addr} : MonB (DStep cS) := mon_insB fun a b r H H' e h => by
  obtain ⟨z, y, z', y', h1, h2, e'⟩ := h
  exact ⟨z, y, z', y', h1.same e, h2.same e, e'⟩
theorem StepAt.inj {C : Addr} {H : Hp} {a : Addr} {z y z' y' : Str} (h : StepAt C H a z y) (h' : StepAt C H a z' y') : z = z' ∧ y = y' := by
  obtain ⟨d, h⟩ := h
  obtain ⟨d', h'⟩ := h'
  rw [h] at h'
  injection h' with h'
  injection h' with _ _ h'
  injection h' with h1 h2
  injection h2 with h2 _
  injection h1 with _ h1
  injection h2 with _ h2
  injection h1 with h1
  injection h2 with h2
  exact ⟨h1, h2⟩
theorem eqGB_step {X : Cx} {eS : Addr} {dS : FuncData} {cS : Addr} (S : Std X.mg) (c : OwnCl X.K X.mg "Step" cS) (n1 : NoAttr X.K cS "name") (n2 : NoAttr X.K cS "ways") (qS : EqM X.K cS sStepEq "Step.__eq__" eS dS) : EqGB X 1 (DStep cS) := by
  have G : FnOk X.prog X.w X.K X.mg X.base CX0 1 eS dS ["self", "other"] (spEqR (stepR cS)) := (ok_stepEqB S c n1 n2 qS.F).imp fun vs H Q E h => by
    obtain ⟨a, b, r, rfl, ⟨z, y, z', y', h1, h2, rfl⟩, q⟩ := h
    exact ⟨a, .ref b, z, y, rfl, h1, .inl ⟨b, z', y', rfl, h2, q H Ext.rfl'⟩⟩
  refine RcGB.eqG (rcGB_ins G qS.at_ qS.fn qS.b pass0) fun x y r H d => ?_
  obtain ⟨a, b, _, _, _, _, hx, hy, _, _, z, w, z', w', h1, h2, hr⟩ := d
  refine ⟨a, b, hx, hy, fun e => ?_⟩
  subst e
  obtain ⟨rfl, rfl⟩ := h1.inj h2
  rw [hr]
  simp

end LK

namespace LK
open PySem PySem.Spec PyProof.Rows L2 LR
/-! ### expressions compared, whatever the answer -/
def eqH : Hd → Hd → Bool
  | .le, .le => true
  | .gr, .gr => true
  | .st _ z y, .st _ z' y' => decide (z = z') && decide (y = y')
  | _, _ => false
mutual
def eqM : Md → Md → Bool
  | .nm z, .nm z' => decide (z = z')
  | .ap h ms, .ap h' ms' => eqH h h' && eqL ms ms'
  | .nm _, .ap _ _ => false
  | .ap _ _, .nm _ => false
def eqL : List Md → List Md → Bool
  | [], [] => true
  | m :: r, m' :: r' => eqM m m' && eqL r r'
  | [], _ :: _ => false
  | _ :: _, [] => false
end
theorem eqL_iff : ∀ (ms ms' : List Md), eqL ms ms' = true ↔ ms.length = ms'.length ∧ ∀ (i : Nat) m m', ms[i]? = some m → ms'[i]? = some m' → eqM m m' = true
  | [], [] => by simp [eqL]
  | [], _ :: _ => by simp [eqL]
  | _ :: _, [] => by simp [eqL]
  | m :: r, m' :: r' => by
    rw [eqL, Bool.and_eq_true, eqL_iff r r', List.length_cons, List.length_cons]
    refine ⟨fun ⟨h1, h2, h3⟩ => ⟨by omega, fun i a b e1 e2 => ?_⟩, fun ⟨h1, h2⟩ => ⟨h2 0 m m' rfl rfl, by omega, fun i a b e1 e2 => h2 (i + 1) a b e1 e2⟩⟩
    cases i with
    | zero =>
      cases e1
      cases e2
      exact h1
    | succ i => exact h3 i a b e1 e2
def eqAt (ms ms' : List Md) (i : Nat) : Bool := match ms[i]?, ms'[i]? with
  | some a, some b => eqM a b
  | _, _ => false
theorem eqAt_of {ms ms' : List Md} {i : Nat} {a b : Md} (h : ms[i]? = some a) (h' : ms'[i]? = some b) : eqAt ms ms' i = eqM a b := by
  unfold eqAt
  rw [h, h']
theorem ans_eqL {xs ys : List V} {ms ms' : List Md} (h1 : xs.length = ms.length) (h2 : ys.length = ms'.length) : ansB xs ys (eqAt ms ms') = eqL ms ms' := by
  cases e : eqL ms ms' with
  | true =>
    obtain ⟨l, g⟩ := (eqL_iff ms ms').mp e
    rw [ansB_yes, beq_iff_eq]
    · omega
    · intro i l1 l2
      have g1 : ms[i]? = some (ms[i]'(by omega)) := List.getElem?_eq_getElem _
      have g2 : ms'[i]? = some (ms'[i]'(by omega)) := List.getElem?_eq_getElem _
      rw [eqAt_of g1 g2]
      exact g i _ _ g1 g2
  | false =>
    by_cases l : ms.length = ms'.length
    · have : ∃ i, i < ms.length ∧ eqAt ms ms' i = false := by
        refine Classical.byContradiction fun no => ?_
        have : eqL ms ms' = true := (eqL_iff ms ms').mpr ⟨l, fun i a b e1 e2 => ?_⟩
        · rw [e] at this
          cases this
        · rw [← eqAt_of e1 e2]
          cases q : eqAt ms ms' i with
          | true => rfl
          | false => exact absurd ⟨i, (List.getElem?_eq_some_iff.mp e1).1, q⟩ no
      obtain ⟨i, hi, q⟩ := this
      exact ansB_no (i := i) (by omega) (by omega) q
    · unfold ansB
      rw [show (xs.length == ys.length) = false by simp [h1, h2, l], Bool.and_false]
theorem StepAt.key {cS : Addr} {H : Hp} {a : Addr} {z y z' y' : Str} (h : StepAt cS H a z y) (h' : StepAt cS H a z' y') : z = z' ∧ y = y' := h.inj h'
theorem kd_hd {h : Hd} {ms : List Md} : kdM (.ap h ms) = (match h with | .le => "lesser" | .gr => "greater" | .st _ _ _ => "step") := by
  cases h <;> rfl
theorem kd_name {m : Md} : kdM m = "name" ↔ ∃ z, m = .nm z := by
  cases m with
  | nm z => exact ⟨fun _ => ⟨z, rfl⟩, fun _ => rfl⟩
  | ap h ms =>
    refine ⟨fun e => ?_, fun ⟨z, e⟩ => nomatch e⟩
    cases h with
    | le => exact absurd (show ("lesser" : Str) = "name" from e) (by decide +kernel)
    | gr => exact absurd (show ("greater" : Str) = "name" from e) (by decide +kernel)
    | st _ _ _ => exact absurd (show ("step" : Str) = "name" from e) (by decide +kernel)
/-- the step keys of two heads of one kind -/
def keyEq : Md → Md → Bool
  | .ap (.st _ z y) _, .ap (.st _ z' y') _ => decide (z = z') && decide (y = y')
  | _, _ => true
theorem eqM_parts (m m' : Md) : eqM m m' = (decide (kdM m = kdM m') && (decide (wdM m = wdM m') && (keyEq m m' && eqL (prM m) (prM m')))) := by
  have b1 : ¬ ("name" : Str) = "lesser" := by decide +kernel
  have b2 : ¬ ("name" : Str) = "greater" := by decide +kernel
  have b3 : ¬ ("name" : Str) = "step" := by decide +kernel
  have b4 : ¬ ("lesser" : Str) = "greater" := by decide +kernel
  have b5 : ¬ ("lesser" : Str) = "step" := by decide +kernel
  have b6 : ¬ ("greater" : Str) = "step" := by decide +kernel
  cases m with
  | nm z =>
    cases m' with
    | nm z' =>
      show decide (z = z') = (decide (("name" : Str) = "name") && (decide (z = z') && (true && eqL [] [])))
      simp [eqL]
    | ap h' ms' =>
      have e : kdM (.nm z) ≠ kdM (.ap h' ms') := fun e => by
        obtain ⟨_, e⟩ := kd_name.mp e.symm
        cases e
      rw [decide_eq_false e, Bool.false_and]
      rfl
  | ap h ms =>
    cases m' with
    | nm z' =>
      have e : kdM (.ap h ms) ≠ kdM (.nm z') := fun e => by
        obtain ⟨_, e⟩ := kd_name.mp e
        cases e
      rw [decide_eq_false e, Bool.false_and]
      rfl
    | ap h' ms' =>
      show (eqH h h' && eqL ms ms') = (decide (kdM (.ap h ms) = kdM (.ap h' ms')) && (decide (("" : Str) = "") && (keyEq (.ap h ms) (.ap h' ms') && eqL ms ms')))
      cases h with
      | le =>
        cases h' with
        | le => simp [eqH, kdM, keyEq]
        | gr => simp [eqH, kdM, b4]
        | st _ _ _ => simp [eqH, kdM, b5]
      | gr =>
        cases h' with
        | le => simp [eqH, kdM, Ne.symm b4]
        | gr => simp [eqH, kdM, keyEq]
        | st _ _ _ => simp [eqH, kdM, b6]
      | st a z y =>
        cases h' with
        | le => simp [eqH, kdM, Ne.symm b5]
        | gr => simp [eqH, kdM, Ne.symm b6]
        | st a' z' y' => simp [eqH, kdM, keyEq]
/-- the fields tell the model -/
theorem fldX_inj {K : PySem.W.Frag} {C cS : Addr} {H : Hp} {m m' : Md} {e : V} {es es' : List V} (h : FldX K C cS H m e es) (h' : FldX K C cS H m' e es') : kdM m = kdM m' ∧ wdM m = wdM m' ∧ stM m = stM m' ∧ es = es' := by
  obtain ⟨a, dx, p, q1, q2, j, ys, bs, ks, rfl, ha, hp, _⟩ := h
  obtain ⟨a', dx', p', q1', q2', j', ys', bs', ks', e, ha', hp', _⟩ := h'
  cases e
  rw [ha] at ha'
  injection ha' with ha'
  injection ha' with _ _ hf
  unfold exFs at hf
  injection hf with h1 hf
  injection hf with h2 hf
  injection hf with h3 hf
  injection hf with h4 hf
  injection h1 with _ h1
  injection h2 with _ h2
  injection h3 with _ h3
  injection h4 with _ h4
  injection h1 with h1
  injection h2 with h2
  injection h4 with h4
  rw [h4, hp'] at hp
  injection hp with hp
  injection hp with hp
  exact ⟨h1, h2, h3, hp.symm⟩
theorem exR_det {K : PySem.W.Frag} {C cS : Addr} {H : Hp} : ∀ {n n' : Nat} {m m' : Md} {e : V}, ExR K C cS n H m e → ExR K C cS n' H m' e → eqM m m' = true
  | 0, _, _, _, _, h, _ => h.elim
  | _ + 1, 0, _, _, _, _, h => h.elim
  | n + 1, n' + 1, m, m', e, ⟨es, f, l, ok, g⟩, ⟨es', f', l', ok', g'⟩ => by
    obtain ⟨e1, e2, e3, rfl⟩ := fldX_inj f f'
    rw [eqM_parts, decide_eq_true e1, decide_eq_true e2, Bool.true_and, Bool.true_and, Bool.and_eq_true]
    refine ⟨?_, (eqL_iff _ _).mpr ⟨by rw [← l, ← l'], fun i a b h1 h2 => ?_⟩⟩
    · cases m with
      | nm _ => rfl
      | ap h ms =>
        cases m' with
        | nm _ => cases h <;> rfl
        | ap h' ms' =>
          cases h with
          | le => rfl
          | gr => rfl
          | st a z y =>
            cases h' with
            | le => rfl
            | gr => rfl
            | st a' z' y' =>
              cases (show V.ref a = V.ref a' from e3)
              obtain ⟨rfl, rfl⟩ := ok.2.1.inj ok'.2.1
              simp [keyEq]
    · have lt := (List.getElem?_eq_some_iff.mp h1).1
      have hx : es[i]? = some (es[i]'(by omega)) := List.getElem?_eq_getElem _
      exact exR_det (g i a _ h1 hx) (g' i b _ h2 hx)
def exEqR (K : PySem.W.Frag) (C cS : Addr) (k : Nat) : Addr → Addr → Bool → Hp → Prop := fun a b r H => ∃ m m', ExR K C cS k H m (.ref a) ∧ ExR K C cS k H m' (.ref b) ∧ r = eqM m m'
def DEx (K : PySem.W.Frag) (C cS : Addr) (k : Nat) : EqvB := DInsB C (exEqR K C cS k)
theorem mon_ex {K : PySem.W.Frag} {C cS : Addr} {k : Nat} : MonB (DEx K C cS k) := mon_insB fun a b r H H' e h => by
  obtain ⟨m, m', h1, h2, q⟩ := h
  exact ⟨m, m', h1.same e, h2.same e, q⟩
def spExEq (K : PySem.W.Frag) (C cS : Addr) (k : Nat) : Sp := fun vs H Q _ => ∃ (a : Addr) (y : V) (m : Md), vs = [.ref a, y] ∧ ExR K C cS k H m (.ref a) ∧
  ((∃ b m', y = .ref b ∧ ExR K C cS k H m' y ∧ ∀ H', Ext H H' → Q (.bl (eqM m m')) H') ∨ ∃ t, TyX K H y t ∧ PySem.W.kitOne K t (.ref C) = some false ∧ Q (.bl false) H)
/-- what a comparison of expressions asks -/
structure EqF (K : PySem.W.Frag) (mg : Str → Option Value) (C cS fE fS : Addr) (dE dS : FuncData) : Prop where
  c : OwnCl K mg "Expr" C
  cT : OwnCl K mg "Step" cS
  n : ExN K C
  q : EqM K C sExprEq "Expr.__eq__" fE dE
  qS : EqM K cS sStepEq "Step.__eq__" fS dS
  s1 : NoAttr K cS "name"
  s2 : NoAttr K cS "ways"
theorem eqGB_ex {X : Cx} {C cS fE fS : Addr} {dE dS : FuncData} {k L : Nat} (E : EqF X.K X.mg C cS fE fS dE dS) (G : FnOk X.prog X.w X.K X.mg X.base CX0 L fE dE ["self", "other"] (spExEq X.K C cS k)) : EqGB X L (DEx X.K C cS k) := by
  have G' : FnOk X.prog X.w X.K X.mg X.base CX0 L fE dE ["self", "other"] (spEqR (exEqR X.K C cS k)) := G.imp fun vs H Q _ h => by
    obtain ⟨a, b, r, rfl, ⟨m, m', h1, h2, rfl⟩, q⟩ := h
    exact ⟨a, .ref b, m, rfl, h1, .inl ⟨b, m', rfl, h2, q⟩⟩
  refine RcGB.eqG (rcGB_ins G' E.q.at_ E.q.fn E.q.b pass0) fun x y r H d => ?_
  obtain ⟨a, b, _, _, _, _, hx, hy, _, _, m, m', h1, h2, hr⟩ := d
  refine ⟨a, b, hx, hy, fun e => ?_⟩
  subst e
  rw [hr]
  exact exR_det h1 h2
section
variable {P : Program} {w : World} {K : PySem.W.Frag} {mg : Str → Option Value} {base : Heap}
theorem ok_exEq {C cS fE fS : Addr} {dE dS : FuncData} (S : Std mg) (I : EqF K mg C cS fE fS dE dS) : ∀ k, FnOk P w K mg base CX0 (2 * k + 3) fE dE ["self", "other"] (spExEq K C cS k)
  | 0 => I.q.F.ok scExprEq (fun vs H Q E h => by obtain ⟨a, y, m, _, h, _⟩ := h; exact h.elim) (fun cdv A outer s H vs Q E hr h => by obtain ⟨a, y, m, _, h, _⟩ := h; exact h.elim)
  | k + 1 => by
    have GQ : FnOk P w K mg base CX0 1 fS dS ["self", "other"] (spEqB K cS) := ok_stepEqB S I.cT I.s1 I.s2 I.qS.F
    refine I.q.F.ok scExprEq (fun vs H Q E h => ?_) (fun cdv A outer s H vs Q E hr h => ?_)
    · obtain ⟨a, y, m, rfl, _⟩ := h
      rfl
    · obtain ⟨a, y, m, rfl, hm, h⟩ := h
      have rm1 : Room 1 _ := hr.mono (by omega)
      refine ⟨_, pss_one (ps_ret (pe_and (pe_callB call_isi (by rfl) S.isi (by decide +kernel) (pa_cons (pv 1) (pa_cons (pe_glob (v := .ref C) rfl I.c.g rfl) pa_nil)))
        (pe_and (pe_cmpR op_eq (pe_fld (pv 0) rfl) (pe_fld (pv 1) rfl) (nomark _)) (pe_and (pe_cmpR op_eq (pe_fld (pv 0) rfl) (pe_fld (pv 1) rfl) (nomark _))
        (pe_and (pe_cmpR (op_or op_eq (op_eqOwn (C := cS) (E := E0) GQ I.qS.at_ I.qS.fn I.qS.b pass0 rm1)) (pe_fld (pv 0) rfl) (pe_fld (pv 1) rfl) (nomark _))
          (pe_one (pe_cmpR (op_eqGB (rcGB_tup mon_ex (eqGB_ex (X := (cxOf CX0 P w K mg base ["self", "other"] "Expr.__eq__" (defScope sExprEq) fE cdv A outer s H E).nox) I (ok_exEq S I k))) (hr.mono (by omega))) (pe_fld (pv 0) rfl) (pe_fld (pv 1) rfl) (nomark _)))))))), ?_⟩
      obtain ⟨es, f, l, ok, g⟩ := hm
      obtain ⟨a0, dx, p, q1, q2, j, ys, bs, ks, ea, ha, hp, _⟩ := f
      cases ea
      rcases h with ⟨b, m', rfl, ⟨es', f', l', ok', g'⟩, q⟩ | ⟨t, ty, kt, q⟩
      · obtain ⟨b0, dy, p', q1', q2', j', ys', bs', ks', eb, hb, hp', _⟩ := f'
        cases eb
        have q0 : ∀ {r : Bool}, eqM m m' = r → Q (.bl r) H := fun e => e ▸ q H Ext.rfl'
        have eq := eqM_parts m m'
        refine ⟨_, rfl, _, _, _, _, true, rfl, .own C, I.c.ty hb, kit_self, true, rfl, iteT ?_⟩
        refine ⟨_, rfl, a, C, dx, _, _, rfl, ha, I.c.cl, I.n.kind, rfl, _, rfl, b, C, dy, _, _, rfl, hb, I.c.cl, I.n.kind, rfl, rfl, _, rfl, ite2 (fun c1 => ?_) (fun c1 => ?_)⟩
        rotate_left
        · refine q0 ?_
          rw [eq, decide_eq_false (fun e => c1 (decide_eq_true (congrArg V.str e))), Bool.false_and]
        have k1 : kdM m = kdM m' := by
          have := of_decide_eq_true c1
          injection this
        refine ⟨_, rfl, a, C, dx, _, _, rfl, ha, I.c.cl, I.n.word, rfl, _, rfl, b, C, dy, _, _, rfl, hb, I.c.cl, I.n.word, rfl, rfl, _, rfl, ite2 (fun c2 => ?_) (fun c2 => ?_)⟩
        rotate_left
        · refine q0 ?_
          rw [eq, decide_eq_false (show ¬ wdM m = wdM m' from fun e => c2 (decide_eq_true (congrArg V.str e))), Bool.false_and, Bool.and_false]
        have k2 : wdM m = wdM m' := by
          have := of_decide_eq_true c2
          injection this
        rw [decide_eq_true k1, decide_eq_true k2, Bool.true_and, Bool.true_and] at eq
        have last : keyEq m m' = true → rEqGB (DTupB K (DEx K C cS k)) (.ref p) (.ref p') H Q := fun kk => by
          rw [kk, Bool.true_and] at eq
          refine ⟨_, ⟨p, p', es, es', eqAt (prM m) (prM m'), rfl, rfl, SqT.of hp, SqT.of hp', fun i x y h1 h2 => ?_, rfl⟩, fun H' e => ?_⟩
          · have i1 := (List.getElem?_eq_some_iff.mp h1).1
            have i2 := (List.getElem?_eq_some_iff.mp h2).1
            have g1 : (prM m)[i]? = some ((prM m)[i]'(by omega)) := List.getElem?_eq_getElem _
            have g2 : (prM m')[i]? = some ((prM m')[i]'(by omega)) := List.getElem?_eq_getElem _
            have x1 := g i _ x g1 h1
            have x2 := g' i _ y g2 h2
            obtain ⟨c, dc, fc, rfl, hc⟩ := x1.ins
            obtain ⟨d, dd, fd, rfl, hd⟩ := x2.ins
            exact ⟨c, d, dc, dd, fc, fd, rfl, rfl, hc, hd, _, _, x1, x2, eqAt_of g1 g2⟩
          · rw [ans_eqL l l', ← eq]
            exact q H' e
        refine ⟨_, rfl, a, C, dx, _, _, rfl, ha, I.c.cl, I.n.step, rfl, _, rfl, b, C, dy, _, _, rfl, hb, I.c.cl, I.n.step, rfl, ?_⟩
        have cont : ∀ r : Bool, keyEq m m' = r → ∃ c, V.bl r = .bl c ∧ (if c = true then (tOp (rEqGB (DTupB K (DEx K C cS k))) (tFld K (tVar 0) "parts") (tFld K (tVar 1) "parts")) [some (.ref a), some (.ref b)] H Q else Q (.bl false) H) := fun r e => by
          refine ⟨r, rfl, ?_⟩
          cases r with
          | true => exact iteT ⟨_, rfl, a, C, dx, _, .ref p, rfl, ha, I.c.cl, I.n.parts, rfl, _, rfl, b, C, dy, _, .ref p', rfl, hb, I.c.cl, I.n.parts, rfl, last e⟩
          | false =>
            refine iteF (q0 ?_)
            rw [eq, e, Bool.false_and]
        have two : (stM m = .non ∧ stM m' = .non ∧ keyEq m m' = true) ∨ ∃ c d z y z' y', stM m = .ref c ∧ stM m' = .ref d ∧ StepAt cS H c z y ∧ StepAt cS H d z' y' ∧ keyEq m m' = (decide (z = z') && decide (y = y')) := by
          cases m with
          | nm z =>
            cases m' with
            | nm _ => exact .inl ⟨rfl, rfl, rfl⟩
            | ap h ms =>
              obtain ⟨_, e⟩ := kd_name.mp k1.symm
              cases e
          | ap h ms =>
            cases m' with
            | nm _ =>
              obtain ⟨_, e⟩ := kd_name.mp k1
              cases e
            | ap h' ms' =>
              cases h with
              | le =>
                cases h' with
                | le => exact .inl ⟨rfl, rfl, rfl⟩
                | gr => exact .inl ⟨rfl, rfl, rfl⟩
                | st _ _ _ => exact absurd (show ("lesser" : Str) = "step" from k1) (by decide +kernel)
              | gr =>
                cases h' with
                | le => exact .inl ⟨rfl, rfl, rfl⟩
                | gr => exact .inl ⟨rfl, rfl, rfl⟩
                | st _ _ _ => exact absurd (show ("greater" : Str) = "step" from k1) (by decide +kernel)
              | st c z y =>
                cases h' with
                | le => exact absurd (show ("step" : Str) = "lesser" from k1) (by decide +kernel)
                | gr => exact absurd (show ("step" : Str) = "greater" from k1) (by decide +kernel)
                | st d z' y' => exact .inr ⟨c, d, z, y, z', y', rfl, rfl, ok.2.1, ok'.2.1, rfl⟩
        rcases two with ⟨e1, e2, e3⟩ | ⟨c, d, z, y, z', y', e1, e2, ⟨dc, hc⟩, ⟨dd, hd⟩, e3⟩
        · rw [e1, e2]
          refine .inl ⟨rfl, ?_⟩
          rw [decide_eq_true (show V.non = V.non from rfl)]
          exact cont true e3
        · rw [e1, e2]
          exact .inr ⟨c, dc, _, _, rfl, hc, I.cT.ty hd, nf_own, c, .ref d, z, y, rfl, ⟨dc, hc⟩, .inl ⟨d, z', y', rfl, ⟨dd, hd⟩, _, rfl, cont _ e3⟩⟩
      · exact ⟨_, rfl, _, _, _, _, false, rfl, .own C, ty, kt, false, rfl, iteF q⟩
end
end LK

/-! str(x) by an own __str__ -/
namespace LR
open PySem PySem.Spec PyProof.Rows L2
section
variable {X : Cx} {CX : CXT} {n : Nat} {f C : Addr} {fd : FuncData} {ps : List Str} {sp : Sp} {E : XK}
theorem call_strOwn (F : FnOk X.prog X.w X.K X.mg X.base CX n f fd ps sp) (hs : PySem.W.findIn X.K (.ref C) "__str__" = some (some (.ref f))) (hf : PySem.W.isFn X.K (.ref f) = true) (hb : Binds X.K fd ps []) (hx : Passes CX X E) (hr : Room (n + 2) X.A) :
    CallR X (.type "str") (fun xs H Q => ∃ a dx fs, xs = [V.ref a] ∧ H a = some (.ins C dx fs) ∧ sp [V.ref a] H (fun v H' => ∃ z : Str, v = .str z ∧ Q (.str z) H') E) := by
  intro pins s σ H xs us Q I r h
  obtain ⟨a, dx, fs, rfl, ha, h⟩ := h
  have e := vals1r r
  subst e
  obtain ⟨mA, J, _⟩ := ins_get I.hok ha
  obtain ⟨od, J, _⟩ := J.look
  refine PySem.W.kso_call hr.in1.in1.units0 I.kIn J hs hf ?_
  refine wpAny_mono (call_run (A := X.A.in1.in1) ⟨hr.in1.in1, rfl⟩ F hb hx I (.cons (show RelV (V.ref a) (Value.ref a) from rfl) .nil) h) (fun v s' q => ?_) fun _ _ z => z
  obtain ⟨y, H', I', ry, z, rfl, q⟩ := q
  obtain ⟨t, rfl⟩ := ry
  exact ⟨.str z, H', I', ⟨_, rfl⟩, q⟩
end
end LR

namespace LK
open PySem PySem.Spec PyProof.Rows L2 LR
/-! ### the text of an expression -/
theorem seq_key {s rest : TS} {D : Ends} {σ : L2.St} {H : Hp} (P : L2.St → Hp → Prop) (h : (∀ σ' H', P σ' H' → rest D σ' H') → tSeq s rest D σ H) (key : ∀ σ' H', P σ' H' → rest D σ' H') : tSeq s rest D σ H := h key
theorem te_key {te : TE} {σ : L2.St} {H : Hp} {G : VK} (P : V → Hp → Prop) (h : ∀ R : VK, (∀ y H', P y H' → R y H') → te σ H R) (key : ∀ y H', P y H' → G y H') : te σ H G := h G key
theorem tt_key {t : TT} {σ : L2.St} {H : Hp} {G : Bool → Hp → Prop} (P : Bool → Hp → Prop) (h : ∀ R : Bool → Hp → Prop, (∀ y H', P y H' → R y H') → t σ H R) (key : ∀ y H', P y H' → G y H') : t σ H G := h G key
theorem if_key {t : TT} {a b rest : TS} {D : Ends} {σ : L2.St} {H : Hp} (P : Bool → Hp → Prop) (h : ∀ R : Bool → Hp → Prop, (∀ y H', P y H' → R y H') → t σ H R) (k1 : ∀ H', P true H' → a { D with nx := rest D } σ H') (k0 : ∀ H', P false H' → b { D with nx := rest D } σ H') : tSeq (tIfS t a b) rest D σ H :=
  h _ fun y H' p => by
    cases y with
    | true => rw [if_pos rfl]; exact k1 H' p
    | false => rw [if_neg Bool.false_ne_true]; exact k0 H' p
theorem gN_key {i : Nat} {v : V} {σ : L2.St} {H : Hp} {Q : L2.St → Hp → Prop} (h : Q (σ.set i (some v)) H) : gName i v σ H Q := h
theorem asg_key {te : TE} {g : TG} {rest : TS} {D : Ends} {σ : L2.St} {H : Hp} (P : V → Hp → Prop) (h : ∀ R : VK, (∀ y H', P y H' → R y H') → te σ H R) (k : ∀ y H', P y H' → g y σ H' (rest D)) : tSeq (tAsg te g) rest D σ H := h _ k
structure StrO (K : PySem.W.Frag) (C : Addr) (st : Stmt) (q : Str) (f : Addr) (fd : FuncData) : Prop where
  F : Fun K "__str__" q st f fd
  b : Binds K fd ["self"] []
  at_ : PySem.W.findIn K (.ref C) "__str__" = some (some (.ref f))
  fn : PySem.W.isFn K (.ref f) = true
theorem sz_pos : ∀ m : Md, 1 ≤ sz m
  | .nm _ => by rw [sz]; exact Nat.le_refl _
  | .ap _ _ => by rw [sz]; omega
theorem szL_mem : ∀ {ms : List Md} {i : Nat} {m : Md}, ms[i]? = some m → sz m ≤ szL ms
  | [], i, m, h => by cases h
  | a :: r, 0, m, h => by
    cases h
    rw [szL]
    exact Nat.le_add_right _ _
  | a :: r, i + 1, m, h => by
    rw [szL]
    exact Nat.le_trans (szL_mem (ms := r) (i := i) h) (Nat.le_add_left _ _)
/-- no deeper than there are parts -/
theorem exR_low {K : PySem.W.Frag} {C cS : Addr} {H : Hp} : ∀ {n k : Nat} {m : Md} {e : V}, ExR K C cS n H m e → sz m ≤ k → ExR K C cS k H m e
  | 0, _, _, _, h, _ => h.elim
  | n + 1, 0, m, _, _, l => absurd l (by have := sz_pos m; omega)
  | n + 1, k + 1, m, e, ⟨es, f, l, ok, g⟩, le => ⟨es, f, l, ok, fun i m' x h1 h2 => exR_low (g i m' x h1 h2) (by
      have := own_sz m
      have q : sz m' ≤ ((prM m).map sz).sum := by
        rw [← szL_sum]
        exact szL_mem h1
      omega)⟩
theorem joinL_mem {S : List Nat} : ∀ {l : List (List Nat)} {i : Nat} {p : List Nat}, l[i]? = some p → p.length ≤ (TL.joinL S l).length
  | [], i, p, h => by cases h
  | [a], 0, p, h => by cases h; exact Nat.le_refl _
  | [a], i + 1, p, h => by cases h
  | a :: b :: r, 0, p, h => by
    cases h
    show a.length ≤ (a ++ (S ++ TL.joinL S (b :: r))).length
    rw [List.length_append]
    exact Nat.le_add_right _ _
  | a :: b :: r, i + 1, p, h => by
    have := joinL_mem (S := S) (l := b :: r) (i := i) h
    show _ ≤ (a ++ (S ++ TL.joinL S (b :: r))).length
    rw [List.length_append, List.length_append]
    omega
theorem joinL_len {S : List Nat} : ∀ l : List (List Nat), (l.map List.length).sum + l.length * S.length ≤ (TL.joinL S l).length + S.length
  | [] => by simp [TL.joinL]
  | [a] => by simp [TL.joinL]
  | a :: b :: r => by
    have := joinL_len (S := S) (b :: r)
    show a.length + ((b :: r).map List.length).sum + ((b :: r).length + 1) * S.length ≤ (a ++ (S ++ TL.joinL S (b :: r))).length + S.length
    rw [List.length_append, List.length_append, Nat.add_mul]
    omega
/-- an expression put together, its fields -/
theorem ap_fieldsR {K : PySem.W.Frag} {C cS : Addr} {H : Hp} {k : Nat} {h : Hd} {ms : List Md} {e : V} (x : ExR K C cS (k + 1) H (.ap h ms) e) : ∃ (a dx : Addr) (kd z0 : Str) (st : V) (p q1 q2 : Addr) (i j : Int) (es : List V), e = .ref a ∧ H a = some (.ins C dx (exFs kd z0 st p q1 q2 i j)) ∧ H p = some (.tup es) ∧ es.length = ms.length ∧
    (∀ (i : Nat) m x, ms[i]? = some m → es[i]? = some x → ExR K C cS k H m x) ∧ kd ≠ "name" ∧ (hdW h).length ≤ 8 ∧ ((st = .non ∧ kd = hdW h) ∨ ∃ s dx y, st = .ref s ∧ H s = some (.ins cS dx [("name", .str (hdW h)), ("ways", .str y)])) := by
  obtain ⟨es, ⟨a, dx, p, q1, q2, j, ys, bs, ks, e, ha, hp, _⟩, l, ok, g⟩ := x
  cases h with
  | le => exact ⟨a, dx, _, _, _, p, q1, q2, _, j, es, e, ha, hp, l, g, by show ¬ ("lesser" : Str) = "name"; decide +kernel, by decide +kernel, .inl ⟨rfl, rfl⟩⟩
  | gr => exact ⟨a, dx, _, _, _, p, q1, q2, _, j, es, e, ha, hp, l, g, by show ¬ ("greater" : Str) = "name"; decide +kernel, by decide +kernel, .inl ⟨rfl, rfl⟩⟩
  | st s z y =>
    obtain ⟨ar, ⟨ds, hb⟩, no, _⟩ := ok
    exact ⟨a, dx, _, _, _, p, q1, q2, _, j, es, e, ha, hp, l, g, by show ¬ ("step" : Str) = "name"; decide +kernel, by have := no.len; show z.length ≤ 8; omega, .inr ⟨s, ds, y, rfl, hb⟩⟩
def spTextR (K : PySem.W.Frag) (C cS : Addr) (k : Nat) : Sp := fun vs H Q _ => ∃ (m : Md) (e : V), vs = [e] ∧ ExR K C cS k H m e ∧ (cp m).length ≤ 1000 ∧ ∀ (y : Str) H', TL.tl y = cp m → Same H H' → Q (.str y) H'
/-- len of an expression: its parts -/
def spLenR (K : PySem.W.Frag) (C cS : Addr) : Sp := fun vs H Q _ => ∃ (m : Md) (e : V) (n : Nat), vs = [e] ∧ ExR K C cS n H m e ∧ sz m ≤ 1000 ∧ Q (.int (sz m)) H
section
variable {P : Program} {w : World} {K : PySem.W.Frag} {mg : Str → Option Value} {base : Heap}
def nTE : List Str := ["expr", "head", "inner", "part"]
theorem scTE : FnScope nTE ["expr"] (defScope sTextE) := ⟨rfl, rfl, rfl, by decide +kernel, rfl, by decide +kernel, by decide +kernel⟩
theorem scXS : FnScope ["self"] ["self"] (defScope sExprStr) := ⟨rfl, rfl, rfl, by decide +kernel, rfl, by decide +kernel, by decide +kernel⟩
theorem ok_exStrR {C cS fT f : Addr} {fdT fd : FuncData} {k n : Nat} (S : Std mg) (T1 : Df K mg "_text" sTextE fT fdT ["expr"]) (GT : FnOk P w K mg base CX0 n fT fdT ["expr"] (spTextR K C cS k)) (F : Fun K "__str__" "Expr.__str__" sExprStr f fd) : FnOk P w K mg base CX0 (n + 1) f fd ["self"] (spTextR K C cS k) := by
  refine F.ok scXS (fun vs H Q E h => ?_) (fun cdv A outer s H vs Q E hr h => ?_)
  · obtain ⟨m, e, rfl, _⟩ := h
    rfl
  · obtain ⟨m, e, rfl, hE, ln, q⟩ := h
    exact ⟨_, pss_one (ps_ret (pe_callTy SkE.call_str_str (by rfl) S.str (by decide +kernel) (pa_cons (pe_call GT hr rfl T1.g T1.F.kp T1.b .nil pass0 (pa_cons (pv 0) pa_nil)) pa_nil))), _, rfl, m, e, rfl, hE, ln, fun y H' hy s1 => ⟨y, rfl, q y H' hy s1⟩⟩
theorem ok_textR0 {C cS fS f : Addr} {fdS fd : FuncData} {k : Nat} (S : Std mg) (cl : Cls K C) (n : ExN K C) (clS : Cls K cS) (s1 : NoAttr K cS "name") (T : StrO K C sExprStr "Expr.__str__" fS fdS) (GS : FnOk P w K mg base CX0 (4 * k + 2) fS fdS ["self"] (spTextR K C cS k)) (F : Fun K "_text" "_text" sTextE f fd) :
    FnOk P w K mg base CX0 (4 * k + 5) f fd ["expr"] (spTextR K C cS (k + 1)) := by
  refine F.ok scTE (fun vs H Q E h => ?_) (fun cdv A outer s H vs Q E hr h => ?_)
  · obtain ⟨m, e, rfl, _⟩ := h
    rfl
  · obtain ⟨m, e, rfl, hE, ln, q⟩ := h
    have rmS : Room (4 * k + 2 + 2) _ := hr
    refine ⟨_, pss_cons (ps_if (pt_cmpR op_eq (pe_fld (pv 0) rfl) pe_str (nomark _)) (pss_one (ps_ret (pe_fld (pv 0) rfl))) pss_nil)
      (pss_cons (ps_set (i := 1) scTE.nd rfl (Or.inl rfl) (pe_ifExp (pt_cmp (pc_isN (pe_fld (pv 0) rfl))) (pe_fld (pv 0) rfl) (pe_fld (pe_fld (pv 0) rfl) rfl)))
      (pss_cons (ps_set (i := 2) scTE.nd rfl (Or.inl rfl) (pe_join pe_str (pe_lc (own := [("part", 3)]) (g := gName 3) (tt := tYes) (te := tCB (fun xs H Q => ∃ a dx fs, xs = [V.ref a] ∧ H a = some (.ins C dx fs) ∧ spTextR K C cS k [V.ref a] H (fun v H' => ∃ z : Str, v = .str z ∧ Q (.str z) H') (fun _ _ _ => False)) (tCons (tVar 3) tNil)) rfl scTE.nd
          (pi_tup (pe_fld (pv 0) rfl)) (blkOk_by (N := nTE) (sc := defScope sTextE) (by decide +kernel)) (fun _ _ _ _ _ => pg_name (i := 3) scTE.nd rfl (Or.inl rfl)) (fun _ _ _ _ _ => pts_nil)
          (fun _ _ _ _ _ => pe_callTy (LR.call_strOwn GS T.at_ T.fn T.b pass0 rmS) (by rfl) S.str (by decide +kernel) (pa_cons (pv 3) pa_nil)))))
      (pss_one (ps_ret (pe_joined (.cons (pe_fmt (pv 1)) (.cons pe_str (.cons (pe_fmt (pv 2)) (.cons pe_str .nil))))))))), ?_⟩
    cases m with
    | nm z =>
      obtain ⟨_, ⟨a, dx, p, q1, q2, j, ys, bs, ks, rfl, ha, _⟩, _⟩ := hE
      refine ⟨_, rfl, a, C, dx, _, .str "name", rfl, ha, cl, n.kind, rfl, rfl, _, rfl, ?_⟩
      exact iteT ⟨_, rfl, a, C, dx, _, .str z, rfl, ha, cl, n.word, rfl, q z H rfl (Same.refl H)⟩
    | ap h ms =>
      obtain ⟨a, dx, kd, z0, st, p, q1, q2, i, j, es, rfl, ha, hp', le, gE, nk, lh, hd⟩ := ap_fieldsR hE
      have hp : SqT K H p es := SqT.of hp'
      refine ⟨_, rfl, a, C, dx, _, .str kd, rfl, ha, cl, n.kind, rfl, rfl, _, rfl, ?_⟩
      rw [decide_eq_false (show ¬ V.str kd = V.str "name" by intro e; injection e with e; exact nk e)]
      refine iteF ?_
      dsimp only [tNext]
      refine (asg_key (fun y H' => y = .str (hdW h) ∧ H' = H) (fun R key => ?_) (fun y H' e => ?_))
      · rcases hd with ⟨rfl, rfl⟩ | ⟨s', dx', y', rfl, hb⟩
        · exact ⟨_, rfl, a, C, dx, _, .non, rfl, ha, cl, n.step, rfl, true, rfl, iteT ⟨_, rfl, a, C, dx, _, .str (hdW h), rfl, ha, cl, n.kind, rfl, key _ _ ⟨rfl, rfl⟩⟩⟩
        · exact ⟨_, rfl, a, C, dx, _, .ref s', rfl, ha, cl, n.step, rfl, false, rfl, iteF ⟨_, rfl, a, C, dx, _, .ref s', rfl, ha, cl, n.step, rfl, s', cS, dx', _, .str (hdW h), rfl, hb, clS, s1, rfl, key _ _ ⟨rfl, rfl⟩⟩⟩
      obtain ⟨rfl, eH⟩ := e
      rw [eH]
      clear eH H'
      refine gN_key ?_
      have lnc : (TL.tl (hdW h)).length + ((TL.joinL [44, 32] (cpL ms)).length + 2) = (cp (.ap h ms)).length := by
        rw [cp_ap, List.length_append, List.length_cons, List.length_append, List.length_singleton]
      have big : ∀ {x : Nat}, x ≤ 2000 → x ≤ sizeLine := fun h => by rw [sizeLine_eq]; omega
      refine ⟨⟨_, rfl⟩, _, rfl, a, C, dx, _, .ref p, rfl, ha, cl, n.parts, rfl, p, rfl, ⟨_, hp⟩, fun D hD => lc_tup (xs := es) (fun i H4 => Same H H4 ∧ ∃ ys : List Str, H4 D = some (.lst (ys.map V.str)) ∧ ys.length = i ∧ ∀ (j : Nat) y m, ys[j]? = some y → ms[j]? = some m → TL.tl y = cp m)
        ⟨same_new hD, [], upd_same, rfl, fun j y m h _ => nomatch h⟩ (fun i H4 _ h => SqT.same h.1 hp) (fun i v H4 hv h4 => ?_) (fun H4 h4 => ?_)⟩
      · obtain ⟨s4, ys, d4, ly, gy⟩ := h4
        have lt := (List.getElem?_eq_some_iff.mp hv).1
        have hm : ms[i]? = some (ms[i]'(by omega)) := List.getElem?_eq_getElem _
        generalize ms[i]'(by omega) = m at hm
        have hc : (cpL ms)[i]? = some (cp m) := by rw [cpL_map, List.getElem?_map, hm]; rfl
        have lm := joinL_mem (S := [44, 32]) hc
        have hv4 := exR_tr (.same s4) (gE i m v hm hv)
        obtain ⟨a', dx', fs', rfl, ha'⟩ := hv4.ins
        refine ⟨rfl, _, rfl, a', dx', _, rfl, ha', m, .ref a', rfl, hv4, by omega, fun y H5 hy s5 => ⟨y, rfl, _, s5 _ _ d4, by rw [List.length_map, ly, sizeLine_eq]; have e := joinL_len (S := [44, 32]) (cpL ms); rw [cpL_map, List.length_map] at e; rw [cpL_map] at lnc; simp only [List.length_cons, List.length_nil] at e; omega, same_put hD (s4.trans s5), ys ++ [y], by rw [upd_same, List.map_append]; rfl, by rw [List.length_append, ly]; rfl, fun j u m' hu hm' => ?_⟩⟩
        by_cases lj : j < ys.length
        · rw [List.getElem?_append_left lj] at hu
          exact gy j u m' hu hm'
        · have l2 := (List.getElem?_eq_some_iff.mp hu).1
          rw [List.length_append, List.length_singleton] at l2
          have ej : j = ys.length := by omega
          subst ej
          rw [List.getElem?_append_right (Nat.le_refl _), Nat.sub_self] at hu
          cases hu
          rw [ly, hm] at hm'
          cases hm'
          exact hy
      · obtain ⟨s4, ys, d4, ly, gy⟩ := h4
        have em : ys.map TL.tl = cpL ms := by
          rw [cpL_map]
          refine List.ext_getElem? fun j => ?_
          rw [List.getElem?_map, List.getElem?_map]
          by_cases lj : j < ys.length
          · have hy : ys[j]? = some ys[j] := List.getElem?_eq_getElem lj
            have hm : ms[j]? = some (ms[j]'(by omega)) := List.getElem?_eq_getElem _
            rw [hy, hm]
            exact congrArg some (gy j _ _ hy hm)
          · rw [List.getElem?_eq_none (by omega), List.getElem?_eq_none (by omega)]
            rfl
        have jl : TL.tl (Txt.join ", " ys) = TL.joinL [44, 32] (cpL ms) := by
          rw [TL.join_eq, TL.tl_join, em]
          rfl
        have sm := joinL_len (S := [44, 32]) (cpL ms)
        rw [← em, List.map_map, List.length_map] at sm
        have sm2 : (ys.map (fun x => x.length)).sum + ys.length * 2 ≤ (TL.joinL [44, 32] (cpL ms)).length + 2 := by
          rw [← em]
          refine Nat.le_trans (Nat.le_of_eq ?_) sm
          rfl
        have lJ : (Txt.join ", " ys).length = (TL.joinL [44, 32] (cpL ms)).length := by
          rw [← jl]
          rfl
        refine ⟨_, D, ys, rfl, rfl, .inl (SqL.of d4), by show _ + ys.length * 2 ≤ _; omega, ?_⟩
        generalize Txt.join ", " ys = J at jl lJ ⊢
        have e0 : (Str.empty ++ hdW h) = hdW h := by
          show Str.mk (#[] ++ (hdW h).cps) = hdW h
          rw [Array.empty_append]
        have o1 : ("(" : Str).length = 1 := by decide +kernel
        have o2 : (")" : Str).length = 1 := by decide +kernel
        refine ⟨_, rfl, .inl ⟨hdW h, rfl, big (by omega), hdW h, rfl, by rw [e0]; exact big (by omega), ?_⟩⟩
        rw [e0]
        refine ⟨_, rfl, big (by rw [len_app, o1]; omega), _, rfl, .inl ⟨J, rfl, big (by omega), J, rfl, big (by rw [len_app, len_app, o1]; omega), _, rfl, big (by rw [len_app, len_app, len_app, o1, o2]; omega), ?_⟩⟩
        refine q _ H4 ?_ s4
        rw [TL.tl_append, TL.tl_append, TL.tl_append, jl, cp_ap]
        show (TL.tl (hdW h) ++ [40]) ++ _ ++ [41] = _
        simp
theorem ok_textR {C cS fS f : Addr} {fdS fd : FuncData} (S : Std mg) (cl : Cls K C) (n : ExN K C) (clS : Cls K cS) (s1 : NoAttr K cS "name") (T : StrO K C sExprStr "Expr.__str__" fS fdS) (T1 : Df K mg "_text" sTextE f fd ["expr"]) : ∀ k, FnOk P w K mg base CX0 (4 * k + 1) f fd ["expr"] (spTextR K C cS k)
  | 0 => T1.F.ok scTE (fun vs H Q E h => by obtain ⟨m, e, _, h, _⟩ := h; exact h.elim) (fun cdv A outer s H vs Q E hr h => by obtain ⟨m, e, _, h, _⟩ := h; exact h.elim)
  | k + 1 => ok_textR0 S cl n clS s1 T (ok_exStrR S T1 (ok_textR S cl n clS s1 T T1 k) T.F) T1.F
end
end LK

/-! x & y, x | y by the methods of an own class, the other operand of this class or a text -/
namespace LR
open PySem PySem.W PySem.Calls PySem.Spec PyProof.Rows
theorem none_fill {T nm : String} (h1 : typeLookup (.type T) (dunder nm) = pure none) (h2 : typeLookup (.type T) (dunderR nm) = pure none) : fillsNumberSlot (.type T) nm = pure false := by
  simp only [fillsNumberSlot, h1, h2, pure_bind]
  rfl
theorem str_and : fillsNumberSlot (.type "str") "and" = pure false := none_fill (by rw [typeLookup_type, builtinLookup_eq_fast]; kernel_rfl) (by rw [typeLookup_type, builtinLookup_eq_fast]; kernel_rfl)
theorem str_or : fillsNumberSlot (.type "str") "or" = pure false := none_fill (by rw [typeLookup_type, builtinLookup_eq_fast]; kernel_rfl) (by rw [typeLookup_type, builtinLookup_eq_fast]; kernel_rfl)
section
variable {prog : Program} {w : World} {A : Around} {E : Value → Shared → Prop} {s : Shared} {K : Frag} {x C L f : Addr} {h₀ : Heap} {m : Str → Option Value} {ox : Obj} {od : Option Obj} {op : Operator} {z : Str} {t : Tok}
theorem head_self {K : Frag} {C : Addr} (h : selfFirst K C = true) : ∃ cd rest, clsIn K C = some cd ∧ cd.mro = .ref C :: rest := by
  obtain ⟨cd, e, q⟩ := any_some h
  cases r : cd.mro with
  | nil =>
    rw [r] at q
    cases q
  | cons c l =>
    rw [r, List.head?_cons] at q
    cases beq_iff_eq.mp q
    exact ⟨cd, l, e, r⟩
/-- own object, then a text -/
theorem bin1_text {nm : String} {Q : Option Value → Shared → Prop} (F : Fr h₀ L s.heap m) (X₀ : K.In h₀) (I : InstAt s.heap x ox C od) (hc : selfFirst K C = true) (no : fillsNumberSlot (.type "str") nm = pure false) (hs : findIn K (.ref C) (PySem.dunder nm) = some (some (.ref f))) (hf : isFn K (.ref f) = true)
    (h : wpAny (model prog w) A (call (.ref f) [.ref x, .str z t]) (W.CmpBack fun v => Q (some v)) E s) : wpAny (model prog w) A (binaryOp1 nm (.ref x) (.str z t)) Q E s := by
  have X := X₀.keeps F.keep
  obtain ⟨cd, rest, e1, e2⟩ := head_self hc
  unfold binaryOp1
  refine wpAny_bind (I.type.here (wpAny_bind (wpAny_pure (wpAny_bind ((fills_K X e1 e2 hs).here ?_)))))
  rw [if_neg (by simp), no]
  refine wpAny_bind (wpAny_pure ?_)
  simp only [Bool.and_false, Bool.false_and, Bool.false_eq_true, if_false, if_true]
  refine wpAny_bind (wpAny_pure ?_)
  simp only [Bool.false_eq_true, if_false]
  refine wpAny_bind (m := tryMethod (.ref x) _ (.str z t)) ?_
  unfold tryMethod
  refine wpAny_bind (special_fn X I hs (beq_iff_eq.mp hf) (wpAny_mono h (fun v s' hv => ?_) fun _ _ e => e))
  cases v <;> first | exact hv.elim | exact wpAny_pure (wpAny_pure hv)
/-- a text, then an own object -/
theorem text_bin1 {nm : String} {Q : Option Value → Shared → Prop} (F : Fr h₀ L s.heap m) (X₀ : K.In h₀) (I : InstAt s.heap x ox C od) (hc : selfFirst K C = true) (no : fillsNumberSlot (.type "str") nm = pure false) {g : Addr} (hs : findIn K (.ref C) (PySem.dunder nm) = some (some (.ref g))) (hr : findIn K (.ref C) (PySem.dunderR nm) = some (some (.ref f))) (hf : isFn K (.ref f) = true)
    (h : wpAny (model prog w) A (call (.ref f) [.ref x, .str z t]) (W.CmpBack fun v => Q (some v)) E s) : wpAny (model prog w) A (binaryOp1 nm (.str z t) (.ref x)) Q E s := by
  have X := X₀.keeps F.keep
  obtain ⟨cd, rest, e1, e2⟩ := head_self hc
  unfold binaryOp1
  refine wpAny_bind (wpAny_pure (wpAny_bind (I.type.here ?_)))
  rw [no]
  refine wpAny_bind (wpAny_pure ?_)
  rw [if_neg (by simp)]
  refine wpAny_bind ((fills_K X e1 e2 hs).here ?_)
  simp only [Bool.and_true, Bool.false_and, Bool.false_eq_true, if_false, if_true, Bool.not_false]
  refine wpAny_bind (wpAny_pure ?_)
  simp only [Bool.false_eq_true, if_false]
  refine wpAny_bind (m := tryMethod (.ref x) _ (.str z t)) ?_
  unfold tryMethod
  refine wpAny_bind (special_fn X I hr (beq_iff_eq.mp hf) (wpAny_mono h (fun v s' hv => ?_) fun _ _ e => e))
  cases v <;> first | exact hv.elim | exact wpAny_pure (wpAny_bind (wpAny_rule (wpAny_pure hv)))
theorem bin_of1 {a b : Value} {Q : Value → Shared → Prop} (h : wpAny (model prog w) A (binaryOp1 op.info.2 a b) (fun v s' => ∃ u, v = some u ∧ Q u s') E s) : wpAny (model prog w) A (binaryOp op a b) Q E s := by
  unfold binaryOp
  apply wpAny_holding
  refine wpAny_bind (m := binaryOp1 op.info.2 a b) (wpAny_mono h (fun v s' hv => ?_) fun _ _ e => e)
  obtain ⟨u, rfl, q⟩ := hv
  exact wpAny_pure q
end
end LR

namespace LR
open PySem PySem.Spec PyProof.Rows L2
section
variable {X : Cx} {CX : CXT} {n : Nat} {f C : Addr} {fd : FuncData} {ps : List Str} {sp : Sp} {E : XK} {op : Operator}
/-- an object of the class C stands at v -/
def AnIns (C : Addr) (H : Hp) (v : V) : Prop := ∃ b dx fs, v = .ref b ∧ H b = some (.ins C dx fs)
/-- x op y by an own method, y of the same class or a text -/
theorem op_binOwn (F : FnOk X.prog X.w X.K X.mg X.base CX n f fd ps sp) (hc : PySem.W.selfFirst X.K C = true) (no : fillsNumberSlot (.type "str") op.info.2 = pure false) (hs : PySem.W.findIn X.K (.ref C) (PySem.dunder op.info.2) = some (some (.ref f))) (hf : PySem.W.isFn X.K (.ref f) = true)
    (hb : Binds X.K fd ps []) (hx : Passes CX X E) (hr : Room n X.A) :
    OpR X (binaryOp op) (fun x y H Q => AnIns C H x ∧ ((∃ z, y = V.str z) ∨ AnIns C H y) ∧ sp [x, y] H (fun v H' => (∃ r, v = V.ref r) ∧ Q v H') E) := by
  intro pins s σ H x y v u Q I rx ry h
  obtain ⟨⟨a, dx, fs, rfl, ha⟩, hy, h⟩ := h
  cases rx
  obtain ⟨mA, J, _⟩ := ins_get I.hok ha
  obtain ⟨od, J, _⟩ := J.look
  obtain ⟨m, hF⟩ := I.fr
  have run : wpAny (model X.prog X.w) X.A (call (.ref f) [.ref a, u]) (fun w' s' => ∃ r, w' = Value.ref r ∧ EP X pins σ Q w' s') X.xe s := by
    refine wpAny_mono (call_run (A := X.A) ⟨hr, rfl⟩ F hb hx I (.cons (show RelV (V.ref a) (Value.ref a) from rfl) (.cons ry .nil)) h) (fun v s' q => ?_) fun _ _ z => z
    obtain ⟨y', H', I', ry', ⟨r, rfl⟩, q⟩ := q
    cases ry'
    exact ⟨r, rfl, .ref r, H', I', rfl, q⟩
  rcases hy with ⟨z, rfl⟩ | ⟨b, dx', fs', rfl, hb'⟩
  · obtain ⟨t, rfl⟩ := ry
    refine bin_of1 (bin1_text hF I.ok.mod.kin J hc no hs hf (wpAny_mono run (fun v s' q => ?_) fun _ _ z => z))
    obtain ⟨r, rfl, q⟩ := q
    exact ⟨_, rfl, q⟩
  · cases ry
    obtain ⟨mB, J2, _⟩ := ins_get I.hok hb'
    obtain ⟨od2, J2, _⟩ := J2.look
    refine PySem.W.binop_K hF I.ok.mod.kin J J2.type hc hs hf (wpAny_mono run (fun v s' q => ?_) fun _ _ z => z)
    obtain ⟨r, rfl, q⟩ := q
    exact q
/-- x op y by the reflected method of y's class, x a text -/
theorem op_binRef {g : Addr} (F : FnOk X.prog X.w X.K X.mg X.base CX n f fd ps sp) (hc : PySem.W.selfFirst X.K C = true) (no : fillsNumberSlot (.type "str") op.info.2 = pure false) (hs : PySem.W.findIn X.K (.ref C) (PySem.dunder op.info.2) = some (some (.ref g))) (hl : PySem.W.findIn X.K (.ref C) (PySem.dunderR op.info.2) = some (some (.ref f))) (hf : PySem.W.isFn X.K (.ref f) = true)
    (hb : Binds X.K fd ps []) (hx : Passes CX X E) (hr : Room n X.A) :
    OpR X (binaryOp op) (fun x y H Q => AnIns C H y ∧ (∃ z, x = V.str z) ∧ sp [y, x] H (fun v H' => (∃ r, v = V.ref r) ∧ Q v H') E) := by
  intro pins s σ H x y v u Q I rx ry h
  obtain ⟨⟨a, dx, fs, rfl, ha⟩, ⟨z, rfl⟩, h⟩ := h
  cases ry
  obtain ⟨t, rfl⟩ := rx
  obtain ⟨mA, J, _⟩ := ins_get I.hok ha
  obtain ⟨od, J, _⟩ := J.look
  obtain ⟨m, hF⟩ := I.fr
  refine bin_of1 (text_bin1 hF I.ok.mod.kin J hc no hs hl hf (wpAny_mono (call_run (A := X.A) ⟨hr, rfl⟩ F hb hx I (.cons (show RelV (V.ref a) (Value.ref a) from rfl) (.cons (show RelV (V.str z) (Value.str z t) from ⟨t, rfl⟩) .nil)) h) (fun v s' q => ?_) fun _ _ z => z))
  obtain ⟨y', H', I', ry', ⟨r, rfl⟩, q⟩ := q
  cases ry'
  exact ⟨_, rfl, .ref r, H', I', rfl, q⟩
end
end LR

namespace LK
open PySem PySem.Spec PyProof.Rows L2 LR
/-! ### places in a text -/
def letB (c : Nat) : Bool := decide (c ∈ letters.cps.toList)
/-- where the word ends that starts at i -/
def wend (t : List Nat) (i : Nat) : Nat := i + ((t.drop i).takeWhile letB).length
def cutN (t : List Nat) (i j : Nat) : Str := ⟨((t.drop i).take (j - i)).toArray⟩
abbrev Env9 := List (Str × Str × Addr)
theorem wend_ge (t : List Nat) (i : Nat) : i ≤ wend t i := Nat.le_add_right _ _
theorem wend_le {t : List Nat} {i : Nat} (h : i ≤ t.length) : wend t i ≤ t.length := by
  have := (List.takeWhile_prefix (p := letB) (l := t.drop i)).length_le
  rw [List.length_drop] at this
  unfold wend
  omega
theorem wend_go {t : List Nat} {i c : Nat} (h : t[i]? = some c) (l : letB c = true) : wend t (i + 1) = wend t i := by
  have lt := (List.getElem?_eq_some_iff.mp h).1
  have e : t.drop i = c :: t.drop (i + 1) := by
    rw [List.drop_eq_getElem_cons lt]
    rw [List.getElem?_eq_getElem lt] at h
    rw [Option.some.inj h]
  unfold wend
  rw [e, List.takeWhile_cons, l]
  simp only [if_true, List.length_cons]
  omega
theorem wend_stop {t : List Nat} {i : Nat} (h : ∀ c, t[i]? = some c → letB c = false) : wend t i = i := by
  unfold wend
  cases e : t.drop i with
  | nil => rfl
  | cons c r =>
    have hc : t[i]? = some c := by
      have := congrArg List.head? e
      rw [List.head?_drop] at this
      exact this
    rw [List.takeWhile_cons, h c hc]
    rfl
def sepL (ms : List Md) : List Nat := (ms.map fun m => 44 :: 32 :: cp m).flatten
theorem at_drop {t : List Nat} {i c : Nat} (h : t[i]? = some c) : i < t.length ∧ t.drop i = c :: t.drop (i + 1) := by
  have lt := (List.getElem?_eq_some_iff.mp h).1
  refine ⟨lt, ?_⟩
  rw [List.drop_eq_getElem_cons lt]
  rw [List.getElem?_eq_getElem lt] at h
  rw [Option.some.inj h]
theorem join_sep (m : Md) (r : List Md) : TL.joinL [44, 32] (cpL (m :: r)) = cp m ++ sepL r := by
  induction r generalizing m with
  | nil => simp [cpL, TL.joinL, sepL]
  | cons n r ih =>
    have := ih n
    show cp m ++ ([44, 32] ++ TL.joinL [44, 32] (cpL (n :: r))) = _ ++ ((44 :: 32 :: cp n) ++ sepL r)
    rw [this]
    simp
theorem while_at {c : TT} {tb : TS} {D : Ends} {σ : L2.St} {H : Hp} (Pv : L2.St → Hp → Prop) (μ : L2.St → Hp → Nat) (h0 : Pv σ H)
    (hs : ∀ σ H, Pv σ H → ∀ R : Bool → Hp → Prop, (∀ H1, tb { D with nx := fun σ' H' => Pv σ' H' ∧ μ σ' H' < μ σ H, ct := fun σ' H' => Pv σ' H' ∧ μ σ' H' < μ σ H, bk := D.nx } σ H1 → R true H1) → (∀ H1, D.nx σ H1 → R false H1) → c σ H R) : tWhile c tb D σ H := by
  refine ⟨fun m σ H => m = μ σ H ∧ Pv σ H, ⟨_, rfl, h0⟩, ?_⟩
  rintro m σ H ⟨rfl, p⟩
  refine hs σ H p _ (fun H1 q => ?_) fun H1 q => ?_
  · rw [if_pos rfl]
    exact ⟨_, fun σ' H' ⟨p', l⟩ => ⟨_, l, rfl, p'⟩, q⟩
  · rw [if_neg Bool.false_ne_true]
    exact q
/-- what may be walked in one of two ways -/
theorem pi_or {X : Cx} {tg it : Expr} {wi wi' : TI} (a : PI X tg it wi) (b : PI X tg it wi') : PI X tg it (fun σ H R => wi σ H R ∨ wi' σ H R) :=
  ⟨fun pins s σ H R I h => h.elim (a.run pins s σ H R I) (b.run pins s σ H R I)⟩
theorem cutS_nat {z : Str} {i j : Nat} (h : i ≤ z.length) : cutS z (some (i : Int)) (some (j : Int)) = cutN z.cps.toList i j := by
  unfold cutS cutN
  rw [HT.sIx_nat, HT.sIx_nat, Nat.min_eq_left h]
  congr 2
  have l : (z.cps.toList.drop i).length = z.length - i := by
    rw [List.length_drop]
    rfl
  by_cases hj : j ≤ z.length
  · rw [Nat.min_eq_left hj]
  · rw [List.take_of_length_le (by omega), List.take_of_length_le (by omega)]
def oneS (c : Nat) : Str := ⟨#[c]⟩
theorem cut_one {t : List Nat} {j c : Nat} : decide (V.str (cutN t j (j + 1)) = V.str (oneS c)) = decide (t[j]? = some c) := by
  refine decide_eq_decide.mpr ?_
  have e : cutN t j (j + 1) = ⟨((t.drop j).take 1).toArray⟩ := by
    unfold cutN
    rw [Nat.add_sub_cancel_left]
  constructor
  · intro h
    injection h with h
    rw [e] at h
    injection h with h
    have q : (t.drop j).take 1 = [c] := by
      have := congrArg Array.toList h
      simpa using this
    have : ((t.drop j).take 1)[0]? = some c := by rw [q]; rfl
    rw [List.getElem?_take_of_lt (by decide), List.getElem?_drop] at this
    exact this
  · intro h
    obtain ⟨_, d⟩ := at_drop h
    rw [e, d]
    rfl
def twoS (c d : Nat) : Str := ⟨#[c, d]⟩
theorem cut_two {t : List Nat} {j c d : Nat} : decide (V.str (cutN t j (j + 2)) = V.str (twoS c d)) = decide (t[j]? = some c ∧ t[j + 1]? = some d) := by
  refine decide_eq_decide.mpr ?_
  have e : cutN t j (j + 2) = ⟨((t.drop j).take 2).toArray⟩ := by
    unfold cutN
    rw [Nat.add_sub_cancel_left]
  constructor
  · intro h
    injection h with h
    rw [e] at h
    injection h with h
    have q : (t.drop j).take 2 = [c, d] := by
      have := congrArg Array.toList h
      simpa using this
    have a : ((t.drop j).take 2)[0]? = some c := by rw [q]; rfl
    have b : ((t.drop j).take 2)[1]? = some d := by rw [q]; rfl
    rw [List.getElem?_take_of_lt (by decide), List.getElem?_drop] at a b
    exact ⟨a, b⟩
  · rintro ⟨h1, h2⟩
    obtain ⟨_, d1⟩ := at_drop h1
    obtain ⟨_, d2⟩ := at_drop h2
    rw [e, d1, d2]
    rfl
/-- a step that may be at a head -/
structure StE9 (cS : Addr) (H : Hp) (e : Str × Str × Addr) : Prop where
  st : StepAt cS H e.2.2 e.1 e.2.1
  n : NameOk e.1
  w : WaysOk e.2.1
theorem StE9.same {cS : Addr} {H H' : Hp} {e : Str × Str × Addr} (s : Same H H') (h : StE9 cS H e) : StE9 cS H' e := ⟨StepAt.same s h.st, h.n, h.w⟩
/-- the dict of the steps by their names -/
def Kn (H : Hp) (D : Addr) (zs : Env9) : Prop := ∃ kvs, H D = some (.dK kvs) ∧ ∀ w : Str, valV kvs (Sum.inr w) = (zs.find? fun e => decide (e.1 = w)).map fun e => V.ref e.2.2
theorem Kn.same {H H' : Hp} {D : Addr} {zs : Env9} (s : Same H H') (h : Kn H D zs) : Kn H' D zs := by
  obtain ⟨kvs, e, g⟩ := h
  exact ⟨kvs, s _ _ e, g⟩

/-- a word at a place -/
theorem word_at {t w r : List Nat} {i : Nat} (h : t.drop i = w ++ r) (l : ∀ c ∈ w, letB c = true) (s : ∀ c q, r = c :: q → letB c = false) : wend t i = i + w.length ∧ cutN t i (i + w.length) = ⟨w.toArray⟩ ∧ t.drop (i + w.length) = r := by
  have e1 : (t.drop i).takeWhile letB = w := by
    rw [h, List.takeWhile_append_of_pos l]
    cases r with
    | nil => simp
    | cons c q => rw [List.takeWhile_cons, s c q rfl]; simp
  refine ⟨by unfold wend; rw [e1], ?_, ?_⟩
  · unfold cutN
    rw [Nat.add_sub_cancel_left, h, List.take_left]
  · rw [← List.drop_drop, h, List.drop_left]
theorem name_let {z : Str} (h : NameOk z) : ∀ c ∈ TL.tl z, letB c = true := fun c hc => by
  obtain ⟨a, b⟩ := h.low c hc
  exact decide_eq_true (letters_all c (by omega) a)
theorem hd_let {cS : Addr} {H : Hp} : ∀ {h : Hd}, HdS cS H h → ∀ c ∈ TL.tl (hdW h), letB c = true
  | .le, _ => by decide +kernel
  | .gr, _ => by decide +kernel
  | .st _ _ _, h => name_let h.2.1
/-- what may stand behind an expression -/
def StopC (r : List Nat) : Prop := ∀ c q, r = c :: q → c = 44 ∨ c = 41
theorem StopC.no {r : List Nat} (h : StopC r) : ∀ c q, r = c :: q → letB c = false := fun c q e => by
  rcases h c q e with rfl | rfl <;> decide +kernel
theorem str_mk (z : Str) : (⟨(TL.tl z).toArray⟩ : Str) = z := by
  cases z
  rfl
/-- all that stands in m is right, and known -/
def OkT (cS : Addr) (H : Hp) (zs : Env9) : Nat → Md → Prop
  | 0, _ => False
  | _ + 1, .nm z => NameOk z
  | n + 1, .ap h ms => HdS cS H h ∧ ms.length = arity h ∧ (∀ a z y, h = .st a z y → zs.find? (fun e => decide (e.1 = z)) = some (z, y, a)) ∧ ∀ m ∈ ms, OkT cS H zs n m
theorem OkT.same {cS : Addr} {H H' : Hp} {zs : Env9} (s : Same H H') : ∀ {n : Nat} {m : Md}, OkT cS H zs n m → OkT cS H' zs n m
  | 0, _, h => h.elim
  | _ + 1, .nm _, h => h
  | n + 1, .ap _ _, ⟨a, b, c, d⟩ => ⟨hdS_tr (Tr.same s) a, b, c, fun m hm => (d m hm).same s⟩
def spWordEnd : Sp := fun vs H Q _ => ∃ (z : Str) (i : Nat), vs = [.str z, .int i] ∧ z.length ≤ 1000 ∧ i ≤ z.length ∧ Q (.int ((wend z.cps.toList i : Nat) : Int)) H
def spPutG (K : PySem.W.Frag) (C cS : Addr) (zs : Env9) (n : Nat) : Sp := fun vs H Q _ => ∃ (L D : Addr) (hd : Hd) (ks : List (V × Md)), vs = [.str (hdW hd), .ref L, .ref D] ∧ H L = some (.lst (ks.map (·.1))) ∧ ks.length = arity hd ∧ HdS cS H hd ∧ (∀ a z y, hd = .st a z y → zs.find? (fun e => decide (e.1 = z)) = some (z, y, a)) ∧
  sz (.ap hd (ks.map (·.2))) < 64 ∧ Kn H D zs ∧ (∀ e ∈ ks, ExR K C cS n H e.2 e.1) ∧ ∀ v H', Same H H' → ExR K C cS (n + 1) H' (.ap hd (ks.map (·.2))) v → Q v H'
section
variable {P : Program} {w : World} {K : PySem.W.Frag} {mg : Str → Option Value} {base : Heap}
theorem scWordEnd : FnScope ["text", "at"] ["text", "at"] (defScope sWordEnd) := ⟨rfl, rfl, rfl, by decide +kernel, rfl, by decide +kernel, by decide +kernel⟩
theorem ok_wordEnd {f : Addr} {fd : FuncData} {tM : Tok} (S : Std mg) (m2 : mg "LETTERS" = some (.str letters tM)) (F : Fun K "_word_end" "_word_end" sWordEnd f fd) : FnOk P w K mg base CX0 1 f fd ["text", "at"] spWordEnd := by
  refine F.ok scWordEnd (fun vs H Q E h => ?_) (fun cdv A outer s H vs Q E hr h => ?_)
  · obtain ⟨z, i, rfl, _⟩ := h
    rfl
  · obtain ⟨z, i, rfl, lz, hi, q⟩ := h
    refine ⟨_, pss_cons (ps_while PassesOwn.never (PW.pt (pw_and (pt_cmpR op_lt (pv 1) (pe_callB call_len_str (by rfl) S.len PySem.boot_len (pa_cons (pv 0) pa_nil)) (nomark _)) (pw_and1 (pt_cmpR op_in_sign (pe_ix ix_str (pv 0) (pv 1) (fun _ _ => rfl)) (pe_glob (v := .str letters) rfl m2 ⟨_, rfl⟩) (by rfl)))))
        (pss_one (ps_aug (i := 1) scWordEnd.nd rfl (.inl rfl) pe_int ip_add))) (pss_one (ps_ret (pv 1))), ?_⟩
    have zl : z.length = z.cps.toList.length := rfl
    refine while_at (fun σ H' => H' = H ∧ ∃ j : Nat, σ = [some (.str z), some (.int (j : Int))] ∧ j ≤ z.length ∧ wend z.cps.toList j = wend z.cps.toList i) (fun σ _ => match σ with | [_, some (.int j)] => z.length - j.toNat | _ => 0) ⟨rfl, i, rfl, hi, rfl⟩ (fun σ H' h R go stop => ?_)
    obtain ⟨rfl, j, rfl, hj, ej⟩ := h
    refine ⟨_, rfl, _, rfl, z, rfl, by rw [sizeLine_eq]; omega, _, _, rfl, rfl, _, rfl, ?_⟩
    have fin : wend z.cps.toList j = j → R false H' := fun e => stop H' ⟨_, rfl, by rw [← ej, e] at q; exact q⟩
    by_cases c : (j : Int) < (z.length : Int)
    · rw [decide_eq_true c]
      have lt : j < z.cps.toList.length := by omega
      have hc : z.cps.toList[j]? = some z.cps.toList[j] := List.getElem?_eq_getElem lt
      refine iteT ⟨_, rfl, _, rfl, z, (j : Int), z.cps.toList[j], rfl, rfl, by rw [sizeLine_eq]; omega, atI_nat hc, _, letters, rfl, rfl, _, rfl, ?_⟩
      by_cases l : letB z.cps.toList[j] = true
      · have l' : decide (z.cps.toList[j] ∈ letters.cps.toList) = true := l
        rw [l']
        refine go H' ⟨_, rfl, _, _, rfl, rfl, ⟨rfl, j + 1, rfl, by omega, by rw [wend_go hc l]; exact ej⟩, ?_⟩
        show z.length - ((j : Int) + 1).toNat < z.length - ((j : Int)).toNat
        omega
      · have l' : decide (z.cps.toList[j] ∈ letters.cps.toList) = false := by simpa [letB] using l
        rw [l']
        refine fin (wend_stop fun c hc' => ?_)
        rw [hc] at hc'
        rw [← Option.some.inj hc']
        exact l'
    · rw [decide_eq_false c]
      refine iteF (fin (wend_stop fun c hc' => ?_))
      have := (List.getElem?_eq_some_iff.mp hc').1
      omega
def nPut : List Str := ["word", "parts", "known", "step"]
theorem scPut : FnScope nPut ["word", "parts", "known"] (defScope sPutTog) := ⟨rfl, rfl, rfl, by decide +kernel, rfl, by decide +kernel, by decide +kernel⟩
/-- what puts two expressions together -/
structure OpsB (K : PySem.W.Frag) (mg : Str → Option Value) (C fA fO : Addr) (dA dO : FuncData) : Prop where
  c : OwnCl K mg "Expr" C
  sf : PySem.W.selfFirst K C = true
  a : PySem.W.findIn K (.ref C) "__and__" = some (some (.ref fA))
  o : PySem.W.findIn K (.ref C) "__or__" = some (some (.ref fO))
  fa : PySem.W.isFn K (.ref fA) = true
  fo : PySem.W.isFn K (.ref fO) = true
  ba : Binds K dA ["self", "other"] []
  bo : Binds K dO ["self", "other"] []
theorem isw_of (wd : Str) : inV (.str wd) [V.str "lesser", V.str "greater"] = (decide (wd = "lesser") || decide (wd = "greater")) := by
  show (("lesser" : Str) == wd || (("greater" : Str) == wd || false)) = _
  rw [Bool.or_false]
  congr 1
  · by_cases h : wd = "lesser"
    · rw [h]; simp
    · rw [decide_eq_false h]
      exact beq_eq_false_iff_ne.mpr (Ne.symm h)
  · by_cases h : wd = "greater"
    · rw [h]; simp
    · rw [decide_eq_false h]
      exact beq_eq_false_iff_ne.mpr (Ne.symm h)
theorem st_word {z : Str} (h : NameOk z) : ¬ z = "lesser" ∧ ¬ z = "greater" := by
  have := h.len
  refine ⟨?_, ?_⟩
  · rintro rfl
    exact absurd this (by decide +kernel)
  · rintro rfl
    exact absurd this (by decide +kernel)
theorem ok_putG {C cS fA fO fL fP f : Addr} {dA dO fdL fdP fd : FuncData} {zs : Env9} (S : Std mg) (cT : OwnCl K mg "Step" cS) (n2 : NoAttr K cS "ways") (L : LenM K cS fL fdL sStepLen "Step.__len__") (O : OpsB K mg C fA fO dA dO)
    (GA : FnOk P w K mg base CX0 7 fA dA ["self", "other"] (spBinX K C cS .le false)) (GO : FnOk P w K mg base CX0 7 fO dO ["self", "other"] (spBinX K C cS .gr false)) (A1 : Df K mg "applied" sApplied fP fdP ["step", "parts"]) (GP : FnOk P w K mg base CX0 4 fP fdP ["step", "parts"] (spAppliedX K C cS))
    (F : Fun K "_put_together" "_put_together" sPutTog f fd) (n : Nat) : FnOk P w K mg base CX0 8 f fd ["word", "parts", "known"] (spPutG K C cS zs n) := by
  have GL : FnOk P w K mg base CX0 1 fL fdL ["self"] (spStLen cS) := ok_stLen S cT.cl n2 L.F
  refine F.ok scPut (fun vs H Q E h => ?_) (fun cdv A outer s H vs Q E hr h => ?_)
  · obtain ⟨L, D, hd, ks, rfl, _⟩ := h
    rfl
  · obtain ⟨Ls, D, hd, ks, rfl, hL, lx, hs, kz, short, hD, gx, q⟩ := h
    have rm1 : Room 1 _ := hr.mono (by decide)
    have rm2 : Room 2 _ := hr.mono (by decide)
    have rm4 : Room 4 _ := hr.mono (by decide)
    refine ⟨_, pss_cons (ps_if (pt_cmpR op_in_seq (pv 0) (pe_tup (pa_cons pe_str (pa_cons pe_str pa_nil))) (by rfl))
        (pss_cons (ps_if (pt_cmpR op_ne (pe_callB call_len_seq (by rfl) S.len PySem.boot_len (pa_cons (pv 1) pa_nil)) pe_int (nomark _)) (pss_one ps_never) pss_nil)
          (pss_one (ps_ret (pe_ifExp (pt_cmpR op_eq (pv 0) pe_str (nomark _)) (pe_op (LR.op_binOwn (C := C) (E := E0) GA O.sf str_and O.a O.fa O.ba pass0 hr) (pe_ix ix_list (pv 1) pe_int (fun _ _ => rfl)) (pe_ix ix_list (pv 1) pe_int (fun _ _ => rfl)))
            (pe_op (LR.op_binOwn (C := C) (E := E0) GO O.sf str_or O.o O.fo O.bo pass0 hr) (pe_ix ix_list (pv 1) pe_int (fun _ _ => rfl)) (pe_ix ix_list (pv 1) pe_int (fun _ _ => rfl))))))) pss_nil)
      (pss_cons (ps_set (i := 3) scPut.nd rfl (Or.inl rfl) (pe_dget1 (hu_of hr) (pv 2) (pv 0) ⟨rfl, rfl, rfl, rfl⟩))
      (pss_cons (ps_if (PW.pt (pw_or (pt_cmp (pc_isN (pv 3))) (pw_or1 (pt_cmpR op_ne (pe_callB (LR.call_lenOwn (C := cS) (E := fun _ _ _ => False) GL L.at_ L.fn L.b pass0 rm2) (by rfl) S.len PySem.boot_len (pa_cons (pv 3) pa_nil)) (pe_callB call_len_seq (by rfl) S.len PySem.boot_len (pa_cons (pv 1) pa_nil)) (nomark _)))))
          (pss_one ps_never) pss_nil)
      (pss_one (ps_ret (pe_call GP rm4 rfl A1.g A1.F.kp A1.b .nil pass0 (pa_cons (pv 3) (pa_cons (pv 1) pa_nil))))))), ?_⟩
    refine ⟨_, rfl, (by show 2 ≤ sizeLine; decide), fun p hp => ?_⟩
    have s1 := same_new (o := .tup [V.str "lesser", V.str "greater"]) hp
    have hL1 := s1 _ _ hL
    refine ⟨p, _, rfl, .inr (SqT.of upd_same), rfl, rfl, ?_⟩
    rw [if_neg Bool.false_ne_true]
    refine ⟨_, rfl, ?_⟩
    rw [isw_of]
    have gx1 := fun e he => (gx e he).same s1
    have q1 := fun v H' s => q v H' (s1.trans s)
    have hs1 := hdS_tr (Tr.same s1) hs
    have hD1 := hD.same s1
    clear q hD hs gx hL hp
    generalize upd H p (.tup [V.str "lesser", V.str "greater"]) = H1 at hL1 gx1 q1 hD1 hs1 ⊢
    have two : arity hd = 2 → (∀ a z y, hd ≠ .st a z y) → ∃ x y m m', ks = [(x, m), (y, m')] := fun e _ => by
      match ks, lx with
      | [a, b], _ => exact ⟨a.1, b.1, a.2, b.2, rfl⟩
      | [], l => rw [e] at l; cases l
      | [_], l => rw [e] at l; cases l
      | _ :: _ :: _ :: _, l => rw [e] at l; simp at l
    cases hd with
    | le =>
      obtain ⟨x, y, m, m', rfl⟩ := two rfl (fun _ _ _ e => nomatch e)
      show if (decide (("lesser" : Str) = "lesser") || decide (("lesser" : Str) = "greater")) = true then _ else _
      rw [decide_eq_true rfl, Bool.true_or]
      refine iteT ?_
      refine ⟨_, rfl, Ls, [x, y], rfl, .inl (SqL.of hL1), rfl, _, rfl, ?_⟩
      rw [decide_eq_true (show V.int (([x, y].length : Nat) : Int) = V.int 2 from rfl)]
      refine iteF ⟨_, rfl, rfl, _, rfl, ?_⟩
      rw [decide_eq_true (show V.str (hdW .le) = V.str "lesser" from rfl)]
      refine iteT ?_
      have hx := gx1 (x, m) List.mem_cons_self
      have hy := gx1 (y, m') (List.mem_cons_of_mem _ List.mem_cons_self)
      obtain ⟨ax, dx, fx, ex, hax⟩ := hx.ins
      obtain ⟨ay, dy, fy, ey, hay⟩ := hy.ins
      have few : 1 + (sz m + sz m') < 64 := by
        have e : sz (.ap .le [m, m']) = 1 + (sz m + sz m') := by simp [sz, szL]
        have := short
        rw [show ([(x, m), (y, m')].map (·.2)) = [m, m'] from rfl, e] at this
        exact this
      refine ⟨_, rfl, Ls, _, 0, x, rfl, rfl, SqL.of hL1, at_of (j := 0) rfl rfl, _, rfl, Ls, _, 1, y, rfl, rfl, SqL.of hL1, at_of (j := 1) rfl rfl, ⟨ax, dx, fx, ex, hax⟩, .inr ⟨ay, dy, fy, ey, hay⟩, x, y, n, m, m', rfl, hx, .inl hy, few, fun v H' s ex => ?_⟩
      rw [if_neg Bool.false_ne_true] at ex
      obtain ⟨r, _, _, er, _⟩ := ex.ins
      exact ⟨⟨r, er⟩, q1 v H' s ex⟩
    | gr =>
      obtain ⟨x, y, m, m', rfl⟩ := two rfl (fun _ _ _ e => nomatch e)
      show if (decide (("greater" : Str) = "lesser") || decide (("greater" : Str) = "greater")) = true then _ else _
      rw [decide_eq_true (show ("greater" : Str) = "greater" from rfl), Bool.or_true]
      refine iteT ?_
      refine ⟨_, rfl, Ls, [x, y], rfl, .inl (SqL.of hL1), rfl, _, rfl, ?_⟩
      rw [decide_eq_true (show V.int (([x, y].length : Nat) : Int) = V.int 2 from rfl)]
      refine iteF ⟨_, rfl, rfl, _, rfl, ?_⟩
      rw [decide_eq_false (show ¬ V.str (hdW .gr) = V.str "lesser" by intro e; injection e with e; exact absurd e (by decide +kernel))]
      refine iteF ?_
      have hx := gx1 (x, m) List.mem_cons_self
      have hy := gx1 (y, m') (List.mem_cons_of_mem _ List.mem_cons_self)
      obtain ⟨ax, dx, fx, ex, hax⟩ := hx.ins
      obtain ⟨ay, dy, fy, ey, hay⟩ := hy.ins
      have few : 1 + (sz m + sz m') < 64 := by
        have e : sz (.ap .gr [m, m']) = 1 + (sz m + sz m') := by simp [sz, szL]
        have := short
        rw [show ([(x, m), (y, m')].map (·.2)) = [m, m'] from rfl, e] at this
        exact this
      refine ⟨_, rfl, Ls, _, 0, x, rfl, rfl, SqL.of hL1, at_of (j := 0) rfl rfl, _, rfl, Ls, _, 1, y, rfl, rfl, SqL.of hL1, at_of (j := 1) rfl rfl, ⟨ax, dx, fx, ex, hax⟩, .inr ⟨ay, dy, fy, ey, hay⟩, x, y, n, m, m', rfl, hx, .inl hy, few, fun v H' s ex => ?_⟩
      rw [if_neg Bool.false_ne_true] at ex
      obtain ⟨r, _, _, er, _⟩ := ex.ins
      exact ⟨⟨r, er⟩, q1 v H' s ex⟩
    | st a z y =>
      obtain ⟨c1, c2⟩ := st_word hs1.2.1
      show if (decide (z = "lesser") || decide (z = "greater")) = true then _ else _
      rw [decide_eq_false c1, decide_eq_false c2]
      refine iteF ?_
      obtain ⟨kvs, eD, gD⟩ := hD1
      refine ⟨_, rfl, D, rfl, .inl ⟨kvs, .inl eD⟩, _, rfl, _, DGet.k (k := Sum.inr z) eD, ?_⟩
      rw [gD z, kz a z y rfl]
      obtain ⟨dx, fs⟩ := id hs1.1
      have l3 := hs1.2.2.len
      refine ⟨_, rfl, false, rfl, iteF ⟨_, rfl, a, dx, _, rfl, fs, a, z, y, rfl, hs1.1, l3, _, rfl, by omega, ?_⟩⟩
      have lk : ks.length = y.length := lx
      refine ⟨_, rfl, Ls, _, rfl, .inl (SqL.of hL1), rfl, _, rfl, ?_⟩
      rw [decide_eq_true (show V.int ((y.length : Nat) : Int) = V.int (((ks.map (·.1)).length : Nat) : Int) by rw [List.length_map, lk])]
      exact iteF ⟨_, rfl, _, rfl, a, Ls, z, y, n, ks, rfl, hs1, lk, SqL.of hL1, gx1, short, fun v H' s ex => q1 v H' s ex⟩
end
end LK

namespace LR
open PySem PySem.Spec PyProof.Rows L2
/-! ### known = {k: v for x in xs}, known a plain local -/
theorem swD {kx vx : Expr} {gens : List Comprehension} {sc : Scope} {p q : Pos} {nm : Str} {ln : Nat} {ev : Env} (fn : ev.scope.kind = .function) (lo : ev.scope.names.lookup nm = some .local) (same : (q.line == p.line) = true)
    (un : (sc.names.any fun (n, k) => n == nm && (k == .local || k == .cell)) = false) : swapsWith (.DictComp kx vx gens sc p) (some (.Name nm q)) ln ev = pure true := by
  have a : ev.kindOf nm = some .local := lo
  have b : ev.blockKind = .function := by
    unfold Env.blockKind
    rw [fn]
    rfl
  unfold swapsWith
  simp only [a, b, un, same, Expr.pos]
  rfl
variable {X : Cx}
abbrev InBlk (X : Cx) (sc : Scope) (R : Cx → Prop) : Prop := ∀ (s : Shared) (H : Hp) (C : Addr) (cl : List (Str × Addr)) (fp : List Addr), R (X.blk s H sc (compEnvC sc cl C X.env) fp)
theorem ps_setDc {i : Nat} {nm : Str} {q p stp : Pos} {kx vx tg it : Expr} {ifs : List Expr} {sc : Scope} {own : List (Str × Nat)} {wi : TI} {g : TG} {tt : TT} {tk tv : TE} (calm : X.calm = true) (nd : X.N.Nodup) (at_ : X.N[i]? = some nm) (lo : X.env.scope.names.lookup nm = some .local)
    (sw : swapsWith (.DictComp kx vx [⟨tg, it, ifs, 0⟩] sc p) (some (.Name nm q)) stp.line X.env = pure true) (walk : PI X tg it wi) (ok : BlkOk X.N X.env.scope sc own) (hg : InBlk X sc fun B => PG B tg g) (ht : InBlk X sc fun B => PTs B ifs tt)
    (hk : InBlk X sc fun B => PE B kx tk) (hv : InBlk X sc fun B => PE B vx tv) (fold : ∀ x, foldedSetIterable it X.env x = pure x := by intro _; rfl) :
    PS X (.Assign [.Name nm q] (.DictComp kx vx [⟨tg, it, ifs, 0⟩] sc p) stp) (tAsg (tDc wi g tt tk tv (own.map (·.2))) (gName i)) := by
  refine ⟨fun pins s σ H D I h => ?_⟩
  rw [exec_Assign_Name_used _ _ _ _ sw, arm_evalThenUse_DictComp]
  refine wpAny_bind (wpAny_standAt (wpAny_bind ?_))
  have h' : tDc wi g tt tk tv (own.map (·.2)) σ H (fun x G => gName i x σ G D.nx) := h
  refine wpAny_bind (thn (dc_core (use := some (assign (.Name nm q) X.env)) (Qf := fun _ s' => SP X pins D .next s') calm nd I walk ok hg ht hk hv fold h' fun L C s' m G I' d hn fp => ?_) fun _ s' z => wpAny_pure (wpAny_pure z))
  obtain ⟨k0, k1, k2, k3, k4, k5⟩ := fp
  refine wpAny_assign_Name (store_ok2 (v := V.ref L) I' nd at_ (.inl lo) rfl (fun s2 I2 ⟨a, sb, ha⟩ => ?_) (.inr lo))
  have ne : C ≠ a := ha.elim (fun z => by rw [z]; exact k1) fun z e => k4 _ a z e.symm
  exact ⟨m, hn.sameBut sb ne, fun h3 sb3 => ⟨_, G, I2.turned (t' := s2.toks) (fun b o hb e => (sb3.2 b hb).trans e) k0 k1 k3 k4 k5, d⟩⟩
end LR

namespace LK
open PySem PySem.Spec PyProof.Rows L2 LR
/-! ### texts of expressions read -/
theorem cut1 {z : Str} {j : Nat} (h : j ≤ z.length) : cutS z (some (j : Int)) (some ((j : Int) + 1)) = cutN z.cps.toList j (j + 1) := cutS_nat h
theorem cut2 {z : Str} {j : Nat} (h : j ≤ z.length) : cutS z (some (j : Int)) (some ((j : Int) + 2)) = cutN z.cps.toList j (j + 2) := cutS_nat h
theorem sqL_same {K : PySem.W.Frag} {H H' : Hp} {a : Addr} {xs : List V} (e : Same H H') (h : SqL K H a xs) : SqL K H' a xs := by
  rcases h with (h | ⟨o, h⟩) | h
  · exact .inl (.inl (e _ _ h))
  · exact .inl (.inr ⟨o, e _ _ h⟩)
  · exact .inr h
/-- a list or a tuple -/
def SeqH (K : PySem.W.Frag) (H : Hp) (A : Addr) (xs : List V) : Prop := SqL K H A xs ∨ SqT K H A xs
/-- a dict comprehension over what is walked by J -/
theorem dc_it {J : It} {g : TG} {tt : TT} {tk tv : TE} {vs : List Nat} {σ : L2.St} {H1 : Hp} {D : Addr} {Qd : Hp → Prop} (Pv : Nat → Hp → Prop) (len : Nat) (h0 : Pv 0 (upd H1 D (.dK []))) (hw : ∀ i H, Pv i H → (i < len → J.go i H) ∧ (i = len → J.stop i H))
    (hs : ∀ i x H H', i < len → Pv i H → J.yld i H x H' → g x (wipe σ vs) H' fun τ G => wipe τ vs = wipe σ vs ∧ tt τ G fun b G3 =>
      if b = true then tk τ G3 fun y G4 => tv τ G4 fun z G5 => ∃ c k, y = kV k ∧ G5 D = some (.dK c) ∧ c.length < sizeLine ∧ Pv (i + 1) (upd G5 D (.dK (putK c k z))) else Pv (i + 1) G3) (hd : ∀ H, Pv len H → Qd H) :
    ∃ W : Nat → Nat → Hp → Prop, (∃ m, W 0 m (upd H1 D (.dK []))) ∧ ∀ i m H, W i m H → (J.stop i H ∧ Qd H) ∨ (J.go i H ∧ ∃ Nx : Hp → Prop, (∀ H', Nx H' → ∃ m', m' < m ∧ W (i + 1) m' H') ∧
      ∀ x H', J.yld i H x H' → g x (wipe σ vs) H' fun τ G => wipe τ vs = wipe σ vs ∧ tt τ G fun b G3 => if b = true then tk τ G3 fun y G4 => tv τ G4 fun z G5 => ∃ c k, y = kV k ∧ G5 D = some (.dK c) ∧ c.length < sizeLine ∧ Nx (upd G5 D (.dK (putK c k z))) else Nx G3) := by
  refine ⟨fun i m H => m + i = len ∧ Pv i H, ⟨len, Nat.add_zero _, h0⟩, fun i m H ⟨e, p⟩ => ?_⟩
  by_cases l : i < len
  · exact .inr ⟨(hw i H p).1 l, Pv (i + 1), fun G q => ⟨m - 1, by omega, by omega, q⟩, fun x G y => hs i x H G l p y⟩
  · have e2 : i = len := by omega
    exact .inl ⟨(hw i H p).2 e2, hd H (e2 ▸ p)⟩
theorem find_snoc {zs : Env9} (nd : (zs.map fun e => e.1).Nodup) {i : Nat} {e : Str × Str × Addr} (he : zs[i]? = some e) (w : Str) :
    (zs.take (i + 1)).find? (fun x => decide (x.1 = w)) = if w = e.1 then some e else (zs.take i).find? (fun x => decide (x.1 = w)) := by
  rw [List.take_add_one, he, List.find?_append]
  by_cases c : w = e.1
  · rw [if_pos c]
    have n : (zs.take i).find? (fun x => decide (x.1 = w)) = none := by
      refine List.find?_eq_none.mpr fun x hx q => ?_
      have q := of_decide_eq_true q
      obtain ⟨j, hj⟩ := List.getElem?_of_mem hx
      have lt := (List.getElem?_eq_some_iff.mp hj).1
      rw [List.length_take] at lt
      rw [List.getElem?_take_of_lt (by omega)] at hj
      have e1 : (zs.map fun e => e.1)[j]? = some w := by rw [List.getElem?_map, hj]; exact congrArg some q
      have e2 : (zs.map fun e => e.1)[i]? = some w := by rw [List.getElem?_map, he, c]; rfl
      have := nd_ix nd e1 e2
      omega
    rw [n]
    show List.find? (fun x : Str × Str × Addr => decide (x.1 = w)) [e] = some e
    rw [List.find?_cons, decide_eq_true c.symm]
  · rw [if_neg c]
    have n : List.find? (fun x : Str × Str × Addr => decide (x.1 = w)) [e] = none := by
      rw [List.find?_cons, decide_eq_false (Ne.symm c)]
      rfl
    show ((zs.take i).find? (fun x => decide (x.1 = w))).or (List.find? (fun x : Str × Str × Addr => decide (x.1 = w)) [e]) = _
    rw [n]
    exact Option.or_none
/-- the steps of distinct names -/
structure Ste9 (K : PySem.W.Frag) (cS A : Addr) (zs : Env9) (H : Hp) : Prop where
  sq : SeqH K H A (zs.map fun e => V.ref e.2.2)
  few : zs.length ≤ 20
  nd : (zs.map fun e => e.1).Nodup
  st : ∀ x ∈ zs, StE9 cS H x
theorem SeqH.same {K : PySem.W.Frag} {H H' : Hp} {A : Addr} {xs : List V} (s : Same H H') (h : SeqH K H A xs) : SeqH K H' A xs := h.imp (sqL_same s) (SqT.same s)
theorem Ste9.same {K : PySem.W.Frag} {cS A : Addr} {zs : Env9} {H H' : Hp} (s : Same H H') (h : Ste9 K cS A zs H) : Ste9 K cS A zs H' := ⟨h.sq.same s, h.few, h.nd, fun x hx => (h.st x hx).same s⟩

theorem drop_cons {t r : List Nat} {j c : Nat} (h : t.drop j = c :: r) : t[j]? = some c ∧ t.drop (j + 1) = r ∧ j < t.length := by
  have e : t[j]? = some c := by
    have := congrArg List.head? h
    rw [List.head?_drop] at this
    exact this
  refine ⟨e, ?_, (List.getElem?_eq_some_iff.mp e).1⟩
  obtain ⟨_, d⟩ := at_drop e
  rw [d] at h
  exact (List.cons.inj h).2
theorem drop_app {t a r : List Nat} {j : Nat} (h : t.drop j = a ++ r) : t.drop (j + a.length) = r := by
  rw [← List.drop_drop, h, List.drop_left]
theorem cp_pos {cS : Addr} {H : Hp} {zs : Env9} : ∀ {n : Nat} {m : Md}, OkT cS H zs n m → 0 < (cp m).length
  | 0, _, h => h.elim
  | _ + 1, .nm z, h => by
    rw [cp]
    exact h.pos
  | _ + 1, .ap _ _, _ => by
    rw [cp, List.length_append, List.length_cons]
    omega
theorem drop_lt {t a r : List Nat} {j : Nat} (h : t.drop j = a ++ r) (p : 0 < a.length) : j < t.length := by
  have := congrArg List.length h
  rw [List.length_drop, List.length_append] at this
  omega
theorem stop_sep (ms : List Md) (rest : List Nat) : StopC (sepL ms ++ 41 :: rest) := by
  intro c q e
  cases ms with
  | nil =>
    have e' : (41 : Nat) :: rest = c :: q := e
    exact .inr (List.cons.inj e').1.symm
  | cons m r =>
    have e' : (44 : Nat) :: ((32 :: cp m) ++ sepL r ++ 41 :: rest) = c :: q := by
      rw [← e]
      show _ = ((44 :: 32 :: cp m) ++ sepL r) ++ _
      simp
    exact .inl (List.cons.inj e').1.symm
theorem sep_cons (m : Md) (r : List Md) (rest : List Nat) : sepL (m :: r) ++ rest = 44 :: 32 :: (cp m ++ (sepL r ++ rest)) := by
  show ((44 :: 32 :: cp m) ++ sepL r) ++ rest = _
  simp
theorem sep_snoc (ms : List Md) (m : Md) : (sepL (ms ++ [m])).length = (sepL ms).length + 2 + (cp m).length := by
  unfold sepL
  rw [List.map_append, List.flatten_append, List.length_append]
  simp
  omega
/-- a text with known steps -/
structure AtG (cS D : Addr) (zs : Env9) (z : Str) (H : Hp) : Prop where
  len : z.length ≤ 1000
  kn : Kn H D zs
theorem AtG.same {cS D : Addr} {zs : Env9} {z : Str} {H H' : Hp} (h : AtG cS D zs z H) (s : Same H H') : AtG cS D zs z H' := ⟨h.len, h.kn.same s⟩
def spExprG (K : PySem.W.Frag) (C cS : Addr) (zs : Env9) (n : Nat) : Sp := fun vs H Q _ => ∃ (z : Str) (i : Nat) (D : Addr) (m : Md) (rest : List Nat), vs = [.str z, .int i, .ref D] ∧ AtG cS D zs z H ∧ z.cps.toList.drop i = cp m ++ rest ∧ StopC rest ∧ OkT cS H zs n m ∧ sz m < 64 ∧
  ∀ p v H', Same H H' → H' p = some (.tup [v, .int ((i + (cp m).length : Nat) : Int)]) → ExR K C cS n H' m v → Q (.ref p) H'
def spPartsG (K : PySem.W.Frag) (C cS : Addr) (zs : Env9) (n : Nat) : Sp := fun vs H Q _ => ∃ (z : Str) (i : Nat) (D : Addr) (m0 : Md) (ms : List Md) (rest : List Nat), vs = [.str z, .int i, .ref D] ∧ AtG cS D zs z H ∧ z.cps.toList.drop i = cp m0 ++ (sepL ms ++ 41 :: rest) ∧ (∀ m ∈ m0 :: ms, OkT cS H zs n m) ∧ 1 + szL (m0 :: ms) < 64 ∧
  ∀ p L (ks : List (V × Md)) H', Same H H' → H' p = some (.tup [.ref L, .int ((i + (cp m0).length + (sepL ms).length + 1 : Nat) : Int)]) → H' L = some (.lst (ks.map (·.1))) → ks.map (·.2) = m0 :: ms → (∀ e ∈ ks, ExR K C cS n H' e.2 e.1) → Q (.ref p) H'
def spReadG (K : PySem.W.Frag) (C cS : Addr) (zs : Env9) : Sp := fun vs H Q _ => ∃ (z : Str) (A : Addr) (m : Md) (n : Nat), vs = [.str z, .ref A] ∧ z.length ≤ 1000 ∧ Ste9 K cS A zs H ∧ z.cps.toList = cp m ∧ OkT cS H zs n m ∧ n ≤ 12 ∧ sz m < 64 ∧ ∀ v H', Same H H' → ExR K C cS n H' m v → Q v H'
section
variable {P : Program} {w : World} {K : PySem.W.Frag} {mg : Str → Option Value} {base : Heap}
def nEA : List Str := ["text", "at", "known", "stop", "word", "parts"]
theorem scEA : FnScope nEA ["text", "at", "known"] (defScope sExprAt) := ⟨rfl, rfl, rfl, by decide +kernel, rfl, by decide +kernel, by decide +kernel⟩
def nPA : List Str := ["text", "at", "known", "part", "parts"]
theorem scPA : FnScope nPA ["text", "at", "known"] (defScope sPartsAt) := ⟨rfl, rfl, rfl, by decide +kernel, rfl, by decide +kernel, by decide +kernel⟩
theorem ok_exprG0 {C cS fW fI fM fT fP f kw : Addr} {fdW fdI fdM fdT fdP fd : FuncData} {zs : Env9} {tM : Tok} (n : Nat) (S : Std mg) (m2 : mg "LETTERS" = some (.str letters tM)) (Wd : Words K mg kw)
    (W1 : Df K mg "_word_end" sWordEnd fW fdW ["text", "at"]) (I1 : Df K mg "is_name" sIsName fI fdI ["value"]) (M1 : Df K mg "named" sNamed fM fdM ["word"]) (GM : FnOk P w K mg base CX0 4 fM fdM ["word"] (spNamedX K C cS))
    (T1 : Df K mg "_put_together" sPutTog fT fdT ["word", "parts", "known"]) (GT : FnOk P w K mg base CX0 8 fT fdT ["word", "parts", "known"] (spPutG K C cS zs n))
    (P1 : Df K mg "_parts_at" sPartsAt fP fdP ["text", "at", "known"]) (GP : FnOk P w K mg base CX0 (2 * n + 10) fP fdP ["text", "at", "known"] (spPartsG K C cS zs n))
    (F : Fun K "_expr_at" "_expr_at" sExprAt f fd) : FnOk P w K mg base CX0 (2 * n + 11) f fd ["text", "at", "known"] (spExprG K C cS zs (n + 1)) := by
  have GW : FnOk P w K mg base CX0 1 fW fdW ["text", "at"] spWordEnd := ok_wordEnd S m2 W1.F
  have GI : FnOk P w K mg base CX0 1 fI fdI ["value"] spName := ok_isName S Wd I1.F
  refine F.ok scEA (fun vs H Q E h => ?_) (fun cdv A outer s H vs Q E hr h => ?_)
  · obtain ⟨z, i, D, m, rest, rfl, _⟩ := h
    rfl
  · obtain ⟨z, i, D, m, rest, rfl, a9, hd, st, ok, short, q⟩ := h
    have rm1 : Room 1 _ := hr.mono (by omega)
    have rm2 : Room 2 _ := hr.mono (by omega)
    have rm4 : Room 4 _ := hr.mono (by omega)
    have rm8 : Room 8 _ := hr.mono (by omega)
    refine ⟨_, pss_cons (ps_set (i := 3) scEA.nd rfl (Or.inl rfl) (pe_call GW rm1 rfl W1.g W1.F.kp W1.b .nil pass0 (pa_cons (pv 0) (pa_cons (pv 1) pa_nil))))
      (pss_cons (ps_set (i := 4) scEA.nd rfl (Or.inl rfl) (pe_slice sl_str (pv 0) (po_some (pv 1)) (po_some (pv 3))))
      (pss_cons (ps_if (pt_cmpR op_eq (pe_slice sl_str (pv 0) (po_some (pv 3)) (po_some (pe_op op_add (pv 3) pe_int))) pe_str (nomark _))
          (pss_cons (ps_asg (pe_call GP hr rfl P1.g P1.F.kp P1.b .nil pass0 (pa_cons (pv 0) (pa_cons (pe_op op_add (pv 3) pe_int) (pa_cons (pv 2) pa_nil))))
              (pg_tup rfl (pgs_cons (pg_name (i := 5) scEA.nd rfl (Or.inl rfl)) (pgs_cons (pg_name (i := 3) scEA.nd rfl (Or.inl rfl)) pgs_nil))))
            (pss_one (ps_ret (pe_tup (pa_cons (pe_call GT rm8 rfl T1.g T1.F.kp T1.b .nil pass0 (pa_cons (pv 4) (pa_cons (pv 5) (pa_cons (pv 2) pa_nil)))) (pa_cons (pv 3) pa_nil)))))) pss_nil)
      (pss_cons (ps_if (pt_not (pt_val (pe_call GI rm1 rfl I1.g I1.F.kp I1.b .nil pass0 (pa_cons (pv 4) pa_nil)))) (pss_one ps_never) pss_nil)
      (pss_one (ps_ret (pe_tup (pa_cons (pe_call GM rm4 rfl M1.g M1.F.kp M1.b .nil pass0 (pa_cons (pv 4) pa_nil)) (pa_cons (pv 3) pa_nil)))))))), ?_⟩
    have zs' : z.length ≤ sizeLine := by have := a9.len; rw [sizeLine_eq]; omega
    have lt : i < z.length := drop_lt hd (cp_pos ok)
    have w2 : wend z.cps.toList i ≤ z.length := wend_le (t := z.cps.toList) (by show i ≤ z.length; omega)
    refine ⟨_, rfl, _, rfl, z, i, rfl, a9.len, by omega, ?_⟩
    refine ⟨_, rfl, _, rfl, _, rfl, _, rfl, _, rfl, z, rfl, zs', ?_⟩
    rw [cutS_nat (by omega)]
    refine ⟨_, rfl, _, rfl, _, rfl, _, rfl, _, _, rfl, rfl, _, rfl, z, rfl, zs', ?_⟩
    refine ⟨rfl, _, rfl, ?_⟩
    rw [cut1 w2, show ("(" : Str) = oneS 40 from rfl, cut_one]
    cases m with
    | nm x =>
      have okx : NameOk x := ok
      rw [cp] at hd
      obtain ⟨e1, e2, e3⟩ := word_at hd (name_let okx) st.no
      rw [str_mk] at e2
      rw [e1, e2]
      have no : ¬ z.cps.toList[i + (TL.tl x).length]? = some 40 := fun e => by
        obtain ⟨_, d⟩ := at_drop e
        rw [e3] at d
        rcases st 40 _ d with h | h <;> cases h
      rw [decide_eq_false no]
      refine iteF ⟨_, rfl, x, rfl, okx, fun H1 s1 => ⟨_, rfl, iteF ?_⟩⟩
      refine ⟨_, rfl, x, rfl, okx, fun v H2 s2 ex => ⟨_, rfl, (by show 2 ≤ sizeLine; decide), fun p2 hp2 => ?_⟩⟩
      have s3 := same_new (o := .tup [v, .int ((i + (TL.tl x).length : Nat) : Int)]) hp2
      exact q p2 v _ ((s1.trans s2).trans s3) (by rw [cp]; exact upd_same) ((ex.same s3).up (by omega))
    | ap h ms =>
      obtain ⟨hs, la, kz, gm⟩ := ok
      have hd0 := hd
      rw [cp_ap, List.append_assoc, List.cons_append] at hd
      obtain ⟨e1, e2, e3⟩ := word_at hd (hd_let hs) (fun c q e => by
        rw [← (List.cons.inj e).1]
        decide +kernel)
      rw [str_mk] at e2
      rw [e1, e2]
      obtain ⟨f1, f2, f3⟩ := drop_cons e3
      rw [decide_eq_true f1]
      obtain ⟨m0, r, rfl⟩ : ∃ m0 r, ms = m0 :: r := by
        cases ms with
        | cons m0 r => exact ⟨m0, r, rfl⟩
        | nil =>
          exfalso
          cases h with
          | le => cases la
          | gr => cases la
          | st a z y =>
            have := hs.2.2.pos
            have e : (0 : Nat) = y.length := la
            omega
      rw [join_sep, List.append_assoc, List.append_assoc] at f2
      have szl : 1 + szL (m0 :: r) < 64 := by
        rw [sz] at short
        exact short
      have hw : (TL.tl (hdW h)).length = (hdW h).length := rfl
      refine iteT ⟨_, rfl, _, rfl, _, _, rfl, rfl, _, rfl, z, i + (TL.tl (hdW h)).length + 1, D, m0, r, rest, rfl, a9, f2, gm, szl, fun p L ks H1 s1 hp hL em gx => ?_⟩
      refine ⟨p, _, rfl, SqT.of hp, rfl, _, _, rfl, _, _, rfl, rfl, ?_⟩
      have b9 := a9.same s1
      have lk : ks.length = arity h := by
        rw [← la, ← em, List.length_map]
      refine ⟨_, rfl, _, rfl, _, rfl, L, D, h, ks, rfl, hL, lk, hdS_tr (Tr.same s1) hs, kz, by rw [em]; exact short, b9.kn, gx, fun v H2 s2 ex => ⟨_, rfl, (by show 2 ≤ sizeLine; decide), fun p2 hp2 => ?_⟩⟩
      rw [em] at ex
      have s3 := same_new (o := .tup [v, .int ((i + (TL.tl (hdW h)).length + 1 + (cp m0).length + (sepL r).length + 1 : Nat) : Int)]) hp2
      refine q p2 v _ ((s1.trans s2).trans s3) ?_ (ex.same s3)
      have ll : i + (cp (.ap h (m0 :: r))).length = i + (TL.tl (hdW h)).length + 1 + (cp m0).length + (sepL r).length + 1 := by
        rw [cp_ap, join_sep, List.length_append, List.length_cons, List.length_append, List.length_append, List.length_singleton]
        omega
      rw [ll]
      exact upd_same
theorem ok_partsG {C cS fX f : Addr} {fdX fd : FuncData} {zs : Env9} (n : Nat) (S : Std mg)
    (X1 : Df K mg "_expr_at" sExprAt fX fdX ["text", "at", "known"]) (GX : FnOk P w K mg base CX0 (2 * n + 9) fX fdX ["text", "at", "known"] (spExprG K C cS zs n))
    (F : Fun K "_parts_at" "_parts_at" sPartsAt f fd) : FnOk P w K mg base CX0 (2 * n + 10) f fd ["text", "at", "known"] (spPartsG K C cS zs n) := by
  refine F.ok scPA (fun vs H Q E h => ?_) (fun cdv A outer s H vs Q E hr h => ?_)
  · obtain ⟨z, i, D, m0, ms, rest, rfl, _⟩ := h
    rfl
  · obtain ⟨z, i, D, m0, ms, rest, rfl, a9, hd, ok, short, q⟩ := h
    refine ⟨_, pss_cons (ps_asg (pe_call GX hr rfl X1.g X1.F.kp X1.b .nil pass0 (pa_cons (pv 0) (pa_cons (pv 1) (pa_cons (pv 2) pa_nil))))
          (pg_tup rfl (pgs_cons (pg_name (i := 3) scPA.nd rfl (Or.inl rfl)) (pgs_cons (pg_name (i := 1) scPA.nd rfl (Or.inl rfl)) pgs_nil))))
      (pss_cons (ps_set (i := 4) scPA.nd rfl (Or.inl rfl) (pe_lst (pa_cons (pv 3) pa_nil)))
      (pss_cons (ps_while PassesOwn.never (pt_cmpR op_eq (pe_slice sl_str (pv 0) (po_some (pv 1)) (po_some (pe_op op_add (pv 1) pe_int))) pe_str (nomark _))
          (pss_cons (ps_asg (pe_call GX hr rfl X1.g X1.F.kp X1.b .nil pass0 (pa_cons (pv 0) (pa_cons (pe_op op_add (pv 1) pe_int) (pa_cons (pv 2) pa_nil))))
              (pg_tup rfl (pgs_cons (pg_name (i := 3) scPA.nd rfl (Or.inl rfl)) (pgs_cons (pg_name (i := 1) scPA.nd rfl (Or.inl rfl)) pgs_nil))))
            (pss_one (ps_expr (pe_bm PySem.F.plainAttrs_list PySem.F.slot_list_append PySem.F.type_list_append mt_append (pv 4) (pa_cons (pv 3) pa_nil))))))
      (pss_cons (ps_if (pt_cmpR op_ne (pe_slice sl_str (pv 0) (po_some (pv 1)) (po_some (pe_op op_add (pv 1) pe_int))) pe_str (nomark _)) (pss_one ps_never) pss_nil)
      (pss_one (ps_ret (pe_tup (pa_cons (pv 4) (pa_cons (pe_op op_add (pv 1) pe_int) pa_nil)))))))), ?_⟩
    have zs' : z.length ≤ sizeLine := by have := a9.len; rw [sizeLine_eq]; omega
    have ln := a9.len
    have sh : sz m0 + szL ms < 63 := by
      rw [szL] at short
      omega
    have each : ∀ m ∈ ms, sz m ≤ szL ms := fun m hm => by
      obtain ⟨j, hj⟩ := List.getElem?_of_mem hm
      exact szL_mem hj
    have lms : ms.length ≤ szL ms := by
      rw [szL_sum]
      have one : ∀ l : List Md, l.length ≤ (l.map sz).sum := fun l => by
        induction l with
        | nil => exact Nat.le_refl _
        | cons m' r ih =>
          rw [List.map_cons, List.sum_cons, List.length_cons]
          have := sz_pos m'
          omega
      exact one ms
    refine ⟨_, rfl, _, rfl, _, rfl, z, i, D, m0, _, rfl, a9, hd, stop_sep ms rest, ok m0 List.mem_cons_self, by omega, fun p v H1 s1 hp hx => ?_⟩
    refine ⟨p, _, rfl, SqT.of hp, rfl, _, _, rfl, _, _, rfl, rfl, ?_⟩
    refine ⟨_, rfl, (by show 1 ≤ sizeLine; decide), fun L hL => ?_⟩
    have s2 := s1.trans (same_new (o := .lst [v]) hL)
    have hL0 : H L = none := Same.free s1 hL
    refine while_at (fun σ H' => ∃ (j : Nat) (ks : List (V × Md)) (v3 : V), σ = [some (.str z), some (.int ((i + (cp m0).length + (sepL (ms.take j)).length : Nat) : Int)), some (.ref D), some v3, some (.ref L)] ∧ j ≤ ms.length ∧ Same H H' ∧ H' L = some (.lst (ks.map (·.1))) ∧ ks.map (·.2) = m0 :: ms.take j ∧ (∀ e ∈ ks, ExR K C cS n H' e.2 e.1) ∧
        z.cps.toList.drop (i + (cp m0).length + (sepL (ms.take j)).length) = sepL (ms.drop j) ++ 41 :: rest)
      (fun σ _ => match σ with | [_, some (.int j), _, _, _] => z.length - j.toNat | _ => 0) ⟨0, [(v, m0)], v, rfl, Nat.zero_le _, s2, upd_same, rfl, fun e he => ?_, ?_⟩ (fun σ H' h R go stop => ?_)
    · rw [List.mem_singleton.mp he]
      exact hx.same (same_new hL)
    · show z.cps.toList.drop (i + (cp m0).length) = sepL ms ++ 41 :: rest
      exact drop_app hd
    · obtain ⟨j, ks, v3, rfl, jl, s3, hx3, em, gx, hdj⟩ := h
      have kl : ks.length = j + 1 := by
        have e := congrArg List.length em
        rw [List.length_map, List.length_cons, List.length_take] at e
        omega
      have kz : i + (cp m0).length + (sepL (ms.take j)).length < z.length := by
        have := congrArg List.length hdj
        rw [List.length_drop, List.length_append, List.length_cons] at this
        have zl : z.cps.toList.length = z.length := rfl
        omega
      generalize hk : i + (cp m0).length + (sepL (ms.take j)).length = k at hdj kz go stop ⊢
      refine ⟨_, rfl, _, rfl, _, rfl, _, rfl, _, _, rfl, rfl, _, rfl, z, rfl, zs', rfl, _, rfl, ?_⟩
      rw [cut2 (by omega), show (", " : Str) = twoS 44 32 from rfl, cut_two]
      by_cases c : j < ms.length
      · have hm : ms[j]? = some ms[j] := List.getElem?_eq_getElem c
        generalize ms[j] = m at hm
        have dj : ms.drop j = m :: ms.drop (j + 1) := by
          rw [List.drop_eq_getElem_cons c]
          rw [List.getElem?_eq_getElem c] at hm
          rw [Option.some.inj hm]
        rw [dj, sep_cons] at hdj
        obtain ⟨g1, g2, _⟩ := drop_cons hdj
        obtain ⟨g3, g4, _⟩ := drop_cons g2
        rw [decide_eq_true (show z.cps.toList[k]? = some 44 ∧ z.cps.toList[k + 1]? = some 32 from ⟨g1, g3⟩)]
        have mm := List.mem_of_getElem? hm
        refine go H' ⟨_, rfl, _, rfl, _, _, rfl, rfl, _, rfl, z, k + 2, D, m, _, rfl, a9.same s3, g4, stop_sep _ rest, (ok m (List.mem_cons_of_mem _ mm)).same s3, by have := each m mm; omega, fun p1 v1 H2 s4 hp1 hv => ?_⟩
        refine ⟨p1, _, rfl, SqT.of hp1, rfl, _, _, rfl, _, _, rfl, rfl, ?_⟩
        have d4 := s4 _ _ hx3
        have tl : Tr H2 (upd H2 L (.lst (ks.map (·.1) ++ [v1]))) := Tr.lst d4
        have tk : ms.take (j + 1) = ms.take j ++ [m] := by
          rw [List.take_add_one, hm]
          rfl
        have pos : k + 2 + (cp m).length = i + (cp m0).length + (sepL (ms.take (j + 1))).length := by
          rw [tk, sep_snoc]
          omega
        have g5 := drop_app g4
        rw [pos] at g5 ⊢
        refine ⟨_, rfl, .inl ⟨rfl, _, SqL.of d4⟩, _, rfl, L, ks.map (·.1), v1, rfl, rfl, d4, by rw [List.length_map, sizeLine_eq]; omega, ⟨j + 1, ks ++ [(v1, m)], v1, rfl, c, same_put hL0 (s3.trans s4), by rw [upd_same, List.map_append]; rfl, by rw [List.map_append, em, tk]; rfl, fun e he => ?_, g5⟩, ?_⟩
        · rcases List.mem_append.mp he with he | he
          · exact exR_tr tl ((gx e he).same s4)
          · rw [List.mem_singleton.mp he]
            exact exR_tr tl hv
        · show z.length - ((i + (cp m0).length + (sepL (ms.take (j + 1))).length : Nat) : Int).toNat < z.length - ((k : Nat) : Int).toNat
          omega
      · have ej : j = ms.length := by omega
        have dj : ms.drop j = [] := by rw [ej, List.drop_length]
        rw [dj] at hdj
        obtain ⟨g1, g2, _⟩ := drop_cons (show z.cps.toList.drop k = 41 :: rest from hdj)
        rw [decide_eq_false (show ¬ (z.cps.toList[k]? = some 44 ∧ z.cps.toList[k + 1]? = some 32) from fun h => by
          rw [g1] at h
          cases h.1)]
        refine stop H' ⟨_, rfl, _, rfl, _, rfl, _, rfl, _, _, rfl, rfl, _, rfl, z, rfl, zs', rfl, _, rfl, ?_⟩
        rw [cut1 (by omega), show (")" : Str) = oneS 41 from rfl, cut_one, decide_eq_true g1]
        refine iteF ⟨_, rfl, _, rfl, _, _, rfl, rfl, (by show 2 ≤ sizeLine; decide), fun p2 hp2 => ?_⟩
        have s5 := same_new (o := .tup [V.ref L, .int ((k : Int) + 1)]) hp2
        rw [ej, List.take_length] at em
        have pe : ((k : Int) + 1) = ((i + (cp m0).length + (sepL ms).length + 1 : Nat) : Int) := by
          rw [← hk, ej, List.take_length]
          rfl
        exact q p2 L ks _ (s3.trans s5) (by rw [← pe]; exact upd_same) (s5 _ _ hx3) em fun e he => (gx e he).same s5
/-- both, however deep -/
theorem ok_readsG {C cS fW fI fM fT fP fX kw : Addr} {fdW fdI fdM fdT fdP fdX : FuncData} {zs : Env9} {tM : Tok} (S : Std mg) (m2 : mg "LETTERS" = some (.str letters tM)) (Wd : Words K mg kw)
    (W1 : Df K mg "_word_end" sWordEnd fW fdW ["text", "at"]) (I1 : Df K mg "is_name" sIsName fI fdI ["value"]) (M1 : Df K mg "named" sNamed fM fdM ["word"]) (GM : FnOk P w K mg base CX0 4 fM fdM ["word"] (spNamedX K C cS))
    (T1 : Df K mg "_put_together" sPutTog fT fdT ["word", "parts", "known"]) (GT : ∀ n, FnOk P w K mg base CX0 8 fT fdT ["word", "parts", "known"] (spPutG K C cS zs n))
    (P1 : Df K mg "_parts_at" sPartsAt fP fdP ["text", "at", "known"]) (X1 : Df K mg "_expr_at" sExprAt fX fdX ["text", "at", "known"]) :
    ∀ n, FnOk P w K mg base CX0 (2 * n + 9) fX fdX ["text", "at", "known"] (spExprG K C cS zs n)
  | 0 => X1.F.ok scEA (fun vs H Q E h => by obtain ⟨z, i, D, m, rest, _, _, _, _, ok, _⟩ := h; exact ok.elim) (fun cdv A outer s H vs Q E hr h => by obtain ⟨z, i, D, m, rest, _, _, _, _, ok, _⟩ := h; exact ok.elim)
  | n + 1 => ok_exprG0 n S m2 Wd W1 I1 M1 GM T1 (GT n) P1 (ok_partsG n S X1 (ok_readsG S m2 Wd W1 I1 M1 GM T1 GT P1 X1 n) P1.F) X1.F
def nRE : List Str := ["text", "steps", "known", "expr", "at", "step"]
theorem scRE : FnScope nRE ["text", "steps"] (defScope sReadExpr) := ⟨rfl, rfl, rfl, by decide +kernel, rfl, by decide +kernel, by decide +kernel⟩
theorem ok_readG {C cS fX f : Addr} {fdX fd : FuncData} {zs : Env9} (S : Std mg) (clS : Cls K cS) (s1 : NoAttr K cS "name") (X1 : Df K mg "_expr_at" sExprAt fX fdX ["text", "at", "known"])
    (GX : ∀ n, FnOk P w K mg base CX0 (2 * n + 9) fX fdX ["text", "at", "known"] (spExprG K C cS zs n)) (F : Fun K "read_expr" "read_expr" sReadExpr f fd) : FnOk P w K mg base CX0 34 f fd ["text", "steps"] (spReadG K C cS zs) := by
  refine F.ok scRE (fun vs H Q E h => ?_) (fun cdv A outer s H vs Q E hr h => ?_)
  · obtain ⟨z, A, m, n, rfl, _⟩ := h
    rfl
  · obtain ⟨z, A', m, n, rfl, ln, st9, tx, ok, n12, short, q⟩ := h
    have rmX : Room (2 * n + 9) _ := hr.mono (by omega)
    refine ⟨_, pss_cons (LR.ps_setDc (i := 2) (own := [("step", 5)]) (g := gName 5) (tt := tYes) (tk := tFld K (tVar 5) "name") (tv := tVar 5) rfl scRE.nd rfl rfl (LR.swD rfl rfl rfl (by decide +kernel)) (pi_or (pi_list (pv 1)) (pi_tup (pv 1))) (blkOk_by (N := nRE) (sc := defScope sReadExpr) (by decide +kernel))
          (fun _ _ _ _ _ => pg_name (i := 5) scRE.nd rfl (Or.inl rfl)) (fun _ _ _ _ _ => pts_nil) (fun _ _ _ _ _ => pe_fld (pv 5) rfl) (fun _ _ _ _ _ => pv 5))
      (pss_cons (ps_asg (pe_call (GX n) rmX rfl X1.g X1.F.kp X1.b .nil pass0 (pa_cons (pv 0) (pa_cons pe_int (pa_cons (pv 2) pa_nil))))
          (pg_tup rfl (pgs_cons (pg_name (i := 3) scRE.nd rfl (Or.inl rfl)) (pgs_cons (pg_name (i := 4) scRE.nd rfl (Or.inl rfl)) pgs_nil))))
      (pss_cons (ps_if (pt_cmpR op_ne (pv 4) (pe_callB call_len_str (by rfl) S.len PySem.boot_len (pa_cons (pv 0) pa_nil)) (nomark _)) (pss_one ps_never) pss_nil)
      (pss_one (ps_ret (pv 3))))), ?_⟩
    have zs' : z.length ≤ sizeLine := by rw [sizeLine_eq]; omega
    have hx : zs.length = (zs.map fun e => V.ref e.2.2).length := (List.length_map _).symm
    have few := st9.few
    let Pv : Addr → Nat → Hp → Prop := fun D i H4 => Same H H4 ∧ ∃ kvs : List (Key × V), H4 D = some (.dK kvs) ∧ kvs.length ≤ i ∧ ∀ w : Str, valV kvs (Sum.inr w) = ((zs.take i).find? fun e => decide (e.1 = w)).map fun e => V.ref e.2.2
    have p0 : ∀ D, H D = none → Pv D 0 (upd H D (.dK [])) := fun D hD => ⟨same_new hD, [], upd_same, Nat.le_refl _, fun w => rfl⟩
    have stp : ∀ D (hD : H D = none) (i : Nat) (H4 : Hp) (x : V), i < zs.length → Pv D i H4 → (zs.map fun e => V.ref e.2.2)[i]? = some x → ∃ b, x = .ref b ∧ ∃ (dx : Addr) (nm y : Str), H4 b = some (.ins cS dx [("name", .str nm), ("ways", .str y)]) ∧
        ∃ c : List (Key × V), H4 D = some (.dK c) ∧ c.length < sizeLine ∧ Pv D (i + 1) (upd H4 D (.dK (putK c (Sum.inr nm) (.ref b)))) := fun D hD i H4 x hi ⟨s4, c, d4, lc, gc⟩ hxi => by
      rw [List.getElem?_map] at hxi
      obtain ⟨e, he, rfl⟩ := Option.map_eq_some_iff.mp hxi
      obtain ⟨dx, hb⟩ := StepAt.same s4 (st9.st e (List.mem_of_getElem? he)).st
      refine ⟨_, rfl, dx, e.1, e.2.1, hb, c, d4, by rw [sizeLine_eq]; omega, same_put hD s4, _, upd_same, Nat.le_trans (length_putK _ _ _) (by omega), fun w => ?_⟩
      rw [valV_put, find_snoc st9.nd he, gc w]
      by_cases q : w = e.1
      · rw [if_pos q, if_pos (by rw [q])]
        rfl
      · rw [if_neg q, if_neg (fun h => q (Sum.inr.inj h))]
    have fin : ∀ D (hD : H D = none) H4, Pv D zs.length H4 → Same H H4 ∧ Kn H4 D zs := fun D hD H4 ⟨s4, c, d4, _, gc⟩ => ⟨s4, c, d4, fun w => by rw [gc w, List.take_length]⟩
    refine seq_key (fun σ' H4 => ∃ D v5, σ' = [some (.str z), some (.ref A'), some (.ref D), none, none, v5] ∧ Same H H4 ∧ Kn H4 D zs) (fun key => ?_) (fun σ' H4 h => ?_)
    · have last : ∀ D, H D = none → ∀ H4, Pv D zs.length H4 → _ := fun D hD H4 p => key [some (.str z), some (.ref A'), some (.ref D), none, none, none] H4 ⟨D, none, rfl, fin D hD H4 p⟩
      rcases id st9.sq with hq | hq
      · refine .inl ⟨_, rfl, A', rfl, ⟨_, hq⟩, fun D hD => dc_it (Pv D) zs.length (p0 D hD) (fun i H4 p => ⟨fun lt => ?_, fun e => ?_⟩) (fun i x H4 H5 lt p y => ?_) (last D hD)⟩
        · exact ⟨_, (zs.map fun e => V.ref e.2.2)[i]'(by omega), sqL_same p.1 hq, List.getElem?_eq_getElem _⟩
        · exact ⟨_, sqL_same p.1 hq, by omega⟩
        · obtain ⟨rfl, y⟩ := y
          obtain ⟨b, rfl, dx, nm, yy, hb, c, d4, lc, nx⟩ := stp D hD i H5 x lt p (y _ (sqL_same p.1 hq))
          exact ⟨rfl, _, rfl, b, cS, dx, _, .str nm, rfl, hb, clS, s1, rfl, _, rfl, c, Sum.inr nm, rfl, d4, lc, nx⟩
      · refine .inr ⟨_, rfl, A', rfl, ⟨_, hq⟩, fun D hD => dc_it (Pv D) zs.length (p0 D hD) (fun i H4 p => ⟨fun lt => ?_, fun e => ?_⟩) (fun i x H4 H5 lt p y => ?_) (last D hD)⟩
        · exact ⟨_, (zs.map fun e => V.ref e.2.2)[i]'(by omega), SqT.same p.1 hq, List.getElem?_eq_getElem _⟩
        · exact ⟨_, SqT.same p.1 hq, by omega⟩
        · obtain ⟨rfl, y⟩ := y
          obtain ⟨b, rfl, dx, nm, yy, hb, c, d4, lc, nx⟩ := stp D hD i H5 x lt p (y _ (SqT.same p.1 hq))
          exact ⟨rfl, _, rfl, b, cS, dx, _, .str nm, rfl, hb, clS, s1, rfl, _, rfl, c, Sum.inr nm, rfl, d4, lc, nx⟩
    obtain ⟨D, v5, rfl, s4, kn⟩ := h
    refine ⟨_, rfl, _, rfl, z, 0, D, m, [], rfl, ⟨ln, kn⟩, by rw [List.append_nil]; exact tx, (fun c q e => by cases e), ok.same s4, short, fun p v H5 s5 hp hE => ?_⟩
    have s05 := s4.trans s5
    refine ⟨p, _, rfl, SqT.of hp, rfl, _, _, rfl, _, _, rfl, rfl, ?_⟩
    refine ⟨_, rfl, _, rfl, z, rfl, zs', rfl, _, rfl, ?_⟩
    have e : (0 + (cp m).length : Nat) = z.length := by
      rw [← tx, Nat.zero_add]
      rfl
    rw [e, decide_eq_true (show V.int ((z.length : Nat) : Int) = V.int ((z.length : Nat) : Int) from rfl)]
    exact iteF ⟨_, rfl, q v H5 s05 hE⟩
end
end LK

/-! list(x), x a text: a new list of its letters -/
namespace LR
open PySem PySem.Spec PyProof.Rows
section
variable {prog : Program} {w : World} {A : Around} {E : Value → Shared → Prop} {s : Shared}
theorem extend_str {R : Result → Shared → Prop} (hh : A.handled = none) (x : Str) (t : Tok) (S : Addr) (res : Value) (c₀ : Nat) (hS : s.heap.get? S = some { cls := .type "list", data := .seq #[] c₀ })
    (hR : ∀ h' tk acc' c', (∀ b o, b ≠ S → s.heap.get? b = some o → h'.get? b = some o) → h'.get? S = some { cls := .type "list", dict := none, data := .seq acc' c', slots := #[] } →
      ItemsOf (SignAt x) acc' x.cps.size → R (.ok (.ret res)) { s with heap := h', toks := tk }) (hn : x.cps.size ≤ sizeLine) :
    wpAny (model prog w) A.in1 (Builtin.List.listExtendWith (.ref S) (.str x t) res)
      (fun fin s' => match fin with | .done f => R (.ok f) s' | .again c' => c'.quiet = true ∧ codeAny (model prog w) A c' R s') (fun e s' => R (.error e) s') s := by
  have hSI : S ≠ s.heap.objs.size := Nat.ne_of_lt (Heap.lt_size hS)
  have hSf : S ∉ [s.heap.objs.size] := fun hm => hSI (List.mem_singleton.mp hm)
  unfold Builtin.List.listExtendWith
  refine wpAny_bind (wpAny_typeOf (T := "str") (v := .str x t) rfl ?_)
  have h1 : Builtin.List.listSameRef (.ref S) (.str x t) = false := rfl
  have h2 : (Value.type "str" == Value.type "list") = false := by decide
  have h3 : (Value.type "str" == Value.type "tuple") = false := by decide
  simp only [h1, h2, h3, Bool.or_false, Bool.false_eq_true, if_false]
  refine wpAny_bind (wpAny_pyIter_str fun o St W hst => ?_)
  refine wpAny_bind (wpAny_holding ?_)
  unfold Builtin.List.listLengthHint
  refine wpAny_bind (wpAny_specialOf (T := "str") (v := .str x t) rfl F.str_len ?_)
  wp_delta
  refine wpAny_bind (wpAny_isInstance (T := "str") (v := .str x t) (b := true) rfl (by rw [isSubtype_type]; kernel_rfl) ?_)
  show wpAny _ A.in1 (typeOf (Value.str x t) >>= _) _ _ _
  refine wpAny_bind (wpAny_typeOf (T := "str") (v := .str x t) rfl ?_)
  refine wpAny_pure ?_
  rw [if_neg (by decide)]
  refine wpAny_pure ⟨plainId_quiet F.plain_extend_loop _, codeAny_extend_loopS (W A.in1 hh).toS hn _ hSf _ x.cps.size 0 _ _ _ rfl (Nat.zero_le _) hst (Heap.get?_push_of_some _ hS) (ItemsOf.nil _) fun s' acc' c' hm hS' hacc => ?_⟩
  rw [Moved.eq_with hm]
  refine hR s'.heap s'.toks acc' c' (fun b ob hb e => hm.heap b ob (fun hmem => ?_) (Heap.get?_push_of_some _ e)) hS' hacc
  rcases List.mem_cons.mp hmem with e' | hmem
  · exact hb e'
  · exact absurd (Heap.lt_size e) (by rw [List.mem_singleton.mp hmem]; exact Nat.lt_irrefl _)
theorem list_init_str {R : Result → Shared → Prop} (hh : A.handled = none) (x : Str) (t : Tok) (S : Addr) (hS : s.heap.get? S = some { cls := .type "list", data := .seq #[] })
    (hR : ∀ h' tk acc' c', (∀ b o, b ≠ S → s.heap.get? b = some o → h'.get? b = some o) → h'.get? S = some { cls := .type "list", dict := none, data := .seq acc' c', slots := #[] } →
      ItemsOf (SignAt x) acc' x.cps.size → R (.ok (.ret .none)) { s with heap := h', toks := tk }) (hn : x.cps.size ≤ sizeLine) :
    wpAny (model prog w) A.in1 (Builtin.«list.__init__» ⟨[.ref S, .str x t], []⟩)
      (fun fin s' => match fin with | .done f => R (.ok f) s' | .again c' => c'.quiet = true ∧ codeAny (model prog w) A c' R s') (fun e s' => R (.error e) s') s := by
  show wpAny _ _ (do let old ← Builtin.List.listItems (.ref S); Builtin.List.listUpdate (.ref S) (fun _ => #[]); letGo old.toList.reverse; Builtin.List.listExtendWith (.ref S) (.str x t) .none) _ _ s
  refine wpAny_bind ?_
  unfold Builtin.List.listItems
  refine wpAny_bind (wpAny_seqItems hS rfl (wpAny_pure ?_))
  show wpAny _ _ (updateSeq S (fun _ => #[]) >>= fun _ => letGo (#[] : Array Value).toList.reverse >>= fun _ => Builtin.List.listExtendWith (.ref S) (.str x t) .none) _ _ s
  refine wpAny_bind (wpAny_updateSeq hS rfl ?_)
  have hS₂ := Heap.get?_update_self (Obj.mapSeq (fun _ => (#[] : Array Value))) hS rfl
  have oth : ∀ b o, b ≠ S → s.heap.get? b = some o → (s.heap.update S (Obj.mapSeq (fun _ => (#[] : Array Value)))).get? b = some o :=
    fun b o hb e => (Heap.get?_update_other _ _ (Ne.symm hb)).trans e
  refine wpAny_bind (wpAny_letGo ?_)
  refine extend_str hh x t S .none _ hS₂ (fun h' tk acc' c' hk hS' hacc => ?_) hn
  exact hR h' tk acc' c' (fun b o hb e => hk b o hb (oth b o hb e)) hS' hacc
theorem call_list_str {x : Str} {t : Tok} {Q : Value → Shared → Prop} (hh : A.handled = none) (hn : x.cps.size ≤ sizeLine)
    (hQ : ∀ h' tk acc' c', (∀ b o, s.heap.get? b = some o → h'.get? b = some o) →
      h'.get? s.heap.objs.size = some { cls := .type "list", dict := none, data := .seq acc' c', slots := #[] } → ItemsOf (SignAt x) acc' x.cps.size → Q (.ref s.heap.objs.size) { s with heap := h', toks := tk }) :
    wpAny (model prog w) A (call (.type "list") [.str x t]) Q E s := by
  refine callType_codes (Q₁ := fun obj s₁ => obj = .ref s.heap.objs.size ∧ s₁ = { s with heap := s.heap.push { cls := .type "list", data := .seq #[] } }) PySem.F.called_list (PySem.F.typeCall_list_1 _) PySem.F.entry_list_init
    (code_list_new _ ⟨rfl, rfl⟩) fun obj s₁ h₁ => ?_
  obtain ⟨rfl, rfl⟩ := h₁
  have hS : (s.heap.push { cls := .type "list", data := .seq #[] }).get? s.heap.objs.size = some { cls := .type "list", data := .seq #[] } := Heap.get?_push_size _ rfl
  refine ⟨⟨_, hS, rfl⟩, PySem.F.args_list_init_2 _ _, list_init_str (A := A.in1) hh x t _ hS (fun h' tk acc' c' hk hS' hacc => ?_) hn⟩
  exact ⟨rfl, hQ h' tk acc' c' (fun b o e => hk b o (Nat.ne_of_lt (Heap.lt_size e)) (Heap.get?_push_of_some _ e)) hS' hacc⟩
end
open L2
/-- list(z) -/
theorem cr_listStr {X : Cx} (hc : X.calm = true) : CallR X (.type "list") (fun xs H Q => ∃ z : Str, xs = [V.str z] ∧ z.length ≤ sizeLine ∧ ∀ p, H p = none → Q (.ref p) (upd H p (.lst (z.cps.toList.map fun c => V.str ⟨#[c]⟩)))) := by
  intro pins s σ H xs us Q I r h
  obtain ⟨z, rfl, hz, q⟩ := h
  obtain ⟨u, rfl, rx⟩ := vals1 r
  obtain ⟨t, rfl⟩ := rx
  refine call_list_str (I.ok.hd hc) hz fun h' tk acc' c' hkeep hS hacc => ?_
  refine ⟨.ref s.heap.objs.size, upd H s.heap.objs.size (.lst (z.cps.toList.map fun c => V.str ⟨#[c]⟩)), I.laid hkeep (Nat.le_refl _) (show ObjOk X.prog X.w _ _ _ (.lst (z.cps.toList.map fun c => V.str ⟨#[c]⟩)) from ⟨?_, acc'.toList, c', ?_, ?_⟩), rfl, q _ (I.hok.fresh (Nat.le_refl _))⟩
  · rw [List.length_map]; exact hz
  · refine vals_of_at (by rw [List.length_map]; simp [hacc.1]) fun j x w h1 h2 => ?_
    obtain ⟨c, u, e1, e2⟩ := hacc.2 j w (by rw [← Array.getElem?_toList]; exact h2)
    rw [List.getElem?_map, Array.getElem?_toList, e1] at h1
    cases h1
    subst e2
    exact ⟨u, rfl⟩
  · exact hS
end LR

namespace LK
open PySem PySem.Spec PyProof.Rows L2
/-! ### different names: one of the letters is always left -/
theorem len_sub : ∀ (ls zs : List Str), ls.Nodup → (∀ x, x ∈ ls → x ∈ zs) → ls.length ≤ zs.length
  | [], _, _, _ => Nat.zero_le _
  | a :: r, zs, nd, sub => by
    have ha := sub a List.mem_cons_self
    have nd' := List.nodup_cons.mp nd
    have h := len_sub r (zs.erase a) nd'.2 fun x hx => by
      have ne : x ≠ a := fun e => nd'.1 (e ▸ hx)
      exact (List.mem_erase_of_ne ne).mpr (sub x (List.mem_cons_of_mem _ hx))
    have := List.length_erase_of_mem ha
    have pos : 0 < zs.length := List.length_pos_of_mem ha
    simp only [List.length_cons]
    omega
theorem one_left {zs : List Str} (h : zs.length < 26) : ∃ c, c ∈ letters.cps.toList ∧ (⟨#[c]⟩ : Str) ∉ zs := by
  refine Classical.byContradiction fun no => ?_
  have all : ∀ x, x ∈ (letters.cps.toList.map fun c => (⟨#[c]⟩ : Str)) → x ∈ zs := fun x hx => by
    obtain ⟨c, hc, rfl⟩ := List.mem_map.mp hx
    exact Classical.byContradiction fun n => no ⟨c, hc, n⟩
  have nd : (letters.cps.toList.map fun c => (⟨#[c]⟩ : Str)).Nodup := by decide +kernel
  have := len_sub _ _ nd all
  rw [List.length_map] at this
  have l26 : letters.cps.toList.length = 26 := by decide +kernel
  omega
theorem letter_ok : ∀ c, c ∈ letters.cps.toList → NameOk ⟨#[c]⟩ := fun c hc => by
  have h := letters_low c hc
  refine ⟨(show 0 < 1 by decide), (show 1 ≤ 4 by decide), fun c' hc' => ?_, fun e => ?_, fun e => ?_, fun e => ?_⟩
  · have e : c' = c := by simpa [TL.tl] using hc'
    rw [e]
    exact h
  all_goals
    have e' := congrArg Str.length e
    revert e'
    show 1 = _ → False
    decide +kernel
theorem not_inV {y : Str} {zs : List Str} (no : y ∉ zs) : inV (.str y) (zs.map V.str) = false := by
  cases e : inV (.str y) (zs.map V.str) with
  | false => rfl
  | true =>
    exfalso
    unfold inV at e
    rw [List.any_eq_true] at e
    obtain ⟨v, hv, e⟩ := e
    obtain ⟨z, hz, rfl⟩ := List.mem_map.mp hv
    have e2 : (V.str z = V.str y) := by
      first | exact of_decide_eq_true e | simpa using e | (unfold eqV at e; simpa using e)
    injection e2 with e2
    exact no (e2 ▸ hz)
def spWords : Sp := fun vs H Q _ => ∃ (l : Addr) (n : Nat), vs = [.ref l, .int n] ∧ n ≤ 20 ∧ Feed H l ∧ ∀ (D : Addr) (zs : List Str) (H' : Hp), zs.length = n → (∀ z, z ∈ zs → NameOk z) → zs.Nodup → H D = none → D ≠ l → H' D = some (.lst (zs.map V.str)) → Feed H' l → Keep l H H' → Q (.ref D) H'
section
variable {P : Program} {w : World} {K : PySem.W.Frag} {mg : Str → Option Value} {base : Heap}
def nWords : List Str := ["_law_feed_here", "_law_many", "_law_found", "_law_k", "_law_some", "_law_word_here"]
theorem scWords : FnScope nWords ["_law_feed_here", "_law_many"] (defScope sWords) := ⟨rfl, rfl, rfl, by decide +kernel, rfl, by decide +kernel, by decide +kernel⟩
theorem ok_words {f fW : Addr} {fd fdW : FuncData} (S : Std mg) (F : Fun K "_law_words" "_law_words" sWords f fd) (W : Df K mg "_law_word" sWord fW fdW ["_law_feed_here"]) (GW : FnOk P w K mg base CX0 3 fW fdW ["_law_feed_here"] spWord) :
    FnOk P w K mg base CX0 4 f fd ["_law_feed_here", "_law_many"] spWords := by
  refine F.ok scWords (fun vs H Q E h => ?_) (fun cdv A outer s H vs Q E hr h => ?_)
  · obtain ⟨l, n, rfl, _⟩ := h
    rfl
  · obtain ⟨l, n, rfl, hn, hf, q⟩ := h
    refine ⟨_, pss_cons (ps_set (i := 2) scWords.nd rfl (Or.inr rfl) (pe_lst pa_nil))
      (pss_cons (ps_for PassesOwn.never rfl (pi_range1 (by rfl) S.range (pa_cons (pv 1) pa_nil)) (pg_name (i := 3) scWords.nd rfl (Or.inl rfl))
        (pss_cons (ps_set (i := 4) scWords.nd rfl (Or.inl rfl) (pe_op op_cat (pe_lst (pa_cons (pe_call GW hr rfl W.g W.F.kp W.b .nil pass0 (pa_cons (pv 0) pa_nil)) pa_nil)) (pe_callTy (LR.cr_listStr rfl) (by rfl) S.list (by decide +kernel) (pa_cons pe_str pa_nil))))
        (pss_one (ps_expr (pe_bm PySem.F.plainAttrs_list PySem.F.slot_list_append PySem.F.type_list_append mt_append (pv 2) (pa_cons (pe_ix ix_list (pe_lc (own := [("_law_word_here", 5)]) (g := gName 5) rfl scWords.nd (pi_list (pv 4)) (blkOk_by (N := nWords) (sc := defScope sWords) (by decide +kernel)) (fun _ _ _ _ _ => pg_name (i := 5) scWords.nd rfl (Or.inl rfl))
            (fun _ _ _ _ _ => pts_one (pt_cmpR (show OpR _ _ (rIn K true) from op_notIn_seq) (pv 5) (pv 2) (by rfl))) (fun _ _ _ _ _ => pv 5)) pe_int (fun _ _ => rfl)) pa_nil))))))
      (pss_one (ps_ret (pv 2)))), ?_⟩
    refine ⟨by show 0 ≤ sizeLine; decide, fun D hD => ?_⟩
    have hlD : l ≠ D := hf.ne hD
    refine ⟨_, rfl, n, rfl, by omega, by omega, for_range (lo := 0) (n := (n : Int).toNat) (fun i σ H' => (∃ v3 v4 v5, σ = [some (.ref l), some (.int n), some (.ref D), v3, v4, v5]) ∧ Feed H' l ∧ Keep l H H' ∧ ∃ zs : List Str, zs.length = i ∧ (∀ z, z ∈ zs → NameOk z) ∧ zs.Nodup ∧ H' D = some (.lst (zs.map V.str))) ⟨⟨_, _, _, rfl⟩, hf.same (same_new hD), Keep.new hD, [], rfl, fun z hz => by simp at hz, List.nodup_nil, upd_same⟩ ?_ ?_⟩
    · rintro i σ H1 hi ⟨⟨v3, v4, v5, rfl⟩, hf1, k1, zs, el, hz, nd, h1⟩
      have fl : (zs.map V.str).all flatV = true := by
        rw [List.all_eq_true]
        intro v hv
        obtain ⟨z, _, rfl⟩ := List.mem_map.mp hv
        rfl
      refine ⟨_, rfl, l, rfl, hf1, fun z H2 hz0 hf2 k2 => ⟨by show 1 ≤ sizeLine; decide, fun p1 hp1 => ⟨letters, rfl, by decide +kernel, fun p2 hp2 => ⟨p1, p2, [.str z], _, rfl, rfl, same_new hp2 _ _ upd_same, upd_same, by rw [List.length_map]; show 1 + letters.cps.toList.length ≤ sizeLine; decide +kernel, fun p3 hp3 => ?_⟩⟩⟩⟩
      have s3 := ((same_new (o := .lst [.str z]) hp1).trans (same_new (o := .lst (letters.cps.toList.map fun c => V.str ⟨#[c]⟩)) hp2)).trans (same_new (o := .lst ([.str z] ++ letters.cps.toList.map fun c => V.str ⟨#[c]⟩)) hp3)
      have h3 := s3 _ _ (k2 _ _ hlD.symm h1)
      refine ⟨_, rfl, .inl ⟨rfl, _, SqL.of h3⟩, _, rfl, p3, rfl, ⟨_, SqL.of upd_same⟩, fun D2 hD2 => ?_⟩
      have hp3' : (upd (upd (upd H2 p1 (.lst [.str z])) p2 (.lst (letters.cps.toList.map fun c => V.str ⟨#[c]⟩))) p3 (.lst ([.str z] ++ letters.cps.toList.map fun c => V.str ⟨#[c]⟩))) p3 = some (.lst ([.str z] ++ letters.cps.toList.map fun c => V.str ⟨#[c]⟩)) := upd_same
      have hf3 := hf2.same s3
      have k3 : Keep l H _ := (k1.trans k2).trans (Keep.same s3)
      generalize upd (upd (upd H2 p1 (.lst [.str z])) p2 (.lst (letters.cps.toList.map fun c => V.str ⟨#[c]⟩))) p3 (.lst ([.str z] ++ letters.cps.toList.map fun c => V.str ⟨#[c]⟩)) = H3 at h3 hp3' hf3 k3 hD2 ⊢
      have len27 : ([V.str z] ++ letters.cps.toList.map fun c => V.str ⟨#[c]⟩).length = 27 := by
        rw [List.length_append, List.length_map]
        show 1 + letters.cps.toList.length = 27
        decide +kernel
      have itm : ∀ v, v ∈ ([V.str z] ++ letters.cps.toList.map fun c => V.str ⟨#[c]⟩) → ∃ y, v = V.str y ∧ NameOk y := fun v hv => by
        rcases List.mem_append.mp hv with h | h
        · exact ⟨z, by simpa using h, hz0⟩
        · obtain ⟨c, hc, rfl⟩ := List.mem_map.mp h
          exact ⟨_, rfl, letter_ok c hc⟩
      have lft : ∃ v, v ∈ ([V.str z] ++ letters.cps.toList.map fun c => V.str ⟨#[c]⟩) ∧ inV v (zs.map V.str) = false := by
        obtain ⟨c, hc, no⟩ := one_left (zs := zs) (by omega)
        exact ⟨_, List.mem_append_right _ (List.mem_map_of_mem hc), not_inV no⟩
      generalize ([V.str z] ++ letters.cps.toList.map fun c => V.str ⟨#[c]⟩) = xs at hp3' len27 itm lft ⊢
      refine lc_list (xs := xs) (fun j H' => Keep D2 H3 H' ∧ H' D2 = some (.lst ((xs.take j).filter fun v => !inV v (zs.map V.str)))) ⟨Keep.new hD2, upd_same⟩ (fun j H' _ h => SqL.of (h.1 _ _ (ne_of_none hp3' hD2) hp3')) (fun j x H' hx ⟨k4, d4⟩ => ?_) (fun H' ⟨k4, d4⟩ => ?_)
      · obtain ⟨y, rfl, hy⟩ := itm x (List.mem_of_getElem? hx)
        have h4 := k4 _ _ (ne_of_none h3 hD2) h3
        have tk : xs.take (j + 1) = xs.take j ++ [V.str y] := by rw [List.take_add_one, hx]; rfl
        refine ⟨rfl, _, rfl, _, rfl, D, zs.map V.str, rfl, .inl (SqL.of h4), rfl, fl, ?_⟩
        rw [if_pos rfl]
        refine ⟨_, rfl, ite2 (fun h => ?_) (fun h => ?_)⟩
        · refine ⟨_, rfl, _, d4, ?_, fun b o n e => ?_, ?_⟩
          · have := List.length_filter_le (fun v => !inV v (zs.map V.str)) (xs.take j)
            rw [List.length_take] at this
            exact small1000 (by omega)
          · rw [upd_ne n]
            exact k4 b o n e
          · rw [upd_same, tk, List.filter_append, List.filter_cons, if_pos h]
            rfl
        · refine ⟨k4, ?_⟩
          rw [tk, List.filter_append, List.filter_cons, if_neg h, List.filter_nil, List.append_nil]
          exact d4
      · have full : xs.take xs.length = xs := List.take_length
        rw [full] at d4
        have h4 := k4 _ _ (ne_of_none h3 hD2) h3
        obtain ⟨v, hv, hne⟩ := lft
        have mem : v ∈ xs.filter (fun v => !inV v (zs.map V.str)) := List.mem_filter.mpr ⟨hv, by rw [hne]; rfl⟩
        have all : ∀ u, u ∈ xs.filter (fun v => !inV v (zs.map V.str)) → u ∈ xs ∧ inV u (zs.map V.str) = false := fun u hu => by
          obtain ⟨a, b⟩ := List.mem_filter.mp hu
          exact ⟨a, by simpa using b⟩
        generalize xs.filter (fun v => !inV v (zs.map V.str)) = ys at d4 mem all
        cases ys with
        | nil => cases mem
        | cons u r =>
          obtain ⟨ux, un⟩ := all u List.mem_cons_self
          obtain ⟨y, rfl, hy⟩ := itm u ux
          have ynot : y ∉ zs := fun m => by
            have e : inV (.str y) (zs.map V.str) = true := by
              unfold inV
              rw [List.any_eq_true]
              exact ⟨_, List.mem_map_of_mem m, by show (y == y) = true; simp⟩
            rw [e] at un
            cases un
          refine ⟨D2, _, 0, .str y, rfl, rfl, SqL.of d4, at_of (j := 0) rfl rfl, D, _, _, rfl, rfl, h4, by rw [List.length_map]; exact small1000 (by omega), ?_⟩
          have k5 : Keep l H H' := fun b o n e => k4 b o (ne_of_none (k3 b o n e) hD2) (k3 b o n e)
          have lD2 : l ≠ D2 := hf3.ne hD2
          refine ⟨⟨_, _, _, rfl⟩, (hf3.keep k4 lD2).keep (m := D) Keep.put hlD, fun b o n e => ?_, zs ++ [y], by simp [el], fun u hu => ?_, ?_, ?_⟩
          · rw [upd_ne (ne_of_none e hD)]
            exact k5 b o n e
          · rcases List.mem_append.mp hu with m | m
            · exact hz u m
            · obtain rfl : u = y := by simpa using m
              exact hy
          · refine List.nodup_append.mpr ⟨nd, by simp, fun a ha b hb => ?_⟩
            obtain rfl : b = y := by simpa using hb
            exact fun e => ynot (e ▸ ha)
          · rw [upd_same, List.map_append]
            rfl
    · rintro σ H1 ⟨⟨v3, v4, v5, rfl⟩, hf1, k1, zs, el, hz, nd, h1⟩
      exact ⟨_, rfl, q D zs H1 (by omega) hz nd hD hlD.symm h1 hf1 k1⟩
end
end LK

namespace LK
open PySem PySem.Spec PyProof.Rows L2 LR
/-! ### steps drawn -/
def StOk (cS : Addr) (H : Hp) (v : V) : Prop := ∃ b z y, v = .ref b ∧ StepAt cS H b z y ∧ NameOk z ∧ WaysOk y
theorem Feed.ins {H : Hp} {l b C dx : Addr} {fs : List (Str × V)} (f : Feed H l) (h : H b = some (.ins C dx fs)) : b ≠ l := by
  obtain ⟨a, c, e, _⟩ := f
  exact ne_of h e (by intro z; cases z)
theorem StOk.keep {cS l : Addr} {H H' : Hp} {v : V} (f : Feed H l) (k : Keep l H H') (h : StOk cS H v) : StOk cS H' v := by
  obtain ⟨b, z, y, e, ⟨dx, hb⟩, hz, hy⟩ := h
  exact ⟨b, z, y, e, ⟨dx, k _ _ (f.ins hb) hb⟩, hz, hy⟩
theorem StOk.same {cS : Addr} {H H' : Hp} {v : V} (s : Same H H') (h : StOk cS H v) : StOk cS H' v := by
  obtain ⟨b, z, y, e, ⟨dx, hb⟩, hz, hy⟩ := h
  exact ⟨b, z, y, e, ⟨dx, s _ _ hb⟩, hz, hy⟩
theorem StOk.lst {cS D : Addr} {H : Hp} {ys zs : List V} {v : V} (h : StOk cS H v) (e : H D = some (.lst ys)) : StOk cS (upd H D (.lst zs)) v := by
  obtain ⟨b, z, y, q, ⟨dx, hb⟩, hz, hy⟩ := h
  refine ⟨b, z, y, q, ⟨dx, ?_⟩, hz, hy⟩
  rw [upd_ne (ne_of hb e (by intro z; cases z))]
  exact hb
theorem StOk.is {cS : Addr} {H : Hp} {v : V} (h : StOk cS H v) : IsSt cS H v := by
  obtain ⟨b, z, y, e, st, _⟩ := h
  exact ⟨b, z, y, e, st⟩
/-! ### models drawn -/
def hdV : Hd → V
  | .le => .str "lesser"
  | .gr => .str "greater"
  | .st a _ _ => .ref a
def HdIn (zs : Env9) (h : Hd) : Prop := ∀ a z y, h = .st a z y → (z, y, a) ∈ zs
def HdA (cS : Addr) (zs : Env9) (H : Hp) (v : V) (h : Hd) : Prop := v = hdV h ∧ HdS cS H h ∧ HdIn zs h
/-- v is the law's model of m, less than n deep -/
def MoR (cS : Addr) (zs : Env9) : Nat → Hp → Md → V → Prop
  | 0, _, _, _ => False
  | _ + 1, H, .nm z, v => ∃ p, v = .ref p ∧ H p = some (.tup [.str "name", .str z]) ∧ NameOk z
  | n + 1, H, .ap h ms, v => ∃ (p : Addr) (ks : List (V × Md)), v = .ref p ∧ H p = some (.tup (hdV h :: ks.map (·.1))) ∧ ks.map (·.2) = ms ∧ ks.length = arity h ∧ HdS cS H h ∧ HdIn zs h ∧ ∀ e ∈ ks, MoR cS zs n H e.2 e.1
theorem moR_tr {cS : Addr} {zs : Env9} {H H' : Hp} (t : Tr H H') : ∀ {n : Nat} {m : Md} {v : V}, MoR cS zs n H m v → MoR cS zs n H' m v
  | 0, _, _, h => h.elim
  | _ + 1, .nm _, _, ⟨p, e, hp, no⟩ => ⟨p, e, t.tup _ _ hp, no⟩
  | n + 1, .ap h ms, v, ⟨p, ks, e, hp, em, l, hs, hi, g⟩ => ⟨p, ks, e, t.tup _ _ hp, em, l, hdS_tr t hs, hi, fun e he => moR_tr t (g e he)⟩
theorem MoR.same {cS : Addr} {zs : Env9} {H H' : Hp} {n : Nat} {m : Md} {v : V} (s : Same H H') (h : MoR cS zs n H m v) : MoR cS zs n H' m v := moR_tr (Tr.same s) h
theorem MoR.up {cS : Addr} {zs : Env9} {H : Hp} : ∀ {n n' : Nat} {m : Md} {v : V}, n ≤ n' → MoR cS zs n H m v → MoR cS zs n' H m v
  | 0, _, _, _, _, h => h.elim
  | n + 1, 0, _, _, l, _ => by omega
  | n + 1, n' + 1, .nm _, _, _, h => h
  | n + 1, n' + 1, .ap _ _, _, l, ⟨p, ks, e, hp, em, k, hs, hi, g⟩ => ⟨p, ks, e, hp, em, k, hs, hi, fun e he => (g e he).up (by omega)⟩
/-- no deeper than there are parts -/
theorem moR_low {cS : Addr} {zs : Env9} {H : Hp} : ∀ {n k : Nat} {m : Md} {v : V}, MoR cS zs n H m v → sz m ≤ k → MoR cS zs k H m v
  | 0, _, _, _, h, _ => h.elim
  | n + 1, 0, m, _, _, l => absurd l (by have := sz_pos m; omega)
  | n + 1, k + 1, .nm z, e, h, _ => h
  | n + 1, k + 1, .ap hd ms, e, ⟨p, ks, e1, hp, em, l, hs, hi, g⟩, le => ⟨p, ks, e1, hp, em, l, hs, hi, fun e he => moR_low (g e he) (by
      obtain ⟨j, hj⟩ := List.getElem?_of_mem he
      have h1 : ms[j]? = some e.2 := by rw [← em, List.getElem?_map, hj]; rfl
      have := szL_mem h1
      rw [sz] at le
      omega)⟩
theorem find_mem : ∀ {zs : Env9} {z y : Str} {a : Addr}, (zs.map fun e => e.1).Nodup → (z, y, a) ∈ zs → zs.find? (fun e => decide (e.1 = z)) = some (z, y, a)
  | [], _, _, _, _, m => nomatch m
  | x :: zs, z, y, a, nd, m => by
    rw [List.map_cons, List.nodup_cons] at nd
    rw [List.find?_cons]
    rcases List.mem_cons.mp m with e | m
    · rw [← e, decide_eq_true rfl]
    · have ne : ¬ x.1 = z := fun e => nd.1 (by rw [e]; exact List.mem_map_of_mem (f := fun e : Str × Str × Addr => e.1) m)
      rw [decide_eq_false ne]
      exact find_mem nd.2 m
theorem MoR.ok {cS : Addr} {zs : Env9} {H : Hp} (nd : (zs.map fun e => e.1).Nodup) : ∀ {n : Nat} {m : Md} {v : V}, MoR cS zs n H m v → OkT cS H zs n m
  | 0, _, _, h => h.elim
  | _ + 1, .nm _, _, ⟨_, _, _, no⟩ => no
  | n + 1, .ap h ms, v, ⟨p, ks, e, hp, em, l, hs, hi, g⟩ => ⟨hs, by rw [← em, List.length_map, l], fun a z y q => find_mem nd (hi a z y q), fun m hm => by
    rw [← em] at hm
    obtain ⟨e, he, rfl⟩ := List.mem_map.mp hm
    exact (g e he).ok nd⟩
theorem HdA.same {cS : Addr} {zs : Env9} {H H' : Hp} {v : V} {h : Hd} (s : Same H H') (a : HdA cS zs H v h) : HdA cS zs H' v h := ⟨a.1, hdS_tr (Tr.same s) a.2.1, a.2.2⟩
theorem HdA.keep {cS l : Addr} {zs : Env9} {H H' : Hp} {v : V} {h : Hd} (f : Feed H l) (k : Keep l H H') (a : HdA cS zs H v h) : HdA cS zs H' v h := ⟨a.1, hdS_tr (Tr.keep f k) a.2.1, a.2.2⟩
theorem HdA.le {cS : Addr} {zs : Env9} {H : Hp} {v : V} {h : Hd} (a : HdA cS zs H v h) : 1 ≤ arity h ∧ arity h ≤ 3 := by
  obtain ⟨_, hs, _⟩ := a
  cases h with
  | le => exact ⟨by decide, by decide⟩
  | gr => exact ⟨by decide, by decide⟩
  | st a z y => exact ⟨hs.2.2.pos, hs.2.2.len⟩
theorem StE9.keep {cS l : Addr} {H H' : Hp} {e : Str × Str × Addr} (f : Feed H l) (k : Keep l H H') (h : StE9 cS H e) : StE9 cS H' e := by
  obtain ⟨⟨dx, hb⟩, n, w⟩ := h
  exact ⟨⟨dx, k _ _ (f.ins hb) hb⟩, n, w⟩
theorem zs_at {cS : Addr} {H : Hp} {zs : Env9} {v : V} (g : ∀ e ∈ zs, StE9 cS H e) (h : v ∈ zs.map fun e => V.ref e.2.2) : ∃ b z y, (z, y, b) ∈ zs ∧ v = .ref b ∧ StepAt cS H b z y ∧ NameOk z ∧ WaysOk y := by
  obtain ⟨e, he, rfl⟩ := List.mem_map.mp h
  obtain ⟨st, n, w⟩ := g e he
  exact ⟨e.2.2, e.1, e.2.1, he, rfl, st, n, w⟩
def spExprM (K : PySem.W.Frag) (cS : Addr) (zs : Env9) (n : Nat) : Sp := fun vs H Q _ => ∃ (l Sx Nx : Addr) (ns : List Str) (r d : Int), vs = [.ref l, .ref Sx, .ref Nx, .int r, .int d] ∧ 0 ≤ d ∧ d < n ∧ 1 ≤ r ∧ r ≤ 100 ∧ Feed H l ∧ Sx ≠ l ∧ H Sx = some (.lst (zs.map fun e => V.ref e.2.2)) ∧ zs.length ≤ 20 ∧ (∀ e ∈ zs, StE9 cS H e) ∧
  Nx ≠ l ∧ H Nx = some (.lst (ns.map V.str)) ∧ 0 < ns.length ∧ ns.length ≤ 20 ∧ (∀ z ∈ ns, NameOk z) ∧ ∀ v m H', MoR cS zs n H' m v → ((sz m : Nat) : Int) ≤ r → Feed H' l → Keep l H H' → Q v H'
section
variable {P : Program} {w : World} {K : PySem.W.Frag} {mg : Str → Option Value} {base : Heap}
def nExpr : List Str := ["_law_feed_here", "_law_steps", "_law_names", "_law_room", "_law_deep", "_law_some", "_law_step", "_law_head", "_law_many", "_law_left", "_law_parts", "_law_k", "_law_more"]
theorem scExpr : FnScope nExpr ["_law_feed_here", "_law_steps", "_law_names", "_law_room", "_law_deep"] (defScope sExpr) := ⟨rfl, rfl, rfl, by decide +kernel, rfl, by decide +kernel, by decide +kernel⟩
theorem ok_exprM {zs : Env9} {cS fL fD fP f : Addr} {fdL fdD fdP fd : FuncData} (S : Std mg) (c : OwnCl K mg "Step" cS) (n2 : NoAttr K cS "ways") (L : LenM K cS fL fdL sStepLen "Step.__len__") (D : Df K mg "_law_draw" sDraw fD fdD ["_law_feed_here", "_law_many"]) (PK : Df K mg "_law_pick" sPick fP fdP ["_law_feed_here", "_law_items"])
    (F : Df K mg "_law_expr" sExpr f fd ["_law_feed_here", "_law_steps", "_law_names", "_law_room", "_law_deep"]) : ∀ n, FnOk P w K mg base CX0 (n + 3) f fd ["_law_feed_here", "_law_steps", "_law_names", "_law_room", "_law_deep"] (spExprM K cS zs n)
  | 0 => F.F.ok scExpr (fun vs H Q E h => by obtain ⟨_, _, _, _, r, d, _, h1, h2, _⟩ := h; omega) (fun cdv A outer s H vs Q E hr h => by obtain ⟨_, _, _, _, r, d, _, h1, h2, _⟩ := h; omega)
  | n + 1 => by
    have G := ok_exprM (zs := zs) S c n2 L D PK F n
    have GD : FnOk P w K mg base CX0 1 fD fdD ["_law_feed_here", "_law_many"] spDraw := ok_draw S D.F
    have GP : FnOk P w K mg base CX0 2 fP fdP ["_law_feed_here", "_law_items"] (spPick K) := ok_pick S PK.F D
    have GL : FnOk P w K mg base CX0 1 fL fdL ["self"] (spStLen cS) := ok_stLen S c.cl n2 L.F
    refine F.F.ok scExpr (fun vs H Q E h => ?_) (fun cdv A outer s H vs Q E hr h => ?_)
    · obtain ⟨l, Sx, Nx, ns, r, d, rfl, _⟩ := h
      rfl
    · obtain ⟨l, Sx, Nx, ns, r, d, rfl, hd0, hdn, hr1, hr2, hf, nS, hS, lS, gS, nN, hN, lN0, lN, gN, q⟩ := h
      have rm1 : Room 1 _ := hr.mono (by omega)
      have rm2 : Room 2 _ := hr.mono (by omega)
      have rmn : Room (n + 3) _ := hr.mono (by omega)
      refine ⟨_, pss_cons (ps_setLc (i := 5) (own := [("_law_step", 6)]) (g := gName 6) (te := tVar 6) rfl scExpr.nd rfl rfl (sw_true rfl rfl rfl (by decide +kernel)) (pi_list (pv 1)) (blkOk_by (N := nExpr) (sc := defScope sExpr) (by decide +kernel))
            (fun _ _ _ _ _ => pg_name (i := 6) scExpr.nd rfl (Or.inl rfl)) (fun _ _ _ _ _ => pts_one (pt_cmpR op_lt (pe_callB (LR.call_lenOwn (C := cS) (E := fun _ _ _ => False) GL L.at_ L.fn L.b pass0 rm2) (by rfl) S.len PySem.boot_len (pa_cons (pv 6) pa_nil)) (pv 3) (nomark _))) (fun _ _ _ _ _ => pv 6))
        (pss_cons (ps_if (pt_cmpR op_gt (pv 3) pe_int (nomark _)) (pss_one (ps_set (i := 5) scExpr.nd rfl (Or.inl rfl) (pe_op op_cat (pv 5) (pe_lst (pa_cons pe_str (pa_cons pe_str pa_nil)))))) pss_nil)
        (pss_cons (ps_if (PW.pt (pw_or (pt_cmpR (op_eqEnd rm1.units0) (pv 5) (pe_lst pa_nil) (nomark _)) (pw_or (pt_cmpR op_eq (pv 4) pe_int (nomark _)) (pw_or1 (pt_cmpR op_eq (pe_call GD rm1 rfl D.g D.F.kp D.b .nil pass0 (pa_cons (pv 0) (pa_cons pe_int pa_nil))) pe_int (nomark _))))))
            (pss_one (ps_ret (pe_tup (pa_cons pe_str (pa_cons (pe_call GP rm2 rfl PK.g PK.F.kp PK.b .nil pass0 (pa_cons (pv 0) (pa_cons (pv 2) pa_nil))) pa_nil))))) pss_nil)
        (pss_cons (ps_set (i := 7) scExpr.nd rfl (Or.inl rfl) (pe_call GP rm2 rfl PK.g PK.F.kp PK.b .nil pass0 (pa_cons (pv 0) (pa_cons (pv 5) pa_nil))))
        (pss_cons (ps_set (i := 8) scExpr.nd rfl (Or.inl rfl) (pe_ifExp (pt_val (pe_callB call_isi (by rfl) S.isi (by decide +kernel) (pa_cons (pv 7) (pa_cons (pe_bltn (v := .ty "str") (by rfl) S.str (by decide +kernel) rfl) pa_nil)))) pe_int
            (pe_callB (LR.call_lenOwn (C := cS) (E := fun _ _ _ => False) GL L.at_ L.fn L.b pass0 rm2) (by rfl) S.len PySem.boot_len (pa_cons (pv 7) pa_nil))))
        (pss_cons (ps_par (i := 9) (j := 10) rfl scExpr.nd rfl rfl (by decide) rfl rfl (pa_cons (pe_op op_sub (pe_op op_sub (pv 3) pe_int) (pv 8)) (pa_cons (pe_lst pa_nil) pa_nil)) rfl)
        (pss_cons (ps_for PassesOwn.never rfl (pi_range1 (by rfl) S.range (pa_cons (pv 8) pa_nil)) (pg_name (i := 11) scExpr.nd rfl (Or.inl rfl))
            (pss_cons (ps_set (i := 12) scExpr.nd rfl (Or.inl rfl) (pe_call GD rm1 rfl D.g D.F.kp D.b .nil pass0 (pa_cons (pv 0) (pa_cons (pe_op op_add (pv 9) pe_int) pa_nil))))
            (pss_cons (ps_set (i := 9) scExpr.nd rfl (Or.inl rfl) (pe_op op_sub (pv 9) (pv 12)))
            (pss_one (ps_expr (pe_bm PySem.F.plainAttrs_list PySem.F.slot_list_append PySem.F.type_list_append mt_append (pv 10) (pa_cons (pe_call G rmn rfl F.g F.F.kp F.b .nil pass0 (pa_cons (pv 0) (pa_cons (pv 1) (pa_cons (pv 2) (pa_cons (pe_op op_add pe_int (pv 12)) (pa_cons (pe_op op_sub (pv 4) pe_int) pa_nil)))))) pa_nil)))))))
        (pss_one (ps_ret (pe_op op_catA (pe_tup (pa_cons (pv 7) pa_nil)) (pe_callTy call_tuple_of (by rfl) S.tuple (by decide +kernel) (pa_cons (pv 10) pa_nil))))))))))), ?_⟩
      refine ⟨_, rfl, Sx, rfl, ⟨_, SqL.of hS⟩, fun D1 hD1 => lc_list (xs := zs.map fun e => V.ref e.2.2) (fun i H1 => Same H H1 ∧ ∃ xs, H1 D1 = some (.lst xs) ∧ xs.length ≤ i ∧ ∀ v ∈ xs, ∃ k : Hd, HdA cS zs H v k ∧ (arity k : Int) < r)
        ⟨same_new hD1, [], upd_same, Nat.le_refl _, fun _ h => nomatch h⟩ (fun i H1 _ h => SqL.of (h.1 _ _ hS)) (fun i v H1 hv h => ?_) (fun H1 h => ?_)⟩
      · obtain ⟨s1, xs, d1, lx, gx⟩ := h
        have lt := (List.getElem?_eq_some_iff.mp hv).1
        rw [List.length_map] at lt
        obtain ⟨b, z, y, mz, rfl, ⟨dx, hb⟩, hz, hy⟩ := zs_at gS (List.mem_of_getElem? hv)
        have hy3 := hy.len
        refine ⟨rfl, _, rfl, b, dx, _, rfl, s1 _ _ hb, b, z, y, rfl, ⟨dx, s1 _ _ hb⟩, hy3, y.length, rfl, by omega, _, rfl, _, _, rfl, rfl, _, rfl, ite2 (fun lt2 => ?_) (fun nlt => ?_)⟩
        · refine ⟨_, rfl, xs, d1, by rw [sizeLine_eq]; omega, same_put hD1 s1, xs ++ [.ref b], upd_same, by rw [List.length_append]; show xs.length + 1 ≤ i + 1; omega, fun u hu => ?_⟩
          rcases List.mem_append.mp hu with hu | hu
          · exact gx u hu
          · rw [List.mem_singleton.mp hu]
            exact ⟨.st b z y, ⟨rfl, ⟨⟨dx, hb⟩, hz, hy⟩, fun a' z' y' e => by cases e; exact mz⟩, of_decide_eq_true lt2⟩
        · exact ⟨s1, xs, d1, by omega, gx⟩
      obtain ⟨s1, xs, d1, lx, gx⟩ := h
      rw [List.length_map] at lx
      refine gN_key ?_
      dsimp only
      refine seq_key (fun σ' H2 => ∃ D2 xs, σ' = [some (.ref l), some (.ref Sx), some (.ref Nx), some (.int r), some (.int d), some (.ref D2), none, none, none, none, none, none, none] ∧ Same H H2 ∧ H D2 = none ∧ H2 D2 = some (.lst xs) ∧ xs.length ≤ 22 ∧ ∀ v ∈ xs, ∃ k : Hd, HdA cS zs H v k ∧ (arity k : Int) < r)
        (fun key => ⟨_, rfl, _, _, rfl, rfl, _, rfl, ite2 (fun h2 => ?_) (fun h2 => ?_)⟩) (fun σ' H2 h => ?_)
      · have h2 := of_decide_eq_true h2
        refine ⟨_, rfl, (by show 2 ≤ sizeLine; decide), fun p hp => ⟨D1, p, xs, _, rfl, rfl, same_new hp _ _ d1, upd_same, by rw [sizeLine_eq]; show xs.length + 2 ≤ _; omega, fun p2 hp2 => ?_⟩⟩
        have s2 := s1.trans ((same_new (o := .lst [V.str "lesser", V.str "greater"]) hp))
        refine key _ _ ⟨p2, xs ++ [V.str "lesser", V.str "greater"], rfl, s2.trans (same_new hp2), s2.free hp2, upd_same, by rw [List.length_append]; show xs.length + 2 ≤ 22; omega, fun v hv => ?_⟩
        rcases List.mem_append.mp hv with hv | hv
        · exact gx v hv
        · rcases List.mem_cons.mp hv with rfl | hv
          · exact ⟨.le, ⟨rfl, trivial, fun _ _ _ e => nomatch e⟩, h2⟩
          · rw [List.mem_singleton.mp hv]
            exact ⟨.gr, ⟨rfl, trivial, fun _ _ _ e => nomatch e⟩, h2⟩
      · exact key _ _ ⟨D1, xs, rfl, s1, hD1, d1, by omega, gx⟩
      clear d1 gx lx s1 hD1 xs D1 H1
      obtain ⟨D2, xs, rfl, s2, hD2, d2, lx, gx⟩ := h
      have nD : D2 ≠ l := (hf.ne hD2).symm
      refine if_key (fun b H3 => Feed H3 l ∧ Keep l H2 H3 ∧ (b = false → xs ≠ [] ∧ d ≠ 0)) (fun R key => ?_) (fun H3 h => ?_) (fun H3 h => ?_)
      · refine ⟨_, rfl, (by show 0 ≤ sizeLine; decide), fun p hp => ⟨D2, p, xs, rfl, rfl, same_new hp _ _ d2, upd_same, xs.isEmpty, rfl, ?_⟩⟩
        have sp := same_new (o := .lst []) hp
        have f2 := hf.same (s2.trans sp)
        cases hx : xs.isEmpty with
        | true => exact iteT (key _ _ ⟨f2, Keep.same sp, fun e => nomatch e⟩)
        | false =>
          have nx : xs ≠ [] := fun e => by
            rw [e] at hx
            cases hx
          refine iteF ⟨_, rfl, rfl, _, rfl, ite2 (fun _ => key _ _ ⟨f2, Keep.same sp, fun e => nomatch e⟩) (fun z => ?_)⟩
          have dz : d ≠ 0 := fun e => z (decide_eq_true (by rw [e]))
          exact ⟨_, rfl, l, 4, rfl, f2, by decide, by decide, fun x H3 x0 x4 f3 k3 => ⟨rfl, _, rfl, key _ _ ⟨f3, (Keep.same sp).trans k3, fun _ => ⟨nx, dz⟩⟩⟩⟩
      · obtain ⟨f3, k3, _⟩ := h
        refine ⟨_, rfl, _, rfl, l, .ref Nx, (fun v => ∃ z, v = V.str z ∧ NameOk z), rfl, f3, .inr ⟨Nx, ns.map V.str, rfl, nN, SqL.of (k3 _ _ nN (s2 _ _ hN)), by rw [List.length_map]; exact lN0, by rw [List.length_map]; omega, fun v hv => ?_⟩, fun v H4 hv f4 k4 => ⟨(by show 2 ≤ sizeLine; decide), fun p hp => ?_⟩⟩
        · obtain ⟨z, hz, rfl⟩ := List.mem_map.mp hv
          exact ⟨z, rfl, gN z hz⟩
        · obtain ⟨z, rfl, hz⟩ := hv
          exact q (.ref p) (.nm z) _ ⟨p, rfl, upd_same, hz⟩ (by rw [sz]; omega) (f4.same (same_new hp)) (((Keep.same s2).trans k3).trans (k4.trans (Keep.same (same_new hp))))
      · obtain ⟨f3, k3, nb⟩ := h
        obtain ⟨nx, nd⟩ := nb rfl
        have d3 := k3 _ _ nD d2
        refine ⟨_, rfl, _, rfl, l, .ref D2, (fun v => ∃ k : Hd, HdA cS zs H v k ∧ (arity k : Int) < r), rfl, f3, .inr ⟨D2, xs, rfl, nD, SqL.of d3, List.length_pos_iff.mpr nx, by omega, gx⟩, fun hd H4 hP f4 k4 => ?_⟩
        obtain ⟨kh, hk, hkr⟩ := hP
        obtain ⟨k, ek⟩ : ∃ k, k = arity kh := ⟨_, rfl⟩
        rw [← ek] at hkr
        have k04 : Keep l H H4 := ((Keep.same s2).trans k3).trans k4
        have hk4 := hk.keep hf k04
        have k13 : 1 ≤ k ∧ k ≤ 3 := ek ▸ hk.le
        dsimp only
        refine asg_key (fun y H5 => y = .int k ∧ H5 = H4) (fun R key => ?_) (fun y H5 h => ?_)
        · obtain ⟨rfl, hs4, _⟩ := hk4
          subst ek
          cases kh with
          | le => exact ⟨_, rfl, _, _, _, _, true, rfl, .ty "str", .base (.str _), kit_ty (by decide +kernel), true, rfl, iteT (key _ _ ⟨rfl, rfl⟩)⟩
          | gr => exact ⟨_, rfl, _, _, _, _, true, rfl, .ty "str", .base (.str _), kit_ty (by decide +kernel), true, rfl, iteT (key _ _ ⟨rfl, rfl⟩)⟩
          | st b z y =>
            obtain ⟨⟨dx, hb⟩, hz, hy⟩ := hs4
            exact ⟨_, rfl, _, _, _, _, false, rfl, .ty "str", c.ty hb, c.ns, false, rfl, iteF ⟨_, rfl, b, dx, _, rfl, hb, b, z, y, rfl, ⟨dx, hb⟩, hy.len, y.length, rfl, by have := hy.len; omega, key _ _ ⟨rfl, rfl⟩⟩⟩
        obtain ⟨rfl, e4⟩ := h
        rw [e4]
        clear e4 H5
        refine ⟨_, rfl, _, _, rfl, rfl, _, rfl, _, _, rfl, rfl, (by show 0 ≤ sizeLine; decide), fun Pl hPl => ⟨_, _, rfl, ?_⟩⟩
        have sP := same_new (o := .lst []) hPl
        have nP : Pl ≠ l := (f4.ne hPl).symm
        have hP0 : H Pl = none := old_none k04 f4 hPl
        have k05 : Keep l H (upd H4 Pl (.lst [])) := k04.trans (Keep.same sP)
        have f5 := f4.same sP
        have d5 : (upd H4 Pl (.lst [])) Pl = some (.lst []) := upd_same
        generalize upd H4 Pl (.lst []) = H5 at k05 f5 d5 ⊢
        refine ⟨_, rfl, (k : Int), rfl, by omega, by omega, for_range (lo := 0) (n := (k : Int).toNat) (fun i σ' H6 => ∃ (lf : Int) (ks : List (V × Md)) (v11 v12 : Option V), σ' = [some (.ref l), some (.ref Sx), some (.ref Nx), some (.int r), some (.int d), some (.ref D2), none, some hd, some (.int k), some (.int lf), some (.ref Pl), v11, v12] ∧
          Feed H6 l ∧ Keep l H H6 ∧ 0 ≤ lf ∧ lf ≤ 99 ∧ H6 Pl = some (.lst (ks.map (·.1))) ∧ ks.length = i ∧ ((szL (ks.map (·.2)) : Nat) : Int) + lf ≤ r - 1 - k + i ∧ ∀ e ∈ ks, MoR cS zs n H6 e.2 e.1) ⟨r - 1 - k, [], none, none, rfl, f5, k05, by omega, by omega, d5, rfl, by simp [szL], fun _ h => nomatch h⟩ (fun i σ' H6 hi h => ?_) (fun σ' H6 h => ?_)⟩
        · obtain ⟨lf, ks, v11, v12, rfl, f6, k6, lf0, lf1, d6, lm, sr, gm⟩ := h
          refine ⟨_, rfl, _, rfl, _, _, rfl, rfl, l, lf + 1, rfl, f6, by omega, by omega, fun mr H7 m0 m1 f7 k7 => ?_⟩
          refine ⟨_, rfl, _, rfl, _, _, rfl, rfl, ?_⟩
          have k07 := k6.trans k7
          have d7 := k7 _ _ nP d6
          refine ⟨_, rfl, .inl ⟨rfl, _, SqL.of d7⟩, _, rfl, _, rfl, _, rfl, _, rfl, _, _, rfl, rfl, _, rfl, _, _, rfl, rfl, l, Sx, Nx, ns, 1 + mr, d - 1, rfl, by omega, by omega, by omega, by omega, f7, nS, k07 _ _ nS hS, lS, fun v hv => (gS v hv).keep hf k07, nN, k07 _ _ nN hN, lN0, lN, gN, fun m md H8 hm hz8 f8 k8 => ?_⟩
          have d8 := k8 _ _ nP d7
          refine ⟨Pl, ks.map (·.1), m, rfl, rfl, d8, by rw [List.length_map, lm, sizeLine_eq]; omega, lf - mr, ks ++ [(m, md)], _, _, rfl, f8.keep Keep.put nP.symm, fun b o nb e => ?_, by omega, by omega, by rw [upd_same, List.map_append]; rfl, by rw [List.length_append, lm]; rfl, ?_, fun e he => ?_⟩
          · rw [upd_ne (ne_of_none e hP0)]
            exact k8 _ _ nb (k07 _ _ nb e)
          · have e1 : szL ((ks ++ [(m, md)]).map (·.2)) = szL (ks.map (·.2)) + sz md := by
              rw [szL_sum, szL_sum, List.map_append, List.map_append, List.sum_append]
              simp
            rw [e1]
            omega
          · rcases List.mem_append.mp he with he | he
            · exact ((moR_tr (Tr.keep f6 k7) (gm e he)) |> moR_tr (Tr.keep f7 k8)) |> moR_tr (Tr.lst d8)
            · rw [List.mem_singleton.mp he]
              exact moR_tr (Tr.lst d8) hm
        · obtain ⟨lf, ks, v11, v12, rfl, f6, k6, lf0, lf1, d6, lm, sr, gm⟩ := h
          rw [Int.toNat_natCast] at lm
          refine ⟨_, rfl, (by show 1 ≤ sizeLine; decide), fun p hp => ?_⟩
          have s7 := same_new (o := .tup [hd]) hp
          refine ⟨_, rfl, Pl, ks.map (·.1), rfl, .inl ⟨SqL.of (s7 _ _ d6), fun p2 hp2 => ?_⟩⟩
          have s8 := s7.trans (same_new (o := .tup (ks.map (·.1))) hp2)
          refine ⟨p, p2, [hd], ks.map (·.1), rfl, rfl, SqT.of (same_new hp2 _ _ upd_same), SqT.of upd_same, by rw [List.length_map, lm, sizeLine_eq]; show 1 + k ≤ _; omega, fun e => (by cases e), fun _ e => ?_, fun _ _ p3 hp3 => ?_⟩
          · have : ks.length = 0 := by rw [← List.length_map (f := fun e : V × Md => e.1), e]; rfl
            omega
          · have s9 := s8.trans (same_new (o := .tup ([hd] ++ ks.map (·.1))) hp3)
            have hk6 := (hk.keep hf k6).same s9
            refine q (.ref p3) (.ap kh (ks.map (·.2))) _ ⟨p3, ks, rfl, by rw [← hk6.1]; exact upd_same, rfl, by rw [lm, ek], hk6.2.1, hk6.2.2, fun e he => moR_tr (Tr.same s9) (gm e he)⟩ ?_ (f6.same s9) (k6.trans (Keep.same s9))
            rw [sz]
            omega
end
end LK

namespace LK
open PySem PySem.Spec PyProof.Rows L2 LR
/-! ### the expression of a model, made -/
theorem cutV1 (xs : List V) : cutV xs none (some 1) = xs.take 1 := by
  cases xs with
  | nil => rfl
  | cons x r =>
    have e1 : HT.sIx (x :: r).length (x :: r).length (some 1) = 1 := by
      have := HT.sIx_nat (x :: r).length (x :: r).length 1
      rw [show ((1 : Nat) : Int) = 1 from rfl] at this
      rw [this]
      show min 1 (r.length + 1) = 1
      omega
    unfold cutV
    rw [e1]
    rfl
theorem ixN_at {n j : Nat} (h : j < n) : ixN n (j : Int) = some j := by
  unfold ixN
  rw [if_pos (by omega), if_pos (by omega), Int.toNat_natCast]
theorem slB_read {K : PySem.W.Frag} {G : Addr} {H : Hp} {x : V} {xs : List V} {Q : VK} (t : SqT K H G (x :: xs)) (key : ∀ p H', Same H H' → SqT K H' p xs → Q (.ref p) H') : rSlA K (.ref G) (some 1) none H Q := by
  have e0 : HT.sIx (x :: xs).length 0 (some 1) = 1 := by
    have := HT.sIx_nat (x :: xs).length 0 1
    rw [show ((1 : Nat) : Int) = 1 from rfl] at this
    rw [this]
    show min 1 (xs.length + 1) = 1
    omega
  have e1 : HT.sIx (x :: xs).length (x :: xs).length none = xs.length + 1 := rfl
  refine ⟨G, x :: xs, rfl, t, fun h => ?_, fun _ p hp => ?_⟩
  · rw [e0] at h
    exact absurd h.1 (by decide)
  · refine key p _ (same_new hp) ?_
    have c : cutV (x :: xs) (some 1) none = xs := by
      unfold cutV
      rw [e0, e1]
      show xs.take (xs.length + 1 - 1) = xs
      rw [Nat.add_sub_cancel, List.take_length]
    rw [c]
    exact SqT.of upd_same
theorem noPart_read {σ : L2.St} {H : Hp} {Q : Option Int → Hp → Prop} (h : Q none H) : tNoPart σ H Q := h
/-- the operators of Expr, and calls of Step -/
structure OpsF (K : PySem.W.Frag) (mg : Str → Option Value) (C cS fA fR fO fQ fC : Addr) (dA dR dO dQ dC : FuncData) : Prop where
  c : OwnCl K mg "Expr" C
  cT : OwnCl K mg "Step" cS
  sf : PySem.W.selfFirst K C = true
  a : PySem.W.findIn K (.ref C) "__and__" = some (some (.ref fA))
  ra : PySem.W.findIn K (.ref C) "__rand__" = some (some (.ref fR))
  o : PySem.W.findIn K (.ref C) "__or__" = some (some (.ref fO))
  ro : PySem.W.findIn K (.ref C) "__ror__" = some (some (.ref fQ))
  fa : PySem.W.isFn K (.ref fA) = true
  fr : PySem.W.isFn K (.ref fR) = true
  fo : PySem.W.isFn K (.ref fO) = true
  fq : PySem.W.isFn K (.ref fQ) = true
  ba : Binds K dA ["self", "other"] []
  br : Binds K dR ["self", "other"] []
  bo : Binds K dO ["self", "other"] []
  bq : Binds K dQ ["self", "other"] []
  call : CallM K cS fC dC
/-- steps compared -/
structure StF (K : PySem.W.Frag) (mg : Str → Option Value) (cS fS : Addr) (dS : FuncData) : Prop where
  cT : OwnCl K mg "Step" cS
  s1 : NoAttr K cS "name"
  s2 : NoAttr K cS "ways"
  q : EqM K cS sStepEq "Step.__eq__" fS dS
  kS : PySem.W.kitOne K (.type "str") (.ref cS) = some false
def spMadeX (K : PySem.W.Frag) (C cS : Addr) (zs : Env9) (n : Nat) : Sp := fun vs H Q _ => ∃ (l : Addr) (v : V) (m : Md), vs = [.ref l, v] ∧ MoR cS zs n H m v ∧ sz m < 64 ∧ Feed H l ∧ ∀ e H', ExR K C cS n H' m e → Feed H' l → Keep l H H' → Q e H'
theorem PartR.one {K : PySem.W.Frag} {C cS : Addr} {n : Nat} {H : Hp} {m : Md} {y : V} (h : PartR K C cS n H y m) : (∃ z, y = .str z) ∨ (ExR K C cS n H m y ∧ AnIns C H y ∧ ∃ r, y = .ref r) := by
  rcases h with h | ⟨z, e, _⟩
  · obtain ⟨a, dx, fs, e, ha⟩ := h.ins
    exact .inr ⟨h, ⟨a, dx, fs, e, ha⟩, a, e⟩
  · exact .inl ⟨z, e⟩
theorem PartR.noNon {K : PySem.W.Frag} {C cS : Addr} {n : Nat} {H : Hp} {m : Md} {y : V} (h : PartR K C cS n H y m) : (!decide (y = V.non)) = true := by
  rcases h.one with ⟨z, rfl⟩ | ⟨_, _, r, rfl⟩ <;> rfl
/-- two parts put together by an operator -/
theorem bin_readX {K : PySem.W.Frag} {C cS : Addr} {n : Nat} {H : Hp} {m0 m1 : Md} {y0 y1 : V} {hd : Hd} {Q : VK} (few : 1 + (sz m0 + sz m1) < 64) (p0 : PartR K C cS n H y0 m0) (p1 : PartR K C cS n H y1 m1) (nb : ¬ ((∃ z, y0 = .str z) ∧ ∃ z, y1 = .str z))
    (q : ∀ (v : V) (H' : Hp), Same H H' → ExR K C cS (n + 1) H' (.ap hd [m0, m1]) v → Q v H') :
    (AnIns C H y0 ∧ ((∃ z, y1 = V.str z) ∨ AnIns C H y1) ∧ spBinX K C cS hd false [y0, y1] H (fun v H' => (∃ r, v = V.ref r) ∧ Q v H') E0) ∨ (AnIns C H y1 ∧ (∃ z, y0 = V.str z) ∧ spBinX K C cS hd true [y1, y0] H (fun v H' => (∃ r, v = V.ref r) ∧ Q v H') E0) := by
  have isref : ∀ {v : V} {m : Md} {k : Nat} {H' : Hp}, ExR K C cS k H' m v → ∃ r, v = .ref r := fun h => by
    obtain ⟨a, _, _, e, _⟩ := h.ins
    exact ⟨a, e⟩
  rcases p0.one with ⟨z, e0⟩ | ⟨x0, i0, r0, e0⟩
  · rcases p1.one with e1 | ⟨x1, i1, r1, e1⟩
    · exact absurd ⟨⟨z, e0⟩, e1⟩ nb
    · refine .inr ⟨i1, ⟨z, e0⟩, y1, y0, n, m1, m0, rfl, x1, p0, by omega, fun v H' s ex => ⟨isref ex, ?_⟩⟩
      rw [if_pos rfl] at ex
      exact q v H' s ex
  · refine .inl ⟨i0, ?_, y0, y1, n, m0, m1, rfl, x0, p1, few, fun v H' s ex => ⟨isref ex, ?_⟩⟩
    · rcases p1.one with e1 | ⟨_, i1, _⟩
      · exact .inl e1
      · exact .inr i1
    · rw [if_neg Bool.false_ne_true] at ex
      exact q v H' s ex
/-- a model of a name -/
def NmM (H : Hp) (x : V) (m : Md) : Prop := ∃ z px, x = .ref px ∧ H px = some (.tup [.str "name", .str z]) ∧ NameOk z ∧ m = .nm z
theorem MoR.open {cS : Addr} {zs : Env9} {H : Hp} {x : V} {m : Md} : ∀ {n : Nat}, MoR cS zs n H m x → ∃ px, x = .ref px ∧ ((∃ z, H px = some (.tup [.str "name", .str z]) ∧ NameOk z ∧ m = .nm z) ∨ ∃ h ms, H px = some (.tup (hdV h :: ms)) ∧ HdS cS H h ∧ prM m ≠ [] ∧ (∃ l, m = .ap h l))
  | 0, h => h.elim
  | n + 1, h => by
    cases m with
    | nm z =>
      obtain ⟨p, e, hp, no⟩ := h
      exact ⟨p, e, .inl ⟨z, hp, no, rfl⟩⟩
    | ap hd ms =>
      obtain ⟨p, ks, e, hp, em, l, hs, hi, g⟩ := h
      refine ⟨p, e, .inr ⟨hd, _, hp, hs, ?_, ms, rfl⟩⟩
      intro e0
      have e0 : ms = [] := e0
      rw [e0] at em
      have : ks.length = 0 := by rw [← List.length_map (f := fun e : V × Md => e.2), em]; rfl
      have := (HdA.le (zs := zs) (v := hdV hd) ⟨rfl, hs, hi⟩).1
      omega
theorem hdV_name (cS : Addr) (H : Hp) : ∀ {h : Hd}, HdS cS H h → (∃ z : Str, hdV h = .str z ∧ z ≠ "name") ∨ ∃ b z y dx, h = .st b z y ∧ H b = some (.ins cS dx [("name", .str z), ("ways", .str y)])
  | .le, _ => .inl ⟨_, rfl, by decide +kernel⟩
  | .gr, _ => .inl ⟨_, rfl, by decide +kernel⟩
  | .st b z y, h => by
    obtain ⟨dx, hb⟩ := h.1
    exact .inr ⟨b, z, y, dx, rfl, hb⟩
/-- is a head the text x? -/
theorem hd_is {K : PySem.W.Frag} {mg : Str → Option Value} {cS fS : Addr} {dS : FuncData} {H : Hp} {h : Hd} {x : Str} {Q : VK} (I : StF K mg cS fS dS) (hs : HdS cS H h) (q : Q (.bl (decide (hdV h = V.str x))) H) :
    rEq (hdV h) (.str x) H Q ∨ ∃ a dx fs t, hdV h = V.ref a ∧ H a = some (.ins cS dx fs) ∧ TyX K H (.str x) t ∧ PySem.W.notFirst K cS t = true ∧ spEqB K cS [V.ref a, .str x] H (fun v H' => ∃ b, v = .bl b ∧ Q (.bl b) H') E0 := by
  cases h with
  | le => exact .inl ⟨rfl, q⟩
  | gr => exact .inl ⟨rfl, q⟩
  | st b z y =>
    obtain ⟨dx, hb⟩ := hs.1
    refine .inr ⟨b, dx, _, _, rfl, hb, .base (.str x), nf_str, b, .str x, z, y, rfl, ⟨dx, hb⟩, .inr ⟨_, .base (.str x), I.kS, false, rfl, ?_⟩⟩
    rw [decide_eq_false (show ¬ hdV (.st b z y) = V.str x from fun e => by cases e)] at q
    exact q
section
variable {P : Program} {w : World} {K : PySem.W.Frag} {mg : Str → Option Value} {base : Heap}
def nMade : List Str := ["_law_feed_here", "_law_model", "_law_head", "_law_parts", "_law_part", "_law_bare", "_law_at"]
theorem scMade : FnScope nMade ["_law_feed_here", "_law_model"] (defScope sMade) := ⟨rfl, rfl, rfl, by decide +kernel, rfl, by decide +kernel, by decide +kernel⟩
theorem ok_madeX {zs : Env9} {C cS fE fA fR fO fQ fC fD fN f : Addr} {dE dA dR dO dQ dC fdD fdN fd : FuncData} (S : Std mg) (I : StF K mg cS fE dE) (O : OpsF K mg C cS fA fR fO fQ fC dA dR dO dQ dC)
    (GA : FnOk P w K mg base CX0 7 fA dA ["self", "other"] (spBinX K C cS .le false)) (GR : FnOk P w K mg base CX0 7 fR dR ["self", "other"] (spBinX K C cS .le true)) (GO : FnOk P w K mg base CX0 7 fO dO ["self", "other"] (spBinX K C cS .gr false)) (GQ : FnOk P w K mg base CX0 7 fQ dQ ["self", "other"] (spBinX K C cS .gr true))
    (GC : FnOk P w K mg base CX0 7 fC dC ["self", "first", "second", "third"] (spCallX K C cS)) (D : Df K mg "_law_draw" sDraw fD fdD ["_law_feed_here", "_law_many"]) (N : Df K mg "named" sNamed fN fdN ["word"]) (GN : FnOk P w K mg base CX0 4 fN fdN ["word"] (spNamedX K C cS))
    (F : Df K mg "_law_made" sMade f fd ["_law_feed_here", "_law_model"]) : ∀ n, FnOk P w K mg base CX0 (n + 8) f fd ["_law_feed_here", "_law_model"] (spMadeX K C cS zs n)
  | 0 => F.F.ok scMade (fun vs H Q E h => by obtain ⟨_, _, _, _, h, _⟩ := h; exact h.elim) (fun cdv A outer s H vs Q E hr h => by obtain ⟨_, _, _, _, h, _⟩ := h; exact h.elim)
  | n + 1 => by
    have G := ok_madeX (zs := zs) S I O GA GR GO GQ GC D N GN F n
    have GD : FnOk P w K mg base CX0 1 fD fdD ["_law_feed_here", "_law_many"] spDraw := ok_draw S D.F
    have GE : FnOk P w K mg base CX0 1 fE dE ["self", "other"] (spEqB K cS) := ok_stepEqB S I.cT I.s1 I.s2 I.q.F
    have C1 : FnR P w K mg base CX0 7 fC (fun vs H Q E => spCallX K C cS (vs ++ [V.non, V.non]) H Q E) := GC.raw O.call.b2 (.cons rfl (.cons rfl .nil))
    have C2 : FnR P w K mg base CX0 7 fC (fun vs H Q E => spCallX K C cS (vs ++ [V.non]) H Q E) := GC.raw O.call.b1 (.cons rfl .nil)
    have C3 : FnR P w K mg base CX0 7 fC (fun vs H Q E => spCallX K C cS (vs ++ []) H Q E) := GC.raw O.call.b0 .nil
    refine F.F.ok scMade (fun vs H Q E h => ?_) (fun cdv A outer s H vs Q E hr h => ?_)
    · obtain ⟨l, v, m, rfl, _⟩ := h
      rfl
    · obtain ⟨l, v, m, rfl, hm, short, hf, q⟩ := h
      have rm1 : Room 1 _ := hr.mono (by omega)
      have rm4 : Room 4 _ := hr.mono (by omega)
      have rm7 : Room 7 _ := hr.mono (by omega)
      refine ⟨_, pss_cons (ps_if (pt_cmpR (op_or op_eq (op_eqOwn (C := cS) (E := E0) GE I.q.at_ I.q.fn I.q.b pass0 rm1)) (pe_ix ix_tup (pv 1) pe_int (fun _ _ => rfl)) pe_str (nomark _)) (pss_one (ps_ret (pe_call GN rm4 rfl N.g N.F.kp N.b .nil pass0 (pa_cons (pe_ix ix_tup (pv 1) pe_int (fun _ _ => rfl)) pa_nil)))) pss_nil)
        (pss_cons (ps_par (i := 2) (j := 3) rfl scMade.nd rfl rfl (by decide) rfl rfl (pa_cons (pe_ix ix_tup (pv 1) pe_int (fun _ _ => rfl)) (pa_cons (pe_lc (own := [("_law_part", 4)]) (g := gName 4) (tt := tYes) rfl scMade.nd
            (pi_tup (pe_slice sl_tupA (pv 1) (po_some pe_int) po_none)) (blkOk_by (N := nMade) (sc := defScope sMade) (by decide +kernel)) (fun _ _ _ _ _ => pg_name (i := 4) scMade.nd rfl (Or.inl rfl)) (fun _ _ _ _ _ => pts_nil)
            (fun _ _ _ _ _ => pe_call G hr rfl F.g F.F.kp F.b .nil pass0 (pa_cons (pv 0) (pa_cons (pv 4) pa_nil)))) pa_nil)) rfl)
        (pss_cons (ps_setLc (i := 5) (own := [("_law_at", 6)]) (g := gName 6) (te := tVar 6)
            (tt := tAnd (tTest (tOp (fun x y H Q => rEq x y H Q ∨ ∃ a dx fs t, x = V.ref a ∧ H a = some (.ins cS dx fs) ∧ TyX K H y t ∧ PySem.W.notFirst K cS t = true ∧ spEqB K cS [V.ref a, y] H (fun v H' => ∃ b, v = .bl b ∧ Q (.bl b) H') E0) (tOp (rIxT K) (tOp (rIxT K) (tVar 1) (tOp (rI0 fun i j => .int (i + j)) (tC (.int 1)) (tVar 6))) (tC (.int 0))) (tC (.str "name"))))
              (tTest (tOp rEq (tCall spDraw [] E0 (tCons (tVar 0) (tCons (tC (.int 2)) tNil))) (tC (.int 0)))))
            rfl scMade.nd rfl rfl (sw_true rfl rfl rfl (by decide +kernel)) (pi_range1 (by rfl) S.range (pa_cons (pe_callB call_len_seq (by rfl) S.len PySem.boot_len (pa_cons (pv 3) pa_nil)) pa_nil)) (blkOk_by (N := nMade) (sc := defScope sMade) (by decide +kernel))
            (fun _ _ _ _ _ => pg_name (i := 6) scMade.nd rfl (Or.inl rfl))
            (fun _ _ _ _ _ => pts_one (PW.pt (pw_and (pt_cmpR (op_or op_eq (op_eqOwn (C := cS) (E := E0) GE I.q.at_ I.q.fn I.q.b pass0 rm1)) (pe_ix ix_tup (pe_ix ix_tup (pv 1) (pe_op op_add pe_int (pv 6)) (fun _ _ => rfl)) pe_int (fun _ _ => rfl)) pe_str (nomark _))
                (pw_and1 (pt_cmpR op_eq (pe_call GD rm1 rfl D.g D.F.kp D.b .nil pass0 (pa_cons (pv 0) (pa_cons pe_int pa_nil))) pe_int (nomark _)))))) (fun _ _ _ _ _ => pv 6))
        (pss_cons (ps_for PassesOwn.never rfl (pi_list (pe_ifExp (pt_val (pe_callB call_isi (by rfl) S.isi (by decide +kernel) (pa_cons (pv 2) (pa_cons (pe_bltn (v := .ty "str") (by rfl) S.str (by decide +kernel) rfl) pa_nil)))) (pe_slice sl_list (pv 5) po_none (po_some pe_int)) (pv 5))) (pg_name (i := 6) scMade.nd rfl (Or.inl rfl))
            (pss_one (ps_asg (pe_ix ix_tup (pe_ix ix_tup (pv 1) (pe_op op_add pe_int (pv 6)) (fun _ _ => rfl)) pe_int (fun _ _ => rfl)) (pg_sub (pv 3) (pv 6) set_list))))
        (pss_cons (ps_if (pt_cmpR (op_or op_eq (op_eqOwn (C := cS) (E := E0) GE I.q.at_ I.q.fn I.q.b pass0 rm1)) (pv 2) pe_str (nomark _)) (pss_one (ps_ret (pe_op (op_or (op_binOwn (C := C) (E := E0) GA O.sf str_and O.a O.fa O.ba pass0 rm7) (op_binRef (C := C) (E := E0) GR O.sf str_and O.a O.ra O.fr O.br pass0 rm7)) (pe_ix ix_list (pv 3) pe_int (fun _ _ => rfl)) (pe_ix ix_list (pv 3) pe_int (fun _ _ => rfl))))) pss_nil)
        (pss_cons (ps_if (pt_cmpR (op_or op_eq (op_eqOwn (C := cS) (E := E0) GE I.q.at_ I.q.fn I.q.b pass0 rm1)) (pv 2) pe_str (nomark _)) (pss_one (ps_ret (pe_op (op_or (op_binOwn (C := C) (E := E0) GO O.sf str_or O.o O.fo O.bo pass0 rm7) (op_binRef (C := C) (E := E0) GQ O.sf str_or O.o O.ro O.fq O.bq pass0 rm7)) (pe_ix ix_list (pv 3) pe_int (fun _ _ => rfl)) (pe_ix ix_list (pv 3) pe_int (fun _ _ => rfl))))) pss_nil)
        (pss_cons (ps_if (pt_cmpR op_eq (pe_callB call_len_seq (by rfl) S.len PySem.boot_len (pa_cons (pv 3) pa_nil)) pe_int (nomark _)) (pss_one (ps_ret (StX.pe_callO (E := E0) (pv 2) O.call.o C1 rm7 pass0 (pa_cons (pe_ix ix_list (pv 3) pe_int (fun _ _ => rfl)) pa_nil)))) pss_nil)
        (pss_cons (ps_if (pt_cmpR op_eq (pe_callB call_len_seq (by rfl) S.len PySem.boot_len (pa_cons (pv 3) pa_nil)) pe_int (nomark _)) (pss_one (ps_ret (StX.pe_callO (E := E0) (pv 2) O.call.o C2 rm7 pass0 (pa_cons (pe_ix ix_list (pv 3) pe_int (fun _ _ => rfl)) (pa_cons (pe_ix ix_list (pv 3) pe_int (fun _ _ => rfl)) pa_nil))))) pss_nil)
        (pss_one (ps_ret (StX.pe_callO (E := E0) (pv 2) O.call.o C3 rm7 pass0 (pa_cons (pe_ix ix_list (pv 3) pe_int (fun _ _ => rfl)) (pa_cons (pe_ix ix_list (pv 3) pe_int (fun _ _ => rfl)) (pa_cons (pe_ix ix_list (pv 3) pe_int (fun _ _ => rfl)) pa_nil))))))))))))), ?_⟩
      cases m with
      | nm z =>
        obtain ⟨p, rfl, hp, hz⟩ := hm
        have tp : SqT K H p [.str "name", .str z] := SqT.of hp
        refine ⟨_, rfl, p, _, 0, .str "name", rfl, rfl, tp, rfl, .inl ⟨rfl, _, rfl, ?_⟩⟩
        rw [decide_eq_true (show V.str "name" = V.str "name" from rfl)]
        refine iteT ⟨_, rfl, p, _, 1, .str z, rfl, rfl, tp, rfl, z, rfl, hz, fun e H' s' ex => ?_⟩
        exact q e H' (ex.up (by omega)) (hf.same s') (Keep.same s')
      | ap kh ms =>
      obtain ⟨p, ks, rfl, hp, em, la, hs, hi, gm⟩ := hm
      have tp : SqT K H p (hdV kh :: ks.map (·.1)) := SqT.of hp
      have m3 := (HdA.le (zs := zs) (v := hdV kh) ⟨rfl, hs, hi⟩)
      have each : ∀ e ∈ ks, sz e.2 ≤ szL ms := fun e he => by
        obtain ⟨j, hj⟩ := List.getElem?_of_mem he
        exact szL_mem (i := j) (by rw [← em, List.getElem?_map, hj]; rfl)
      have szh : sz (.ap kh ms) = 1 + szL ms := by rw [sz]
      rw [szh] at short
      refine seq_key (fun σ' H' => σ' = [some (.ref l), some (.ref p), none, none, none, none, none] ∧ H' = H) (fun key => ?_) (fun σ' H' h => ?_)
      · refine ⟨_, rfl, p, _, 0, hdV kh, rfl, rfl, tp, at_of (j := 0) rfl rfl, hd_is I hs ⟨_, rfl, ?_⟩⟩
        have no : ¬ hdV kh = V.str "name" := by
          rcases hdV_name cS H hs with ⟨z, e, ne⟩ | ⟨b, z, y, dx, e, _⟩
          · rw [e]
            intro h
            injection h with h
            exact ne h
          · rw [e]
            intro h
            cases h
        rw [decide_eq_false no]
        exact iteF (key _ _ ⟨rfl, rfl⟩)
      obtain ⟨rfl, e⟩ := h
      rw [e]
      clear e H'
      refine ⟨_, rfl, p, _, 0, hdV kh, rfl, rfl, tp, at_of (j := 0) rfl rfl, _, rfl, 1, rfl, ?_⟩
      refine noPart_read ?_
      refine slB_read tp fun p3 H3 s3 t3 => ?_
      have f3 := hf.same s3
      refine ⟨p3, rfl, ⟨_, t3⟩, fun Dp hDp => lc_tup (xs := ks.map fun e : V × Md => e.1) (fun i H4 => Feed H4 l ∧ Keep l H3 H4 ∧ ∃ es : List (V × Md), H4 Dp = some (.lst (es.map (·.1))) ∧ es.map (·.2) = (ks.take i).map (·.2) ∧ ∀ e ∈ es, ExR K C cS n H4 e.2 e.1)
        ⟨f3.same (same_new hDp), Keep.new hDp, [], upd_same, rfl, fun _ h => nomatch h⟩ (fun i H4 _ h => sqT_tr (Tr.keep f3 h.2.1) t3) (fun i x H4 hx h => ?_) (fun H4 h => ?_)⟩
      · obtain ⟨f4, k4, es, d4, le, ge⟩ := h
        have nDp : Dp ≠ l := (f3.ne hDp).symm
        rw [List.getElem?_map] at hx
        obtain ⟨e0, he0, rfl⟩ := Option.map_eq_some_iff.mp hx
        have lt : i < ks.length := (List.getElem?_eq_some_iff.mp he0).1
        have m0 := List.mem_of_getElem? he0
        have lel : es.length = i := by
          have e := congrArg List.length le
          rw [List.length_map, List.length_map, List.length_take] at e
          omega
        refine ⟨rfl, _, rfl, _, rfl, l, e0.1, e0.2, rfl, moR_tr ((Tr.same s3).trans (Tr.keep f3 k4)) (gm e0 m0), by have := each e0 m0; omega, f4, fun e H5 ex f5 k5 => ?_⟩
        have d5 := k5 _ _ nDp d4
        refine ⟨es.map (·.1), d5, by rw [List.length_map, lel, sizeLine_eq]; omega, f5.keep Keep.put nDp.symm, fun b o nb e => by rw [upd_ne (ne_of_none e hDp)]; exact k5 _ _ nb (k4 _ _ nb e), es ++ [(e, e0.2)], by rw [upd_same, List.map_append]; rfl, by rw [List.map_append, le, List.take_add_one, he0, List.map_append]; rfl, fun u hu => ?_⟩
        rcases List.mem_append.mp hu with hu | hu
        · exact exR_tr ((Tr.keep f4 k5).trans (Tr.lst d5)) (ge u hu)
        · rw [List.mem_singleton.mp hu]
          exact exR_tr (Tr.lst d5) ex
      obtain ⟨f4, k4, es, d4, le, ge⟩ := h
      rw [List.length_map, List.take_length] at le
      have lel : es.length = ks.length := by
        have e := congrArg List.length le
        rwa [List.length_map, List.length_map] at e
      refine ⟨_, _, rfl, ?_⟩
      have k04 : Keep l H H4 := (Keep.same s3).trans k4
      have t04 : Tr H H4 := Tr.keep hf k04
      refine ⟨_, rfl, Dp, _, rfl, .inl (SqL.of d4), (((es.map (·.1)).length : Nat) : Int), rfl, by rw [List.length_map]; omega, by rw [List.length_map]; omega, fun Db hDb => lc_range (lo := 0) (n := (((es.map (·.1)).length : Nat) : Int).toNat) (fun i H5 => Feed H5 l ∧ Keep l H4 H5 ∧ ∃ bs : List Nat, H5 Db = some (.lst (bs.map fun b : Nat => V.int (b : Int))) ∧ bs.length ≤ i ∧ ∀ b ∈ bs, ∃ e, ks[b]? = some e ∧ NmM H e.1 e.2)
        ⟨f4.same (same_new hDb), Keep.new hDb, [], upd_same, Nat.le_refl _, fun _ h => nomatch h⟩ (fun i H5 lt h => ?_) (fun H5 h => ?_)⟩
      · obtain ⟨f5, k5, bs, d5, lb, gb⟩ := h
        rw [Int.toNat_natCast, List.length_map] at lt
        have nDb : Db ≠ l := (f4.ne hDb).symm
        have hx : ks[i]? = some (ks[i]'(by omega)) := List.getElem?_eq_getElem _
        generalize ks[i]'(by omega) = e0 at hx
        have t05 : Tr H H5 := t04.trans (Tr.keep f4 k5)
        have put : ∀ {H6 : Hp} {o : HO}, Keep l H4 H6 → Keep l H4 (upd H6 Db o) := fun {H6 o} k b u nb e => by
          rw [upd_ne (ne_of_none e hDb)]
          exact k _ _ nb e
        obtain ⟨px, ex, hpx⟩ := (gm e0 (List.mem_of_getElem? hx)).open
        have at_ : atI (hdV kh :: ks.map (·.1)) (1 + (0 + (i : Int))) = some (.ref px) := at_of (j := i + 1) (by omega) (by rw [List.getElem?_cons_succ, List.getElem?_map, hx, ← ex]; rfl)
        rcases hpx with ⟨z, hz1, hz2, hz3⟩ | ⟨h', ms', hq, hh', _⟩
        · refine ⟨rfl, _, rfl, _, rfl, _, _, rfl, rfl, p, _, _, .ref px, rfl, rfl, sqT_tr t05 tp, at_, px, _, 0, .str "name", rfl, rfl, SqT.of (t05.tup _ _ hz1), rfl, .inl ⟨rfl, _, rfl, ?_⟩⟩
          rw [decide_eq_true (show V.str "name" = V.str "name" from rfl)]
          refine iteT ⟨_, rfl, l, 2, rfl, f5, by decide, by decide, fun dd H6 _ _ f6 k6 => ⟨rfl, _, rfl, ite2 (fun _ => ?_) (fun _ => ?_)⟩⟩
          · have d6 := k6 _ _ nDb d5
            refine ⟨_, rfl, _, d6, by rw [List.length_map, sizeLine_eq]; omega, f6.keep Keep.put nDb.symm, put (k5.trans k6), bs ++ [i], ?_, by rw [List.length_append]; show bs.length + 1 ≤ i + 1; omega, fun b hb => ?_⟩
            · rw [upd_same, List.map_append, Int.zero_add]
              rfl
            · rcases List.mem_append.mp hb with hb | hb
              · exact gb b hb
              · rw [List.mem_singleton.mp hb]
                exact ⟨e0, hx, z, px, ex, hz1, hz2, hz3⟩
          · exact ⟨f6, k5.trans k6, bs, k6 _ _ nDb d5, by omega, gb⟩
        · have stay : Feed H5 l ∧ Keep l H4 H5 ∧ ∃ bs : List Nat, H5 Db = some (.lst (bs.map fun b : Nat => V.int (b : Int))) ∧ bs.length ≤ i + 1 ∧ ∀ b ∈ bs, ∃ e, ks[b]? = some e ∧ NmM H e.1 e.2 := ⟨f5, k5, bs, d5, by omega, gb⟩
          have hh5 := hdS_tr t05 hh'
          have no : ¬ hdV h' = V.str "name" := by
            rcases hdV_name cS H hh' with ⟨z, e, ne⟩ | ⟨b, z, y, dx, e, _⟩
            · rw [e]
              intro h
              injection h with h
              exact ne h
            · rw [e]
              intro h
              cases h
          refine ⟨rfl, _, rfl, _, rfl, _, _, rfl, rfl, p, _, _, .ref px, rfl, rfl, sqT_tr t05 tp, at_, px, _, 0, hdV h', rfl, rfl, SqT.of (t05.tup _ _ hq), at_of (j := 0) rfl rfl, hd_is I hh5 ⟨_, rfl, ?_⟩⟩
          rw [decide_eq_false no]
          exact iteF (iteF stay)
      obtain ⟨f5, k5, bs, d5, lb, gb⟩ := h
      have k05 : Keep l H H5 := k04.trans k5
      have t05 : Tr H H5 := Tr.keep hf k05
      have hDp0 : H Dp = none := s3.free hDp
      have nDp : Dp ≠ l := (f3.ne hDp).symm
      have d5p := k5 _ _ nDp d4
      have hDb0 : Db ≠ Dp := fun e => by
        rw [e, d4] at hDb
        cases hDb
      have g5 : ∀ e ∈ es, ExR K C cS n H5 e.2 e.1 := fun e he => exR_tr (Tr.keep f4 k5) (ge e he)
      refine gN_key ?_
      dsimp only
      change tIf (tB _) _ _ _ _ _
      refine te_key (fun y H6 => ∃ (Lb : Addr) (cs : List Nat), y = .ref Lb ∧ H6 Lb = some (.lst (cs.map fun b : Nat => V.int (b : Int))) ∧ Same H5 H6 ∧ Lb ≠ Dp ∧ (∀ b ∈ cs, ∃ e, ks[b]? = some e ∧ NmM H e.1 e.2) ∧ ((∃ z, hdV kh = .str z) → cs.length ≤ 1)) (fun R key => ?_) (fun y H6 h => ?_)
      · rcases hdV_name cS H hs with ⟨z, e, _⟩ | ⟨b', z', y', dxs, e, hb'⟩
        · rw [e]
          refine ⟨_, rfl, _, _, _, _, true, rfl, .ty "str", .base (.str _), kit_ty (by decide +kernel), true, rfl, iteT ⟨_, rfl, 1, rfl, Db, _, rfl, SqL.of d5, fun q6 hq6 => key _ _ ⟨q6, bs.take 1, rfl, ?_, same_new hq6, ?_, fun b hb => gb b (List.mem_of_mem_take hb), fun _ => by rw [List.length_take]; omega⟩⟩⟩
          · rw [upd_same, cutV1, List.map_take]
          · exact fun e => by
              rw [e, d5p] at hq6
              cases hq6
        · subst e
          exact ⟨_, rfl, _, _, _, _, false, rfl, .ty "str", I.cT.ty (t05.ins _ _ _ _ hb'), I.cT.ns, false, rfl, iteF ⟨_, rfl, key _ _ ⟨Db, bs, rfl, d5, Same.refl _, hDb0, gb, fun ⟨z, e⟩ => by cases e⟩⟩⟩
      obtain ⟨Lb, cs, rfl, dL, s6, nL, gc, c1⟩ := h
      have f6 := f5.same s6
      have k06 : Keep l H H6 := k05.trans (Keep.same s6)
      refine ⟨Lb, rfl, ⟨_, SqL.of dL⟩, for_list (xs := cs.map fun b : Nat => V.int (b : Int)) (fun i σ' H7 => ∃ (v6 : Option V) (ys : List V), σ' = [some (.ref l), some (.ref p), some (hdV kh), some (.ref Dp), none, some (.ref Db), v6] ∧ Feed H7 l ∧ Keep l H H7 ∧ H7 Lb = some (.lst (cs.map fun b : Nat => V.int (b : Int))) ∧ H7 Dp = some (.lst ys) ∧ ys.length = ks.length ∧
          (∀ (j : Nat) (y : V) (e : V × Md), ys[j]? = some y → ks[j]? = some e → PartR K C cS n H7 y e.2) ∧ ∀ (j : Nat) (z : Str), ys[j]? = some (.str z) → ∃ k, k < i ∧ cs[k]? = some j)
        ⟨none, es.map (·.1), rfl, f6, k06, dL, s6 _ _ d5p, by rw [List.length_map, lel], fun j y e h1 h2 => ?_, fun j z hz => ?_⟩ (fun i σ' H7 _ h => ?_) (fun i v σ' H7 hv h => ?_) (fun σ' H7 h => ?_)⟩
      · rw [List.getElem?_map] at h1
        obtain ⟨u, hu, rfl⟩ := Option.map_eq_some_iff.mp h1
        have e2 : u.2 = e.2 := by
          have a := congrArg (fun l : List Md => l[j]?) le
          simp only [List.getElem?_map, hu, h2] at a
          exact Option.some.inj a
        rw [← e2]
        exact .inl ((g5 u (List.mem_of_getElem? hu)).same s6)
      · rw [List.getElem?_map] at hz
        obtain ⟨u, hu, e⟩ := Option.map_eq_some_iff.mp hz
        obtain ⟨a, _, _, e', _⟩ := (g5 u (List.mem_of_getElem? hu)).ins
        rw [e'] at e
        cases e
      · obtain ⟨v6, ys, rfl, f7, k7, dL7, _⟩ := h
        exact SqL.of dL7
      · obtain ⟨v6, ys, rfl, f7, k7, dL7, dP7, ly, gy, sy⟩ := h
        rw [List.getElem?_map] at hv
        obtain ⟨cc, hcc, rfl⟩ := Option.map_eq_some_iff.mp hv
        obtain ⟨e0, hx, z, px, ex, hpx, hz, em0⟩ := gc cc (List.mem_of_getElem? hcc)
        have t7 := Tr.keep hf k7
        have at_ : atI (hdV kh :: ks.map (·.1)) (1 + (cc : Int)) = some (.ref px) := at_of (j := cc + 1) (by omega) (by rw [List.getElem?_cons_succ, List.getElem?_map, hx, ← ex]; rfl)
        have lc : cc < ys.length := by
          rw [ly]
          exact (List.getElem?_eq_some_iff.mp hx).1
        have n1 : 1 ≤ n := by
          have := gy cc _ e0 (List.getElem?_eq_getElem lc) hx
          rcases this with h | ⟨_, _, _, _, h⟩
          · exact h.pos
          · exact h
        refine ⟨_, rfl, _, rfl, _, _, rfl, rfl, p, _, _, .ref px, rfl, rfl, sqT_tr t7 tp, at_, px, _, 1, .str z, rfl, rfl, SqT.of (t7.tup _ _ hpx), rfl, _, rfl, _, rfl, Dp, ys, (cc : Int), cc, rfl, rfl, dP7, ixN_at lc, ?_⟩
        refine ⟨_, ys.set cc (.str z), rfl, f7.keep Keep.put nDp.symm, fun b o nb e => ?_, ?_, upd_same, by rw [List.length_set]; exact ly, fun j y e h1 h2 => ?_, fun j z' h2 => ?_⟩
        · rw [upd_ne (ne_of_none e hDp0)]
          exact k7 _ _ nb e
        · rw [upd_ne nL]
          exact dL7
        · rw [List.getElem?_set] at h1
          by_cases ec : cc = j
          · rw [if_pos ec, if_pos lc] at h1
            cases h1
            rw [← ec, hx] at h2
            cases h2
            exact .inr ⟨z, rfl, em0, hz, n1⟩
          · rw [if_neg ec] at h1
            exact partR_tr (Tr.lst dP7) (gy j y e h1 h2)
        · rw [List.getElem?_set] at h2
          by_cases e : cc = j
          · exact ⟨i, Nat.lt_succ_self _, by rw [hcc, e]⟩
          · rw [if_neg e] at h2
            obtain ⟨k, k1, k2⟩ := sy j z' h2
            exact ⟨k, Nat.lt_succ_of_lt k1, k2⟩
      · obtain ⟨v6, ys, rfl, f7, k7, dL7, dP7, ly, gy, sy⟩ := h
        have t7 := Tr.keep hf k7
        have hs7 := hdS_tr t7 hs
        have done : ∀ (v : V) (H8 : Hp), Same H7 H8 → ExR K C cS (n + 1) H8 (.ap kh ms) v → Q v H8 := fun v H8 s8 ex => q v H8 ex (f7.same s8) (k7.trans (Keep.same s8))
        have two : arity kh = 2 → (∃ z, hdV kh = .str z) → ∃ y0 y1 m0 m1, ys = [y0, y1] ∧ ms = [m0, m1] ∧ PartR K C cS n H7 y0 m0 ∧ PartR K C cS n H7 y1 m1 ∧ (1 + (sz m0 + sz m1) < 64) ∧ ¬ ((∃ z, y0 = V.str z) ∧ ∃ z, y1 = V.str z) := fun a2 hz => by
          obtain ⟨k0, k1, rfl⟩ : ∃ x0 x1, ks = [x0, x1] := by
            match ks, la.trans a2 with
            | [x0, x1], _ => exact ⟨x0, x1, rfl⟩
          obtain ⟨y0, y1, rfl⟩ : ∃ y0 y1, ys = [y0, y1] := by
            match ys, ly with
            | [y0, y1], _ => exact ⟨y0, y1, rfl⟩
          refine ⟨y0, y1, k0.2, k1.2, rfl, em.symm, gy 0 y0 k0 rfl rfl, gy 1 y1 k1 rfl rfl, ?_, ?_⟩
          · rw [← em] at short
            simp only [List.map_cons, List.map_nil, szL] at short
            omega
          · have lc : cs.length ≤ 1 := c1 hz
            rintro ⟨⟨z0, rfl⟩, z1, rfl⟩
            obtain ⟨k0, _, h0⟩ := sy 0 z0 rfl
            obtain ⟨k1, _, h1⟩ := sy 1 z1 rfl
            have a0 := (List.getElem?_eq_some_iff.mp h0).1
            have a1 := (List.getElem?_eq_some_iff.mp h1).1
            have b0 : k0 = 0 := by omega
            have b1 : k1 = 0 := by omega
            rw [b0] at h0
            rw [b1, h0] at h1
            cases h1
        cases kh with
        | le =>
          obtain ⟨y0, y1, m0, m1, rfl, rfl, p0, p1, few, nb⟩ := two rfl ⟨_, rfl⟩
          refine ⟨_, rfl, .inl ⟨rfl, _, rfl, ?_⟩⟩
          rw [decide_eq_true (show hdV .le = V.str "lesser" from rfl)]
          exact iteT ⟨_, rfl, Dp, [y0, y1], 0, y0, rfl, rfl, SqL.of dP7, rfl, _, rfl, Dp, [y0, y1], 1, y1, rfl, rfl, SqL.of dP7, rfl, bin_readX few p0 p1 nb fun v H' s ex => done v H' s ex⟩
        | gr =>
          obtain ⟨y0, y1, m0, m1, rfl, rfl, p0, p1, few, nb⟩ := two rfl ⟨_, rfl⟩
          refine ⟨_, rfl, .inl ⟨rfl, _, rfl, ?_⟩⟩
          rw [decide_eq_false (show ¬ hdV .gr = V.str "lesser" by decide +kernel)]
          refine iteF ⟨_, rfl, .inl ⟨rfl, _, rfl, ?_⟩⟩
          rw [decide_eq_true (show hdV .gr = V.str "greater" from rfl)]
          exact iteT ⟨_, rfl, Dp, [y0, y1], 0, y0, rfl, rfl, SqL.of dP7, rfl, _, rfl, Dp, [y0, y1], 1, y1, rfl, rfl, SqL.of dP7, rfl, bin_readX few p0 p1 nb fun v H' s ex => done v H' s ex⟩
        | st b' z' y' =>
          obtain ⟨dxs, hb7⟩ := id hs7.1
          refine ⟨_, rfl, .inr ⟨b', dxs, _, _, rfl, hb7, .base (.str "lesser"), nf_str, b', .str "lesser", z', y', rfl, ⟨dxs, hb7⟩, .inr ⟨_, .base (.str "lesser"), I.kS, false, rfl, false, rfl, iteF ?_⟩⟩⟩
          refine ⟨_, rfl, .inr ⟨b', dxs, _, _, rfl, hb7, .base (.str "greater"), nf_str, b', .str "greater", z', y', rfl, ⟨dxs, hb7⟩, .inr ⟨_, .base (.str "greater"), I.kS, false, rfl, false, rfl, iteF ?_⟩⟩⟩
          have la' : ks.length = y'.length := la
          have few : sz (.ap (.st b' z' y') ms) < 64 := by rw [sz]; exact short
          have call : ∀ v0 v1 v2 (xs : List (V × Md)), thereB [v0, v1, v2] = wantB y'.length → [v0, v1, v2].take y'.length = xs.map (fun e => e.1) → (∀ x ∈ xs, PartR K C cS n H7 x.1 x.2) → xs.map (·.2) = ms → spCallX K C cS [.ref b', v0, v1, v2] H7 Q E0 := fun v0 v1 v2 xs ht hx hp e => by
            refine ⟨b', v0, v1, v2, z', y', n, xs, rfl, hs7, ht, hx, hp, by rw [e]; exact few, fun v H' s ex => ?_⟩
            rw [e] at ex
            exact done v H' s ex
          rcases ks with _ | ⟨k0, _ | ⟨k1, _ | ⟨k2, _ | ⟨k3, kr⟩⟩⟩⟩
          · have := hs7.2.2.pos
            have l1 : (0 : Nat) = y'.length := la'
            omega
          · obtain ⟨y0, rfl⟩ : ∃ y0, ys = [y0] := by
              match ys, ly with
              | [y0], _ => exact ⟨y0, rfl⟩
            have l1 : y'.length = 1 := la'.symm
            have p0 := gy 0 y0 k0 rfl rfl
            refine ⟨_, rfl, Dp, [y0], rfl, .inl (SqL.of dP7), rfl, _, rfl, ?_⟩
            rw [decide_eq_true (show V.int (([y0].length : Nat) : Int) = V.int 1 from rfl)]
            refine iteT ⟨_, rfl, b', rfl, _, rfl, Dp, [y0], 0, y0, rfl, rfl, SqL.of dP7, rfl, .inr ⟨dxs, _, hb7⟩, ?_⟩
            refine call y0 .non .non [(y0, k0.2)] ?_ ?_ ?_ em
            · rw [l1]
              show [!decide (y0 = V.non), _, _] = _
              rw [p0.noNon]
              rfl
            · rw [l1]
              rfl
            · exact fun x hx => by rw [List.mem_singleton.mp hx]; exact p0
          · obtain ⟨y0, y1, rfl⟩ : ∃ y0 y1, ys = [y0, y1] := by
              match ys, ly with
              | [y0, y1], _ => exact ⟨y0, y1, rfl⟩
            have l1 : y'.length = 2 := la'.symm
            have p0 := gy 0 y0 k0 rfl rfl
            have p1 := gy 1 y1 k1 rfl rfl
            refine ⟨_, rfl, Dp, [y0, y1], rfl, .inl (SqL.of dP7), rfl, _, rfl, ?_⟩
            rw [decide_eq_false (show ¬ V.int (([y0, y1].length : Nat) : Int) = V.int 1 by intro h; injection h with h; cases h)]
            refine iteF ⟨_, rfl, Dp, [y0, y1], rfl, .inl (SqL.of dP7), rfl, _, rfl, ?_⟩
            rw [decide_eq_true (show V.int (([y0, y1].length : Nat) : Int) = V.int 2 from rfl)]
            refine iteT ⟨_, rfl, b', rfl, _, rfl, Dp, [y0, y1], 0, y0, rfl, rfl, SqL.of dP7, rfl, _, rfl, Dp, [y0, y1], 1, y1, rfl, rfl, SqL.of dP7, rfl, .inr ⟨dxs, _, hb7⟩, ?_⟩
            refine call y0 y1 .non [(y0, k0.2), (y1, k1.2)] ?_ ?_ ?_ em
            · rw [l1]
              show [!decide (y0 = V.non), !decide (y1 = V.non), _] = _
              rw [p0.noNon, p1.noNon]
              rfl
            · rw [l1]
              rfl
            · exact fun x hx => by
                rcases List.mem_cons.mp hx with rfl | hx
                · exact p0
                · rw [List.mem_singleton.mp hx]
                  exact p1
          · obtain ⟨y0, y1, y2, rfl⟩ : ∃ y0 y1 y2, ys = [y0, y1, y2] := by
              match ys, ly with
              | [y0, y1, y2], _ => exact ⟨y0, y1, y2, rfl⟩
            have l1 : y'.length = 3 := la'.symm
            have p0 := gy 0 y0 k0 rfl rfl
            have p1 := gy 1 y1 k1 rfl rfl
            have p2 := gy 2 y2 k2 rfl rfl
            refine ⟨_, rfl, Dp, [y0, y1, y2], rfl, .inl (SqL.of dP7), rfl, _, rfl, ?_⟩
            rw [decide_eq_false (show ¬ V.int (([y0, y1, y2].length : Nat) : Int) = V.int 1 by intro h; injection h with h; cases h)]
            refine iteF ⟨_, rfl, Dp, [y0, y1, y2], rfl, .inl (SqL.of dP7), rfl, _, rfl, ?_⟩
            rw [decide_eq_false (show ¬ V.int (([y0, y1, y2].length : Nat) : Int) = V.int 2 by intro h; injection h with h; cases h)]
            refine iteF ⟨_, rfl, b', rfl, _, rfl, Dp, [y0, y1, y2], 0, y0, rfl, rfl, SqL.of dP7, rfl, _, rfl, Dp, [y0, y1, y2], 1, y1, rfl, rfl, SqL.of dP7, rfl, _, rfl, Dp, [y0, y1, y2], 2, y2, rfl, rfl, SqL.of dP7, rfl, .inr ⟨dxs, _, hb7⟩, ?_⟩
            refine call y0 y1 y2 [(y0, k0.2), (y1, k1.2), (y2, k2.2)] ?_ ?_ ?_ em
            · rw [l1]
              show [!decide (y0 = V.non), !decide (y1 = V.non), !decide (y2 = V.non)] = _
              rw [p0.noNon, p1.noNon, p2.noNon]
              rfl
            · rw [l1]
              rfl
            · exact fun x hx => by
                rcases List.mem_cons.mp hx with rfl | hx
                · exact p0
                rcases List.mem_cons.mp hx with rfl | hx
                · exact p1
                · rw [List.mem_singleton.mp hx]
                  exact p2
          · have := hs7.2.2.len
            simp only [List.length_cons] at la'
            omega
end
end LK

namespace LK
open PySem PySem.Spec PyProof.Rows L2 LR
/-! ### a model with one thing otherwise -/
theorem slD_read {K : PySem.W.Frag} {G : Addr} {H : Hp} {xs : List V} {n : Nat} {Q : VK} (t : SqT K H G xs) (hn : n ≤ xs.length) (h0 : 0 < n) (key : ∀ p H', Same H H' → SqT K H' p (xs.drop n) → Q (.ref p) H') : rSlA K (.ref G) (some (n : Int)) none H Q := by
  have e0 : HT.sIx xs.length 0 (some (n : Int)) = n := by
    rw [HT.sIx_nat]
    exact Nat.min_eq_left hn
  have e1 : HT.sIx xs.length xs.length none = xs.length := rfl
  refine ⟨G, xs, rfl, t, fun h => ?_, fun _ p hp => ?_⟩
  · rw [e0] at h
    omega
  · refine key p _ (same_new hp) ?_
    have c : cutV xs (some (n : Int)) none = xs.drop n := by
      unfold cutV
      rw [e0, e1, List.take_of_length_le (by rw [List.length_drop]; omega)]
    rw [c]
    exact SqT.of upd_same
/-- two tuples, the first not empty, put together -/
theorem cat_read {K : PySem.W.Frag} {a b : Addr} {xs ys : List V} {H : Hp} {Q : VK} (ha : H a = some (.tup xs)) (hb : SqT K H b ys) (l : xs.length + ys.length ≤ 1000) (nx : xs ≠ []) (key : ∀ p H', Same H H' → H' p = some (.tup (xs ++ ys)) → Q (.ref p) H') : rCatA K (.ref a) (.ref b) H Q := by
  refine ⟨a, b, xs, ys, rfl, rfl, SqT.of ha, hb, by rw [sizeLine_eq]; omega, fun e => absurd e nx, fun _ e => ?_, fun _ _ p hp => key p _ (same_new hp) upd_same⟩
  refine key a H (Same.refl H) ?_
  rw [e, List.append_nil]
  exact ha
/-- the same, the first as it stands -/
theorem cat_readT {K : PySem.W.Frag} {a b : Addr} {xs ys : List V} {H : Hp} {Q : VK} (ha : SqT K H a xs) (hb : SqT K H b ys) (l : xs.length + ys.length ≤ 1000) (nx : xs ≠ []) (ny : ys ≠ []) (key : ∀ p H', Same H H' → H' p = some (.tup (xs ++ ys)) → Q (.ref p) H') : rCatA K (.ref a) (.ref b) H Q :=
  ⟨a, b, xs, ys, rfl, rfl, ha, hb, by rw [sizeLine_eq]; omega, fun e => absurd e nx, fun _ e => absurd e ny, fun _ _ p hp => key p _ (same_new hp) upd_same⟩
theorem szL_append (a b : List Md) : szL (a ++ b) = szL a + szL b := by
  rw [szL_sum, szL_sum, szL_sum, List.map_append, List.sum_append]
theorem szL_rev (a : List Md) : szL a.reverse = szL a := by
  rw [szL_sum, szL_sum, List.map_reverse, List.sum_reverse]
theorem set_parts {α : Type} : ∀ (l : List α) (i : Nat) (x : α), i < l.length → l.take i ++ [x] ++ l.drop (i + 1) = l.set i x
  | [], _, _, h => absurd h (Nat.not_lt_zero _)
  | a :: r, 0, x, _ => by simp
  | a :: r, i + 1, x, h => by
    have := set_parts r i x (Nat.lt_of_succ_lt_succ h)
    show a :: (r.take i ++ [x] ++ r.drop (i + 1)) = a :: r.set i x
    rw [this]
theorem set_le : ∀ (l : List Md) (i : Nat) {a b : Md}, l[i]? = some a → sz b ≤ sz a → ((l.set i b).map sz).sum ≤ (l.map sz).sum
  | [], _, _, _, h, _ => by cases h
  | x :: r, 0, a, b, h, le => by
    cases h
    simp only [List.set_cons_zero, List.map_cons, List.sum_cons]
    omega
  | x :: r, i + 1, a, b, h, le => by
    have := set_le r i (List.getElem?_cons_succ ▸ h) le
    simp only [List.set_cons_succ, List.map_cons, List.sum_cons]
    omega
def rLenS (K : PySem.W.Frag) : List V → Hp → VK → Prop := fun xs H Q => ∃ p ys, xs = [.ref p] ∧ (SqL K H p ys ∨ SqT K H p ys) ∧ Q (.int ys.length) H
def spOther (K : PySem.W.Frag) (cS : Addr) (zs : Env9) (n : Nat) : Sp := fun vs H Q _ => ∃ (l Sx Nx : Addr) (v : V) (m : Md) (ns : List Str), vs = [.ref l, v, .ref Sx, .ref Nx] ∧ MoR cS zs n H m v ∧ sz m < 64 ∧ Feed H l ∧ Sx ≠ l ∧ H Sx = some (.lst (zs.map fun e => V.ref e.2.2)) ∧ zs.length ≤ 20 ∧ (∀ e ∈ zs, StE9 cS H e) ∧
  Nx ≠ l ∧ H Nx = some (.lst (ns.map V.str)) ∧ 0 < ns.length ∧ ns.length ≤ 20 ∧ (∀ z ∈ ns, NameOk z) ∧ ∀ v' m' H', MoR cS zs n H' m' v' → sz m' ≤ sz m → Feed H' l → Keep l H H' → Q v' H'
section
variable {P : Program} {w : World} {K : PySem.W.Frag} {mg : Str → Option Value} {base : Heap}
def nOther : List Str := ["_law_feed_here", "_law_model", "_law_steps", "_law_names", "_law_way", "_law_some", "_law_step", "_law_at"]
theorem scOther : FnScope nOther ["_law_feed_here", "_law_model", "_law_steps", "_law_names"] (defScope sOther) := ⟨rfl, rfl, rfl, by decide +kernel, rfl, by decide +kernel, by decide +kernel⟩
theorem ok_other {zs : Env9} {cS fE fD fP f : Addr} {dE fdD fdP fd : FuncData} (S : Std mg) (I : StF K mg cS fE dE) (D : Df K mg "_law_draw" sDraw fD fdD ["_law_feed_here", "_law_many"]) (PK : Df K mg "_law_pick" sPick fP fdP ["_law_feed_here", "_law_items"])
    (F : Df K mg "_law_otherwise" sOther f fd ["_law_feed_here", "_law_model", "_law_steps", "_law_names"]) : ∀ n, FnOk P w K mg base CX0 (n + 4) f fd ["_law_feed_here", "_law_model", "_law_steps", "_law_names"] (spOther K cS zs n)
  | 0 => F.F.ok scOther (fun vs H Q E h => by obtain ⟨_, _, _, _, _, _, _, h, _⟩ := h; exact h.elim) (fun cdv A outer s H vs Q E hr h => by obtain ⟨_, _, _, _, _, _, _, h, _⟩ := h; exact h.elim)
  | n + 1 => by
    have G := ok_other (zs := zs) S I D PK F n
    have GD : FnOk P w K mg base CX0 1 fD fdD ["_law_feed_here", "_law_many"] spDraw := ok_draw S D.F
    have GP : FnOk P w K mg base CX0 2 fP fdP ["_law_feed_here", "_law_items"] (spPick K) := ok_pick S PK.F D
    have GE : FnOk P w K mg base CX0 1 fE dE ["self", "other"] (spEqB K cS) := ok_stepEqB S I.cT I.s1 I.s2 I.q.F
    refine F.F.ok scOther (fun vs H Q E h => ?_) (fun cdv A outer s H vs Q E hr h => ?_)
    · obtain ⟨l, Sx, Nx, v, m, ns, rfl, _⟩ := h
      rfl
    · obtain ⟨l, Sx, Nx, v, m, ns, rfl, hm, short, hf, nS, hS, lS, gS, nN, hN, lN0, lN, gN, q⟩ := h
      have rm1 : Room 1 _ := hr.mono (by omega)
      have rm2 : Room 2 _ := hr.mono (by omega)
      refine ⟨_, pss_cons (ps_set (i := 4) scOther.nd rfl (Or.inl rfl) (pe_call GD rm1 rfl D.g D.F.kp D.b .nil pass0 (pa_cons (pv 0) (pa_cons pe_int pa_nil))))
        (pss_cons (ps_if (PW.pt (pw_or (pt_cmpR (op_or op_eq (op_eqOwn (C := cS) (E := E0) GE I.q.at_ I.q.fn I.q.b pass0 rm1)) (pe_ix ix_tup (pv 1) pe_int (fun _ _ => rfl)) pe_str (nomark _)) (pw_or1 (pt_cmpR op_eq (pv 4) pe_int (nomark _)))))
            (pss_one (ps_ret (pe_tup (pa_cons pe_str (pa_cons (pe_call GP rm2 rfl PK.g PK.F.kp PK.b .nil pass0 (pa_cons (pv 0) (pa_cons (pv 3) pa_nil))) pa_nil))))) pss_nil)
        (pss_cons (ps_if (PW.pt (pw_and (pt_cmpR op_eq (pv 4) pe_int (nomark _)) (pw_and1 (pt_val (pe_callB call_isi (by rfl) S.isi (by decide +kernel) (pa_cons (pe_ix ix_tup (pv 1) pe_int (fun _ _ => rfl)) (pa_cons (pe_bltn (v := .ty "str") (by rfl) S.str (by decide +kernel) rfl) pa_nil)))))))
            (pss_one (ps_ret (pe_op op_catA (pe_tup (pa_cons (pe_dget (hu_of hr) (pe_disp (pps_cons pe_str pe_str (pps_cons pe_str pe_str pps_nil)) (by rfl) (by rfl) (by simp) (by decide)) (pe_ix ix_tup (pv 1) pe_int (fun _ _ => rfl)) (fun _ _ => rfl)) pa_nil)) (pe_slice sl_tupA (pv 1) (po_some pe_int) po_none)))) pss_nil)
        (pss_cons (ps_setLc (i := 5) (own := [("_law_step", 6)]) (g := gName 6) (te := tVar 6) rfl scOther.nd rfl rfl (sw_true rfl rfl rfl (by decide +kernel)) (pi_list (pv 2)) (blkOk_by (N := nOther) (sc := defScope sOther) (by decide +kernel))
            (fun _ _ _ _ _ => pg_name (i := 6) scOther.nd rfl (Or.inl rfl)) (fun _ _ _ _ _ => pts_one (pt_cmpR op_eq (pe_callB call_len_str (by rfl) S.len PySem.boot_len (pa_cons (show PE _ _ (tFld K (tVar 6) "ways") from pe_fld (pv 6) rfl) pa_nil)) (pe_op op_sub (pe_callB (show CallR _ _ (rLenS K) from call_len_seq) (by rfl) S.len PySem.boot_len (pa_cons (pv 1) pa_nil)) pe_int) (nomark _))) (fun _ _ _ _ _ => pv 6))
        (pss_cons (ps_if (PW.pt (pw_and (pt_cmpR op_eq (pv 4) pe_int (nomark _)) (pw_and1 (pt_cmpR (op_neEnd rm1.units0) (pv 5) (pe_lst pa_nil) (nomark _)))))
            (pss_one (ps_ret (pe_op op_catA (pe_tup (pa_cons (pe_call GP rm2 rfl PK.g PK.F.kp PK.b .nil pass0 (pa_cons (pv 0) (pa_cons (pv 5) pa_nil))) pa_nil)) (pe_slice sl_tupA (pv 1) (po_some pe_int) po_none)))) pss_nil)
        (pss_cons (ps_if (pt_cmpR op_eq (pv 4) pe_int (nomark _))
            (pss_one (ps_ret (pe_op op_catA (pe_tup (pa_cons (pe_ix ix_tup (pv 1) pe_int (fun _ _ => rfl)) pa_nil)) (LR.pe_revT (pe_slice sl_tupA (pv 1) (po_some pe_int) po_none))))) pss_nil)
        (pss_cons (ps_set (i := 7) scOther.nd rfl (Or.inl rfl) (pe_op op_add pe_int (pe_call GD rm1 rfl D.g D.F.kp D.b .nil pass0 (pa_cons (pv 0) (pa_cons (pe_op op_sub (pe_callB call_len_seq (by rfl) S.len PySem.boot_len (pa_cons (pv 1) pa_nil)) pe_int) pa_nil)))))
        (pss_one (ps_ret (pe_op op_catA (pe_op op_catA (pe_slice sl_tupA (pv 1) po_none (po_some (pv 7))) (pe_tup (pa_cons (pe_call G hr rfl F.g F.F.kp F.b .nil pass0 (pa_cons (pv 0) (pa_cons (pe_ix ix_tup (pv 1) (pv 7) (fun _ _ => rfl)) (pa_cons (pv 2) (pa_cons (pv 3) pa_nil))))) pa_nil)))
            (pe_slice sl_tupA (pv 1) (po_some (pe_op op_add (pv 7) pe_int)) po_none)))))))))), ?_⟩
      have one : ∀ (d : Int) (H1 : Hp), Feed H1 l → Keep l H H1 → tTup (tCons (tC (.str "name")) (tCons (tCall (spPick K) [] E0 (tCons (tVar 0) (tCons (tVar 3) tNil))) tNil)) [some (.ref l), some v, some (.ref Sx), some (.ref Nx), some (.int d), none, none, none] H1 Q := fun d H1 f1 k1 => by
        refine ⟨_, rfl, _, rfl, l, .ref Nx, (fun v => ∃ z, v = V.str z ∧ NameOk z), rfl, f1, .inr ⟨Nx, ns.map V.str, rfl, nN, SqL.of (k1 _ _ nN hN), by rw [List.length_map]; exact lN0, by rw [List.length_map]; omega, fun v hv => ?_⟩, fun v H4 hv f4 k4 => ⟨(by show 2 ≤ sizeLine; decide), fun p hp => ?_⟩⟩
        · obtain ⟨z, hz, rfl⟩ := List.mem_map.mp hv
          exact ⟨z, rfl, gN z hz⟩
        · obtain ⟨z, rfl, hz⟩ := hv
          exact q (.ref p) (.nm z) _ ⟨p, rfl, upd_same, hz⟩ (by have := sz_pos m; rw [sz]; exact this) (f4.same (same_new hp)) (k1.trans (k4.trans (Keep.same (same_new hp))))
      refine ⟨_, rfl, l, 4, rfl, hf, by decide, by decide, fun d H1 d0 d4 f1 k1 => ?_⟩
      have t1 := Tr.keep hf k1
      refine gN_key ?_
      dsimp only
      cases m with
      | nm z =>
        obtain ⟨p, rfl, hp, hz⟩ := hm
        refine ⟨_, rfl, p, _, 0, .str "name", rfl, rfl, SqT.of (t1.tup _ _ hp), rfl, .inl ⟨rfl, _, rfl, ?_⟩⟩
        rw [decide_eq_true (show V.str "name" = V.str "name" from rfl)]
        exact iteT (one d H1 f1 k1)
      | ap kh ms =>
      obtain ⟨p, ks, rfl, hp, em, la, hs, hi, gm⟩ := hm
      have m3 := (HdA.le (zs := zs) (v := hdV kh) ⟨rfl, hs, hi⟩)
      have no : ¬ hdV kh = V.str "name" := by
        rcases hdV_name cS H hs with ⟨z, e, ne⟩ | ⟨b, z, y, dx, e, _⟩
        · rw [e]
          intro h
          injection h with h
          exact ne h
        · rw [e]
          intro h
          cases h
      have lk : (ks.map (·.1)).length = ks.length := List.length_map ..
      have nk : ks.map (·.1) ≠ [] := fun e => by
        have h0 : ks.length = 0 := by
          rw [← lk, e]
          rfl
        omega
      have szh : ∀ h (l : List Md), sz (.ap h l) = 1 + szL l := fun h l => by rw [sz]
      -- a new head over the same parts
      have fin : ∀ (kh' : Hd) (ks' : List (V × Md)) (p4 : Addr) (H4 : Hp), Feed H4 l → Keep l H H4 → H4 p4 = some (.tup (hdV kh' :: ks'.map (·.1))) → ks'.length = arity kh' → HdS cS H4 kh' → HdIn zs kh' → (∀ e ∈ ks', MoR cS zs n H4 e.2 e.1) → szL (ks'.map (·.2)) ≤ szL ms → Q (.ref p4) H4 := fun kh' ks' p4 H4 f4 k4 hp4 la' hs' hi' g' le => by
        refine q (.ref p4) (.ap kh' (ks'.map (·.2))) H4 ⟨p4, ks', rfl, hp4, rfl, la', hs', hi', g'⟩ ?_ f4 k4
        rw [szh, szh]
        omega
      have gks : ∀ H4, Tr H H4 → ∀ e ∈ ks, MoR cS zs n H4 e.2 e.1 := fun H4 t e he => moR_tr t (gm e he)
      have kle : szL (ks.map (·.2)) ≤ szL ms := by rw [em]; exact Nat.le_refl _
      have hp1 := t1.tup _ _ hp
      have hs1 := hdS_tr t1 hs
      refine seq_key (fun σ' H' => σ' = [some (.ref l), some (.ref p), some (.ref Sx), some (.ref Nx), some (.int d), none, none, none] ∧ H' = H1 ∧ d ≠ 0) (fun key => ?_) (fun σ' H' h => ?_)
      · refine ⟨_, rfl, p, _, 0, hdV kh, rfl, rfl, SqT.of hp1, at_of (j := 0) rfl rfl, hd_is I hs1 ⟨_, rfl, ?_⟩⟩
        rw [decide_eq_false no]
        refine iteF ⟨_, rfl, rfl, _, rfl, ite2 (fun c => ?_) (fun c => key _ _ ⟨rfl, rfl, fun e => c (decide_eq_true (by rw [e]))⟩)⟩
        exact one d H1 f1 k1
      obtain ⟨rfl, e, nd⟩ := h
      rw [e]
      clear e H'
      refine seq_key (fun σ' H' => σ' = [some (.ref l), some (.ref p), some (.ref Sx), some (.ref Nx), some (.int d), none, none, none] ∧ Same H1 H') (fun key => ?_) (fun σ' H2 h => ?_)
      · refine ⟨_, rfl, rfl, _, rfl, ite2 (fun c => ?_) (fun c => key _ _ ⟨rfl, Same.refl _⟩)⟩
        have go : ∀ (a b : Str) (kh' : Hd), hdV kh = .str a → hdV kh' = .str b → arity kh' = arity kh → (∀ H, HdS cS H kh') → HdIn zs kh' → valV (mergeK [] [(Sum.inr "lesser", V.str "greater"), (Sum.inr "greater", V.str "lesser")]) (Sum.inr a) = some (.str b) →
            ∀ (D p2 : Addr), (upd H1 D (.dK [])) = (upd H1 D (.dK [])) → True := fun _ _ _ _ _ _ _ _ _ _ _ _ => trivial
        clear go
        cases kh with
        | le =>
          refine ⟨_, rfl, p, _, 0, hdV .le, rfl, rfl, SqT.of hp1, at_of (j := 0) rfl rfl, _, _, _, _, true, rfl, .ty "str", .base (.str _), kit_ty (by decide +kernel), true, rfl, iteT ?_⟩
          refine fun D hD => ⟨upd_same, [(Sum.inr "lesser", V.str "greater"), (Sum.inr "greater", V.str "lesser")], rfl, by decide, ?_⟩
          have s2 : Same H1 (upd (upd H1 D (.dK [])) D (.dK (mergeK [] [(Sum.inr "lesser", V.str "greater"), (Sum.inr "greater", V.str "lesser")]))) := fun b o e => by
            have nb : b ≠ D := ne_of_none e hD
            rw [upd_ne nb, upd_ne nb]
            exact e
          refine ⟨_, rfl, p, _, 0, hdV .le, rfl, rfl, SqT.of (s2 _ _ hp1), at_of (j := 0) rfl rfl, D, .str "greater", rfl, (show valV (mergeK [] [(Sum.inr "lesser", V.str "greater"), (Sum.inr "greater", V.str "lesser")]) (Sum.inr "lesser") = some (V.str "greater") from by rfl) ▸ DGet.k (k := Sum.inr "lesser") upd_same, (by show 1 ≤ sizeLine; decide), fun p2 hp2 => ?_⟩
          have s3 := s2.trans (same_new (o := .tup [V.str "greater"]) hp2)
          refine ⟨_, rfl, 1, rfl, noPart_read (slB_read (SqT.of (s3 _ _ hp1)) fun p3 H3 s4 t3 => ?_)⟩
          have s5 := s3.trans s4
          refine cat_readT (SqT.of (s4 _ _ upd_same)) t3 (by rw [lk]; show 1 + ks.length ≤ 1000; omega) (by simp) nk fun p4 H4 s6 hp4 => ?_
          have s7 := s5.trans s6
          exact fin .gr ks p4 H4 (f1.same s7) (k1.trans (Keep.same s7)) hp4 la trivial (fun _ _ _ e => nomatch e) (gks H4 (t1.trans (Tr.same s7))) kle
        | gr =>
          refine ⟨_, rfl, p, _, 0, hdV .gr, rfl, rfl, SqT.of hp1, at_of (j := 0) rfl rfl, _, _, _, _, true, rfl, .ty "str", .base (.str _), kit_ty (by decide +kernel), true, rfl, iteT ?_⟩
          refine fun D hD => ⟨upd_same, [(Sum.inr "lesser", V.str "greater"), (Sum.inr "greater", V.str "lesser")], rfl, by decide, ?_⟩
          have s2 : Same H1 (upd (upd H1 D (.dK [])) D (.dK (mergeK [] [(Sum.inr "lesser", V.str "greater"), (Sum.inr "greater", V.str "lesser")]))) := fun b o e => by
            have nb : b ≠ D := ne_of_none e hD
            rw [upd_ne nb, upd_ne nb]
            exact e
          refine ⟨_, rfl, p, _, 0, hdV .gr, rfl, rfl, SqT.of (s2 _ _ hp1), at_of (j := 0) rfl rfl, D, .str "lesser", rfl, (show valV (mergeK [] [(Sum.inr "lesser", V.str "greater"), (Sum.inr "greater", V.str "lesser")]) (Sum.inr "greater") = some (V.str "lesser") from by rfl) ▸ DGet.k (k := Sum.inr "greater") upd_same, (by show 1 ≤ sizeLine; decide), fun p2 hp2 => ?_⟩
          have s3 := s2.trans (same_new (o := .tup [V.str "lesser"]) hp2)
          refine ⟨_, rfl, 1, rfl, noPart_read (slB_read (SqT.of (s3 _ _ hp1)) fun p3 H3 s4 t3 => ?_)⟩
          have s5 := s3.trans s4
          refine cat_readT (SqT.of (s4 _ _ upd_same)) t3 (by rw [lk]; show 1 + ks.length ≤ 1000; omega) (by simp) nk fun p4 H4 s6 hp4 => ?_
          have s7 := s5.trans s6
          exact fin .le ks p4 H4 (f1.same s7) (k1.trans (Keep.same s7)) hp4 la trivial (fun _ _ _ e => nomatch e) (gks H4 (t1.trans (Tr.same s7))) kle
        | st b z y =>
          obtain ⟨dx, hb⟩ := hs1.1
          exact ⟨_, rfl, p, _, 0, hdV (.st b z y), rfl, rfl, SqT.of hp1, at_of (j := 0) rfl rfl, _, _, _, _, false, rfl, .ty "str", I.cT.ty hb, I.cT.ns, false, rfl, iteF (key _ _ ⟨rfl, Same.refl _⟩)⟩
      obtain ⟨rfl, s12⟩ := h
      have f2 := f1.same s12
      have k2 := k1.trans (Keep.same s12)
      have t2 := Tr.keep hf k2
      have hp2 := t2.tup _ _ hp
      have hS2 := k2 _ _ nS hS
      have gS2 := fun e he => (gS e he).keep hf k2
      clear f1 k1 t1 hp1 hs1 s12 H1
      -- the steps of as many arguments
      refine ⟨_, rfl, Sx, rfl, ⟨_, SqL.of hS2⟩, fun D1 hD1 => lc_list (xs := zs.map fun e => V.ref e.2.2) (fun i H' => Same H2 H' ∧ ∃ xs, H' D1 = some (.lst xs) ∧ xs.length ≤ i ∧ ∀ v ∈ xs, ∃ e ∈ zs, v = .ref e.2.2 ∧ e.2.1.length = ks.length)
        ⟨same_new hD1, [], upd_same, Nat.le_refl _, fun _ h => nomatch h⟩ (fun i H' _ h => SqL.of (h.1 _ _ hS2)) (fun i v H' hv h => ?_) (fun H3 h => ?_)⟩
      · obtain ⟨s3, xs, d3, lx, gx⟩ := h
        have lt := (List.getElem?_eq_some_iff.mp hv).1
        rw [List.length_map] at lt
        rw [List.getElem?_map] at hv
        obtain ⟨e, he, rfl⟩ := Option.map_eq_some_iff.mp hv
        have me := List.mem_of_getElem? he
        obtain ⟨⟨dx, hb⟩, no', wo⟩ := gS2 e me
        have l3 := wo.len
        refine ⟨rfl, _, rfl, e.2.2, cS, dx, _, .str e.2.1, rfl, s3 _ _ hb, I.cT.cl, I.s2, rfl, e.2.1, rfl, by rw [sizeLine_eq]; omega, _, rfl, p, _, rfl, .inr (SqT.of (s3 _ _ hp2)), _, _, rfl, rfl, rfl, _, rfl, ite2 (fun c => ?_) (fun c => ?_)⟩
        · refine ⟨_, rfl, xs, d3, by rw [sizeLine_eq]; omega, same_put hD1 s3, xs ++ [.ref e.2.2], upd_same, by rw [List.length_append]; show xs.length + 1 ≤ i + 1; omega, fun u hu => ?_⟩
          rcases List.mem_append.mp hu with hu | hu
          · exact gx u hu
          · rw [List.mem_singleton.mp hu]
            refine ⟨e, me, rfl, ?_⟩
            have := of_decide_eq_true c
            injection this with this
            rw [List.length_cons, lk] at this
            omega
        · exact ⟨s3, xs, d3, by omega, gx⟩
      obtain ⟨s3, xs, d3, lx, gx⟩ := h
      rw [List.length_map] at lx
      refine gN_key ?_
      dsimp only
      have f3 := f2.same s3
      have k3 := k2.trans (Keep.same s3)
      have nD1 : D1 ≠ l := (f2.ne hD1).symm
      have hp3 := s3 _ _ hp2
      have t3 := Tr.keep hf k3
      refine seq_key (fun σ' H' => σ' = [some (.ref l), some (.ref p), some (.ref Sx), some (.ref Nx), some (.int d), some (.ref D1), none, none] ∧ Same H3 H') (fun key => ?_) (fun σ' H4 h => ?_)
      · refine ⟨_, rfl, rfl, _, rfl, ite2 (fun c => ?_) (fun c => key _ _ ⟨rfl, Same.refl _⟩)⟩
        refine ⟨_, rfl, (by show 0 ≤ sizeLine; decide), fun pe hpe => ⟨D1, pe, xs, rfl, rfl, same_new hpe _ _ d3, upd_same, ?_⟩⟩
        have s4 := same_new (o := .lst []) hpe
        cases hx : xs.isEmpty with
        | true => exact ⟨_, rfl, iteF (key _ _ ⟨rfl, s4⟩)⟩
        | false =>
          have nx : xs ≠ [] := fun e => by
            rw [e] at hx
            cases hx
          refine ⟨_, rfl, iteT ?_⟩
          refine ⟨_, rfl, _, rfl, l, .ref D1, (fun v => ∃ e ∈ zs, v = .ref e.2.2 ∧ e.2.1.length = ks.length), rfl, f3.same s4, .inr ⟨D1, xs, rfl, nD1, SqL.of (s4 _ _ d3), List.length_pos_iff.mpr nx, by omega, gx⟩, fun v H5 hv f5 k5 => ⟨(by show 1 ≤ sizeLine; decide), fun p4 hp4 => ?_⟩⟩
          obtain ⟨e, me, rfl, le⟩ := hv
          have k05 := (k3.trans (Keep.same s4)).trans k5
          have s6 := same_new (o := .tup [V.ref e.2.2]) hp4
          have t6 := (Tr.keep hf k05).trans (Tr.same s6)
          refine ⟨_, rfl, 1, rfl, noPart_read (slB_read (SqT.of (t6.tup _ _ hp)) fun p5 H6 s7 t5 => ?_)⟩
          refine cat_readT (SqT.of (s7 _ _ upd_same)) t5 (by rw [lk]; show 1 + ks.length ≤ 1000; omega) (by simp) nk fun p6 H7 s8 hp6 => ?_
          have s68 := (s6.trans s7).trans s8
          have k07 := k05.trans (Keep.same s68)
          obtain ⟨st, n', wo⟩ := (gS e me).keep hf k07
          exact fin (.st e.2.2 e.1 e.2.1) ks p6 H7 (f5.same s68) k07 hp6 le.symm ⟨st, n', wo⟩ (fun a z y q => by cases q; exact me) (gks H7 (Tr.keep hf k07)) kle
      obtain ⟨rfl, s34⟩ := h
      have f4 := f3.same s34
      have k4 := k3.trans (Keep.same s34)
      have hp4 := s34 _ _ hp3
      refine seq_key (fun σ' H' => σ' = [some (.ref l), some (.ref p), some (.ref Sx), some (.ref Nx), some (.int d), some (.ref D1), none, none] ∧ H' = H4) (fun key => ?_) (fun σ' H' h => ?_)
      · refine ⟨_, rfl, rfl, _, rfl, ite2 (fun c => ?_) (fun c => key _ _ ⟨rfl, rfl⟩)⟩
        refine ⟨_, rfl, p, _, 0, hdV kh, rfl, rfl, SqT.of hp4, at_of (j := 0) rfl rfl, (by show 1 ≤ sizeLine; decide), fun p5 hp5 => ?_⟩
        have s5 := same_new (o := .tup [hdV kh]) hp5
        refine ⟨_, rfl, 1, rfl, noPart_read (slB_read (SqT.of (s5 _ _ hp4)) fun p6 H6 s6 t6 => ?_)⟩
        refine ⟨p6, _, rfl, t6, fun r hr' => ?_⟩
        have s7 := same_new (o := .tup (ks.map (·.1)).reverse) hr'
        refine cat_readT (SqT.of (s7 _ _ (s6 _ _ upd_same))) (SqT.of upd_same) (by rw [List.length_reverse, lk]; show 1 + ks.length ≤ 1000; omega) (by simp) (by rw [Ne, List.reverse_eq_nil_iff]; exact nk) fun p8 H8 s8 hp8 => ?_
        have s58 := ((s5.trans s6).trans s7).trans s8
        have k08 := k4.trans (Keep.same s58)
        rw [← List.map_reverse] at hp8
        exact fin kh ks.reverse p8 H8 (f4.same s58) k08 hp8 (by rw [List.length_reverse]; exact la) (hdS_tr (Tr.keep hf k08) hs) hi (fun e he => gks H8 (Tr.keep hf k08) e (List.mem_reverse.mp he)) (by rw [List.map_reverse, szL_rev]; exact kle)
      obtain ⟨rfl, e⟩ := h
      rw [e]
      clear e H'
      have ln : (((hdV kh :: ks.map (·.1)).length : Nat) : Int) - 1 = ((ks.length : Nat) : Int) := by
        rw [List.length_cons, lk]
        omega
      refine ⟨_, rfl, _, rfl, p, _, rfl, .inr (SqT.of hp4), _, _, rfl, rfl, l, _, rfl, f4, ?_, ?_, fun x H5 x0 x1 f5 k5 => ?_⟩
      · rw [ln]
        omega
      · rw [ln]
        omega
      rw [ln] at x1
      obtain ⟨j, rfl⟩ : ∃ j : Nat, x = j := ⟨x.toNat, by omega⟩
      have lj : j < ks.length := by omega
      have hj : ks[j]? = some ks[j] := List.getElem?_eq_getElem lj
      generalize ks[j] = e0 at hj
      have me0 := List.mem_of_getElem? hj
      have k05 := k4.trans k5
      have t05 := Tr.keep hf k05
      have hp5 := t05.tup _ _ hp
      have each : sz e0.2 ≤ szL ms := szL_mem (i := j) (by rw [← em, List.getElem?_map, hj]; rfl)
      rw [szh] at short
      refine ⟨_, _, rfl, rfl, ?_⟩
      have ej : (1 : Int) + (j : Int) = ((1 + j : Nat) : Int) := by omega
      refine gN_key ?_
      dsimp only
      rw [ej]
      refine ⟨_, rfl, _, rfl, _, rfl, slA_read (n := 1 + j) (SqT.of hp5) (by rw [List.length_cons, lk]; omega) fun p6 H6 s6 t6 => ?_⟩
      have f6 := f5.same s6
      have k6 := k05.trans (Keep.same s6)
      have tr6 := Tr.keep hf k6
      refine ⟨_, rfl, _, rfl, _, rfl, p, _, ((1 + j : Nat) : Int), e0.1, rfl, rfl, SqT.of (tr6.tup _ _ hp), at_of (xs := hdV kh :: ks.map (·.1)) (j := 1 + j) rfl (by rw [Nat.add_comm, List.getElem?_cons_succ, List.getElem?_map, hj]; rfl), _, rfl, _, rfl, l, Sx, Nx, e0.1, e0.2, ns, rfl, gks H6 tr6 e0 me0, by omega, f6, nS, k6 _ _ nS hS, lS, fun e he => (gS e he).keep hf k6, nN, k6 _ _ nN hN, lN0, lN, gN, fun v' m' H7 hm' le' f7 k7 => ⟨(by show 1 ≤ sizeLine; decide), fun p8 hp8 => ?_⟩⟩
      have k07 := k6.trans k7
      have s8 := same_new (o := .tup [v']) hp8
      have t6' := SqT.same s8 (sqT_tr (Tr.keep f6 k7) t6)
      have ltk : ((hdV kh :: ks.map (·.1)).take (1 + j)).length = 1 + j := by
        rw [List.length_take, List.length_cons, lk]
        omega
      refine cat_readT t6' (SqT.of upd_same) (by rw [ltk]; show 1 + j + 1 ≤ 1000; omega) (fun e => by rw [e] at ltk; exact absurd ltk (by show ¬ 0 = 1 + j; omega)) (by simp) fun p9 H9 s9 hp9 => ?_
      have s89 := s8.trans s9
      have f9 := f7.same s89
      have k9 := k07.trans (Keep.same s89)
      have tr9 := Tr.keep hf k9
      have e2 : ((1 + j : Nat) : Int) + 1 = ((1 + j + 1 : Nat) : Int) := by omega
      have hvj : (ks.set j (v', m')).length = ks.length := List.length_set
      refine ⟨_, rfl, _, rfl, _, _, rfl, rfl, _, rfl, ?_⟩
      rw [e2]
      refine noPart_read (slD_read (n := 1 + j + 1) (SqT.of (tr9.tup _ _ hp)) (by rw [List.length_cons, lk]; omega) (by omega) fun p10 H10 s10 t10 => ?_)
      have ldk : ((hdV kh :: ks.map (·.1)).drop (1 + j + 1)).length ≤ ks.length := by
        rw [List.length_drop, List.length_cons, lk]
        omega
      refine cat_read (s10 _ _ hp9) t10 (by rw [List.length_append, ltk]; show 1 + j + 1 + _ ≤ 1000; omega) (by simp) fun p11 H11 s11 hp11 => ?_
      have k11 := k9.trans (Keep.same (s10.trans s11))
      have tr11 := Tr.keep hf k11
      have tq : Tr H7 H11 := Tr.same ((s89.trans s10).trans s11)
      rw [set_parts _ _ _ (by rw [List.length_cons, lk]; omega), Nat.add_comm 1 j, List.set_cons_succ, show (v' : V) = (v', m').1 from rfl, ← List.map_set] at hp11
      refine fin kh (ks.set j (v', m')) p11 H11 (f9.same (s10.trans s11)) k11 hp11 (hvj.trans la) (hdS_tr tr11 hs) hi (fun e he => ?_) ?_
      · rcases List.mem_or_eq_of_mem_set he with he | rfl
        · exact gks H11 tr11 e he
        · exact moR_tr tq hm'
      · refine Nat.le_trans ?_ kle
        rw [List.map_set, szL_sum, szL_sum]
        exact set_le _ _ (by rw [List.getElem?_map, hj]; rfl) le'
end
end LK

/-! ranges as values: how long -/
namespace LR
open PySem PySem.Spec PyProof.Rows L2
section
variable {X : Cx}
theorem cr_range1 : CallR X (.type "range") (fun vs H Q => ∃ j, vs = [V.int j] ∧ ∀ p, H p = none → Q (.ref p) (upd H p (.rng 0 j))) := by
  intro pins s σ H vs us Q I r h
  obtain ⟨j, rfl, q⟩ := h
  obtain ⟨u, rfl, ru⟩ := vals1 r
  obtain ⟨t, rfl⟩ := ru
  refine call_range_1 ⟨.ref s.heap.objs.size, upd H s.heap.objs.size (.rng 0 j), I.laid (t' := s.toks + 1 + 1) (fun b o e => Heap.get?_push_of_some _ e) (Nat.le_refl _) ?_, rfl, q _ (I.hok.fresh (Nat.le_refl _))⟩
  exact ⟨s.toks, t, s.toks + 1, Heap.get?_push_size _ rfl⟩
theorem call_len_rng : CallR X (.builtin "len") (fun xs H Q => ∃ (p : Addr) (n : Nat), xs = [.ref p] ∧ H p = some (.rng 0 n) ∧ n < 4611686018427387904 ∧ Q (.int n) H) := by
  intro pins s σ H xs us Q I r h
  obtain ⟨p, n, rfl, hp, ln, q⟩ := h
  obtain ⟨u, rfl, rx⟩ := vals1 r
  cases rx
  obtain ⟨t1, t2, t3, ho⟩ := I.hok p _ hp
  refine call_len_range (n := n) ho ?_ (by omega) ⟨.int n, H, (I.tok _).tok _, ⟨_, rfl⟩, q⟩
  rw [rangeSize_one]
  by_cases h : (0 : Int) < (n : Int)
  · rw [if_pos h]; omega
  · rw [if_neg h]; omega
end
end LR

namespace LK
open PySem PySem.Spec PyProof.Rows L2 LR
/-! ### how long an expression is -/
section
variable {P : Program} {w : World} {K : PySem.W.Frag} {mg : Str → Option Value} {base : Heap}
theorem scXL : FnScope ["self"] ["self"] (defScope sExprLen) := ⟨rfl, rfl, rfl, by decide +kernel, rfl, by decide +kernel, by decide +kernel⟩
def spLenN (K : PySem.W.Frag) (C cS : Addr) : Sp := fun vs H Q _ => ∃ (a : Addr) (m : Md) (n : Nat), vs = [.ref a] ∧ ExR K C cS n H m (.ref a) ∧ sz m ≤ 1000 ∧ ∀ H', Same H H' → Q (.int (sz m)) H'
theorem ok_exLen {C cS f : Addr} {fd : FuncData} (S : Std mg) (cl : Cls K C) (n : ExN K C) (F : Fun K "__len__" "Expr.__len__" sExprLen f fd) : FnOk P w K mg base CX0 1 f fd ["self"] (spLenN K C cS) := by
  refine F.ok scXL (fun vs H Q E h => ?_) (fun cdv A outer s H vs Q E hr h => ?_)
  · obtain ⟨a, m, k, rfl, _⟩ := h
    rfl
  · obtain ⟨a, m, k, rfl, hE, ln, q⟩ := h
    refine ⟨_, pss_one (ps_ret (pe_callB call_len_rng (by rfl) S.len PySem.boot_len (pa_cons (pe_callTy cr_range1 (by rfl) S.range (by decide +kernel) (pa_cons (pe_fld (pv 0) rfl) pa_nil)) pa_nil))), ?_⟩
    obtain ⟨es, fx⟩ := hE.fld
    obtain ⟨a', dx, p, q1, q2, j, ys, bs, ks, e, ha, _⟩ := fx
    cases e
    exact ⟨_, rfl, a, C, dx, _, .int (sz m), rfl, ha, cl, n.size, rfl, _, rfl, fun p hp => ⟨p, sz m, rfl, upd_same, by omega, q _ (same_new hp)⟩⟩
end
/-! ### values found just alike: texts, steps, tuples of them -/
def LeafX (cS : Addr) (H : Hp) (x y : V) : Prop := (∃ z, x = .str z ∧ y = .str z) ∨ ∃ a b z u, x = .ref a ∧ y = .ref b ∧ StepAt cS H a z u ∧ StepAt cS H b z u
theorem LeafX.same {cS : Addr} {H H' : Hp} {x y : V} (s : Same H H') (h : LeafX cS H x y) : LeafX cS H' x y := h.imp id fun ⟨a, b, z, u, e1, e2, h1, h2⟩ => ⟨a, b, z, u, e1, e2, h1.same s, h2.same s⟩
def AlikeX (K : PySem.W.Frag) (cS : Addr) : Nat → Hp → V → V → Prop
  | 0, _, _, _ => False
  | n + 1, H, x, y => LeafX cS H x y ∨ ∃ a b xs ys, x = .ref a ∧ y = .ref b ∧ xs.length = ys.length ∧ xs.length ≤ 100 ∧ H a = some (.tup xs) ∧ H b = some (.tup ys) ∧
      ∀ (i : Nat) x' y', xs[i]? = some x' → ys[i]? = some y' → AlikeX K cS n H x' y'
theorem AlikeX.same {K : PySem.W.Frag} {cS : Addr} {H H' : Hp} (s : Same H H') : ∀ {n : Nat} {x y : V}, AlikeX K cS n H x y → AlikeX K cS n H' x y
  | 0, _, _, h => h.elim
  | n + 1, x, y, h => by
    rcases h with h | ⟨a, b, xs, ys, e1, e2, hl, h20, p, q, hi⟩
    · exact .inl (h.same s)
    · exact .inr ⟨a, b, xs, ys, e1, e2, hl, h20, s _ _ p, s _ _ q, fun i x' y' p q => (hi i x' y' p q).same s⟩
theorem leafX_kind {K : PySem.W.Frag} {mg : Str → Option Value} {cS fE : Addr} {dE : FuncData} (I : StF K mg cS fE dE) {H : Hp} {x y : V} (h : LeafX cS H x y) :
    ∃ t, TyX K H x t ∧ TyX K H y t ∧ PySem.W.kitOne K t (.type "tuple") = some false ∧ PySem.W.kitOne K t (.type "list") = some false ∧ PySem.W.kitOne K t (.type "bool") = some false ∧ ((∃ z, x = .str z ∧ y = .str z) ∨ (t = .ref cS ∧ ∃ a b z u, x = .ref a ∧ y = .ref b ∧ StepAt cS H a z u ∧ StepAt cS H b z u)) := by
  rcases h with ⟨z, rfl, rfl⟩ | ⟨a, b, z, u, rfl, rfl, ⟨da, ha⟩, ⟨db, hb⟩⟩
  · exact ⟨_, .base (.str z), .base (.str z), kit_ty (by decide +kernel), kit_ty (by decide +kernel), kit_ty (by decide +kernel), .inl ⟨z, rfl, rfl⟩⟩
  · exact ⟨_, I.cT.ty ha, I.cT.ty hb, I.cT.nt, I.cT.nl, I.cT.nb, .inr ⟨rfl, a, b, z, u, rfl, rfl, ⟨da, ha⟩, ⟨db, hb⟩⟩⟩
def spSameX (K : PySem.W.Frag) (cS : Addr) (n : Nat) : Sp := fun vs H Q _ => ∃ (x y : V), vs = [x, y] ∧ AlikeX K cS n H x y ∧ ∀ H', Same H H' → Q (.bl true) H'
section
variable {P : Program} {w : World} {K : PySem.W.Frag} {mg : Str → Option Value} {base : Heap}
theorem ok_sameX {cS fE f : Addr} {dE fd : FuncData} (S : Std mg) (I : StF K mg cS fE dE) (D : Df K mg "_law_same" sSame f fd ["_law_found", "_law_due"]) : ∀ n, FnOk P w K mg base CX0 (n + 3) f fd ["_law_found", "_law_due"] (spSameX K cS n)
  | 0 => D.F.ok scSame (fun vs H Q E h => by obtain ⟨x, y, _, h, _⟩ := h; exact h.elim) (fun cdv A outer s H vs Q E hr h => by obtain ⟨x, y, _, h, _⟩ := h; exact h.elim)
  | n + 1 => by
    have G := ok_sameX S I D n
    have GE : FnOk P w K mg base CX0 1 fE dE ["self", "other"] (spEqB K cS) := ok_stepEqB S I.cT I.s1 I.s2 I.q.F
    refine D.F.ok scSame (fun vs H Q E h => ?_) (fun cdv A outer s H vs Q E hr h => ?_)
    · obtain ⟨x, y, rfl, _⟩ := h
      rfl
    · obtain ⟨x, y, rfl, hd, q⟩ := h
      have rm1 : Room 1 _ := hr.mono (by omega)
      refine ⟨_, pss_cons (ps_if (pt_val (pe_callB call_isiT (by rfl) S.isi (by decide +kernel) (pa_cons (pv 1) (pa_cons (pe_tup (pa_cons (pe_bltn (v := .ty "tuple") (by rfl) S.tuple (by decide +kernel) rfl) (pa_cons (pe_bltn (v := .ty "list") (by rfl) S.list (by decide +kernel) rfl) pa_nil))) pa_nil))))
        (pss_cons (ps_if (PW.pt (pw_or (pt_cmpR op_ne (pe_callB call_isi (by rfl) S.isi (by decide +kernel) (pa_cons (pv 0) (pa_cons (pe_bltn (v := .ty "tuple") (by rfl) S.tuple (by decide +kernel) rfl) pa_nil))) (pe_callB call_isi (by rfl) S.isi (by decide +kernel) (pa_cons (pv 1) (pa_cons (pe_bltn (v := .ty "tuple") (by rfl) S.tuple (by decide +kernel) rfl) pa_nil))) (nomark _))
            (pw_or1 (pt_cmpR op_ne (pe_callB call_isi (by rfl) S.isi (by decide +kernel) (pa_cons (pv 0) (pa_cons (pe_bltn (v := .ty "list") (by rfl) S.list (by decide +kernel) rfl) pa_nil))) (pe_callB call_isi (by rfl) S.isi (by decide +kernel) (pa_cons (pv 1) (pa_cons (pe_bltn (v := .ty "list") (by rfl) S.list (by decide +kernel) rfl) pa_nil))) (nomark _)))))
          (pss_one (ps_ret pe_bl)) pss_nil)
        (pss_one (ps_ret (pe_and (pe_cmpR op_eq (pe_callB call_len (by rfl) S.len PySem.boot_len (pa_cons (pv 0) pa_nil)) (pe_callB call_len (by rfl) S.len PySem.boot_len (pa_cons (pv 1) pa_nil)) (nomark _))
          (pe_one (pe_callB (cr_all rfl) (by rfl) S.all (by decide +kernel) (pa_cons (pe_lc (own := [("_law_one", 2), ("_law_other", 3)]) (g := gTup K 2 (gCons (gName 2) (gCons (gName 3) gNil))) (tt := tYes) rfl scSame.nd
            (RZ.pi_zipA (by rfl) S.zip (pa_cons (pv 0) (pa_cons (pv 1) pa_nil))) (blkOk_by (N := nSame) (sc := defScope sSame) (by decide +kernel))
            (fun _ _ _ _ _ => pg_tup rfl (pgs_cons (pg_name (i := 2) scSame.nd rfl (Or.inl rfl)) (pgs_cons (pg_name (i := 3) scSame.nd rfl (Or.inl rfl)) pgs_nil))) (fun _ _ _ _ _ => pts_nil)
            (fun _ _ _ _ _ => pe_call G hr rfl D.g D.F.kp D.b .nil pass0 (pa_cons (pv 2) (pa_cons (pv 3) pa_nil)))) pa_nil))))))) pss_nil)
        (pss_one (ps_ret (pe_and (pe_cmpR op_eq (pe_callB call_isi (by rfl) S.isi (by decide +kernel) (pa_cons (pv 0) (pa_cons (pe_bltn (v := .ty "bool") (by rfl) S.bool (by decide +kernel) rfl) pa_nil))) (pe_callB call_isi (by rfl) S.isi (by decide +kernel) (pa_cons (pv 1) (pa_cons (pe_bltn (v := .ty "bool") (by rfl) S.bool (by decide +kernel) rfl) pa_nil))) (nomark _))
          (pe_one (pe_cmpR (op_or op_eq (op_eqOwn (C := cS) (E := E0) GE I.q.at_ I.q.fn I.q.b pass0 rm1)) (pv 0) (pv 1) (nomark _)))))), ?_⟩
      refine ⟨_, rfl, (by show 2 ≤ sizeLine; decide), fun p hp => ?_⟩
      have s1 : Same H (upd H p (.tup [.ty "tuple", .ty "list"])) := same_new hp
      have kp := q _ s1
      rcases hd with lf | ⟨a, b, xs, ys, rfl, rfl, hxy, h20, h1, h2, hi⟩
      · obtain ⟨t, ty, ty', k1, k2, k3, lf⟩ := leafX_kind I (lf.same s1)
        refine ⟨y, p, _, _, _, _, rfl, upd_same, .cons (.ty _) (.cons (.ty _) .nil), ty', kitA k1 k2, _, rfl, iteF ?_⟩
        refine ⟨_, rfl, _, _, _, _, false, rfl, .ty "bool", ty, k3, _, rfl, _, _, _, _, false, rfl, .ty "bool", ty', k3, rfl, _, rfl, ?_⟩
        rw [decide_eq_true (show V.bl false = V.bl false from rfl)]
        refine iteT ⟨_, rfl, _, rfl, ?_⟩
        rcases lf with ⟨z, rfl, rfl⟩ | ⟨et, a, b, z, u, rfl, rfl, ⟨da, ha⟩, hb⟩
        · refine .inl ⟨rfl, ?_⟩
          rw [decide_eq_true (show V.str z = V.str z from rfl)]
          exact kp
        · refine .inr ⟨a, da, _, _, rfl, ha, ty', et ▸ nf_own, a, .ref b, z, u, rfl, ⟨da, ha⟩, .inl ⟨b, z, u, rfl, hb, ?_⟩⟩
          rw [decide_eq_true (show z = z from rfl), decide_eq_true (show u = u from rfl)]
          exact ⟨true, rfl, kp⟩
      · have tys : ∃ t tt ll, TyX K (upd H p (.tup [.ty "tuple", .ty "list"])) (.ref a) t ∧ TyX K (upd H p (.tup [.ty "tuple", .ty "list"])) (.ref b) t ∧ PySem.W.kitOne K t (.type "tuple") = some tt ∧ PySem.W.kitOne K t (.type "list") = some ll ∧ (tt || ll) = true := by
          exact ⟨.type "tuple", true, false, .base (.tup (s1 _ _ h1)), .base (.tup (s1 _ _ h2)), kit_ty (by decide +kernel), kit_ty (by decide +kernel), rfl⟩
        obtain ⟨ty, t, l, tx1, ty1, k1, k2, k3⟩ := tys
        refine ⟨_, p, _, _, _, _, rfl, upd_same, .cons (.ty _) (.cons (.ty _) .nil), ty1, kitA k1 k2, _, rfl, ?_⟩
        rw [k3]
        refine iteT ?_
        refine ⟨_, rfl, _, _, _, _, t, rfl, .ty "tuple", tx1, k1, _, rfl, _, _, _, _, t, rfl, .ty "tuple", ty1, k1, rfl, _, rfl, ?_⟩
        rw [decide_eq_true (show V.bl t = V.bl t from rfl)]
        refine iteF ?_
        refine ⟨_, rfl, _, _, _, _, l, rfl, .ty "list", tx1, k2, _, rfl, _, _, _, _, l, rfl, .ty "list", ty1, k2, rfl, _, rfl, ?_⟩
        rw [decide_eq_true (show V.bl l = V.bl l from rfl)]
        refine iteF ?_
        have lens : LenV K (V.ref a) (upd H p (.tup [.ty "tuple", .ty "list"])) xs.length ∧ LenV K (V.ref b) (upd H p (.tup [.ty "tuple", .ty "list"])) ys.length := by
          exact ⟨.inr ⟨_, SqT.of (s1 _ _ h1), rfl⟩, .inr ⟨_, SqT.of (s1 _ _ h2), rfl⟩⟩
        refine ⟨_, rfl, _, _, rfl, lens.1, _, rfl, _, _, rfl, lens.2, rfl, _, rfl, ?_⟩
        rw [decide_eq_true (show V.int xs.length = V.int ys.length by rw [hxy])]
        refine iteT ?_
        have inv0 : ∀ D : Addr, (upd H p (.tup [.ty "tuple", .ty "list"])) D = none → Keep D H (upd (upd H p (.tup [.ty "tuple", .ty "list"])) D (.lst [])) := fun D hD => (Keep.same s1).trans (Keep.new hD)
        have turn : ∀ (D : Addr), H D = none → ∀ (i : Nat) (x y : V) (T : Addr) (H4 : Hp), xs[i]? = some x → ys[i]? = some y → (Keep D H H4 ∧ H4 D = some (.lst (List.replicate i (V.bl true)))) → H4 T = none →
            spSameX K cS n [x, y] (upd H4 T (.tup [x, y])) (fun y H5 => ∃ acc, H5 D = some (.lst acc) ∧ acc.length < sizeLine ∧ (Keep D H (upd H5 D (.lst (acc ++ [y]))) ∧ (upd H5 D (.lst (acc ++ [y]))) D = some (.lst (List.replicate (i + 1) (V.bl true))))) E0 := by
          rintro D hD i x y T H4 hx hy ⟨k4, d4⟩ hT
          have sH : Same H H4 := fun b o e => k4 b o (ne_of_none e hD) e
          have s4 : Same H (upd H4 T (.tup [x, y])) := sH.trans (same_new hT)
          refine ⟨x, y, rfl, (hi i x y hx hy).same s4, fun H5 s5 => ?_⟩
          have lt : i < xs.length := (List.getElem?_eq_some_iff.mp hx).1
          refine ⟨_, s5 _ _ (same_new hT _ _ d4), by rw [List.length_replicate]; exact small1000 (by omega), fun b o n e => ?_, ?_⟩
          · rw [upd_ne n]
            exact s5 _ _ (s4 b o e)
          · rw [upd_same, List.replicate_succ']
        have fin : ∀ (D : Addr), H D = none → ∀ H4 : Hp, (Keep D H H4 ∧ H4 D = some (.lst (List.replicate xs.length (V.bl true)))) → ∃ (a' : Addr) (bs : List Bool), [V.ref D] = [V.ref a'] ∧ SqL K H4 a' (bs.map V.bl) ∧ Q (.bl (bs.all id)) H4 := by
          rintro D hD H4 ⟨k4, d4⟩
          refine ⟨D, List.replicate xs.length true, rfl, SqL.of (by rw [List.map_replicate]; exact d4), ?_⟩
          rw [show (List.replicate xs.length true).all id = true from by rw [List.all_eq_true]; intro b hb; exact (List.mem_replicate.mp hb).2]
          exact q _ fun b o e => k4 b o (ne_of_none e hD) e
        refine ⟨_, rfl, _, rfl, a, b, xs, ys, rfl, ?_⟩
        refine .inr ⟨SqT.of (s1 _ _ h1), SqT.of (s1 _ _ h2), fun D hD => lc_zipT hxy (fun i H4 => Keep D H H4 ∧ H4 D = some (.lst (List.replicate i (V.bl true)))) ⟨inv0 D hD, upd_same⟩
            (fun i H4 ⟨k4, _⟩ => ?_) (fun i x y T H4 hx hy pv4 hT => ?_) (fin D (s1.free hD))⟩
        · have sH : Same H H4 := fun b o e => k4 b o (ne_of_none e (s1.free hD)) e
          exact ⟨SqT.of (sH _ _ h1), SqT.of (sH _ _ h2)⟩
        · exact ⟨T, _, rfl, SqT.of upd_same, rfl, _, _, rfl, _, _, rfl, rfl, rfl, _, rfl, _, rfl, turn D (s1.free hD) i x y T H4 hx hy pv4 hT⟩
end
end LK

/-! x != y where x's class has an own __eq__ and no own __ne__ -/
namespace LR
open PySem PySem.Spec PyProof.Rows L2
theorem slotNe : Slot "object" "__ne__" "object.__ne__" :=
  Slot.of (owner := "object") (n := "__ne__") (by rw [typeLookup_type, builtinLookup_eq_fast]; kernel_rfl) F.cmpSplit_ne (by decide +kernel) (by decide +kernel) (.inl (by decide +kernel)) (by rw [isSubtype_type]; kernel_rfl)
section
variable {prog : Program} {w : World} {A : Around} {E : Value → Shared → Prop} {s : Shared} {K : PySem.W.Frag} {x C f : Addr} {ox : Obj} {od : Option Obj} {b : Value}
/-- the inherited __ne__ is asked -/
theorem ask_ne {M : Model} {Q : Option Value → Shared → Prop} (X : K.In s.heap) (I : PySem.W.InstAt s.heap x ox C od) (hn : PySem.W.findIn K (.ref C) "__ne__" = some (some (.builtin "object.__ne__")))
    (h : wpAny M A (call (.builtin "object.__ne__") [.ref x, b]) (fun v => Q (some v)) E s) : wpAny M A (callSpecialIfBound? (.ref x) "__ne__" [b]) Q E s := by
  simp only [callSpecialIfBound?, bindSpecialIfBound?]
  apply wpAny_holding
  apply wpAny_bind
  apply wpAny_bind
  apply wpAny_bind
  refine I.type.here ((PySem.W.looks_findIn X hn).here ?_)
  refine wpAny_bind (wpAny_askSetting (wpAny_ite ?_))
  have last : wpAny M A (call (.builtin "object.__ne__") ([.ref x] ++ [b]) >>= fun v => pure (some v)) Q E s := wpAny_bind (wpAny_mono h (fun v s' z => wpAny_pure z) fun _ _ z => z)
  have bound : wpAny M A (bindSpecial (.builtin "object.__ne__") (.ref x)) (fun r s' => r = (.builtin "object.__ne__", [.ref x]) ∧ s' = s) E s := wpAny_of_eq (slotNe.bind _) ⟨rfl, rfl⟩
  split
  · refine wpAny_bind (wpAny_mono bound (fun r s' z => ?_) fun _ _ z => z)
    obtain ⟨rfl, rfl⟩ := z
    exact wpAny_pure (by exact last)
  · refine wpAny_tryCatch (wpAny_bind (wpAny_of_eq (slotNe.bind _) (wpAny_pure (by exact last))))
/-- object.__ne__: the own __eq__, turned -/
theorem run_ne {Q : Value → Shared → Prop} (hu : A.units + 1 < cLine) (X : K.In s.heap) (I : PySem.W.InstAt s.heap x ox C od) (ob : PySem.W.mroIn K C (.type "object") = some true) (hs : PySem.W.findIn K (.ref C) "__eq__" = some (some (.ref f))) (hf : PySem.W.isFn K (.ref f) = true)
    (h : wpAny (model prog w) A.in1 (call (.ref f) [.ref x, b]) (fun v s' => ∃ r, v = .bool r ∧ Q (.bool (!r)) s') E s) : wpAny (model prog w) A (call (.builtin "object.__ne__") [.ref x, b]) Q E s := by
  have isObj : PySem.W.Looks (model prog w) s.heap (isInstance (.ref x) (.type "object")) true := I.type.andThen (PySem.W.looks_mroIn X ob)
  refine wpAny_call (codeAny_call_builtin slotNe.plain F.cmpEntry_ne (PySem.W.check_slot F.cmpKind_ne F.cmpSplit_ne isObj (F.cmpArgs_ne _ _) ?_))
  unfold Builtin.«object.__ne__»
  refine wpAny_bind (wpAny_of_eq (a := ((Value.ref x : Value), [b])) (by simp only [slotArgs]; rfl) ?_)
  refine wpAny_bind (wpAny_cRoomFor hu ?_)
  refine wpAny_bind (PySem.W.ifBound_K X I hs hf (wpAny_mono h (fun v s' z => ?_) fun _ _ z => z))
  obtain ⟨r, rfl, q⟩ := z
  refine wpAny_bind (wpAny_truthy_bool ?_)
  exact wpAny_pure q
theorem cmp_ne {Q : Value → Shared → Prop} {tb : Value} (hu : A.units + 2 < cLine) (X : K.In s.heap) (I : PySem.W.InstAt s.heap x ox C od) (hb : PySem.W.Looks (model prog w) s.heap (typeOf b) tb) (hn : PySem.W.notFirst K C tb = true) (ob : PySem.W.mroIn K C (.type "object") = some true)
    (hne : PySem.W.findIn K (.ref C) "__ne__" = some (some (.builtin "object.__ne__"))) (hs : PySem.W.findIn K (.ref C) "__eq__" = some (some (.ref f))) (hf : PySem.W.isFn K (.ref f) = true)
    (h : wpAny (model prog w) A.in1 (call (.ref f) [.ref x, b]) (fun v s' => ∃ r, v = .bool r ∧ Q (.bool (!r)) s') E s) : wpAny (model prog w) A (richCompare .NotEq (.ref x) b) Q E s := by
  have one : wpAny (model prog w) A (tryCompare (.ref x) "__ne__" b) (fun r s' => ∃ v, r = some v ∧ Q v s') E s := by
    unfold tryCompare
    refine wpAny_bind (ask_ne X I hne (run_ne (by omega) X I ob hs hf (wpAny_mono h (fun v s' z => ?_) fun _ _ z => z)))
    obtain ⟨r, rfl, q⟩ := z
    exact ⟨r, rfl, wpAny_pure ⟨_, rfl, q⟩⟩
  unfold richCompare
  simp only [oneThing_ref]
  apply wpAny_holding
  refine wpAny_bind (wpAny_cRoomFor (by omega) (wpAny_bind (I.type.here (wpAny_bind (hb.here ?_)))))
  have fin : ∀ {r : Option Value} {s' : Shared}, (∃ v, r = some v ∧ Q v s') → wpAny (model prog w) A (pure r) (fun r s' => ∃ v, r = some v ∧ Q v s') E s' := fun z => wpAny_pure z
  split
  · rename_i other
    have below : PySem.W.subIn K tb (.ref C) = some false := by
      rcases Bool.or_eq_true_iff.mp hn with z | z
      · rw [beq_iff_eq.mp z] at other
        simp at other
      · exact beq_iff_eq.mp z
    refine wpAny_bind ((PySem.W.looks_subIn X below).here ?_)
    simp only [Bool.false_eq_true, if_false]
    refine wpAny_bind (wpAny_mono one (fun r s' z => ?_) fun _ _ z => z)
    obtain ⟨v, rfl, q⟩ := z
    exact wpAny_pure q
  · refine wpAny_bind (wpAny_pure ?_)
    simp only [Bool.false_eq_true, if_false]
    refine wpAny_bind (wpAny_mono one (fun r s' z => ?_) fun _ _ z => z)
    obtain ⟨v, rfl, q⟩ := z
    exact wpAny_pure q
end
section
variable {X : Cx} {CX : CXT} {n : Nat} {f C : Addr} {fd : FuncData} {ps : List Str} {sp : Sp} {E : XK}
theorem op_neOwn (F : FnOk X.prog X.w X.K X.mg X.base CX n f fd ps sp) (hs : PySem.W.findIn X.K (.ref C) "__eq__" = some (some (.ref f))) (hf : PySem.W.isFn X.K (.ref f) = true) (hne : PySem.W.findIn X.K (.ref C) "__ne__" = some (some (.builtin "object.__ne__"))) (ob : PySem.W.mroIn X.K C (.type "object") = some true) (hb : Binds X.K fd ps []) (hx : Passes CX X E) (hr : Room (n + 1) X.A) :
    OpR X (compareOp .NotEq) (fun x y H Q => ∃ a dx fs t, x = V.ref a ∧ H a = some (.ins C dx fs) ∧ TyX X.K H y t ∧ PySem.W.notFirst X.K C t = true ∧ sp [V.ref a, y] H (fun v H' => ∃ b, v = .bl b ∧ Q (.bl (!b)) H') E) := by
  intro pins s σ H x y v u Q I rx ry h
  obtain ⟨a, dx, fs, t, rfl, ha, ty, nf, h⟩ := h
  cases rx
  obtain ⟨mA, J, _⟩ := ins_get I.hok ha
  obtain ⟨od, J, _⟩ := J.look
  obtain ⟨Pk, Z, pk, _⟩ := kit_of I ry ty
  refine cmp_ne (by have := hr.un; omega) I.kIn J (Z.ty _ _ I.kIn pk) nf ob hne hs hf ?_
  refine wpAny_mono (call_run (A := X.A.in1) ⟨hr.in1, rfl⟩ F hb hx I (.cons (show RelV (V.ref a) (Value.ref a) from rfl) (.cons ry .nil)) h) (fun v s' q => ?_) fun _ _ z => z
  obtain ⟨y', H', I', ry', b, rfl, q⟩ := q
  cases ry'
  exact ⟨b, rfl, .bl (!b), H', I', rfl, q⟩
end
end LR

namespace LK
open PySem PySem.Spec PyProof.Rows L2 LR
/-! ### whole: read from the text, and the parts too -/
theorem occ_in {x y : Str} {a b : List Nat} (h : TL.tl y = a ++ (TL.tl x ++ b)) : (!(Builtin.Str.occurrences y x 0 y.length 1).isEmpty) = true := by
  refine (StrLaws.found_iff y x).mpr ⟨a.length, ?_, ?_⟩
  · have e : y.length = (TL.tl y).length := rfl
    have e' : x.length = (TL.tl x).length := rfl
    rw [e, e', h, List.length_append, List.length_append]
    omega
  · unfold Builtin.Str.subAt
    rw [beq_iff_eq]
    have ey : y.cps = (a ++ (TL.tl x ++ b)).toArray := by
      rw [← h]
    have ex : x.cps = (TL.tl x).toArray := rfl
    have lx : x.length = (TL.tl x).length := rfl
    rw [ey, lx]
    refine Eq.trans ?_ ex.symm
    simp
mutual
theorem eqM_self : ∀ m : Md, eqM m m = true
  | .nm z => by rw [eqM]; simp
  | .ap h ms => by
    rw [eqM, eqL_self ms, Bool.and_true]
    cases h <;> simp [eqH]
theorem eqL_self : ∀ ms : List Md, eqL ms ms = true
  | [] => by rw [eqL]
  | m :: r => by rw [eqL, eqM_self m, eqL_self r]; rfl
end
theorem joinL_split {S : List Nat} : ∀ {l : List (List Nat)} {i : Nat} {p : List Nat}, l[i]? = some p → ∃ a b, TL.joinL S l = a ++ (p ++ b)
  | [], i, p, h => by cases h
  | [a], 0, p, h => by cases h; exact ⟨[], [], by simp [TL.joinL]⟩
  | [a], i + 1, p, h => by cases h
  | a :: c :: r, 0, p, h => by
    cases h
    exact ⟨[], S ++ TL.joinL S (c :: r), rfl⟩
  | a :: c :: r, i + 1, p, h => by
    obtain ⟨u, v, e⟩ := joinL_split (S := S) (l := c :: r) (i := i) h
    refine ⟨a ++ (S ++ u), v, ?_⟩
    show a ++ (S ++ TL.joinL S (c :: r)) = _
    rw [e]
    simp
/-- a part's text stands in the text -/
theorem cp_part {m : Md} {i : Nat} {m' : Md} (h : (prM m)[i]? = some m') : ∃ a b, cp m = a ++ (cp m' ++ b) := by
  cases m with
  | nm z => cases h
  | ap hd ms =>
    have hc : (cpL ms)[i]? = some (cp m') := by
      rw [cpL_map, List.getElem?_map]
      rw [show (prM (.ap hd ms)) = ms from rfl] at h
      rw [h]
      rfl
    obtain ⟨u, v, e⟩ := joinL_split (S := [44, 32]) hc
    refine ⟨TL.tl (hdW hd) ++ 40 :: u, v ++ [41], ?_⟩
    rw [cp_ap, e]
    simp
/-- the names of two expressions of one model -/
theorem alike_nms {K : PySem.W.Frag} {cS q1 q2 : Addr} {H : Hp} {ys zs : List Str} (h1 : H q1 = some (.tup (ys.map V.str))) (h2 : H q2 = some (.tup (zs.map V.str))) (e : ys = zs) (l : ys.length ≤ 100) : AlikeX K cS 2 H (.ref q1) (.ref q2) := by
  subst e
  refine .inr ⟨q1, q2, _, _, rfl, rfl, rfl, by rw [List.length_map]; exact l, h1, h2, fun i x y hx hy => .inl (.inl ?_)⟩
  rw [hx] at hy
  cases hy
  rw [List.getElem?_map] at hx
  obtain ⟨z, _, rfl⟩ := Option.map_eq_some_iff.mp hx
  exact ⟨z, rfl, rfl⟩
theorem alike_sts {K : PySem.W.Frag} {cS q1 q2 : Addr} {H : Hp} {bs cs : List V} {ks js : List (Str × Str)} (h1 : H q1 = some (.tup bs)) (h2 : H q2 = some (.tup cs)) (k1 : KeyL cS H bs ks) (k2 : KeyL cS H cs js) (e : ks = js) (l : ks.length ≤ 100) : AlikeX K cS 2 H (.ref q1) (.ref q2) := by
  subst e
  refine .inr ⟨q1, q2, _, _, rfl, rfl, k1.1.trans k2.1.symm, by rw [k1.1]; exact l, h1, h2, fun i x y hx hy => .inl (.inr ?_)⟩
  have lt := (List.getElem?_eq_some_iff.mp hx).1
  rw [k1.1] at lt
  have hk : ks[i]? = some ks[i] := List.getElem?_eq_getElem lt
  generalize ks[i] = k at hk
  obtain ⟨a, rfl, ha⟩ := k1.2 i x k hx hk
  obtain ⟨b, rfl, hb⟩ := k2.2 i y k hy hk
  exact ⟨a, b, _, _, rfl, rfl, ha, hb⟩
theorem NmsOf.all {S ys : List Str} (h : NmsOf S ys) : ys.length ≤ S.length := h.le
theorem okT_part {cS : Addr} {H : Hp} {zs : Env9} {n i : Nat} {m m' : Md} (h : OkT cS H zs (n + 1) m) (e : (prM m)[i]? = some m') : OkT cS H zs n m' := by
  cases m with
  | nm z => cases e
  | ap hd ms => exact h.2.2.2 m' (List.mem_of_getElem? e)
theorem len_sz : ∀ ms : List Md, ms.length ≤ (ms.map sz).sum
  | [] => Nat.le_refl _
  | m :: r => by
    rw [List.map_cons, List.sum_cons, List.length_cons]
    have := sz_pos m
    have := len_sz r
    omega
def spSound (K : PySem.W.Frag) (C cS : Addr) (zs : Env9) (n : Nat) : Sp := fun vs H Q _ => ∃ (a A : Addr) (m : Md), vs = [.ref a, .ref A] ∧ ExR K C cS n H m (.ref a) ∧ OkT cS H zs n m ∧ Ste9 K cS A zs H ∧ sz m < 64 ∧ (cp m).length ≤ 1000 ∧ ∀ H', Same H H' → Q (.bl true) H'
section
variable {P : Program} {w : World} {K : PySem.W.Frag} {mg : Str → Option Value} {base : Heap}
def nSound : List Str := ["_law_expr_here", "_law_steps", "_law_text", "_law_again", "_law_part"]
theorem scSound : FnScope nSound ["_law_expr_here", "_law_steps"] (defScope sSound) := ⟨rfl, rfl, rfl, by decide +kernel, rfl, by decide +kernel, by decide +kernel⟩
theorem ok_sound {C cS fE fS fT fX fL fR fM f : Addr} {dE dS dT dX dL dR dM fd : FuncData} {zs : Env9} (S : Std mg) (I : EqF K mg C cS fE fS dE dS) (J : StF K mg cS fS dS) (ne : PySem.W.findIn K (.ref C) "__ne__" = some (some (.builtin "object.__ne__")))
    (T : StrO K C sExprStr "Expr.__str__" fT dT) (T1 : Df K mg "_text" sTextE fX dX ["expr"]) (L : LenM K C fL dL sExprLen "Expr.__len__") (R : Df K mg "read_expr" sReadExpr fR dR ["text", "steps"])
    (GR : FnOk P w K mg base CX0 34 fR dR ["text", "steps"] (spReadG K C cS zs)) (M : Df K mg "_law_same" sSame fM dM ["_law_found", "_law_due"]) (D : Df K mg "_law_sound" sSound f fd ["_law_expr_here", "_law_steps"]) : ∀ n, n ≤ 8 → FnOk P w K mg base CX0 (n + 38) f fd ["_law_expr_here", "_law_steps"] (spSound K C cS zs n)
  | 0, _ => D.F.ok scSound (fun vs H Q E h => by obtain ⟨_, _, _, _, h, _⟩ := h; exact h.elim) (fun cdv A outer s H vs Q E hr h => by obtain ⟨_, _, _, _, h, _⟩ := h; exact h.elim)
  | n + 1, le => by
    have G := ok_sound S I J ne T T1 L R GR M D n (by omega)
    have GS : FnOk P w K mg base CX0 34 fT dT ["self"] (spTextR K C cS 8) := ok_exStrR S T1 (ok_textR S I.c.cl I.n I.cT.cl I.s1 T T1 8) T.F
    have GL : FnOk P w K mg base CX0 1 fL dL ["self"] (spLenN K C cS) := ok_exLen S I.c.cl I.n L.F
    have GE : FnOk P w K mg base CX0 19 fE dE ["self", "other"] (spExEq K C cS 8) := ok_exEq S I 8
    have GM : FnOk P w K mg base CX0 5 fM dM ["_law_found", "_law_due"] (spSameX K cS 2) := ok_sameX S J M 2
    refine D.F.ok scSound (fun vs H Q E h => ?_) (fun cdv A outer s H vs Q E hr h => ?_)
    · obtain ⟨a, B, m, rfl, _⟩ := h
      rfl
    · obtain ⟨a, B, m, rfl, hE, hT, hB, short, ln, q⟩ := h
      have rm1 : Room (1 + 2) _ := hr.mono (by omega)
      have rm34 : Room (34 + 2) _ := hr.mono (by omega)
      have rm33 : Room 34 _ := hr.mono (by omega)
      have rm19 : Room (19 + 1) _ := hr.mono (by omega)
      have rm5 : Room 5 _ := hr.mono (by omega)
      refine ⟨_, pss_cons (ps_set (i := 2) scSound.nd rfl (Or.inl rfl) (pe_callTy (LR.call_strOwn GS T.at_ T.fn T.b pass0 rm34) (by rfl) S.str (by decide +kernel) (pa_cons (pv 0) pa_nil)))
        (pss_cons (ps_set (i := 3) scSound.nd rfl (Or.inl rfl) (pe_call GR rm33 rfl R.g R.F.kp R.b .nil pass0 (pa_cons (pv 2) (pa_cons (pv 1) pa_nil))))
        (pss_cons (ps_if (PW.pt (pw_or (pt_cmpR (op_neOwn (C := C) (E := E0) GE I.q.at_ I.q.fn ne I.c.ob I.q.b pass0 rm19) (pv 3) (pv 0) (nomark _))
            (pw_or (pt_cmpR op_ne (pe_callTy (LR.call_strOwn GS T.at_ T.fn T.b pass0 rm34) (by rfl) S.str (by decide +kernel) (pa_cons (pv 3) pa_nil)) (pv 2) (nomark _))
            (pw_or (pt_not (pt_val (pe_call GM rm5 rfl M.g M.F.kp M.b .nil pass0 (pa_cons (pe_fld (pv 3) rfl) (pa_cons (pe_fld (pv 0) rfl) pa_nil)))))
            (pw_or1 (pt_cmpR op_ne (pe_callB (call_lenOwn GL L.at_ L.fn L.b pass0 (hr.mono (by omega))) (by rfl) S.len PySem.boot_len (pa_cons (pv 3) pa_nil)) (pe_callB (call_lenOwn GL L.at_ L.fn L.b pass0 (hr.mono (by omega))) (by rfl) S.len PySem.boot_len (pa_cons (pv 0) pa_nil)) (nomark _)))))))
          (pss_one (ps_ret pe_bl)) pss_nil)
        (pss_cons (ps_if (pt_not (pt_val (pe_call GM rm5 rfl M.g M.F.kp M.b .nil pass0 (pa_cons (pe_fld (pv 3) rfl) (pa_cons (pe_fld (pv 0) rfl) pa_nil))))) (pss_one (ps_ret pe_bl)) pss_nil)
        (pss_cons (ps_for PassesOwn.never rfl (pi_tup (pe_fld (pv 0) rfl)) (pg_name (i := 4) scSound.nd rfl (Or.inl rfl))
          (pss_one (ps_if (PW.pt (pw_or (pt_cmpR op_notIn_str (pe_callTy (LR.call_strOwn GS T.at_ T.fn T.b pass0 rm34) (by rfl) S.str (by decide +kernel) (pa_cons (pv 4) pa_nil)) (pv 2) (by rfl))
            (pw_or1 (pt_not (pt_val (pe_call G hr rfl D.g D.F.kp D.b .nil pass0 (pa_cons (pv 4) (pa_cons (pv 1) pa_nil)))))))) (pss_one (ps_ret pe_bl)) pss_nil)))
        (pss_one (ps_ret (pe_cmpR op_eq (pe_callB (call_lenOwn GL L.at_ L.fn L.b pass0 (hr.mono (by omega))) (by rfl) S.len PySem.boot_len (pa_cons (pv 0) pa_nil)) (pe_op op_add pe_int (pe_callB (cr_sum rfl) (by rfl) S.sum (by decide +kernel) (pa_cons (pe_lc (own := [("_law_part", 4)]) (g := gName 4) (tt := tYes) (te := tCB (fun xs H Q => ∃ a dx fs, xs = [V.ref a] ∧ H a = some (.ins C dx fs) ∧ spLenN K C cS [V.ref a] H (fun v H' => ∃ k : Nat, v = .int k ∧ k < 4611686018427387904 ∧ Q (.int k) H') E0) (tCons (tVar 4) tNil)) rfl scSound.nd
          (pi_tup (pe_fld (pv 0) rfl)) (blkOk_by (N := nSound) (sc := defScope sSound) (by decide +kernel)) (fun _ _ _ _ _ => pg_name (i := 4) scSound.nd rfl (Or.inl rfl)) (fun _ _ _ _ _ => pts_nil)
          (fun _ _ _ _ _ => pe_callB (call_lenOwn GL L.at_ L.fn L.b pass0 (hr.mono (by omega))) (by rfl) S.len PySem.boot_len (pa_cons (pv 4) pa_nil))) pa_nil))) (nomark _)))))))), ?_⟩
      have hE0 := hE
      obtain ⟨es, ⟨a', dx, p, q1, q2, j, ys, bs, ks, ea, ha, hp, h1, hN, h2, hK, hS⟩, lE, okE, gE⟩ := hE
      cases ea
      have hE8 : ExR K C cS 8 H m (.ref a) := ExR.up le hE0
      refine ⟨_, rfl, a, dx, _, rfl, ha, m, .ref a, rfl, hE8, ln, fun y H1 hy s1 => ⟨y, rfl, ?_⟩⟩
      refine gN_key ?_
      dsimp only
      have ly : y.length = (cp m).length := by
        rw [← hy]
        rfl
      refine ⟨_, rfl, _, rfl, y, B, m, n + 1, rfl, by omega, hB.same s1, hy, hT.same s1, by omega, short, fun v H2 s2 hv => ?_⟩
      refine gN_key ?_
      dsimp only
      have hv8 : ExR K C cS 8 H2 m v := ExR.up le hv
      obtain ⟨es', ⟨b, dx', p', q1', q2', j', ys', bs', ks', rfl, hb, hp', h1', hN', h2', hK', hS'⟩, lE', okE', gE'⟩ := hv
      have s12 := s1.trans s2
      have eN : ys' = ys := hN'.eq hN fun k => Iff.rfl
      have eK : ks' = ks := hS'.eq hS fun k => Iff.rfl
      have bnd := lvs_sz m
      have lN := hN.le
      have lK := hS.le
      refine seq_key (fun σ' H' => σ' = [some (.ref a), some (.ref B), some (.str y), some (.ref b), none] ∧ Same H2 H') (fun key => ?_) (fun σ' H3 h => ?_)
      · refine ⟨_, rfl, _, rfl, b, dx', _, _, rfl, hb, I.c.ty (s12 _ _ ha), nf_own, b, .ref a, m, rfl, hv8, .inl ⟨a, m, rfl, hE8.same s12, fun H3 s3 => ⟨_, rfl, _, rfl, ?_⟩⟩⟩
        rw [eqM_self]
        refine iteF ?_
        refine ⟨_, rfl, b, dx', _, rfl, s3 _ _ hb, m, .ref b, rfl, hv8.same s3, ln, fun y2 H4 hy2 s4 => ⟨y2, rfl, _, rfl, rfl, _, rfl, ?_⟩⟩
        rw [show y2 = y from str_cps (hy2.trans hy.symm), decide_eq_true (show V.str y = V.str y from rfl)]
        refine iteF ?_
        have s24 := s3.trans s4
        have s04 := s12.trans s24
        refine ⟨_, rfl, b, C, dx', _, .ref q1', rfl, s24 _ _ hb, I.c.cl, I.n.names, rfl, _, rfl, a, C, dx, _, .ref q1, rfl, s04 _ _ ha, I.c.cl, I.n.names, rfl, .ref q1', .ref q1, rfl, alike_nms (s24 _ _ h1') (s04 _ _ h1) eN (by rw [eN]; omega), fun H5 s5 => ⟨_, rfl, iteF ?_⟩⟩
        refine ⟨_, rfl, b, dx', _, rfl, s5 _ _ (s24 _ _ hb), b, m, 8, rfl, hv8.same (s24.trans s5), by omega, fun H6 s6 => ⟨sz m, rfl, by omega, _, rfl, a, dx, _, rfl, s6 _ _ (s5 _ _ (s04 _ _ ha)), a, m, 8, rfl, hE8.same ((s04.trans s5).trans s6), by omega, fun H7 s7 => ⟨sz m, rfl, by omega, rfl, _, rfl, ?_⟩⟩⟩
        rw [decide_eq_true (show V.int (sz m) = V.int (sz m) from rfl)]
        exact iteF (key _ _ ⟨rfl, ((s24.trans s5).trans s6).trans s7⟩)
      · obtain ⟨rfl, s3⟩ := h
        have s03 := s12.trans s3
        refine seq_key (fun σ' H' => σ' = [some (.ref a), some (.ref B), some (.str y), some (.ref b), none] ∧ Same H3 H') (fun key => ?_) (fun σ' H4 h => ?_)
        · refine ⟨_, rfl, b, C, dx', _, .ref q2', rfl, s3 _ _ hb, I.c.cl, I.n.steps, rfl, _, rfl, a, C, dx, _, .ref q2, rfl, s03 _ _ ha, I.c.cl, I.n.steps, rfl, .ref q2', .ref q2, rfl, alike_sts (s3 _ _ h2') (s03 _ _ h2) (hK'.same s3) (hK.same s03) eK (by rw [eK]; omega), fun H5 s5 => ⟨_, rfl, iteF ?_⟩⟩
          exact key _ _ ⟨rfl, s5⟩
        obtain ⟨rfl, s4⟩ := h
        have s04 := s03.trans s4
        clear s1 s2 s12 s3 s03 s4 hv8 hb hp' h1' hN' h2' hK' hS' okE' gE' H1 H2 H3
        refine ⟨_, rfl, a, C, dx, _, .ref p, rfl, s04 _ _ ha, I.c.cl, I.n.parts, rfl, p, rfl, ⟨_, SqT.of (s04 _ _ hp)⟩, for_tup (xs := es) (fun i σ' H' => ∃ h, σ' = [some (.ref a), some (.ref B), some (.str y), some (.ref b), h] ∧ Same H H')
          ⟨_, rfl, s04⟩ (fun i σ' H' _ h => ?_) (fun i x σ' H' hx h => ?_) (fun σ' H' h => ?_)⟩
        · obtain ⟨_, _, s5⟩ := h
          exact SqT.of (s5 _ _ hp)
        · obtain ⟨h0, rfl, s5⟩ := h
          have lt := (List.getElem?_eq_some_iff.mp hx).1
          rw [lE] at lt
          have hm : (prM m)[i]? = some (prM m)[i] := List.getElem?_eq_getElem lt
          generalize (prM m)[i] = m' at hm
          have hx' := gE i m' x hm hx
          obtain ⟨u, v, ec⟩ := cp_part hm
          have lc : (cp m').length ≤ (cp m).length := by
            rw [ec, List.length_append, List.length_append]
            omega
          have lz : sz m' ≤ sz m := by
            have e1 := own_sz m
            have e2 := szL_mem hm
            rw [szL_sum] at e2
            omega
          obtain ⟨c, dc, fc, rfl, hc⟩ := hx'.ins
          refine ⟨_, rfl, c, dc, _, rfl, s5 _ _ hc, m', .ref c, rfl, ExR.up (by omega) (hx'.same s5), by omega, fun y' H5 hy' s6 => ⟨y', rfl, _, rfl, y', y, rfl, rfl, _, rfl, ?_⟩⟩
          rw [occ_in (x := y') (y := y) (a := u) (b := v) (by rw [hy, hy', ec])]
          refine iteF ⟨_, rfl, _, rfl, c, B, m', rfl, hx'.same (s5.trans s6), (okT_part hT hm).same (s5.trans s6), hB.same (s5.trans s6), by omega, by omega, fun H6 s7 => ⟨_, rfl, iteF ?_⟩⟩
          exact ⟨_, rfl, (s5.trans s6).trans s7⟩
        · obtain ⟨h0, rfl, s5⟩ := h
          refine ⟨_, rfl, a, dx, _, rfl, s5 _ _ ha, a, m, 8, rfl, hE8.same s5, by omega, fun H6 s6 => ⟨sz m, rfl, by omega, ?_⟩⟩
          have s06 := s5.trans s6
          refine ⟨_, rfl, a, C, dx, _, .ref p, rfl, s06 _ _ ha, I.c.cl, I.n.parts, rfl, p, rfl, ⟨_, SqT.of (s06 _ _ hp)⟩, fun D6 hD6 => lc_tup (xs := es) (fun i H4 => Same H6 H4 ∧ H4 D6 = some (.lst ((((((prM m).take i).map sz)).map fun n : Nat => (n : Int)).map V.int)))
            ⟨same_new hD6, upd_same⟩ (fun i H4 _ h => SqT.of (h.1 _ _ (s06 _ _ hp))) (fun i v H4 hv h => ?_) (fun J6 h6 => ?_)⟩
          · obtain ⟨sm, d6⟩ := h
            have lt := (List.getElem?_eq_some_iff.mp hv).1
            rw [lE] at lt
            have hm : (prM m)[i]? = some (prM m)[i] := List.getElem?_eq_getElem lt
            generalize (prM m)[i] = m' at hm
            have hx' := gE i m' v hm hv
            have lz : sz m' ≤ sz m := by
              have e1 := own_sz m
              have e2 := szL_mem hm
              rw [szL_sum] at e2
              omega
            obtain ⟨c, dc, fc, rfl, hc⟩ := hx'.ins
            have s07 := s06.trans sm
            refine ⟨rfl, _, rfl, c, dc, _, rfl, s07 _ _ hc, c, m', n, rfl, hx'.same s07, by omega, fun H8 s8 => ⟨sz m', rfl, by omega, _, s8 _ _ d6, ?_, same_put hD6 (sm.trans s8), ?_⟩⟩
            · rw [List.length_map, List.length_map, List.length_map, List.length_take, sizeLine_eq]
              have l2 := len_sz (prM m)
              have := own_sz m
              omega
            · rw [upd_same, List.take_add_one, hm, List.map_append, List.map_append, List.map_append]
              rfl
          · obtain ⟨sm, d6⟩ := h6
            rw [lE, List.take_length] at d6
            have size_eq : (1 : Int) + (((prM m).map sz).map fun n : Nat => (n : Int)).sum = ((sz m : Nat) : Int) := by
              rw [sum_cast, ← own_sz m, Int.natCast_add]
              rfl
            refine ⟨D6, _, rfl, SqL.of d6, _, _, rfl, rfl, rfl, ?_⟩
            rw [decide_eq_true (show V.int (sz m) = (fun i j => V.int (i + j)) 1 (List.map (fun n : Nat => (n : Int)) (List.map sz (prM m))).sum from congrArg V.int size_eq.symm)]
            exact q _ (s06.trans sm)
end
end LK

namespace LK
open PySem PySem.Spec PyProof.Rows L2 LR
/-! ### dicts of names -/
/-- a dict whose keys are these names, each once -/
def DkN (es : List (Key × V)) (S : List Str) : Prop := ∃ zs : List Str, es.map (·.1) = zs.map Sum.inr ∧ zs.Nodup ∧ ∀ k, k ∈ zs ↔ k ∈ S
theorem DkN.nil : DkN [] [] := ⟨[], rfl, List.nodup_nil, fun _ => Iff.rfl⟩
theorem DkN.put {es : List (Key × V)} {S : List Str} (h : DkN es S) (z : Str) (v : V) : DkN (putK es (Sum.inr z) v) (S ++ [z]) := by
  obtain ⟨zs, ek, nd, mem⟩ := h
  cases e : valV es (Sum.inr z) with
  | none =>
    have nk := valV_not e
    rw [ek] at nk
    have nz : z ∉ zs := fun m => nk (List.mem_map.mpr ⟨z, m, rfl⟩)
    refine ⟨zs ++ [z], ?_, nd_snoc nd nz, fun k => ?_⟩
    · rw [putK_new v e, List.map_append, ek, List.map_append]
      rfl
    · rw [List.mem_append, List.mem_append, mem k]
  | some u =>
    have ik := valV_in e
    rw [ek] at ik
    obtain ⟨z', mz, ez⟩ := List.mem_map.mp ik
    cases ez
    refine ⟨zs, ?_, nd, fun k => ?_⟩
    · have any : (es.any fun kv => decide (kv.1 = Sum.inr z)) = true := by
        rw [valV_any, e]
        rfl
      unfold putK
      rw [if_pos any, ← ek, List.map_map]
      refine List.map_congr_left fun kv _ => ?_
      show (if kv.1 = Sum.inr z then (kv.1, v) else kv).1 = kv.1
      split <;> rfl
    · rw [List.mem_append, List.mem_singleton]
      exact ⟨fun m => .inl ((mem k).mp m), fun m => m.elim (mem k).mpr fun e => by rw [e]; exact mz⟩
theorem DkN.len {es : List (Key × V)} {S : List Str} (h : DkN es S) : es.length ≤ S.length := by
  obtain ⟨zs, ek, nd, mem⟩ := h
  have e := congrArg List.length ek
  rw [List.length_map, List.length_map] at e
  rw [e]
  exact nodup_le nd fun k m => (mem k).mp m
/-- and their values steps of these names -/
structure DkS (cS : Addr) (H : Hp) (es : List (Key × V)) (T : List (Str × Str)) : Prop where
  n : DkN es (T.map (·.1))
  v : ∀ z u, valV es (Sum.inr z) = some u → ∃ a y, u = .ref a ∧ StepAt cS H a z y ∧ (z, y) ∈ T
theorem DkS.nil {cS : Addr} {H : Hp} : DkS cS H [] [] := ⟨DkN.nil, fun z u h => by cases h⟩
theorem DkS.put {cS a : Addr} {H : Hp} {es : List (Key × V)} {T : List (Str × Str)} {z y : Str} (h : DkS cS H es T) (s : StepAt cS H a z y) : DkS cS H (putK es (Sum.inr z) (.ref a)) (T ++ [(z, y)]) := by
  refine ⟨by rw [List.map_append]; exact h.n.put z _, fun k u e => ?_⟩
  rw [valV_put] at e
  split at e
  · rename_i c
    cases c
    cases e
    exact ⟨a, y, rfl, s, List.mem_append_right _ List.mem_cons_self⟩
  · obtain ⟨b, w, e1, e2, e3⟩ := h.v k u e
    exact ⟨b, w, e1, e2, List.mem_append_left _ e3⟩
theorem DkS.same {cS : Addr} {H H' : Hp} {es : List (Key × V)} {T : List (Str × Str)} (s : Same H H') (h : DkS cS H es T) : DkS cS H' es T := ⟨h.n, fun z u e => by
  obtain ⟨a, y, e1, e2, e3⟩ := h.v z u e
  exact ⟨a, y, e1, e2.same s, e3⟩⟩
theorem DkS.has {cS : Addr} {H : Hp} {es : List (Key × V)} {T : List (Str × Str)} {z : Str} (h : DkS cS H es T) (m : z ∈ T.map (·.1)) : ∃ a y, valV es (Sum.inr z) = some (.ref a) ∧ StepAt cS H a z y ∧ (z, y) ∈ T := by
  obtain ⟨zs, ek, nd, mem⟩ := h.n
  cases e : valV es (Sum.inr z) with
  | none =>
    have nk := valV_not e
    rw [ek] at nk
    exact absurd (List.mem_map.mpr ⟨z, (mem z).mpr m, rfl⟩) nk
  | some u =>
    obtain ⟨a, y, rfl, s, i⟩ := h.v z u e
    exact ⟨a, y, rfl, s, i⟩
theorem stepAt_dk {cS a D : Addr} {H : Hp} {es gs : List (Key × V)} {z y : Str} (e : H D = some (.dK es)) (h : StepAt cS H a z y) : StepAt cS (upd H D (.dK gs)) a z y := by
  obtain ⟨dx, h⟩ := h
  refine ⟨dx, ?_⟩
  rw [upd_ne (ne_of h e (by intro z; cases z))]
  exact h
theorem DkS.dk {cS D : Addr} {H : Hp} {es es' gs : List (Key × V)} {T : List (Str × Str)} (e : H D = some (.dK es')) (h : DkS cS H es T) : DkS cS (upd H D (.dK gs)) es T := ⟨h.n, fun z u i => by
  obtain ⟨a, y, e1, e2, e3⟩ := h.v z u i
  exact ⟨a, y, e1, stepAt_dk e e2, e3⟩⟩
/-- steps kept under their names, in the order of the names -/
theorem keys_sorted {cS : Addr} {H : Hp} {es : List (Key × V)} {T S : List (Str × Str)} {ks : List (Str × Str)} {ys : List Str} (d : DkS cS H es T) (k : KysOf S ks) (mem : ∀ x, x ∈ S ↔ x ∈ T) (one : ∀ x ∈ S, ∀ y ∈ S, x.1 = y.1 → x = y) (n : NmsOf (T.map (·.1)) ys) : ys = ks.map (·.1) := by
  have q := k.nms one
  refine n.eq q fun z => ?_
  rw [List.mem_map, List.mem_map]
  exact ⟨fun ⟨x, m, e⟩ => ⟨x, (mem x).mpr m, e⟩, fun ⟨x, m, e⟩ => ⟨x, (mem x).mp m, e⟩⟩
theorem DkN.mem {es : List (Key × V)} {S S' : List Str} (h : DkN es S) (e : ∀ k, k ∈ S ↔ k ∈ S') : DkN es S' := by
  obtain ⟨zs, ek, nd, mem⟩ := h
  exact ⟨zs, ek, nd, fun k => (mem k).trans (e k)⟩
theorem DkS.mem {cS : Addr} {H : Hp} {es : List (Key × V)} {T T' : List (Str × Str)} (h : DkS cS H es T) (e : ∀ k, k ∈ T ↔ k ∈ T') : DkS cS H es T' := ⟨h.n.mem fun k => by
  rw [List.mem_map, List.mem_map]
  exact ⟨fun ⟨x, m, q⟩ => ⟨x, (e x).mp m, q⟩, fun ⟨x, m, q⟩ => ⟨x, (e x).mpr m, q⟩⟩, fun z u i => by
  obtain ⟨a, y, e1, e2, e3⟩ := h.v z u i
  exact ⟨a, y, e1, e2, (e _).mp e3⟩⟩
theorem flG {α β : Type} (f : α → List β) {ks : List α} {i : Nat} {e : α} (h : ks[i]? = some e) : ((ks.take (i + 1)).map f).flatten = ((ks.take i).map f).flatten ++ f e := by
  rw [List.take_add_one, h]
  simp
theorem flG_le {α β : Type} (f : α → List β) (ks : List α) (i : Nat) : ((ks.take i).map f).flatten.length ≤ (ks.map f).flatten.length := by
  conv => rhs; rw [← List.take_append_drop i ks]
  rw [List.map_append, List.flatten_append, List.length_append]
  exact Nat.le_add_right _ _
theorem KeyL.tail {cS : Addr} {H : Hp} {b : V} {k : Str × Str} {bs : List V} {ks : List (Str × Str)} (h : KeyL cS H (b :: bs) (k :: ks)) : (∃ a, b = .ref a ∧ StepAt cS H a k.1 k.2) ∧ KeyL cS H bs ks :=
  ⟨h.2 0 b k rfl rfl, by have := h.1; simpa using this, fun i x y h1 h2 => h.2 (i + 1) x y h1 h2⟩
def prsOf (ms : List V) (mk : List (Str × Str)) : List (Key × V) := (mk.zip ms).map fun e => (Sum.inr e.1.1, e.2)
theorem merge_keys {cS : Addr} {H : Hp} : ∀ (ms : List V) (mk : List (Str × Str)) (es : List (Key × V)) (T : List (Str × Str)), KeyL cS H ms mk → DkS cS H es T → DkS cS H (mergeK es (prsOf ms mk)) (T ++ mk)
  | [], [], es, T, _, d => by rw [List.append_nil]; exact d
  | [], _ :: _, es, T, h, _ => by have := h.1; simp at this
  | _ :: _, [], es, T, h, _ => by have := h.1; simp at this
  | b :: ms, k :: mk, es, T, h, d => by
    obtain ⟨⟨a, rfl, s⟩, h'⟩ := h.tail
    have := merge_keys ms mk (putK es (Sum.inr k.1) (.ref a)) (T ++ [(k.1, k.2)]) h' (d.put s)
    rw [List.append_assoc] at this
    exact this
theorem paired_prs {F : Addr → Key × V → Prop} : ∀ (ps : List Addr) (ms : List V) (mk : List (Str × Str)), ps.length = ms.length → ms.length = mk.length → (∀ (i : Nat) p b k, ps[i]? = some p → ms[i]? = some b → mk[i]? = some k → F p (Sum.inr k.1, b)) → Paired F ps (prsOf ms mk)
  | [], [], [], _, _, _ => .nil
  | p :: ps, b :: ms, k :: mk, h1, h2, h => .cons (h 0 p b k rfl rfl rfl) (paired_prs ps ms mk (by simpa using h1) (by simpa using h2) fun i x y z a b c => h (i + 1) x y z a b c)
  | [], _ :: _, _, h1, _, _ => by simp at h1
  | _ :: _, [], _, h1, _, _ => by simp at h1
  | _, [], _ :: _, _, h2, _ => by simp at h2
  | _, _ :: _, [], _, h2, _ => by simp at h2
def spJoined (K : PySem.W.Frag) (C cS : Addr) : Sp := fun vs H Q _ => ∃ (a PL ML : Addr) (m : Md) (n : Nat) (ks : List (V × Md)) (ms : List V) (mk : List (Str × Str)), vs = [.ref a, .ref PL, .ref ML] ∧ ExR K C cS n H m (.ref a) ∧ H PL = some (.lst (ks.map (·.1))) ∧ H ML = some (.lst ms) ∧ KeyL cS H ms mk ∧
  (∀ e ∈ ks, ∃ n, ExR K C cS n H e.2 e.1) ∧ (∀ k, k ∈ (ks.map fun e => lvs e.2).flatten ↔ k ∈ lvs m) ∧ (∀ k, k ∈ mk ++ (ks.map fun e => sts e.2).flatten ↔ k ∈ sts m) ∧ (∀ x ∈ sts m, ∀ y ∈ sts m, x.1 = y.1 → x = y) ∧ sz m < 60 ∧
  (ks.map fun e => lvs e.2).flatten.length < 60 ∧ (mk ++ (ks.map fun e => sts e.2).flatten).length < 60 ∧ ∀ H', Same H H' → Q (.bl true) H'
section
variable {P : Program} {w : World} {K : PySem.W.Frag} {mg : Str → Option Value} {base : Heap}
def nJoined : List Str := ["_law_expr_here", "_law_parts", "_law_more", "_law_names", "_law_steps", "_law_step", "_law_part", "_law_name"]
theorem scJoined : FnScope nJoined ["_law_expr_here", "_law_parts", "_law_more"] (defScope sLJoined) := ⟨rfl, rfl, rfl, by decide +kernel, rfl, by decide +kernel, by decide +kernel⟩
theorem ok_joined {C cS fE fS fM f : Addr} {dE dS dM fd : FuncData} (S : Std mg) (dict : mg "dict" = none) (I : EqF K mg C cS fE fS dE dS) (J : StF K mg cS fS dS)
    (M : Df K mg "_law_same" sSame fM dM ["_law_found", "_law_due"]) (D : Df K mg "_law_joined" sLJoined f fd ["_law_expr_here", "_law_parts", "_law_more"]) : FnOk P w K mg base CX0 6 f fd ["_law_expr_here", "_law_parts", "_law_more"] (spJoined K C cS) := by
  have GM : FnOk P w K mg base CX0 5 fM dM ["_law_found", "_law_due"] (spSameX K cS 2) := ok_sameX S J M 2
  refine D.F.ok scJoined (fun vs H Q E h => ?_) (fun cdv A outer s H vs Q E hr h => ?_)
  · obtain ⟨a, PL, ML, m, n, ks, ms, mk, rfl, _⟩ := h
    rfl
  · obtain ⟨a, PL, ML, m, n, ks, ms, mk, rfl, hE, hP, hM, kM, gP, eN, eK, one, short, fN, fK, q⟩ := h
    have rm5 : Room 5 _ := hr.mono (by omega)
    refine ⟨_, pss_cons (ps_asg (pe_tup (pa_cons pe_dnewK (pa_cons (pe_callTy (call_dictP rfl) (by rfl) dict (by decide +kernel) (pa_cons (pe_lc (own := [("_law_step", 5)]) (g := gName 5) (tt := tYes) (te := tTup (tCons (tFld K (tVar 5) "name") (tCons (tVar 5) tNil))) rfl scJoined.nd
          (pi_list (pv 2)) (blkOk_by (N := nJoined) (sc := defScope sLJoined) (by decide +kernel)) (fun _ _ _ _ _ => pg_name (i := 5) scJoined.nd rfl (Or.inl rfl)) (fun _ _ _ _ _ => pts_nil) (fun _ _ _ _ _ => pe_tup (pa_cons (pe_fld (pv 5) rfl) (pa_cons (pv 5) pa_nil)))) pa_nil)) pa_nil))) (pg_tup rfl (pgs_cons (pg_name (i := 3) scJoined.nd rfl (Or.inl rfl)) (pgs_cons (pg_name (i := 4) scJoined.nd rfl (Or.inr rfl)) pgs_nil))))
      (pss_cons (ps_for PassesOwn.never rfl (pi_list (pv 1)) (pg_name (i := 6) scJoined.nd rfl (Or.inl rfl))
        (pss_cons (ps_for PassesOwn.never rfl (pi_tup (pe_fld (pv 6) rfl)) (pg_name (i := 7) scJoined.nd rfl (Or.inl rfl)) (pss_one (ps_dput (hu_of hr) (pv 3) (pv 7) pe_bl (by rfl))))
        (pss_one (ps_for PassesOwn.never rfl (pi_tup (pe_fld (pv 6) rfl)) (pg_name (i := 5) scJoined.nd rfl (Or.inl rfl)) (pss_one (ps_dput (hu_of hr) (pv 4) (pe_fld (pv 5) rfl) (pv 5) (by rfl)))))))
      (pss_cons (ps_if (pt_not (pt_val (pe_call GM rm5 rfl M.g M.F.kp M.b .nil pass0 (pa_cons (pe_fld (pv 0) rfl) (pa_cons (pe_callTy call_tuple_of (by rfl) S.tuple (by decide +kernel) (pa_cons (pe_callB (call_sortedD rfl) (by rfl) S.sorted (by decide +kernel) (pa_cons (pv 3) pa_nil)) pa_nil)) pa_nil))))) (pss_one (ps_ret pe_bl)) pss_nil)
      (pss_one (ps_ret (pe_call GM rm5 rfl M.g M.F.kp M.b .nil pass0 (pa_cons (pe_fld (pv 0) rfl) (pa_cons (pe_callTy call_tuple_of (by rfl) S.tuple (by decide +kernel) (pa_cons (pe_lc (own := [("_law_name", 7)]) (g := gName 7) (tt := tYes) (te := tDGet (tVar 4) (tVar 7)) rfl scJoined.nd
          (pi_list (pe_callB (call_sortedD rfl) (by rfl) S.sorted (by decide +kernel) (pa_cons (pv 4) pa_nil))) (blkOk_by (N := nJoined) (sc := defScope sLJoined) (by decide +kernel)) (fun _ _ _ _ _ => pg_name (i := 7) scJoined.nd rfl (Or.inl rfl)) (fun _ _ _ _ _ => pts_nil)
          (fun _ _ _ _ _ => pe_dget (hu_of hr) (pv 4) (pv 7) (fun _ _ => rfl))) pa_nil)) pa_nil))))))), ?_⟩
    have lm : ms.length ≤ 60 := by
      have e1 := kM.1
      rw [List.length_append] at fK
      omega
    refine (asg_key (fun y H' => ∃ T D1 D2 es, y = .ref T ∧ H' T = some (.tup [.ref D1, .ref D2]) ∧ Same H H' ∧ H' D1 = some (.dK []) ∧ H' D2 = some (.dK es) ∧ DkS cS H' es mk ∧ H D1 = none ∧ H D2 = none ∧ D1 ≠ D2) (fun R key => ?_) (fun y H1 h => ?_))
    · refine fun D1 hD1 => ?_
      have s1 := same_new (o := .dK []) hD1
      refine ⟨_, rfl, ML, rfl, ⟨_, SqL.of (s1 _ _ hM)⟩, fun D2 hD2 => lc_list (xs := ms) (fun i H' => Same (upd H D1 (.dK [])) H' ∧ ∃ ps : List Addr, H' D2 = some (.lst (ps.map V.ref)) ∧ ps.length = i ∧ ∀ (j : Nat) p b k, ps[j]? = some p → ms[j]? = some b → mk[j]? = some k → H' p = some (.tup [.str k.1, b]))
        ⟨same_new hD2, [], upd_same, rfl, fun j p b k h => nomatch h⟩ (fun i H' _ h => SqL.of (h.1 _ _ (s1 _ _ hM))) (fun i v H' hv h => ?_) (fun H' h => ?_)⟩
      · obtain ⟨s2, ps, d2, lp, gp⟩ := h
        have lt := (List.getElem?_eq_some_iff.mp hv).1
        have hk : mk[i]? = some (mk[i]'(by rw [← kM.1]; exact lt)) := List.getElem?_eq_getElem _
        generalize mk[i]'(by rw [← kM.1]; exact lt) = k at hk
        obtain ⟨b, rfl, dx, hb⟩ := kM.2 i v k hv hk
        refine ⟨rfl, _, rfl, b, cS, dx, _, .str k.1, rfl, s2 _ _ (s1 _ _ hb), I.cT.cl, I.s1, rfl, _, rfl, (by show 2 ≤ sizeLine; decide), fun p hp => ?_⟩
        have s3 := same_new (o := .tup [.str k.1, .ref b]) hp
        have np : p ≠ D2 := (ne_of_none d2 hp).symm
        refine ⟨_, s3 _ _ d2, by rw [List.length_map, lp, sizeLine_eq]; omega, same_put hD2 (s2.trans s3), ps ++ [p], by rw [upd_same, List.map_append]; rfl, by rw [List.length_append, lp]; rfl, fun j p' b' k' h1 h2 h3 => ?_⟩
        by_cases lj : j < ps.length
        · rw [List.getElem?_append_left lj] at h1
          have g := gp j p' b' k' h1 h2 h3
          rw [upd_ne (ne_of g d2 (by intro z; cases z))]
          exact s3 _ _ g
        · have l2 := (List.getElem?_eq_some_iff.mp h1).1
          rw [List.length_append, List.length_singleton] at l2
          have ej : j = ps.length := by omega
          subst ej
          rw [List.getElem?_append_right (Nat.le_refl _), Nat.sub_self] at h1
          cases h1
          rw [lp, hv] at h2
          rw [lp, hk] at h3
          cases h2
          cases h3
          rw [upd_ne np, upd_same]
      · obtain ⟨s2, ps, d2, lp, gp⟩ := h
        refine ⟨D2, ps, prsOf ms mk, rfl, SqL.of d2, paired_prs ps ms mk lp kM.1 fun i p b k h1 h2 h3 => SqT.of (gp i p b k h1 h2 h3), fun D hD => ?_⟩
        have s3 := same_new (o := .dK (mergeK [] (prsOf ms mk))) hD
        refine ⟨(by show 2 ≤ sizeLine; decide), fun T hT => key _ _ ⟨T, D1, D, _, rfl, upd_same, (((s1.trans s2).trans s3).trans (same_new hT)), same_new hT _ _ (s3 _ _ (s2 _ _ upd_same)), same_new hT _ _ upd_same, ?_, hD1, Same.free (s1.trans s2) hD, ne_of_none (s2 _ _ upd_same) hD⟩⟩
        have := merge_keys ms mk [] [] (kM.same (s1.trans s2)) DkS.nil
        exact this.same (s3.trans (same_new hT))
    obtain ⟨T, D1, D2, es0, rfl, hT, s1, d1, d2, k2, nD1, nD2, n12⟩ := h
    refine ⟨T, _, rfl, SqT.of hT, rfl, _, _, rfl, _, _, rfl, rfl, ?_⟩
    refine ⟨_, rfl, PL, rfl, ⟨_, SqL.of (s1 _ _ hP)⟩, for_list (xs := ks.map fun e : V × Md => e.1) (fun i σ' H' => ∃ h5 h6 h7 es1 es2, σ' = [some (.ref a), some (.ref PL), some (.ref ML), some (.ref D1), some (.ref D2), h5, h6, h7] ∧ Same H H' ∧ H' D1 = some (.dK es1) ∧ DkN es1 ((ks.take i).map fun e => lvs e.2).flatten ∧ H' D2 = some (.dK es2) ∧ DkS cS H' es2 (mk ++ ((ks.take i).map fun e => sts e.2).flatten))
      ⟨_, _, _, _, _, rfl, s1, d1, DkN.nil, d2, by simpa using k2⟩ (fun i σ' H' _ h => ?_) (fun i x σ' H' hx h => ?_) (fun σ' H' h => ?_)⟩
    · obtain ⟨_, _, _, _, _, _, s2, _⟩ := h
      exact SqL.of (s2 _ _ hP)
    · obtain ⟨h5, h6, h7, es1, es2, rfl, s2, d1', n1, d2', k2'⟩ := h
      rw [List.getElem?_map] at hx
      obtain ⟨e, he, rfl⟩ := Option.map_eq_some_iff.mp hx
      obtain ⟨n', hE'⟩ := gP e (List.mem_of_getElem? he)
      obtain ⟨es', ⟨b, dx, p, q1, q2, j, ys, bs, js, eb, hb, hp, h1, hN, h2, hK, hS⟩⟩ := hE'.fld
      have fl1 := flG (fun e : V × Md => lvs e.2) he
      have fl2 := flG (fun e : V × Md => sts e.2) he
      have fe1 := flG_le (fun e : V × Md => lvs e.2) ks (i + 1)
      have fe2 := flG_le (fun e : V × Md => sts e.2) ks (i + 1)
      rw [fl1, List.length_append] at fe1
      rw [fl2, List.length_append] at fe2
      rw [List.length_append] at fK
      have ly := hN.le
      have lj := hS.le
      rw [eb]
      refine seq_key (fun σ' H3 => ∃ h5 h7 es1, σ' = [some (.ref a), some (.ref PL), some (.ref ML), some (.ref D1), some (.ref D2), h5, some (.ref b), h7] ∧ Same H H3 ∧ H3 D1 = some (.dK es1) ∧ DkN es1 ((ks.take (i + 1)).map fun e => lvs e.2).flatten ∧ H3 D2 = some (.dK es2) ∧ DkS cS H3 es2 (mk ++ ((ks.take i).map fun e => sts e.2).flatten)) (fun key => ?_) (fun σ' H3 h => ?_)
      · refine ⟨_, rfl, b, C, dx, _, .ref q1, rfl, s2 _ _ hb, I.c.cl, I.n.names, rfl, q1, rfl, ⟨_, SqT.of (s2 _ _ h1)⟩, for_tup (xs := ys.map V.str) (fun j σ' H3 => ∃ h5 h7 es1, σ' = [some (.ref a), some (.ref PL), some (.ref ML), some (.ref D1), some (.ref D2), h5, some (.ref b), h7] ∧ Same H H3 ∧ H3 D1 = some (.dK es1) ∧ DkN es1 (((ks.take i).map fun e => lvs e.2).flatten ++ ys.take j) ∧ H3 D2 = some (.dK es2) ∧ DkS cS H3 es2 (mk ++ ((ks.take i).map fun e => sts e.2).flatten))
          ⟨_, _, _, rfl, s2, d1', by simpa using n1, d2', k2'⟩ (fun j σ' H' _ h => ?_) (fun j x σ' H3 hx h => ?_) (fun σ' H3 h => ?_)⟩
        · obtain ⟨_, _, _, _, s3, _⟩ := h
          exact SqT.of (s3 _ _ h1)
        · obtain ⟨h5, h7, es3, rfl, s3, d3, n3, d4, k4⟩ := h
          rw [List.getElem?_map] at hx
          obtain ⟨z, hz, rfl⟩ := Option.map_eq_some_iff.mp hx
          have l3 := n3.len
          rw [List.length_append, List.length_take] at l3
          refine ⟨_, rfl, _, rfl, D1, _, rfl, DPut.k (k := Sum.inr z) d3 (by rw [sizeLine_eq]; omega), _, _, _, rfl, same_put nD1 s3, upd_same, ?_, by rw [upd_ne n12.symm]; exact d4, k4.dk d3⟩
          have := n3.put z (.bl true)
          rw [List.append_assoc] at this
          rw [List.take_add_one, hz]
          exact this
        · obtain ⟨h5, h7, es3, rfl, s3, d3, n3, d4, k4⟩ := h
          rw [List.length_map, List.take_length] at n3
          refine key _ _ ⟨_, _, _, rfl, s3, d3, n3.mem fun k => ?_, d4, k4⟩
          rw [fl1, List.mem_append, List.mem_append, hN.mem k]
      obtain ⟨h5, h7, es3, rfl, s3, d3, n3, d4, k4⟩ := h
      refine ⟨_, rfl, b, C, dx, _, .ref q2, rfl, s3 _ _ hb, I.c.cl, I.n.steps, rfl, q2, rfl, ⟨_, SqT.of (s3 _ _ h2)⟩, for_tup (xs := bs) (fun j σ' H4 => ∃ h5 h7 es2, σ' = [some (.ref a), some (.ref PL), some (.ref ML), some (.ref D1), some (.ref D2), h5, some (.ref b), h7] ∧ Same H H4 ∧ H4 D1 = some (.dK es3) ∧ H4 D2 = some (.dK es2) ∧ DkS cS H4 es2 ((mk ++ ((ks.take i).map fun e => sts e.2).flatten) ++ js.take j))
          ⟨_, _, _, rfl, s3, d3, d4, by simpa using k4⟩ (fun j σ' H' _ h => ?_) (fun j x σ' H4 hx h => ?_) (fun σ' H4 h => ?_)⟩
      · obtain ⟨_, _, _, _, s5, _⟩ := h
        exact SqT.of (s5 _ _ h2)
      · obtain ⟨h5, h7, es4, rfl, s5, d5, d6, k6⟩ := h
        have lt := (List.getElem?_eq_some_iff.mp hx).1
        rw [hK.1] at lt
        have hk : js[j]? = some js[j] := List.getElem?_eq_getElem lt
        generalize js[j] = k at hk
        obtain ⟨c, rfl, dc, hc⟩ := hK.2 j x k hx hk
        have l3 := k6.n.len
        rw [List.length_map, List.length_append, List.length_append, List.length_take] at l3
        refine ⟨_, rfl, _, rfl, _, rfl, c, cS, dc, _, .str k.1, rfl, s5 _ _ hc, I.cT.cl, I.s1, rfl, D2, _, rfl, DPut.k (k := Sum.inr k.1) d6 (by rw [sizeLine_eq]; omega), _, _, _, rfl, same_put nD2 s5, by rw [upd_ne n12]; exact d5, upd_same, ?_⟩
        have := (k6.put (StepAt.same s5 ⟨dc, hc⟩)).dk (gs := putK es4 (Sum.inr k.1) (V.ref c)) d6
        rw [List.append_assoc] at this
        rw [List.take_add_one, hk]
        exact this
      · obtain ⟨h5, h7, es4, rfl, s5, d5, d6, k6⟩ := h
        rw [hK.1, List.take_length] at k6
        refine ⟨_, _, _, _, _, rfl, s5, d5, n3, d6, k6.mem fun k => ?_⟩
        rw [fl2, List.append_assoc, List.mem_append, List.mem_append, List.mem_append, List.mem_append, hS.mem k]
    · obtain ⟨h5, h6, h7, es1, es2, rfl, s2, d1', n1, d2', k2'⟩ := h
      rw [List.take_of_length_le (by rw [List.length_map]; exact Nat.le_refl _)] at n1 k2'
      have n1' := n1.mem eN
      have k2'' := k2'.mem eK
      obtain ⟨es, ⟨a', dx, p, q1, q2, j, ys, bs, js, ea, ha, hp, h1, hN, h2, hK, hS⟩⟩ := hE.fld
      cases ea
      have bnd := lvs_sz m
      have ly := hN.le
      have lj := hS.le
      dsimp only
      refine seq_key (fun σ' H3 => (∃ h5 h6 h7, σ' = [some (.ref a), some (.ref PL), some (.ref ML), some (.ref D1), some (.ref D2), h5, h6, h7]) ∧ Same H' H3) (fun key => ?_) (fun σ' H3 h => ?_)
      · obtain ⟨zs, ek, nd, mem⟩ := n1'
        have lz : zs.length ≤ (lvs m).length := nodup_le nd fun k i => (mem k).mp i
        refine ⟨_, rfl, a, C, dx, _, .ref q1, rfl, s2 _ _ ha, I.c.cl, I.n.names, rfl, _, rfl, D1, es1, zs, rfl, .inl d1', ek, by omega, fun zs' p1 perm srt hp1 => ⟨p1, _, rfl, .inl ⟨SqL.of upd_same, fun p2 hp2 => ?_⟩⟩⟩
        have s3 := (same_new (o := .lst (zs'.map V.str)) hp1).trans (same_new (o := .tup (zs'.map V.str)) hp2)
        have nn : NmsOf (lvs m) zs' := nms_of srt (perm.nodup_iff.mpr nd) fun k => (perm.mem_iff).trans (mem k)
        exact ⟨.ref q1, .ref p2, rfl, alike_nms (s3 _ _ (s2 _ _ h1)) upd_same (hN.eq nn fun k => Iff.rfl) (by omega), fun H4 s4 => ⟨_, rfl, iteF (key _ _ ⟨⟨_, _, _, rfl⟩, s3.trans s4⟩)⟩⟩
      obtain ⟨⟨h5, h6, h7, rfl⟩, s3⟩ := h
      have s03 := s2.trans s3
      have k3 := k2''.same s3
      obtain ⟨zs, ek, nd, mem⟩ := k3.n
      have lz : zs.length ≤ ((sts m).map (·.1)).length := nodup_le nd fun k i => (mem k).mp i
      rw [List.length_map] at lz
      refine ⟨_, rfl, a, C, dx, _, .ref q2, rfl, s03 _ _ ha, I.c.cl, I.n.steps, rfl, _, rfl, D2, es2, zs, rfl, .inl (s3 _ _ d2'), ek, by omega, fun zs' p1 perm srt hp1 => ?_⟩
      have s4 := same_new (o := .lst (zs'.map V.str)) hp1
      have nn : NmsOf ((sts m).map (·.1)) zs' := nms_of srt (perm.nodup_iff.mpr nd) fun k => (perm.mem_iff).trans (mem k)
      have ez : zs' = js.map (·.1) := keys_sorted k3 hS (fun _ => Iff.rfl) one nn
      subst ez
      refine ⟨p1, rfl, ⟨_, SqL.of upd_same⟩, fun D3 hD3 => lc_list (xs := (js.map (·.1)).map V.str) (fun i H4 => Same (upd H3 p1 (.lst ((js.map (·.1)).map V.str))) H4 ∧ ∃ cs, H4 D3 = some (.lst cs) ∧ KeyL cS H4 cs (js.take i) ∧ cs.length = i)
        ⟨same_new hD3, [], upd_same, KeyL.nil, rfl⟩ (fun i H4 _ h => SqL.of (h.1 _ _ upd_same)) (fun i v H4 hv h => ?_) (fun H4 h => ?_)⟩
      · obtain ⟨s5, cs, d3, kc, lc⟩ := h
        rw [List.getElem?_map, List.getElem?_map] at hv
        obtain ⟨z, hz, rfl⟩ := Option.map_eq_some_iff.mp hv
        obtain ⟨k, hk, rfl⟩ := Option.map_eq_some_iff.mp hz
        have mk' := (hS.mem k).mp (List.mem_of_getElem? hk)
        obtain ⟨c, y, ev, hc, mc⟩ := k3.has (z := k.1) (List.mem_map.mpr ⟨k, mk', rfl⟩)
        have ey : (k.1, y) = k := one _ mc _ mk' rfl
        have lt := (List.getElem?_eq_some_iff.mp hk).1
        have hc4 := hc.same (s4.trans s5)
        refine ⟨rfl, _, rfl, _, rfl, D2, .ref c, rfl, ev ▸ DGet.k (k := Sum.inr k.1) (s5 _ _ (s4 _ _ (s3 _ _ d2'))), cs, d3, by rw [lc, sizeLine_eq]; omega, same_put hD3 s5, cs ++ [.ref c], upd_same, ?_, by rw [List.length_append, lc]; rfl⟩
        rw [List.take_add_one, hk]
        refine (kc.app (KeyL.one (z := k.1) (y := k.2) ?_)).lst d3
        rw [← ey] 
        exact hc4
      · obtain ⟨s5, cs, d3, kc, lc⟩ := h
        rw [List.length_map, List.length_map, List.take_length] at kc
        refine ⟨D3, cs, rfl, .inl ⟨SqL.of d3, fun p2 hp2 => ?_⟩⟩
        have s6 := same_new (o := .tup cs) hp2
        have s06 := ((s03.trans s4).trans s5).trans s6
        exact ⟨.ref q2, .ref p2, rfl, alike_sts (s06 _ _ h2) upd_same (hK.same s06) (kc.same s6) rfl (by omega), fun H5 s7 => q _ (s06.trans s7)⟩
end
end LK

/-! a text == an object with an own __eq__: the object is asked -/
namespace LR
open PySem PySem.SeqAt
open AutoSeq1 (wpAny_loadPart')
open MeetsSeq MeetsSeq2 MeetsSeq3 SeqRoads2
theorem str_declines_obj (z : Str) (t : Tok) (b : Addr) (c : Value) (dd : Option Addr) (sl : Array (Option Value)) :
    Meets (Builtin.«str.__eq__» ⟨[.str z t, .ref b], []⟩) (fun _ R s => s.heap.get? b = some { cls := c, dict := dd, data := .plain, slots := sl } ∧ R (.ok (.ret .notImplemented)) s) :=
  .of_wp fun prog w A R s h => by obtain ⟨hp, g, d, tk, os⟩ := s; obtain ⟨hl, h⟩ := h; wp_walk using wpAny_loadPart' hl, wpAny_load hl; exact ⟨_, rfl, h⟩
section
variable {prog : Program} {w : World} {A : Around} {E : Value → Shared → Prop} {s : Shared} {K : PySem.W.Frag} {b C f : Addr} {ox : Obj} {od : Option Obj} {z : Str} {tk : Tok}
theorem rc_str_own {Q : Value → Shared → Prop} (hu : A.units < cLine) (X : K.In s.heap) (I : PySem.W.InstAt s.heap b ox C od) (hd : ox.data = .plain) (ns : PySem.W.kitOne K (.ref C) (.type "str") = some false)
    (hs : PySem.W.findIn K (.ref C) "__eq__" = some (some (.ref f))) (hf : PySem.W.isFn K (.ref f) = true)
    (h : wpAny (model prog w) A (call (.ref f) [.ref b, .str z tk]) (fun v s' => ∃ r, v = .bool r ∧ Q (.bool r) s') E s) : wpAny (model prog w) A (richCompare .Eq (.str z tk) (.ref b)) Q E s := by
  have ha : s.TypeIs (.str z tk) "str" := typeIs_str s z tk
  have hsub : PySem.W.Looks (model prog w) s.heap (isSubtype (.ref C) (.type "str")) false := by
    unfold PySem.W.kitOne at ns
    rw [if_neg (show ¬ (Value.ref C == Value.type "str") = true from Bool.false_ne_true)] at ns
    exact (PySem.W.kit_cls X ns).2.2
  obtain ⟨cls, dd, data, sl⟩ := ox
  simp only at hd
  subst hd
  rcases hi : cmpInfo CmpOp.Eq with ⟨sym, f1, r1⟩
  have e1 : f1 = "__eq__" := by cases hi; rfl
  have e2 : r1 = "__eq__" := by cases hi; rfl
  subst e1 e2
  simp only [richCompare, hi, ha.oneThing_none]
  try with_reducible refine wpAny_holding ?_
  refine wpAny_bind (wpAny_cRoomFor_or (.inr hu) ?_)
  refine wpAny_bind (wpAny_typeOf ha (wpAny_bind (I.type.here ?_)))
  have hne : (Value.type "str" != Value.ref C) = true := rfl
  simp only [hne, if_true]
  refine wpAny_bind (hsub.here ?_)
  simp only [Bool.false_eq_true, if_false, Bool.not_false, if_true]
  refine wpAny_bind (m := tryCompare (.str z tk) _ (.ref b)) (wpAny_tryCompare_declines ha F.slot_str_eq (call_meets F.slot_str_eq ha F.entry_str_eq (F.args_str_eq_2 _ _) (str_declines_obj z tk b cls dd sl) ⟨I.at_, rfl, ?_⟩))
  have one : wpAny (model prog w) A (tryCompare (.ref b) "__eq__" (.str z tk)) (fun r s' => ∃ v, r = some v ∧ Q v s') E s := by
    unfold tryCompare
    refine wpAny_bind (PySem.W.ifBound_K X I hs hf (wpAny_mono h (fun v s' hv => ?_) fun _ _ e => e))
    obtain ⟨r, rfl, q⟩ := hv
    exact wpAny_pure ⟨_, rfl, q⟩
  refine wpAny_bind (wpAny_mono one (fun r s' hv => ?_) fun _ _ e => e)
  obtain ⟨v, rfl, q⟩ := hv
  exact wpAny_pure q
end
end LR
namespace LR
open PySem PySem.Spec PyProof.Rows L2
/-- not an instance of its own class: the own __eq__ says no -/
def spEqNo (K : PySem.W.Frag) (C : Addr) : Sp := fun vs H Q _ => ∃ a dx fs y t, vs = [.ref a, y] ∧ H a = some (.ins C dx fs) ∧ TyX K H y t ∧ PySem.W.kitOne K t (.ref C) = some false ∧ Q (.bl false) H
/-- a text beside an object of class C -/
def DStrOwn (C : Addr) : EqvB := fun x y r H => ∃ z b dx fs, x = .str z ∧ y = .ref b ∧ H b = some (.ins C dx fs) ∧ r = false
section
variable {X : Cx} {n : Nat} {C f : Addr} {fd : FuncData} {ps : List Str}
theorem eqGB_strOwn (F : FnOk X.prog X.w X.K X.mg X.base CX0 n f fd ps (spEqNo X.K C)) (hs : PySem.W.findIn X.K (.ref C) "__eq__" = some (some (.ref f))) (hf : PySem.W.isFn X.K (.ref f) = true) (hb : Binds X.K fd ps [])
    (ns : PySem.W.kitOne X.K (.ref C) (.type "str") = some false) (kS : PySem.W.kitOne X.K (.type "str") (.ref C) = some false) : EqGB X n (DStrOwn C) := by
  intro A pins s σ H x y r u v sb I rx ry d
  obtain ⟨z, b, dx, fs, rfl, rfl, hb', rfl⟩ := d
  obtain ⟨t, rfl⟩ := rx
  cases ry
  obtain ⟨mA, J, _⟩ := ins_get I.hok hb'
  obtain ⟨od, J, _⟩ := J.look
  unfold eqBool
  refine wpAny_holding ?_
  refine wpAny_ite_split (fun hab => absurd (eq_of_beq hab) nofun) (fun _ => ?_)
  refine wpAny_bind (rc_str_own sb.room.units0 I.kIn J rfl ns hs hf ?_)
  have hsp : spEqNo X.K C [.ref b, .str z] H (fun v H' => v = .bl false ∧ Ext H H') E0 := ⟨b, dx, fs, .str z, _, rfl, hb', .base (.str z), kS, rfl, Ext.rfl'⟩
  refine wpAny_mono (call_run (A := A) sb F hb pass0 I (.cons (show RelV (V.ref b) (Value.ref b) from rfl) (.cons (show RelV (V.str z) (Value.str z t) from ⟨t, rfl⟩) .nil)) hsp) (fun v s' q => ?_) fun _ _ z => z
  obtain ⟨y, H', I', ry, rfl, e⟩ := q
  cases ry
  exact ⟨false, rfl, wpAny_truthy_bool ⟨rfl, H', I', e⟩⟩
/-- a text beside a list or a tuple -/
def DStrSeq (K : PySem.W.Frag) : EqvB := fun x y r H => ∃ z b xs, x = .str z ∧ y = .ref b ∧ (SqL K H b xs ∨ SqT K H b xs) ∧ r = false
theorem eqGB_strSeq : EqGB X 0 (DStrSeq X.K) := by
  intro A pins s σ H x y r u v sb I rx ry d
  obtain ⟨z, b, xs, rfl, rfl, hq, rfl⟩ := d
  obtain ⟨t, rfl⟩ := rx
  cases ry
  rcases hq with hq | hq
  · obtain ⟨its, r, pl, hz⟩ := I.list hq
    exact SeqAt.EqAt.str_list (A := A) (s := s) z t pl.isList sb.room.units0 X.prog X.w X.xe _ ⟨rfl, H, I, Ext.rfl'⟩
  · obtain ⟨its, r, pl, hz⟩ := I.tuple hq
    exact SeqAt.EqAt.str_tuple (A := A) (s := s) z t pl sb.room.units0 X.prog X.w X.xe _ ⟨rfl, H, I, Ext.rfl'⟩
theorem mon_strOwn {C : Addr} : MonB (DStrOwn C) := fun x y r H H' e d => by
  obtain ⟨z, b, dx, fs, hx, hy, hb, hr⟩ := d
  exact ⟨z, b, dx, fs, hx, hy, e _ _ hb, hr⟩
theorem mon_strSeq {K : PySem.W.Frag} : MonB (DStrSeq K) := fun x y r H H' e d => by
  obtain ⟨z, b, xs, hx, hy, hq, hr⟩ := d
  exact ⟨z, b, xs, hx, hy, hq.elim (fun h => .inl (h.ext e)) (fun h => .inr (h.ext e)), hr⟩
theorem MonB.or {D D' : EqvB} (h : MonB D) (h' : MonB D') : MonB (fun x y b H => D x y b H ∨ D' x y b H) := fun x y b H H' e d => d.elim (fun d => .inl (h x y b H H' e d)) fun d => .inr (h' x y b H H' e d)
end
end LR

/-! == of tuples and lists, item by item up to the first that differs: either answer -/
namespace LR
open PySem PySem.SeqAt
open AutoSeq1 (wpAny_loadPart')
open MeetsSeq MeetsSeq2 MeetsSeq3 SeqRoads2
section
variable {prog : Program} {w : World} {A : Around} {R : Result → Shared → Prop}
theorem tuple_eqU (l b : Addr) (items items2 : Array Value) (n n2 : Nat) (dd dd2 : Option Addr) (sl sl2 : Array (Option Value)) (f : Nat → Bool) (I : Shared → Prop)
    (turn : ∀ i (h1 : i < items.size) (h2 : i < items2.size) s, (∀ j, j < i → f j = true) → I s → wpAny (model prog w) A.in1 (eqBool items[i] items2[i]) (fun r s' => r = f i ∧ I s') (fun e s' => R (.error e) s') s)
    (res : Bool) (no : ∀ i, i < items.size → i < items2.size → f i = false → res = false) (yes : (∀ i, i < items.size → i < items2.size → f i = true) → res = (items.size == items2.size))
    (fin : ∀ s, I s → R (.ok (.ret (.bool res))) s) {s : Shared} (hl1 : s.heap.get? l = some { cls := .type "tuple", dict := dd, data := .seq items n, slots := sl }) (hb1 : s.heap.get? b = some { cls := .type "tuple", dict := dd2, data := .seq items2 n2, slots := sl2 }) (h : I s) :
    wpAny (model prog w) A.in1 (Builtin.«tuple.__eq__» ⟨[.ref l, .ref b], []⟩) (GQ.FinOf prog w A R) (fun e s' => R (.error e) s') s := by
  have f2 := AutoSeq1.sub_tuple_tuple
  have h0 := h
  have hZ : (items.toList.zip items2.toList).length = min items.size items2.size := by simp
  obtain ⟨hp, g, d, tk, os⟩ := s
  wp_walk using wpAny_loadPart' hl1, wpAny_loadPart' hb1, wpAny_forIn_list _ (fun rest b s' => b.1 = none ∧ ∃ i, rest = (items.toList.zip items2.toList).drop i ∧ (∀ j, j < i → f j = true) ∧ I s') _
  case turn =>
    rintro ⟨y, x⟩ rest b s' ⟨hb', i, hz, hi, hI⟩
    have hlt : i < (items.toList.zip items2.toList).length := by
      rcases Nat.lt_or_ge i (items.toList.zip items2.toList).length with h' | h'
      · exact h'
      · rw [List.drop_of_length_le h'] at hz; cases hz
    have h1 : i < items.size := by rw [hZ] at hlt; omega
    have h2 : i < items2.size := by rw [hZ] at hlt; omega
    rw [List.drop_eq_getElem_cons hlt] at hz
    injection hz with hyx hrest
    have hy : y = items[i] := by have := congrArg Prod.fst hyx; simpa using this
    have hx : x = items2[i] := by have := congrArg Prod.snd hyx; simpa using this
    subst hy hx
    refine wpAny_bind (wpAny_mono (turn i h1 h2 s' hi hI) (fun r s2 q2 => ?_) fun _ _ x => x)
    obtain ⟨hr, q2⟩ := q2
    subst hr
    cases hf : f i with
    | true =>
      wp_walk
      exact ⟨rfl, i + 1, hrest, fun j hj => by
        rcases Nat.lt_or_ge j i with q | q
        · exact hi j q
        · rw [show j = i by omega]; exact hf, q2⟩
    | false =>
      have hR : R (.ok (.ret (.bool res))) s2 := fin s2 q2
      rw [no i h1 h2 hf] at hR
      wp_walk
      exact hR
  case fin =>
    rintro ⟨b1, b2⟩ s' ⟨hb', i, hz, hi, hI⟩
    simp only at hb'
    subst hb'
    have hge : min items.size items2.size ≤ i := by
      rcases Nat.lt_or_ge i (items.toList.zip items2.toList).length with h' | h'
      · rw [List.drop_eq_getElem_cons h'] at hz; cases hz
      · exact hZ ▸ h'
    have hR : R (.ok (.ret (.bool res))) s' := fin s' hI
    rw [yes fun j h1 h2 => hi j (by omega)] at hR
    wp_walk
    simpa [Builtin.Tuple.tupleCompareSizes] using hR
  case h =>
    exact ⟨rfl, 0, rfl, fun j hj => absurd hj (Nat.not_lt_zero _), h0⟩
def TurnU (prog : Program) (w : World) (A : Around) (E : Value → Shared → Prop) (l b : Addr) (f : Nat → Bool) (I : Shared → Prop) : Prop :=
  ∀ s (items items2 : Array Value) (n n2 : Nat), I s → s.heap.get? l = some { cls := .type "list", data := .seq items n } → s.heap.get? b = some { cls := .type "list", data := .seq items2 n2 } →
    ∀ i (h1 : i < items.size) (h2 : i < items2.size), (∀ j, j < i → f j = true) → wpAny (model prog w) A.in1 (eqBool items[i] items2[i]) (fun r s' => r = f i ∧ I s') E s
theorem eq_loopU (l b : Addr) (N : Nat) (f : Nat → Bool) (I : Shared → Prop) (hl : ListB l b N I) (turn : TurnU prog w A (fun e s' => R (.error e) s') l b f I)
    (res : Bool) (no : ∀ i, i < N → f i = false → res = false) (yes : (∀ i, i < N → f i = true) → res = true)
    (fin : ∀ s, I s → R (.ok (.ret (.bool res))) s) (k : Nat) :
    ∀ i : Nat, N - i = k → i ≤ N → (∀ j, j < i → f j = true) → ∀ s, I s →
      wpAny (model prog w) A.in1 (Builtin.«list.__eq__.loop» ⟨[.ref l, .ref b, rawInt i, rawInt 2], []⟩) (GQ.FinOf prog w A R) (fun e s' => R (.error e) s') s := by
  induction k with
  | zero =>
    intro i hk hi hj s h
    obtain ⟨items, items2, n, n2, hl1, hb1, hs1, hs2⟩ := hl _ h
    have hi' : i = N := by omega
    have hR : R (.ok (.ret (.bool res))) s := fin s h
    rw [yes fun j q => hj j (by omega)] at hR
    obtain ⟨hp, g, d, tk, os⟩ := s
    wp_walk using wpAny_loadPart' hl1, wpAny_loadPart' hb1
    have hi1 : items[((i : Nat) : Int).toNat]? = none := by simp; omega
    have hi2 : items2[((i : Nat) : Int).toNat]? = none := by simp; omega
    rw [hi1, hi2]
    wp_walk using wpAny_loadPart' hl1, wpAny_loadPart' hb1
    show R (.ok (.ret (.bool (items.size == items2.size)))) _
    rw [hs1, hs2]
    simpa using hR
  | succ k ih =>
    intro i hk hi hj s h
    obtain ⟨items, items2, n, n2, hl1, hb1, hs1, hs2⟩ := hl _ h
    have hlt : i < items.size := by omega
    have hlt2 : i < items2.size := by omega
    have ht := turn s items items2 n n2 h hl1 hb1 i hlt hlt2 hj
    obtain ⟨hp, g, d, tk, os⟩ := s
    wp_walk using wpAny_loadPart' hl1, wpAny_loadPart' hb1
    have hi1 : items[((i : Nat) : Int).toNat]? = some items[i] := by simp [hlt]
    have hi2 : items2[((i : Nat) : Int).toNat]? = some items2[i] := by simp [hlt2]
    have hc : ((i : Int) + 1) = ((i + 1 : Nat) : Int) := by omega
    rw [hi1, hi2]
    refine wpAny_bind (wpAny_mono ht (fun r s2 h2 => ?_) fun _ _ x => x)
    obtain ⟨hr, h2⟩ := h2
    subst hr
    cases hf : f i with
    | true =>
      have hrec := ih (i + 1) (by omega) (by omega) (fun j q => by
        rcases Nat.lt_or_ge j i with q' | q'
        · exact hj j q'
        · rw [show j = i by omega]; exact hf) s2 h2
      obtain ⟨hp2, g2, d2, tk2, os2⟩ := s2
      wp_walk
      rw [hc]
      exact ⟨plainId_quiet plain_eq_loop _, codeAny_builtin entry_eq_loop (by
        rw [Around.under_plainId plain_eq_loop _]
        exact hrec)⟩
    | false =>
      have hR : R (.ok (.ret (.bool res))) s2 := fin s2 h2
      rw [no i (by omega) hf] at hR
      obtain ⟨items', items2', n', n2', hl1', hb1', hs1', hs2'⟩ := hl _ h2
      obtain ⟨hp2, g2, d2, tk2, os2⟩ := s2
      wp_walk using wpAny_loadPart' hl1', wpAny_loadPart' hb1'
      have hi1' : items'[((i : Nat) : Int).toNat]? = some (items'[i]'(by omega)) := by simp
      have hi2' : items2'[((i : Nat) : Int).toNat]? = some (items2'[i]'(by omega)) := by simp
      rw [hi1', hi2']
      wp_walk
      exact hR
theorem list_eqU (l b : Addr) (N : Nat) (f : Nat → Bool) (I : Shared → Prop) (hl : ListB l b N I) (turn : TurnU prog w A (fun e s' => R (.error e) s') l b f I)
    (res : Bool) (no : ∀ i, i < N → f i = false → res = false) (yes : (∀ i, i < N → f i = true) → res = true)
    (fin : ∀ s, I s → R (.ok (.ret (.bool res))) s) {s : Shared} (h : I s) :
    wpAny (model prog w) A.in1 (Builtin.«list.__eq__» ⟨[.ref l, .ref b], []⟩) (GQ.FinOf prog w A R) (fun e s' => R (.error e) s') s := by
  obtain ⟨items, items2, n, n2, hl1, hb1, hs1, hs2⟩ := hl _ h
  have hrec := eq_loopU (A := A) (R := R) l b N f I hl turn res no yes fin _ 0 rfl (Nat.zero_le _) (fun j q => absurd q (Nat.not_lt_zero _)) s h
  obtain ⟨hp, g, d, tk, os⟩ := s
  have f3 := AutoSeq1.sub_list_list
  have hne : ¬ (items.size != items2.size) = true := by simp [hs1, hs2]
  wp_walk using wpAny_loadPart' hl1, wpAny_loadPart' hb1
  exact ⟨plainId_quiet plain_eq_loop _, codeAny_builtin entry_eq_loop (by
    rw [Around.under_plainId plain_eq_loop _]
    exact hrec)⟩
end
section
variable {prog : Program} {w : World} {A : Around} {E : Value → Shared → Prop} {s : Shared}
theorem rc_tupU {l b : Addr} {items items2 : Array Value} {Q : Value → Shared → Prop} (hu : A.units < cLine) (f : Nat → Bool) (I : Shared → Prop)
    (hl : s.heap.IsTuple l items) (hb : s.heap.IsTuple b items2)
    (turn : ∀ i (h1 : i < items.size) (h2 : i < items2.size) s, (∀ j, j < i → f j = true) → I s → wpAny (model prog w) A.in1 (eqBool items[i] items2[i]) (fun r s' => r = f i ∧ I s') E s)
    (res : Bool) (no : ∀ i, i < items.size → i < items2.size → f i = false → res = false) (yes : (∀ i, i < items.size → i < items2.size → f i = true) → res = (items.size == items2.size))
    (fin : ∀ s, I s → Q (.bool res) s) (h : I s) : wpAny (model prog w) A (richCompare .Eq (.ref l) (.ref b)) Q E s := by
  obtain ⟨⟨cls, dd, data, sl⟩, ho, hc, n, hd⟩ := id hl
  obtain ⟨⟨cls2, dd2, data2, sl2⟩, ho2, hc2, n2, hd2⟩ := id hb
  simp only at hc hd hc2 hd2
  subst hc hd hc2 hd2
  refine wpAny_richCompare_same_room (op := .Eq) ⟨_, ho, rfl⟩ ⟨_, ho2, rfl⟩ F.slot_tuple_eq (GQ.call_here F.slot_tuple_eq ⟨_, ho, rfl⟩ F.entry_tuple_eq (F.args_tuple_eq_2 _ _) ?_) hu
  exact tuple_eqU (R := wants (fun v s' => v ≠ .notImplemented ∧ Q v s') E) l b items items2 n n2 dd dd2 sl sl2 f I turn res no yes (fun s' q => ⟨(fun x => nomatch x), fin s' q⟩) ho ho2 h
theorem rc_listU {l b : Addr} {N : Nat} {Q : Value → Shared → Prop} (hu : A.units < cLine) (f : Nat → Bool) (I : Shared → Prop) (hl : ListB l b N I) (turn : TurnU prog w A E l b f I)
    (res : Bool) (no : ∀ i, i < N → f i = false → res = false) (yes : (∀ i, i < N → f i = true) → res = true)
    (fin : ∀ s, I s → Q (.bool res) s) (h : I s) : wpAny (model prog w) A (richCompare .Eq (.ref l) (.ref b)) Q E s := by
  obtain ⟨items, items2, n, n2, hl1, hb1, _, _⟩ := hl _ h
  refine wpAny_richCompare_same_room (op := .Eq) ⟨_, hl1, rfl⟩ ⟨_, hb1, rfl⟩ F.slot_list_eq (GQ.call_here F.slot_list_eq ⟨_, hl1, rfl⟩ F.entry_list_eq (F.args_list_eq_2 _ _) ?_) hu
  exact list_eqU (R := wants (fun v s' => v ≠ .notImplemented ∧ Q v s') E) l b N f I hl turn res no yes (fun s' q => ⟨(fun x => nomatch x), fin s' q⟩) h
end
end LR
namespace LR
open PySem PySem.Spec PyProof.Rows L2
section
variable {X : Cx} {n m : Nat} {D D' : EqvB}
/-- item by item, as far as they are alike -/
def PrsU (D : EqvB) (xs ys : List V) (f : Nat → Bool) (H : Hp) : Prop := ∀ (i : Nat) x y, (∀ j, j < i → f j = true) → xs[i]? = some x → ys[i]? = some y → D x y (f i) H
theorem PrsU.mon (hD : MonB D) {xs ys : List V} {f : Nat → Bool} {H H' : Hp} (e : Ext H H') (p : PrsU D xs ys f H) : PrsU D xs ys f H' := fun i x y h0 h1 h2 => hD x y _ H H' e (p i x y h0 h1 h2)
theorem turnU (hD : MonB D) (h : EqGB X n D) {A : Around} (sb : Sub X (n + 1) A) {pins : List (Addr × Obj)} {σ : L2.St} {H : Hp} {xs ys : List V} {f : Nat → Bool} {its its2 : List Value} (p : PrsU D xs ys f H) (r : Vals xs its) (r2 : Vals ys its2)
    (i : Nat) (h1 : i < its.toArray.size) (h2 : i < its2.toArray.size) (s' : Shared) (up : ∀ j, j < i → f j = true) (l : LoopI X pins σ H s') :
    wpAny (model X.prog X.w) A.in1 (eqBool its.toArray[i] its2.toArray[i]) (fun r s2 => r = f i ∧ LoopI X pins σ H s2) X.xe s' := by
  obtain ⟨H1, I1, e1⟩ := l
  have g1 : its[i]? = some its.toArray[i] := by
    have h1' : i < its.length := by simpa using h1
    rw [List.getElem?_eq_getElem h1'] <;> simp
  have g2 : its2[i]? = some its2.toArray[i] := by
    have h2' : i < its2.length := by simpa using h2
    rw [List.getElem?_eq_getElem h2'] <;> simp
  have k1 : i < xs.length := by rw [r.length]; simpa using h1
  have k2 : i < ys.length := by rw [r2.length]; simpa using h2
  obtain ⟨u, hu, ru⟩ := r.get (List.getElem?_eq_getElem k1)
  obtain ⟨v, hv, rv⟩ := r2.get (List.getElem?_eq_getElem k2)
  rw [g1] at hu
  rw [g2] at hv
  rw [Option.some.inj hu, Option.some.inj hv]
  refine wpAny_mono (h A.in1 pins s' σ H1 _ _ _ u v sb.in1 I1 ru rv (hD _ _ _ _ _ e1 (p i _ _ up (List.getElem?_eq_getElem k1) (List.getElem?_eq_getElem k2)))) (fun r s2 q => ?_) fun _ _ x => x
  obtain ⟨hr, H2, I2, e2⟩ := q
  exact ⟨hr, H2, I2, e1.trans e2⟩
def DTupU (K : PySem.W.Frag) (D : EqvB) : EqvB := fun x y r H => ∃ a b xs ys f, x = .ref a ∧ y = .ref b ∧ SqT K H a xs ∧ SqT K H b ys ∧ PrsU D xs ys f H ∧ r = ansB xs ys f
def DListU (D : EqvB) : EqvB := fun x y r H => ∃ a b xs ys f, x = .ref a ∧ y = .ref b ∧ H a = some (.lst xs) ∧ H b = some (.lst ys) ∧ (xs.length = ys.length → PrsU D xs ys f H) ∧ r = ansB xs ys f
theorem mon_tupU {K : PySem.W.Frag} (hD : MonB D) : MonB (DTupU K D) := fun x y r H H' e d => by
  obtain ⟨a, b, xs, ys, f, hx, hy, h1, h2, p, hr⟩ := d
  exact ⟨a, b, xs, ys, f, hx, hy, h1.ext e, h2.ext e, p.mon hD e, hr⟩
theorem mon_listU (hD : MonB D) : MonB (DListU D) := fun x y r H H' e d => by
  obtain ⟨a, b, xs, ys, f, hx, hy, h1, h2, p, hr⟩ := d
  exact ⟨a, b, xs, ys, f, hx, hy, e _ _ h1, e _ _ h2, fun l => (p l).mon hD e, hr⟩
theorem rcGB_tupU (hD : MonB D) (h : EqGB X n D) : RcGB X (n + 1) (DTupU X.K D) := by
  intro A pins s σ H x y r u v sb I rx ry d
  obtain ⟨a, b, xs, ys, f, rfl, rfl, ha, hb, p, rfl⟩ := d
  cases rx
  cases ry
  obtain ⟨its, r, e, z⟩ := I.tuple ha
  obtain ⟨its2, r2, e2, z2⟩ := I.tuple hb
  have l1 : its.toArray.size = xs.length := by rw [List.size_toArray, ← r.length]
  have l2 : its2.toArray.size = ys.length := by rw [List.size_toArray, ← r2.length]
  exact rc_tupU sb.room.units0 f (fun s' => LoopI X pins σ H s') e e2 (fun i h1 h2 s' up q => turnU hD h sb p r r2 i h1 h2 s' up q) (ansB xs ys f) (fun i h1 h2 q => ansB_no (by omega) (by omega) q) (fun q => by rw [l1, l2]; exact ansB_yes fun i h1 h2 => q i (by omega) (by omega)) (fun s' q => ⟨rfl, q⟩) ⟨H, I, Ext.rfl'⟩
theorem rcGB_listU (hD : MonB D) (h : EqGB X n D) : RcGB X (n + 1) (DListU D) := by
  intro A pins s σ H x y r u v sb I rx ry d
  obtain ⟨a, b, xs, ys, f, rfl, rfl, ha, hb, p, rfl⟩ := d
  cases rx
  cases ry
  by_cases hl : xs.length = ys.length
  · have key : ∀ s', LoopI X pins σ H s' → ∃ (its its2 : List Value) (k k2 : Nat), Vals xs its ∧ Vals ys its2 ∧ s'.heap.get? a = some { cls := .type "list", data := .seq its.toArray k } ∧ s'.heap.get? b = some { cls := .type "list", data := .seq its2.toArray k2 } := by
      rintro s' ⟨H1, I1, e1⟩
      obtain ⟨z, its, k, r, e⟩ := I1.hok a _ (e1 _ _ ha)
      obtain ⟨z2, its2, k2, r2, e2⟩ := I1.hok b _ (e1 _ _ hb)
      exact ⟨its, its2, k, k2, r, r2, e, e2⟩
    refine rc_listU (N := xs.length) sb.room.units0 f (fun s' => LoopI X pins σ H s') (fun s' q => ?_) (fun s' items items2 n1 n2 q g1 g2 i h1 h2 up => ?_) (ansB xs ys f) (fun i h1 q => ansB_no h1 (by omega) q) (fun q => by rw [ansB_yes fun i h1 h2 => q i h1, hl]; simp) (fun s' q => ⟨rfl, q⟩) ⟨H, I, Ext.rfl'⟩
    · obtain ⟨its, its2, k, k2, r, r2, e, e2⟩ := key s' q
      exact ⟨its.toArray, its2.toArray, k, k2, e, e2, by rw [List.size_toArray, ← r.length], by rw [List.size_toArray, ← r2.length, ← hl]⟩
    · obtain ⟨its, its2, k, k2, r, r2, e, e2⟩ := key s' q
      rw [g1] at e
      rw [g2] at e2
      obtain ⟨rfl⟩ : items = its.toArray := by injection e with e; injection e with _ _ e; injection e
      obtain ⟨rfl⟩ : items2 = its2.toArray := by injection e2 with e; injection e with _ _ e; injection e
      exact turnU hD h sb (p hl) r r2 i h1 h2 s' up q
  · obtain ⟨z, its, k, r, e⟩ := I.hok a _ ha
    obtain ⟨z2, its2, k2, r2, e2⟩ := I.hok b _ hb
    have ans : ansB xs ys f = false := by
      unfold ansB
      rw [show (xs.length == ys.length) = false by simpa using hl, Bool.and_false]
    rw [ans]
    refine rc_listL sb.room.units0 ?_ e e2 ⟨rfl, H, I, Ext.rfl'⟩
    rw [List.size_toArray, List.size_toArray, ← r.length, ← r2.length]
    exact hl
/-- an object of class C beside a text -/
def DOwnStr (C : Addr) : EqvB := fun x y r H => ∃ z b dx fs, x = .ref b ∧ y = .str z ∧ H b = some (.ins C dx fs) ∧ r = false
theorem mon_ownStr {C : Addr} : MonB (DOwnStr C) := fun x y r H H' e d => by
  obtain ⟨z, b, dx, fs, hx, hy, hb, hr⟩ := d
  exact ⟨z, b, dx, fs, hx, hy, e _ _ hb, hr⟩
theorem eqGB_ownStr {C f : Addr} {fd : FuncData} {ps : List Str} (F : FnOk X.prog X.w X.K X.mg X.base CX0 n f fd ps (spEqNo X.K C)) (hs : PySem.W.findIn X.K (.ref C) "__eq__" = some (some (.ref f))) (hf : PySem.W.isFn X.K (.ref f) = true) (hb : Binds X.K fd ps [])
    (nf : PySem.W.notFirst X.K C (.type "str") = true) (kS : PySem.W.kitOne X.K (.type "str") (.ref C) = some false) : EqGB X n (DOwnStr C) := by
  intro A pins s σ H x y r u v sb I rx ry d
  obtain ⟨z, a, dx, fs, rfl, rfl, ha, rfl⟩ := d
  cases rx
  obtain ⟨t, rfl⟩ := ry
  obtain ⟨mA, J, _⟩ := ins_get I.hok ha
  obtain ⟨od, J, _⟩ := J.look
  obtain ⟨m, hF⟩ := I.fr
  unfold eqBool
  refine wpAny_holding ?_
  refine wpAny_ite_split (fun hab => absurd (eq_of_beq hab) nofun) (fun _ => ?_)
  obtain ⟨Pk, Z, pk, _⟩ := kit_of I (show RelV (V.str z) (Value.str z t) from ⟨t, rfl⟩) (.base (.str z))
  refine wpAny_bind (PySem.W.cmp_K (op := .Eq) (tb := .type "str") sb.room.units0 hF I.ok.mod.kin J (Z.ty _ _ I.kIn pk) nf hs hf ?_)
  have hsp : spEqNo X.K C [.ref a, .str z] H (fun v H' => v = .bl false ∧ Ext H H') E0 := ⟨a, dx, fs, .str z, _, rfl, ha, .base (.str z), kS, rfl, Ext.rfl'⟩
  refine wpAny_mono (call_run (A := A) sb F hb pass0 I (.cons (show RelV (V.ref a) (Value.ref a) from rfl) (.cons (show RelV (V.str z) (Value.str z t) from ⟨t, rfl⟩) .nil)) hsp) (fun v s' q => ?_) fun _ _ z => z
  obtain ⟨y, H', I', ry, rfl, e⟩ := q
  cases ry
  exact wpAny_truthy_bool ⟨rfl, H', I', e⟩
end
end LR

namespace LK
open PySem PySem.Spec PyProof.Rows L2 LR
/-! ### texts tell expressions apart -/
theorem word_det {w w' r r' : List Nat} (l : ∀ c ∈ w, letB c = true) (l' : ∀ c ∈ w', letB c = true) (s : ∀ c q, r = c :: q → letB c = false) (s' : ∀ c q, r' = c :: q → letB c = false) (e : w ++ r = w' ++ r') : w = w' ∧ r = r' := by
  have tk : ∀ {w r : List Nat}, (∀ c ∈ w, letB c = true) → (∀ c q, r = c :: q → letB c = false) → (w ++ r).takeWhile letB = w := fun {w r} l s => by
    rw [List.takeWhile_append_of_pos l]
    cases r with
    | nil => simp
    | cons c q =>
      rw [List.takeWhile_cons, s c q rfl]
      simp
  have a := tk l s
  rw [e, tk l' s'] at a
  subst a
  exact ⟨rfl, List.append_cancel_left e⟩
theorem tl_inj {a b : Str} (h : TL.tl a = TL.tl b) : a = b := str_cps h
theorem paren_no {r : List Nat} : ∀ c q, 40 :: r = c :: q → letB c = false := fun c q e => by
  rw [← (List.cons.inj e).1]
  decide +kernel
theorem name_not {z : Str} (h : NameOk z) : z ≠ "lesser" ∧ z ≠ "greater" := by
  have := h.len
  refine ⟨fun e => ?_, fun e => ?_⟩
  · rw [e] at this
    exact absurd this (by decide +kernel)
  · rw [e] at this
    exact absurd this (by decide +kernel)
/-- heads of one word -/
theorem hd_det {cS : Addr} {H : Hp} {zs : Env9} {h h' : Hd} (a : HdS cS H h) (a' : HdS cS H h') (f : ∀ b z y, h = .st b z y → zs.find? (fun e => decide (e.1 = z)) = some (z, y, b)) (f' : ∀ b z y, h' = .st b z y → zs.find? (fun e => decide (e.1 = z)) = some (z, y, b)) (e : hdW h = hdW h') : eqH h h' = true ∧ arity h = arity h' := by
  cases h with
  | le =>
    cases h' with
    | le => exact ⟨rfl, rfl⟩
    | gr => exact absurd e (by decide +kernel)
    | st b z y => exact absurd (show z = "lesser" from e.symm) (name_not a'.2.1).1
  | gr =>
    cases h' with
    | le => exact absurd e (by decide +kernel)
    | gr => exact ⟨rfl, rfl⟩
    | st b z y => exact absurd (show z = "greater" from e.symm) (name_not a'.2.1).2
  | st b z y =>
    cases h' with
    | le => exact absurd (show z = "lesser" from e) (name_not a.2.1).1
    | gr => exact absurd (show z = "greater" from e) (name_not a.2.1).2
    | st b' z' y' =>
      have ez : z = z' := e
      subst ez
      have g := f b z y rfl
      rw [f' b' z y' rfl] at g
      cases g
      exact ⟨by simp [eqH], rfl⟩
theorem parts_det {cS : Addr} {H : Hp} {zs : Env9} {n n' : Nat} (ih : ∀ {m m' : Md} {r r' : List Nat}, OkT cS H zs n m → OkT cS H zs n' m' → StopC r → StopC r' → cp m ++ r = cp m' ++ r' → eqM m m' = true ∧ r = r') :
    ∀ (ms ms' : List Md) (r r' : List Nat), ms.length = ms'.length → (∀ m ∈ ms, OkT cS H zs n m) → (∀ m ∈ ms', OkT cS H zs n' m) → sepL ms ++ 41 :: r = sepL ms' ++ 41 :: r' → eqL ms ms' = true ∧ r = r'
  | [], [], r, r', _, _, _, e => ⟨by rw [eqL], (List.cons.inj e).2⟩
  | [], _ :: _, _, _, l, _, _, _ => by simp at l
  | _ :: _, [], _, _, l, _, _, _ => by simp at l
  | m :: ms, m' :: ms', r, r', l, g, g', e => by
    rw [sep_cons, sep_cons] at e
    injection e with _ e
    injection e with _ e
    obtain ⟨e1, e2⟩ := ih (g m List.mem_cons_self) (g' m' List.mem_cons_self) (stop_sep _ _) (stop_sep _ _) e
    obtain ⟨e3, e4⟩ := parts_det ih ms ms' r r' (by simpa using l) (fun x hx => g x (List.mem_cons_of_mem _ hx)) (fun x hx => g' x (List.mem_cons_of_mem _ hx)) e2
    exact ⟨by rw [eqL, e1, e3]; rfl, e4⟩
theorem cp_det {cS : Addr} {H : Hp} {zs : Env9} : ∀ {n n' : Nat} {m m' : Md} {r r' : List Nat}, OkT cS H zs n m → OkT cS H zs n' m' → StopC r → StopC r' → cp m ++ r = cp m' ++ r' → eqM m m' = true ∧ r = r'
  | 0, _, _, _, _, _, h, _, _, _, _ => h.elim
  | _ + 1, 0, _, _, _, _, _, h, _, _, _ => h.elim
  | n + 1, n' + 1, .nm z, .nm z', r, r', h, h', s, s', e => by
    obtain ⟨e1, e2⟩ := word_det (name_let h) (name_let h') s.no s'.no (show TL.tl z ++ r = TL.tl z' ++ r' by simpa [cp] using e)
    exact ⟨by rw [eqM, tl_inj e1]; simp, e2⟩
  | n + 1, n' + 1, .nm z, .ap hd ms, r, r', h, h', s, s', e => by
    rw [cp_ap, List.append_assoc, List.cons_append, List.append_assoc] at e
    obtain ⟨_, e2⟩ := word_det (name_let h) (hd_let h'.1) s.no paren_no (show TL.tl z ++ r = _ by simpa [cp] using e)
    rcases s _ _ e2 with q | q <;> exact absurd q (by decide)
  | n + 1, n' + 1, .ap hd ms, .nm z, r, r', h, h', s, s', e => by
    rw [cp_ap, List.append_assoc, List.cons_append, List.append_assoc] at e
    obtain ⟨_, e2⟩ := word_det (hd_let h.1) (name_let h') paren_no s'.no (show _ = TL.tl z ++ r' by simpa [cp] using e)
    rcases s' _ _ e2.symm with q | q <;> exact absurd q (by decide)
  | n + 1, n' + 1, .ap hd ms, .ap hd' ms', r, r', h, h', s, s', e => by
    rw [cp_ap, cp_ap, List.append_assoc, List.append_assoc, List.cons_append, List.cons_append, List.append_assoc, List.append_assoc] at e
    obtain ⟨e1, e2⟩ := word_det (hd_let h.1) (hd_let h'.1) paren_no paren_no e
    obtain ⟨e3, e4⟩ := hd_det h.1 h'.1 h.2.2.1 h'.2.2.1 (tl_inj e1)
    have l : ms.length = ms'.length := by rw [h.2.1, h'.2.1, e4]
    injection e2 with _ e2
    cases ms with
    | nil =>
      cases ms' with
      | nil =>
        have : r = r' := by simpa [cpL, TL.joinL] using e2
        exact ⟨by rw [eqM, e3, eqL]; rfl, this⟩
      | cons _ _ => simp at l
    | cons m ms =>
      cases ms' with
      | nil => simp at l
      | cons m' ms' =>
        rw [join_sep, join_sep, List.append_assoc, List.append_assoc] at e2
        obtain ⟨e5, e6⟩ := cp_det (h.2.2.2 m List.mem_cons_self) (h'.2.2.2 m' List.mem_cons_self) (stop_sep _ _) (stop_sep _ _) e2
        obtain ⟨e7, e8⟩ := parts_det (cp_det (n := n) (n' := n')) ms ms' r r' (by simpa using l) (fun x hx => h.2.2.2 x (List.mem_cons_of_mem _ hx)) (fun x hx => h'.2.2.2 x (List.mem_cons_of_mem _ hx)) e6
        exact ⟨by rw [eqM, e3, eqL, e5, e7]; rfl, e8⟩
theorem hdW_eq : ∀ {h h' : Hd}, eqH h h' = true → hdW h = hdW h'
  | .le, .le, _ => rfl
  | .gr, .gr, _ => rfl
  | .st _ z y, .st _ z' y', e => by
    rw [eqH, Bool.and_eq_true, decide_eq_true_eq] at e
    exact e.1
  | .le, .gr, e => by cases e
  | .le, .st _ _ _, e => by cases e
  | .gr, .le, e => by cases e
  | .gr, .st _ _ _, e => by cases e
  | .st _ _ _, .le, e => by cases e
  | .st _ _ _, .gr, e => by cases e
mutual
theorem cp_eq : ∀ {m m' : Md}, eqM m m' = true → cp m = cp m'
  | .nm z, .nm z', e => by
    rw [eqM, decide_eq_true_eq] at e
    rw [e]
  | .ap h ms, .ap h' ms', e => by
    rw [eqM, Bool.and_eq_true] at e
    rw [cp_ap, cp_ap, hdW_eq e.1, cpL_eq e.2]
  | .nm _, .ap _ _, e => by rw [eqM] at e; cases e
  | .ap _ _, .nm _, e => by rw [eqM] at e; cases e
theorem cpL_eq : ∀ {ms ms' : List Md}, eqL ms ms' = true → cpL ms = cpL ms'
  | [], [], _ => rfl
  | m :: r, m' :: r', e => by
    rw [eqL, Bool.and_eq_true] at e
    rw [cpL, cpL, cp_eq e.1, cpL_eq e.2]
  | [], _ :: _, e => by rw [eqL] at e; cases e
  | _ :: _, [], e => by rw [eqL] at e; cases e
end
/-- equal just where the texts are -/
theorem eq_text {cS : Addr} {H : Hp} {zs : Env9} {n n' : Nat} {m m' : Md} {y y' : Str} (h : OkT cS H zs n m) (h' : OkT cS H zs n' m') (e : TL.tl y = cp m) (e' : TL.tl y' = cp m') : eqM m m' = decide (y = y') := by
  have stop : StopC [] := fun c q e => by cases e
  cases q : eqM m m' with
  | true => rw [decide_eq_true (tl_inj (by rw [e, e', cp_eq q]))]
  | false =>
    rw [decide_eq_false fun c => ?_]
    have := (cp_det h h' stop stop (by rw [← e, ← e', c])).1
    rw [q] at this
    cases this
end LK

namespace LK
open PySem PySem.Spec PyProof.Rows L2 LR
/-! ### models compared -/
section
variable {P : Program} {w : World} {K : PySem.W.Frag} {mg : Str → Option Value} {base : Heap}
theorem ok_stepNo {C f : Addr} {fd : FuncData} (S : Std mg) (c : OwnCl K mg "Step" C) (F : Fun K "__eq__" "Step.__eq__" sStepEq f fd) : FnOk P w K mg base CX0 1 f fd ["self", "other"] (spEqNo K C) := by
  refine F.ok scStepEq (fun vs H Q E h => ?_) (fun cdv A outer s H vs Q E hr h => ?_)
  · obtain ⟨a, dx, fs, y, t, rfl, _⟩ := h
    rfl
  · obtain ⟨a, dx, fs, y, t, rfl, ha, ty, kt, q⟩ := h
    refine ⟨_, pss_one (ps_ret (pe_and (pe_callB call_isi (by rfl) S.isi (by decide +kernel) (pa_cons (pv 1) (pa_cons (pe_glob (v := .ref C) rfl c.g rfl) pa_nil)))
      (pe_and (pe_cmpR op_eq (pe_fld (pv 0) rfl) (pe_fld (pv 1) rfl) (nomark _)) (pe_one (pe_cmpR op_eq (pe_fld (pv 0) rfl) (pe_fld (pv 1) rfl) (nomark _)))))), ?_⟩
    exact ⟨_, rfl, _, _, _, _, false, rfl, .own C, ty, kt, false, rfl, iteF q⟩
end
theorem mon_or {D D' : EqvB} (h : MonB D) (h' : MonB D') : MonB (fun x y b H => D x y b H ∨ D' x y b H) := fun x y b H H' e d => d.elim (fun d => .inl (h x y b H H' e d)) fun d => .inr (h' x y b H H' e d)
def DMd (cS : Addr) (zs : Env9) (n : Nat) : EqvB := fun x y r H => ∃ m m', MoR cS zs n H m x ∧ MoR cS zs n H m' y ∧ r = eqM m m'
theorem mon_md {cS : Addr} {zs : Env9} {n : Nat} : MonB (DMd cS zs n) := fun x y r H H' e d => by
  obtain ⟨m, m', h1, h2, q⟩ := d
  exact ⟨m, m', h1.same e, h2.same e, q⟩
def DItem (cS : Addr) (zs : Env9) (n : Nat) : EqvB := fun x y b H => DFlatB x y b H ∨ (fun x y b H => DStep cS x y b H ∨ (fun x y b H => DStrOwn cS x y b H ∨ (fun x y b H => DOwnStr cS x y b H ∨ DMd cS zs n x y b H) x y b H) x y b H) x y b H
theorem mon_item {cS : Addr} {zs : Env9} {n : Nat} : MonB (DItem cS zs n) := mon_or mon_flatB (mon_or mon_step (mon_or mon_strOwn (mon_or mon_ownStr mon_md)))
/-- two heads -/
theorem hd_item {cS : Addr} {zs : Env9} {n : Nat} {H : Hp} {h h' : Hd} (a : HdS cS H h) (a' : HdS cS H h') : DItem cS zs n (hdV h) (hdV h') (eqH h h') H := by
  cases h with
  | le =>
    cases h' with
    | le => exact .inl ⟨rfl, rfl, by decide +kernel⟩
    | gr => exact .inl ⟨rfl, rfl, by decide +kernel⟩
    | st b z y =>
      obtain ⟨dx, hb⟩ := a'.1
      exact .inr (.inr (.inl ⟨_, b, dx, _, rfl, rfl, hb, rfl⟩))
  | gr =>
    cases h' with
    | le => exact .inl ⟨rfl, rfl, by decide +kernel⟩
    | gr => exact .inl ⟨rfl, rfl, by decide +kernel⟩
    | st b z y =>
      obtain ⟨dx, hb⟩ := a'.1
      exact .inr (.inr (.inl ⟨_, b, dx, _, rfl, rfl, hb, rfl⟩))
  | st b z y =>
    obtain ⟨dx, hb⟩ := a.1
    cases h' with
    | le => exact .inr (.inr (.inr (.inl ⟨_, b, dx, _, rfl, rfl, hb, rfl⟩)))
    | gr => exact .inr (.inr (.inr (.inl ⟨_, b, dx, _, rfl, rfl, hb, rfl⟩)))
    | st b' z' y' =>
      obtain ⟨dx', hb'⟩ := a'.1
      exact .inr (.inl ⟨b, b', dx, dx', _, _, rfl, rfl, hb, hb', z, y, z', y', ⟨dx, hb⟩, ⟨dx', hb'⟩, rfl⟩)
theorem name_item {cS : Addr} {zs : Env9} {n : Nat} {H : Hp} {h : Hd} (a : HdS cS H h) : DItem cS zs n (.str "name") (hdV h) false H ∧ DItem cS zs n (hdV h) (.str "name") false H := by
  cases h with
  | le => exact ⟨.inl ⟨rfl, rfl, by decide +kernel⟩, .inl ⟨rfl, rfl, by decide +kernel⟩⟩
  | gr => exact ⟨.inl ⟨rfl, rfl, by decide +kernel⟩, .inl ⟨rfl, rfl, by decide +kernel⟩⟩
  | st b z y =>
    obtain ⟨dx, hb⟩ := a.1
    exact ⟨.inr (.inr (.inl ⟨_, b, dx, _, rfl, rfl, hb, rfl⟩)), .inr (.inr (.inr (.inl ⟨_, b, dx, _, rfl, rfl, hb, rfl⟩)))⟩
def fMo (b : Bool) (g : Nat → Bool) : Nat → Bool
  | 0 => b
  | i + 1 => g i
theorem ansU_cons {x y : V} {xs ys : List V} {b : Bool} {g : Nat → Bool} : ansB (x :: xs) (y :: ys) (fMo b g) = (b && ansB xs ys g) := by
  cases hb : b with
  | false => exact ansB_no (i := 0) (by simp) (by simp) rfl
  | true =>
    rw [Bool.true_and]
    cases h : ansB xs ys g with
    | true =>
      unfold ansB at h
      rw [Bool.and_eq_true, List.all_eq_true] at h
      rw [ansB_yes fun i h1 h2 => ?_]
      · rw [List.length_cons, List.length_cons]
        have := h.2
        rw [beq_iff_eq] at this ⊢
        omega
      · cases i with
        | zero => rfl
        | succ i => exact h.1 i (List.mem_range.mpr (by rw [List.length_cons] at h1 h2; omega))
    | false =>
      unfold ansB at h
      rw [Bool.and_eq_false_iff] at h
      rcases h with h | h
      · rw [List.all_eq_false] at h
        obtain ⟨i, hi, e⟩ := h
        have := List.mem_range.mp hi
        exact ansB_no (i := i + 1) (by rw [List.length_cons]; omega) (by rw [List.length_cons]; omega) (by show g i = false; simpa using e)
      · unfold ansB
        rw [List.length_cons, List.length_cons, Bool.and_eq_false_iff]
        right
        rw [beq_eq_false_iff_ne] at h ⊢
        omega
/-- the tuples of two models -/
theorem md_tup {K : PySem.W.Frag} {cS : Addr} {zs : Env9} {n : Nat} {x y : V} {r : Bool} {H : Hp} (d : DMd cS zs (n + 1) x y r H) : DTupU K (DItem cS zs n) x y r H := by
  obtain ⟨m, m', h, h', rfl⟩ := d
  have up1 : ∀ {b : Bool} {g : Nat → Bool} {i : Nat}, (∀ j, j < i + 1 → fMo b g j = true) → b = true := fun {b g i} u => u 0 (by omega)
  cases m with
  | nm z =>
    obtain ⟨p, rfl, hp, no⟩ := h
    cases m' with
    | nm z' =>
      obtain ⟨p', rfl, hp', no'⟩ := h'
      refine ⟨p, p', _, _, fMo true fun _ => decide (z = z'), rfl, rfl, SqT.of hp, SqT.of hp', fun i x y up e1 e2 => ?_, ?_⟩
      · match i, e1, e2 with
        | 0, e1, e2 => cases e1; cases e2; exact .inl ⟨rfl, rfl, (by decide +kernel : eqV (V.str "name") (V.str "name") = true)⟩
        | 1, e1, e2 =>
          cases e1
          cases e2
          refine .inl ⟨rfl, rfl, ?_⟩
          show (z == z') = decide (z = z')
          exact Bool.eq_iff_iff.mpr (by rw [beq_iff_eq, decide_eq_true_eq])
        | k + 2, e1, e2 => cases e1
      · rw [ansU_cons, Bool.true_and, eqM]
        by_cases c : z = z'
        · rw [decide_eq_true c, ansB_yes fun _ _ _ => rfl]
          rfl
        · rw [decide_eq_false c, ansB_no (i := 0) (by simp) (by simp) rfl]
    | ap hd ms =>
      obtain ⟨p', ks, rfl, hp', em, la, hs, hi, gm⟩ := h'
      refine ⟨p, p', _, _, fMo false fun _ => false, rfl, rfl, SqT.of hp, SqT.of hp', fun i x y up e1 e2 => ?_, ?_⟩
      · cases i with
        | zero => cases e1; cases e2; exact (name_item hs).1
        | succ i => exact absurd (up1 up) (by decide)
      · rw [ansU_cons, eqM]
        rfl
  | ap hd ms =>
    obtain ⟨p, ks, rfl, hp, em, la, hs, hi, gm⟩ := h
    cases m' with
    | nm z' =>
      obtain ⟨p', rfl, hp', no'⟩ := h'
      refine ⟨p, p', _, _, fMo false fun _ => false, rfl, rfl, SqT.of hp, SqT.of hp', fun i x y up e1 e2 => ?_, ?_⟩
      · cases i with
        | zero => cases e1; cases e2; exact (name_item hs).2
        | succ i => exact absurd (up1 up) (by decide)
      · rw [ansU_cons, eqM]
        rfl
    | ap hd' ms' =>
      obtain ⟨p', ks', rfl, hp', em', la', hs', hi', gm'⟩ := h'
      refine ⟨p, p', _, _, fMo (eqH hd hd') (eqAt ms ms'), rfl, rfl, SqT.of hp, SqT.of hp', fun i x y up e1 e2 => ?_, ?_⟩
      · cases i with
        | zero => cases e1; cases e2; exact hd_item hs hs'
        | succ i =>
          rw [List.getElem?_cons_succ, List.getElem?_map] at e1 e2
          obtain ⟨e, he, rfl⟩ := Option.map_eq_some_iff.mp e1
          obtain ⟨e', he', rfl⟩ := Option.map_eq_some_iff.mp e2
          refine .inr (.inr (.inr (.inr ⟨e.2, e'.2, gm e (List.mem_of_getElem? he), gm' e' (List.mem_of_getElem? he'), ?_⟩)))
          exact eqAt_of (by rw [← em, List.getElem?_map, he]; rfl) (by rw [← em', List.getElem?_map, he']; rfl)
      · rw [ansU_cons, eqM, ans_eqL (by rw [← em, List.length_map, List.length_map]) (by rw [← em', List.length_map, List.length_map])]
theorem hdV_inj {cS : Addr} {H : Hp} {h h' : Hd} (a : HdS cS H h) (a' : HdS cS H h') (e : hdV h = hdV h') : eqH h h' = true := by
  cases h with
  | le =>
    cases h' with
    | le => rfl
    | gr => injection e with e; exact absurd e (by decide +kernel)
    | st _ _ _ => cases e
  | gr =>
    cases h' with
    | le => injection e with e; exact absurd e (by decide +kernel)
    | gr => rfl
    | st _ _ _ => cases e
  | st b z y =>
    cases h' with
    | le => cases e
    | gr => cases e
    | st b' z' y' =>
      injection e with e
      subst e
      obtain ⟨rfl, rfl⟩ := a.1.inj a'.1
      simp [eqH]
theorem moR_det {cS : Addr} {zs : Env9} {H : Hp} : ∀ {n n' : Nat} {m m' : Md} {v : V}, MoR cS zs n H m v → MoR cS zs n' H m' v → eqM m m' = true
  | 0, _, _, _, _, h, _ => h.elim
  | _ + 1, 0, _, _, _, _, h => h.elim
  | n + 1, n' + 1, .nm z, .nm z', v, ⟨p, e, hp, _⟩, ⟨p', e', hp', _⟩ => by
    cases e
    cases e'
    rw [hp] at hp'
    cases hp'
    rw [eqM]
    simp
  | n + 1, n' + 1, .nm z, .ap hd ms, v, ⟨p, e, hp, _⟩, ⟨p', ks, e', hp', _, _, hs, _⟩ => by
    cases e
    cases e'
    rw [hp] at hp'
    injection hp' with q
    injection q with q
    injection q with q _
    rcases hdV_name cS H hs with ⟨z, e, ne⟩ | ⟨b, z, y, dx, e, _⟩
    · rw [e] at q
      injection q with q
      exact absurd q.symm ne
    · rw [e] at q
      cases q
  | n + 1, n' + 1, .ap hd ms, .nm z, v, ⟨p, ks, e, hp, _, _, hs, _⟩, ⟨p', e', hp', _⟩ => by
    cases e
    cases e'
    rw [hp] at hp'
    injection hp' with q
    injection q with q
    injection q with q _
    rcases hdV_name cS H hs with ⟨z, e, ne⟩ | ⟨b, z, y, dx, e, _⟩
    · rw [e] at q
      injection q with q
      exact absurd q ne
    · rw [e] at q
      cases q
  | n + 1, n' + 1, .ap hd ms, .ap hd' ms', v, ⟨p, ks, e, hp, em, l, hs, _, g⟩, ⟨p', ks', e', hp', em', l', hs', _, g'⟩ => by
    cases e
    cases e'
    rw [hp] at hp'
    injection hp' with q
    injection q with q
    injection q with q1 q2
    rw [eqM, Bool.and_eq_true]
    refine ⟨hdV_inj hs hs' q1, (eqL_iff _ _).mpr ⟨?_, fun i a b h1 h2 => ?_⟩⟩
    · have := congrArg List.length q2
      rw [List.length_map, List.length_map] at this
      rw [← em, ← em', List.length_map, List.length_map, this]
    · rw [← em, List.getElem?_map] at h1
      rw [← em', List.getElem?_map] at h2
      obtain ⟨x, hx, rfl⟩ := Option.map_eq_some_iff.mp h1
      obtain ⟨y, hy, rfl⟩ := Option.map_eq_some_iff.mp h2
      have ev : x.1 = y.1 := by
        have := congrArg (fun l => l[i]?) q2
        simp only [List.getElem?_map, hx, hy, Option.map_some] at this
        injection this
      have a1 := g x (List.mem_of_getElem? hx)
      have a2 := g' y (List.mem_of_getElem? hy)
      rw [← ev] at a2
      exact moR_det a1 a2
section
variable {X : Cx} {cS fE : Addr} {dE : FuncData} {zs : Env9}
theorem eqGB_md (S : Std X.mg) (J : StF X.K X.mg cS fE dE) : ∀ n, EqGB X (n + 1) (DMd cS zs n)
  | 0 => fun A pins s σ H x y b u v sb I rx ry d => by
    obtain ⟨m, m', h, _⟩ := d
    exact h.elim
  | n + 1 => by
    have GN : FnOk X.prog X.w X.K X.mg X.base CX0 1 fE dE ["self", "other"] (spEqNo X.K cS) := ok_stepNo S J.cT J.q.F
    have IH := eqGB_md S J n
    have GI : EqGB X (n + 1) (DItem cS zs n) := (eqGB_flat.mono (Nat.zero_le _)).or (((eqGB_step S J.cT J.s1 J.s2 J.q).mono (by omega)).or (((eqGB_strOwn GN J.q.at_ J.q.fn J.q.b J.cT.ns J.kS).mono (by omega)).or (((eqGB_ownStr GN J.q.at_ J.q.fn J.q.b nf_str J.kS).mono (by omega)).or IH)))
    have T : RcGB X (n + 1 + 1) (DTupU X.K (DItem cS zs n)) := rcGB_tupU mon_item GI
    refine RcGB.eqG (D := DMd cS zs (n + 1)) (fun A pins s σ H x y b u v sb I rx ry d => T A pins s σ H x y b u v sb I rx ry (md_tup d)) fun x y r H d => ?_
    obtain ⟨m, m', h, h', rfl⟩ := d
    have ref : ∀ {m : Md} {v : V}, MoR cS zs (n + 1) H m v → ∃ a, v = .ref a := fun {m v} h => by
      cases m with
      | nm z => exact ⟨_, h.choose_spec.1⟩
      | ap hd ms => exact ⟨_, h.choose_spec.choose_spec.1⟩
    obtain ⟨a, rfl⟩ := ref h
    obtain ⟨b, rfl⟩ := ref h'
    exact ⟨a, b, rfl, rfl, fun e => by subst e; exact moR_det h h'⟩
theorem rcGB_md (S : Std X.mg) (J : StF X.K X.mg cS fE dE) (n : Nat) : RcGB X (n + 2) (DMd cS zs (n + 1)) := by
  have GN : FnOk X.prog X.w X.K X.mg X.base CX0 1 fE dE ["self", "other"] (spEqNo X.K cS) := ok_stepNo S J.cT J.q.F
  have IH : EqGB X (n + 1) (DMd cS zs n) := eqGB_md S J n
  have GI : EqGB X (n + 1) (DItem cS zs n) := (eqGB_flat.mono (Nat.zero_le _)).or (((eqGB_step S J.cT J.s1 J.s2 J.q).mono (by omega)).or (((eqGB_strOwn GN J.q.at_ J.q.fn J.q.b J.cT.ns J.kS).mono (by omega)).or (((eqGB_ownStr GN J.q.at_ J.q.fn J.q.b nf_str J.kS).mono (by omega)).or IH)))
  have T : RcGB X (n + 1 + 1) (DTupU X.K (DItem cS zs n)) := rcGB_tupU mon_item GI
  exact fun A pins s σ H x y b u v sb I rx ry d => T A pins s σ H x y b u v sb I rx ry (md_tup d)
end
/-! ### kind, word and step of two expressions -/
def DHead (cS : Addr) : EqvB := fun x y b H => DFlatB x y b H ∨ DStep cS x y b H
theorem mon_head {cS : Addr} : MonB (DHead cS) := mon_or mon_flatB mon_step
theorem rcGB_head {X : Cx} {cS fE : Addr} {dE : FuncData} (S : Std X.mg) (J : StF X.K X.mg cS fE dE) : RcGB X 2 (DListU (DHead cS)) :=
  rcGB_listU mon_head ((eqGB_flat.mono (Nat.zero_le _)).or (eqGB_step S J.cT J.s1 J.s2 J.q))
theorem head_list {cS a b : Addr} {H : Hp} {m m' : Md} (h : OkM cS H m) (h' : OkM cS H m') (ha : H a = some (.lst [.str (kdM m), .str (wdM m), stM m])) (hb : H b = some (.lst [.str (kdM m'), .str (wdM m'), stM m'])) :
    DListU (DHead cS) (.ref a) (.ref b) (decide (kdM m = kdM m') && (decide (wdM m = wdM m') && keyEq m m')) H := by
  have bq : ∀ (z z' : Str), (z == z') = decide (z = z') := fun z z' => Bool.eq_iff_iff.mpr (by rw [beq_iff_eq, decide_eq_true_eq])
  refine ⟨a, b, _, _, fMo (decide (kdM m = kdM m')) (fMo (decide (wdM m = wdM m')) fun _ => keyEq m m'), rfl, rfl, ha, hb, fun _ i x y up e1 e2 => ?_, ?_⟩
  · match i, up, e1, e2 with
    | 0, _, e1, e2 => cases e1; cases e2; exact .inl ⟨rfl, rfl, bq _ _⟩
    | 1, _, e1, e2 => cases e1; cases e2; exact .inl ⟨rfl, rfl, bq _ _⟩
    | 2, up, e1, e2 =>
      cases e1
      cases e2
      have k0 : kdM m = kdM m' := of_decide_eq_true (up 0 (by omega))
      show DHead cS (stM m) (stM m') (keyEq m m') H
      have bad : ∀ {z w : Str}, z = w → z ≠ w → False := fun e n => n e
      cases m with
      | nm z =>
        obtain ⟨z', rfl⟩ := kd_name.mp k0.symm
        exact .inl ⟨rfl, rfl, rfl⟩
      | ap hd ms =>
        cases m' with
        | nm z' =>
          obtain ⟨_, e⟩ := kd_name.mp k0
          cases e
        | ap hd' ms' =>
          rw [kd_hd, kd_hd] at k0
          cases hd with
          | le =>
            cases hd' with
            | le => exact .inl ⟨rfl, rfl, rfl⟩
            | gr => exact absurd (show ("lesser" : Str) = ("greater" : Str) from k0) (by decide +kernel)
            | st _ _ _ => exact absurd (show ("lesser" : Str) = ("step" : Str) from k0) (by decide +kernel)
          | gr =>
            cases hd' with
            | le => exact absurd (show ("greater" : Str) = ("lesser" : Str) from k0) (by decide +kernel)
            | gr => exact .inl ⟨rfl, rfl, rfl⟩
            | st _ _ _ => exact absurd (show ("greater" : Str) = ("step" : Str) from k0) (by decide +kernel)
          | st c z y =>
            cases hd' with
            | le => exact absurd (show ("step" : Str) = ("lesser" : Str) from k0) (by decide +kernel)
            | gr => exact absurd (show ("step" : Str) = ("greater" : Str) from k0) (by decide +kernel)
            | st c' z' y' =>
              obtain ⟨dx, hc⟩ := h.2.1
              obtain ⟨dx', hc'⟩ := h'.2.1
              exact .inr ⟨c, c', dx, dx', _, _, rfl, rfl, hc, hc', z, y, z', y', ⟨dx, hc⟩, ⟨dx', hc'⟩, rfl⟩
    | k + 3, _, e1, e2 => cases e1
  · rw [ansU_cons, ansU_cons]
    cases hk : keyEq m m' with
    | true => rw [ansB_yes fun _ _ _ => rfl]; rfl
    | false => rw [ansB_no (i := 0) (by simp) (by simp) rfl]
end LK

/-! x in a tuple or a list of things with an own __eq__ -/
namespace LR
open PySem PySem.SeqAt
open AutoSeq1 (wpAny_loadPart')
open MeetsSeq MeetsSeq2 MeetsSeq3 SeqRoads2
section
variable {prog : Program} {w : World} {A : Around} {R : Result → Shared → Prop}
theorem tuple_inB (l : Addr) (x : Value) (items : Array Value) (n : Nat) (dd : Option Addr) (sl : Array (Option Value)) (f : Nat → Bool) (I : Shared → Prop)
    (turn : ∀ i (h1 : i < items.size) s, I s → wpAny (model prog w) A.in1 (eqBool items[i] x) (fun r s' => r = f i ∧ I s') (fun e s' => R (.error e) s') s)
    (res : Bool) (yes : ∀ i, i < items.size → f i = true → res = true) (no : (∀ i, i < items.size → f i = false) → res = false)
    (fin : ∀ s, I s → R (.ok (.ret (.bool res))) s) {s : Shared} (hl1 : s.heap.get? l = some { cls := .type "tuple", dict := dd, data := .seq items n, slots := sl }) (h : I s) :
    wpAny (model prog w) A.in1 (Builtin.«tuple.__contains__» ⟨[.ref l, x], []⟩) (GQ.FinOf prog w A R) (fun e s' => R (.error e) s') s := by
  have h0 := h
  obtain ⟨hp, g, d, tk, os⟩ := s
  wp_walk using wpAny_loadPart' hl1, wpAny_forIn_array _ (fun rest b s' => b.1 = none ∧ ∃ i, rest = items.toList.drop i ∧ (∀ j, j < i → f j = false) ∧ I s') _
  case turn =>
    rintro y rest b s' ⟨hb', i, hz, hi, hI⟩
    have h1 : i < items.size := by
      rcases Nat.lt_or_ge i items.size with h' | h'
      · exact h'
      · rw [List.drop_of_length_le (by simpa using h')] at hz; cases hz
    rw [List.drop_eq_getElem_cons (by simpa using h1)] at hz
    injection hz with hyx hrest
    have hy : y = items[i] := by simpa using hyx
    subst hy
    refine wpAny_bind (wpAny_mono (turn i h1 s' hI) (fun r s2 q2 => ?_) fun _ _ x => x)
    obtain ⟨hr, q2⟩ := q2
    subst hr
    cases hf : f i with
    | false =>
      wp_walk
      exact ⟨rfl, i + 1, hrest, fun j hj => by
        rcases Nat.lt_or_ge j i with q | q
        · exact hi j q
        · rw [show j = i by omega]; exact hf, q2⟩
    | true =>
      have hR : R (.ok (.ret (.bool res))) s2 := fin s2 q2
      rw [yes i h1 hf] at hR
      wp_walk
      exact hR
  case fin =>
    rintro ⟨b1, b2⟩ s' ⟨hb', i, hz, hi, hI⟩
    simp only at hb'
    subst hb'
    have hge : items.size ≤ i := by
      rcases Nat.lt_or_ge i items.size with h' | h'
      · rw [List.drop_eq_getElem_cons (by simpa using h')] at hz; cases hz
      · exact h'
    have hR : R (.ok (.ret (.bool res))) s' := fin s' hI
    rw [no fun j h1 => hi j (by omega)] at hR
    wp_walk
    exact hR
  case h =>
    exact ⟨rfl, 0, rfl, fun j hj => absurd hj (Nat.not_lt_zero _), h0⟩
def ListC (l : Addr) (N : Nat) (I : Shared → Prop) : Prop :=
  ∀ s, I s → ∃ (items : Array Value) (n : Nat), s.heap.get? l = some { cls := .type "list", data := .seq items n } ∧ items.size = N
def TurnC (prog : Program) (w : World) (A : Around) (E : Value → Shared → Prop) (l : Addr) (x : Value) (f : Nat → Bool) (I : Shared → Prop) : Prop :=
  ∀ s (items : Array Value) (n : Nat), I s → s.heap.get? l = some { cls := .type "list", data := .seq items n } →
    ∀ i (h1 : i < items.size), wpAny (model prog w) A.in1 (eqBool items[i] x) (fun r s' => r = f i ∧ I s') E s
theorem in_loopB (l : Addr) (x : Value) (N : Nat) (f : Nat → Bool) (I : Shared → Prop) (hl : ListC l N I) (turn : TurnC prog w A (fun e s' => R (.error e) s') l x f I)
    (res : Bool) (yes : ∀ i, i < N → f i = true → res = true) (no : (∀ i, i < N → f i = false) → res = false)
    (fin : ∀ s, I s → R (.ok (.ret (.bool res))) s) (k : Nat) :
    ∀ i : Nat, N - i = k → i ≤ N → (∀ j, j < i → f j = false) → ∀ s, I s →
      wpAny (model prog w) A.in1 (Builtin.«list.__contains__.loop» ⟨[.ref l, x, rawInt i], []⟩) (GQ.FinOf prog w A R) (fun e s' => R (.error e) s') s := by
  induction k with
  | zero =>
    intro i hk hi hj s h
    obtain ⟨items, n, hl1, hs1⟩ := hl _ h
    have hR : R (.ok (.ret (.bool res))) s := fin s h
    rw [no fun j q => hj j (by omega)] at hR
    obtain ⟨hp, g, d, tk, os⟩ := s
    wp_walk using wpAny_loadPart' hl1
    have hi1 : items[((i : Nat) : Int).toNat]? = none := by simp; omega
    rw [hi1]
    wp_walk
    exact hR
  | succ k ih =>
    intro i hk hi hj s h
    obtain ⟨items, n, hl1, hs1⟩ := hl _ h
    have hlt : i < items.size := by omega
    have ht := turn s items n h hl1 i hlt
    obtain ⟨hp, g, d, tk, os⟩ := s
    wp_walk using wpAny_loadPart' hl1
    have hi1 : items[((i : Nat) : Int).toNat]? = some items[i] := by simp [hlt]
    have hc : ((i : Int) + 1) = ((i + 1 : Nat) : Int) := by omega
    rw [hi1]
    refine wpAny_bind (wpAny_mono ht (fun r s2 h2 => ?_) fun _ _ x => x)
    obtain ⟨hr, h2⟩ := h2
    subst hr
    cases hf : f i with
    | false =>
      have hrec := ih (i + 1) (by omega) (by omega) (fun j q => by
        rcases Nat.lt_or_ge j i with q' | q'
        · exact hj j q'
        · rw [show j = i by omega]; exact hf) s2 h2
      obtain ⟨hp2, g2, d2, tk2, os2⟩ := s2
      wp_walk
      rw [hc]
      exact ⟨plainId_quiet plain_contains_loop _, codeAny_builtin entry_contains_loop (by
        rw [Around.under_plainId plain_contains_loop _]
        exact hrec)⟩
    | true =>
      have hR : R (.ok (.ret (.bool res))) s2 := fin s2 h2
      rw [yes i (by omega) hf] at hR
      wp_walk
      exact hR
theorem list_inB (l : Addr) (x : Value) (N : Nat) (f : Nat → Bool) (I : Shared → Prop) (hl : ListC l N I) (turn : TurnC prog w A (fun e s' => R (.error e) s') l x f I)
    (res : Bool) (yes : ∀ i, i < N → f i = true → res = true) (no : (∀ i, i < N → f i = false) → res = false)
    (fin : ∀ s, I s → R (.ok (.ret (.bool res))) s) {s : Shared} (h : I s) :
    wpAny (model prog w) A.in1 (Builtin.«list.__contains__» ⟨[.ref l, x], []⟩) (GQ.FinOf prog w A R) (fun e s' => R (.error e) s') s := by
  have hrec := in_loopB (A := A) (R := R) l x N f I hl turn res yes no fin _ 0 rfl (Nat.zero_le _) (fun j q => absurd q (Nat.not_lt_zero _)) s h
  obtain ⟨items, n, hl1, hs1⟩ := hl _ h
  obtain ⟨hp, g, d, tk, os⟩ := s
  wp_walk using wpAny_loadPart' hl1
  exact ⟨plainId_quiet plain_contains_loop _, codeAny_builtin entry_contains_loop (by
    rw [Around.under_plainId plain_contains_loop _]
    exact hrec)⟩
end
end LR
namespace LR
open PySem PySem.Spec PyProof.Rows L2
def anyB (n : Nat) (f : Nat → Bool) : Bool := (List.range n).any f
theorem anyB_yes {n : Nat} {f : Nat → Bool} {i : Nat} (h : i < n) (hf : f i = true) : anyB n f = true := List.any_eq_true.mpr ⟨i, List.mem_range.mpr h, hf⟩
theorem anyB_no {n : Nat} {f : Nat → Bool} (h : ∀ i, i < n → f i = false) : anyB n f = false := List.any_eq_false.mpr fun i hi => by
  rw [h i (List.mem_range.mp hi)]
  exact Bool.false_ne_true
section
variable {X : Cx} {n : Nat} {D : EqvB}
theorem turnC (hD : MonB D) (h : EqGB X n D) {A : Around} (sb : Sub X (n + 1) A) {pins : List (Addr × Obj)} {σ : L2.St} {H : Hp} {xs : List V} {x : V} {u : Value} {f : Nat → Bool} {its : List Value} (p : ∀ (i : Nat) v, xs[i]? = some v → D v x (f i) H) (r : Vals xs its) (rx : RelV x u)
    (i : Nat) (h1 : i < its.toArray.size) (s' : Shared) (l : LoopI X pins σ H s') :
    wpAny (model X.prog X.w) A.in1 (eqBool its.toArray[i] u) (fun r s2 => r = f i ∧ LoopI X pins σ H s2) X.xe s' := by
  obtain ⟨H1, I1, e1⟩ := l
  have g1 : its[i]? = some its.toArray[i] := by
    have h1' : i < its.length := by simpa using h1
    rw [List.getElem?_eq_getElem h1'] <;> simp
  have k1 : i < xs.length := by rw [r.length]; simpa using h1
  obtain ⟨v, hu, ru⟩ := r.get (List.getElem?_eq_getElem k1)
  rw [g1] at hu
  rw [Option.some.inj hu]
  refine wpAny_mono (h A.in1 pins s' σ H1 _ _ _ v u sb.in1 I1 ru rx (hD _ _ _ _ _ e1 (p i _ (List.getElem?_eq_getElem k1)))) (fun r s2 q => ?_) fun _ _ x => x
  obtain ⟨hr, H2, I2, e2⟩ := q
  exact ⟨hr, H2, I2, e1.trans e2⟩
def rInGB (K : PySem.W.Frag) (neg : Bool) (D : EqvB) : R2 := fun x y H Q => ∃ p xs f, y = .ref p ∧ (SqT K H p xs ∨ H p = some (.lst xs)) ∧ (∀ (i : Nat) v, xs[i]? = some v → D v x (f i) H) ∧ ∀ H', Ext H H' → Q (.bl (if neg then !anyB xs.length f else anyB xs.length f)) H'
theorem contGB (hD : MonB D) (h : EqGB X n D) (hr : Room (n + 1) X.A) {pins : List (Addr × Obj)} {σ : L2.St} {H : Hp} {s : Shared} {x : V} {u : Value} {p : Addr} {xs : List V} {f : Nat → Bool} (I : Inv X pins σ H s) (rx : RelV x u) (hp : SqT X.K H p xs ∨ H p = some (.lst xs)) (hf : ∀ (i : Nat) v, xs[i]? = some v → D v x (f i) H) :
    wpAny (model X.prog X.w) X.A (contains (.ref p) u) (fun b s' => b = anyB xs.length f ∧ LoopI X pins σ H s') X.xe s := by
  rcases hp with hp | hp
  · obtain ⟨its, r, e, z⟩ := I.tuple hp
    obtain ⟨⟨cls, dd, data, sl⟩, ho, hc, n', hd⟩ := id e
    simp only at hc hd
    subst hc hd
    have l1 : its.toArray.size = xs.length := by rw [List.size_toArray, ← r.length]
    refine wpAny_contains_slot ⟨_, ho, rfl⟩ PySem.F.slot_tuple_contains (wpAny_mono (GQ.call_here (Q := fun v s' => v = .bool (anyB xs.length f) ∧ LoopI X pins σ H s') PySem.F.slot_tuple_contains ⟨_, ho, rfl⟩ PySem.F.entry_tuple_contains (PySem.F.args_tuple_contains_2 _ _) ?_) (fun v s' hv => ?_) fun _ _ e => e)
    · exact tuple_inB (R := wants (fun v s' => v = .bool (anyB xs.length f) ∧ LoopI X pins σ H s') X.xe) p u its.toArray n' dd sl f (fun s' => LoopI X pins σ H s') (fun i h1 s' q => turnC hD h ⟨hr, rfl⟩ hf r rx i h1 s' q) (anyB xs.length f) (fun i h1 q => anyB_yes (by omega) q) (fun q => anyB_no fun i hi => q i (by omega)) (fun s' q => ⟨rfl, q⟩) ho ⟨H, I, Ext.rfl'⟩
    · obtain ⟨rfl, q⟩ := hv
      exact wpAny_truthy_bool ⟨rfl, q⟩
  · obtain ⟨z, its, k, r, e⟩ := I.hok p _ hp
    have key : ∀ s', LoopI X pins σ H s' → ∃ (its : List Value) (k : Nat), Vals xs its ∧ s'.heap.get? p = some { cls := .type "list", data := .seq its.toArray k } := by
      rintro s' ⟨H1, I1, e1⟩
      obtain ⟨z, its, k, r, e⟩ := I1.hok p _ (e1 _ _ hp)
      exact ⟨its, k, r, e⟩
    refine wpAny_contains_slot ⟨_, e, rfl⟩ PySem.F.slot_list_contains (wpAny_mono (GQ.call_here (Q := fun v s' => v = .bool (anyB xs.length f) ∧ LoopI X pins σ H s') PySem.F.slot_list_contains ⟨_, e, rfl⟩ PySem.F.entry_list_contains (PySem.F.args_list_contains_2 _ _) ?_) (fun v s' hv => ?_) fun _ _ e => e)
    · refine list_inB (R := wants (fun v s' => v = .bool (anyB xs.length f) ∧ LoopI X pins σ H s') X.xe) p u xs.length f (fun s' => LoopI X pins σ H s') (fun s' q => ?_) (fun s' items n1 q g1 i h1 => ?_) (anyB xs.length f) (fun i h1 q => anyB_yes h1 q) (fun q => anyB_no q) (fun s' q => ⟨rfl, q⟩) ⟨H, I, Ext.rfl'⟩
      · obtain ⟨its, k, r, e⟩ := key s' q
        exact ⟨its.toArray, k, e, by rw [List.size_toArray, ← r.length]⟩
      · obtain ⟨its, k, r, e⟩ := key s' q
        rw [g1] at e
        obtain ⟨rfl⟩ : items = its.toArray := by injection e with e; injection e with _ _ e; injection e
        exact turnC hD h ⟨hr, rfl⟩ hf r rx i h1 s' q
    · obtain ⟨rfl, q⟩ := hv
      exact wpAny_truthy_bool ⟨rfl, q⟩
theorem op_inGB (hD : MonB D) (h : EqGB X n D) (hr : Room (n + 1) X.A) : OpR X (compareOp .In) (rInGB X.K false D) := by
  intro pins s σ H x y v u Q I rx ry hq
  obtain ⟨p, xs, f, rfl, hp, hf, q⟩ := hq
  cases ry
  show wpAny _ X.A (do return .bool (← contains (.ref p) v)) (EP X pins σ Q) X.xe s
  refine wpAny_bind (wpAny_mono (contGB hD h hr I rx hp hf) (fun b s' hv => ?_) fun _ _ z => z)
  obtain ⟨rfl, H', I', e⟩ := hv
  exact wpAny_pure ⟨.bl _, H', I', rfl, q H' e⟩
theorem op_notInGB (hD : MonB D) (h : EqGB X n D) (hr : Room (n + 1) X.A) : OpR X (compareOp .NotIn) (rInGB X.K true D) := by
  intro pins s σ H x y v u Q I rx ry hq
  obtain ⟨p, xs, f, rfl, hp, hf, q⟩ := hq
  cases ry
  show wpAny _ X.A (do return .bool (!(← contains (.ref p) v))) (EP X pins σ Q) X.xe s
  refine wpAny_bind (wpAny_mono (contGB hD h hr I rx hp hf) (fun b s' hv => ?_) fun _ _ z => z)
  obtain ⟨rfl, H', I', e⟩ := hv
  exact wpAny_pure ⟨.bl _, H', I', rfl, q H' e⟩
end
end LR

namespace LK
open PySem PySem.Spec PyProof.Rows L2 LR
/-- whatever it is of -/
theorem fn_any {P : Program} {w : World} {K : PySem.W.Frag} {mg : Str → Option Value} {base : Heap} {CX : CXT} {k : Nat} {f : Addr} {fd : FuncData} {ps : List Str} {ι : Type} {sp : ι → Sp} (F : ∀ i, FnOk P w K mg base CX k f fd ps (sp i)) : FnOk P w K mg base CX k f fd ps (fun vs H Q E => ∃ i, sp i vs H Q E) :=
  ⟨fun vs H Q E ⟨i, h⟩ => (F i).len vs H Q E h, fun A outer s H args us vs Q E hr he hb hv ⟨i, h⟩ => (F i).run A outer s H args us vs Q E hr he hb hv h⟩
theorem StE9.lst {cS D : Addr} {H : Hp} {ys zs : List V} {e : Str × Str × Addr} (h : StE9 cS H e) (d : H D = some (.lst ys)) : StE9 cS (upd H D (.lst zs)) e := by
  obtain ⟨⟨dx, hb⟩, n, w⟩ := h
  refine ⟨⟨dx, ?_⟩, n, w⟩
  rw [upd_ne (ne_of hb d (by intro z; cases z))]
  exact hb
theorem cut3 (xs : List V) : (cutV xs none (some 3)).length ≤ 3 := by
  unfold cutV HT.sIx
  rw [List.length_take]
  simp
  omega
theorem in_inV {x : Str} : ∀ {xs : List Str}, x ∈ xs → inV (.str x) (xs.map V.str) = true
  | y :: r, h => by
    show ((y == x) || inV (.str x) (r.map V.str)) = true
    rcases List.mem_cons.mp h with rfl | h
    · rw [beq_self_eq_true]
      rfl
    · rw [in_inV h, Bool.or_true]
def spLaw (K : PySem.W.Frag) : Sp := fun vs H Q _ => ∃ (a : Addr) (ns : List Int), vs = [.ref a] ∧ SqL K H a (ns.map V.int) ∧ ns.length ≤ 63 ∧ ∀ H', Q (.bl true) H'
def nPool : List Str := ["_law_feed_here", "_law_many", "_law_word_here"]
theorem scPool : FnScope nPool ["_law_feed_here", "_law_many"] (defScope sPoolSteps) := ⟨rfl, rfl, rfl, by decide +kernel, rfl, by decide +kernel, by decide +kernel⟩
def spPool9 (cS : Addr) : Sp := fun vs H Q _ => ∃ (l : Addr) (n : Nat), vs = [.ref l, .int n] ∧ n ≤ 20 ∧ Feed H l ∧ ∀ (D : Addr) (zs : Env9) (H' : Hp), zs.length = n → (zs.map fun e => e.1).Nodup → H D = none → D ≠ l → H' D = some (.lst (zs.map fun e => V.ref e.2.2)) → (∀ x ∈ zs, StE9 cS H' x) → Feed H' l → Keep l H H' → Q (.ref D) H'
section
variable {P : Program} {w : World} {K : PySem.W.Frag} {mg : Str → Option Value} {base : Heap}
theorem ok_pool9 {cS iS fW fY f : Addr} {jS fdW fdY fd : FuncData} (S : Std mg) (c : OwnCl K mg "Step" cS) (MS : Mk K cS iS) (GS0 : FnOk P w K mg base CX0 2 iS jS ["self", "name", "ways"] (spStInit cS)) (bS : Binds K jS ["self", "name", "ways"] [])
    (WD : Df K mg "_law_words" sWords fW fdW ["_law_feed_here", "_law_many"]) (GW : FnOk P w K mg base CX0 4 fW fdW ["_law_feed_here", "_law_many"] spWords) (Y : Df K mg "_law_ways" sWays fY fdY ["_law_feed_here"]) (GY : FnOk P w K mg base CX0 3 fY fdY ["_law_feed_here"] spWays)
    (F : Fun K "_law_step_pool" "_law_step_pool" sPoolSteps f fd) : FnOk P w K mg base CX0 5 f fd ["_law_feed_here", "_law_many"] (spPool9 cS) := by
  refine F.ok scPool (fun vs H Q E h => ?_) (fun cdv A outer s H vs Q E hr h => ?_)
  · obtain ⟨l, n, rfl, _⟩ := h
    rfl
  · obtain ⟨l, n, rfl, hn, hf, q⟩ := h
    refine ⟨_, pss_one (ps_ret (pe_lc (own := [("_law_word_here", 2)]) (g := gName 2) (tt := tYes) rfl scPool.nd (pi_list (pe_call GW hr rfl WD.g WD.F.kp WD.b .nil pass0 (pa_cons (pv 0) (pa_cons (pv 1) pa_nil)))) (blkOk_by (N := nPool) (sc := defScope sPoolSteps) (by decide +kernel))
        (fun _ _ _ _ _ => pg_name (i := 2) scPool.nd rfl (Or.inl rfl)) (fun _ _ _ _ _ => pts_nil)
        (fun _ _ _ _ _ => pe_make MS GS0 (hr.mono (by decide)) rfl c.g bS .nil pass0 (pa_cons (pv 2) (pa_cons (pe_call GY (hr.mono (by decide)) rfl Y.g Y.F.kp Y.b .nil pass0 (pa_cons (pv 0) pa_nil)) pa_nil))))), ?_⟩
    refine ⟨_, rfl, _, rfl, l, n, rfl, hn, hf, fun D zs H1 lz nz nd hD nl d1 f1 k1 => ?_⟩
    refine ⟨D, rfl, ⟨_, SqL.of d1⟩, fun D2 hD2 => lc_list (xs := zs.map V.str) (fun i H4 => Feed H4 l ∧ Keep l H1 H4 ∧ ∃ es : Env9, H4 D2 = some (.lst (es.map fun e => V.ref e.2.2)) ∧ es.map (fun e => e.1) = zs.take i ∧ ∀ x ∈ es, StE9 cS H4 x)
      ⟨f1.same (same_new hD2), Keep.new hD2, [], upd_same, rfl, fun _ h => nomatch h⟩ (fun i H4 _ h => SqL.of (h.2.1 _ _ nl d1)) (fun i v H4 hv h => ?_) (fun H4 h => ?_)⟩
    · obtain ⟨f4, k4, es, d4, ne, ge⟩ := h
      rw [List.getElem?_map] at hv
      obtain ⟨z, hz, rfl⟩ := Option.map_eq_some_iff.mp hv
      have lt : i < zs.length := (List.getElem?_eq_some_iff.mp hz).1
      have le : es.length = i := by
        have := congrArg List.length ne
        rw [List.length_map, List.length_take] at this
        omega
      refine ⟨rfl, _, rfl, _, rfl, l, rfl, f4, fun y H5 hy f5 k5 => ?_⟩
      intro x dx nx nd2 ne2
      have n2 : D2 ≠ l := (f1.ne hD2).symm
      refine ⟨x, dx, z, y, rfl, upd_same, nz z (List.mem_of_getElem? hz), hy, fun H6 st k6 => ⟨rfl, ?_⟩⟩
      have s6 := same_of_keep (H1 := H5) nx nd2 k6
      have d6 := s6 _ _ (k5 _ _ n2 d4)
      refine ⟨_, d6, by rw [List.length_map, le, sizeLine_eq]; omega, (f5.same s6).keep Keep.put n2.symm, fun b o nb e => ?_, es ++ [(z, y, x)], by rw [upd_same, List.map_append]; rfl, by rw [List.map_append, ne, List.take_add_one, hz]; rfl, fun v hv => ?_⟩
      · rw [upd_ne (ne_of_none e hD2)]
        exact s6 _ _ (k5 _ _ nb (k4 _ _ nb e))
      · rcases List.mem_append.mp hv with hv | hv
        · exact StE9.lst (StE9.same s6 ((ge v hv).keep f4 k5)) d6
        · rw [List.mem_singleton.mp hv]
          exact StE9.lst ⟨st, nz z (List.mem_of_getElem? hz), hy⟩ d6
    · obtain ⟨f4, k4, es, d4, ne, ge⟩ := h
      rw [List.length_map, List.take_length] at ne
      refine q D2 es H4 ?_ (by rw [ne]; exact nd) (old_none k1 f1 hD2) (f1.ne hD2).symm d4 ge f4 (k1.trans k4)
      have := congrArg List.length ne
      rw [List.length_map] at this
      omega
end
end LK

namespace LK
open PySem PySem.Spec PyProof.Rows L2 LR
/-! ### what the law asks of: an expression, its parts, steps more -/
theorem stsL_mem {ms : List Md} {x : Str × Str} (h : x ∈ stsL ms) : ∃ m ∈ ms, x ∈ sts m := by
  rw [stsL_flat, List.mem_flatten] at h
  obtain ⟨l, hl, hx⟩ := h
  obtain ⟨m, hm, rfl⟩ := List.mem_map.mp hl
  exact ⟨m, hm, hx⟩
theorem steps_in {cS : Addr} {H : Hp} {zE : Env9} : ∀ {n : Nat} {m : Md}, OkT cS H zE n m → ∀ x ∈ sts m, ∃ a, (x.1, x.2, a) ∈ zE
  | 0, _, h, _, _ => h.elim
  | _ + 1, .nm _, _, x, hx => by
    rw [sts] at hx
    cases hx
  | n + 1, .ap hd ms, h, x, hx => by
    have rest : x ∈ stsL ms → ∃ a, (x.1, x.2, a) ∈ zE := fun hx => by
      obtain ⟨m, hm, hx⟩ := stsL_mem hx
      exact steps_in (h.2.2.2 m hm) x hx
    rw [sts] at hx
    rcases List.mem_append.mp hx with hx | hx
    · cases hd with
      | le => cases hx
      | gr => cases hx
      | st b z y =>
        have e : x = (z, y) := List.mem_singleton.mp hx
        rw [e]
        exact ⟨b, List.mem_of_find?_eq_some (h.2.2.1 b z y rfl)⟩
    · exact rest hx
theorem one_of {cS : Addr} {H : Hp} {zE : Env9} {n : Nat} {m : Md} (nE : (zE.map fun e => e.1).Nodup) (h : OkT cS H zE n m) : ∀ x ∈ sts m, ∀ y ∈ sts m, x.1 = y.1 → x = y := fun x hx y hy e => by
  obtain ⟨a, ha⟩ := steps_in h x hx
  obtain ⟨b, hb⟩ := steps_in h y hy
  have f1 := find_mem nE ha
  have f2 := find_mem nE hb
  rw [e] at f1
  rw [f1] at f2
  injection f2 with f2
  injection f2 with _ f2
  injection f2 with f2 _
  exact Prod.ext e f2
/-- an entry, none of its lists L -/
def Ent (K : PySem.W.Frag) (C cS : Addr) (zE : Env9) (L : Addr) (H : Hp) (v : V) : Prop := ∃ (T a PL ML : Addr) (m : Md) (ks : List (V × Md)) (ms : List V) (mk : List (Str × Str)), v = .ref T ∧ H T = some (.tup [.ref a, .ref PL, .ref ML]) ∧ PL ≠ L ∧ ML ≠ L ∧ ExR K C cS 8 H m (.ref a) ∧ OkT cS H zE 8 m ∧ sz m ≤ 12 ∧
  H PL = some (.lst (ks.map (·.1))) ∧ H ML = some (.lst ms) ∧ KeyL cS H ms mk ∧ (∀ e ∈ ks, ∃ n, ExR K C cS n H e.2 e.1) ∧ (∀ k, k ∈ (ks.map fun e => lvs e.2).flatten ↔ k ∈ lvs m) ∧ (∀ k, k ∈ mk ++ (ks.map fun e => sts e.2).flatten ↔ k ∈ sts m) ∧ (ks.map fun e => lvs e.2).flatten.length < 60 ∧ (mk ++ (ks.map fun e => sts e.2).flatten).length < 60
theorem okT_tr {cS : Addr} {H H' : Hp} {zs : Env9} (t : Tr H H') : ∀ {n : Nat} {m : Md}, OkT cS H zs n m → OkT cS H' zs n m
  | 0, _, h => h.elim
  | _ + 1, .nm _, h => h
  | n + 1, .ap _ _, ⟨a, b, c, d⟩ => ⟨hdS_tr t a, b, c, fun m hm => okT_tr t (d m hm)⟩
theorem Ent.same {K : PySem.W.Frag} {C cS : Addr} {zE : Env9} {L : Addr} {H H' : Hp} {v : V} (s : Same H H') (h : Ent K C cS zE L H v) : Ent K C cS zE L H' v := by
  obtain ⟨T, a, PL, ML, m, ks, ms, mk, e, hT, n1, n2, hE, hO, z, hP, hM, kM, g, i1, i2, l1, l2⟩ := h
  exact ⟨T, a, PL, ML, m, ks, ms, mk, e, s _ _ hT, n1, n2, hE.same s, hO.same s, z, s _ _ hP, s _ _ hM, kM.same s, fun e he => (g e he).elim fun n h => ⟨n, h.same s⟩, i1, i2, l1, l2⟩
theorem Ent.put {K : PySem.W.Frag} {C cS : Addr} {zE : Env9} {L : Addr} {H : Hp} {ys zs : List V} {v : V} (d : H L = some (.lst ys)) (h : Ent K C cS zE L H v) : Ent K C cS zE L (upd H L (.lst zs)) v := by
  obtain ⟨T, a, PL, ML, m, ks, ms, mk, e, hT, n1, n2, hE, hO, z, hP, hM, kM, g, i1, i2, l1, l2⟩ := h
  have t := Tr.lst (zs := zs) d
  exact ⟨T, a, PL, ML, m, ks, ms, mk, e, t.tup _ _ hT, n1, n2, exR_tr t hE, okT_tr t hO, z, by rw [upd_ne n1]; exact hP, by rw [upd_ne n2]; exact hM, keyL_tr t kM, fun e he => (g e he).elim fun n h => ⟨n, exR_tr t h⟩, i1, i2, l1, l2⟩
theorem OkT.up {cS : Addr} {H : Hp} {zs : Env9} : ∀ {n n' : Nat} {m : Md}, n ≤ n' → OkT cS H zs n m → OkT cS H zs n' m
  | 0, _, _, _, h => h.elim
  | _ + 1, 0, _, l, _ => by omega
  | _ + 1, _ + 1, .nm _, _, h => h
  | n + 1, n' + 1, .ap _ _, l, ⟨a, b, c, d⟩ => ⟨a, b, c, fun m hm => (d m hm).up (by omega)⟩
theorem okT_ap {cS : Addr} {H : Hp} {zs : Env9} {n : Nat} {hd : Hd} {ms : List Md} (nE : (zs.map fun e => e.1).Nodup) (h : HdS cS H hd) (i : HdIn zs hd) (l : ms.length = arity hd) (g : ∀ m ∈ ms, OkT cS H zs n m) : OkT cS H zs (n + 1) (.ap hd ms) :=
  ⟨h, l, fun a z y e => find_mem nE (i a z y e), g⟩
theorem sz_bin {h : Hd} {a b : Md} : sz (.ap h [a, b]) = 1 + (sz a + (sz b + 0)) := by rw [sz, szL, szL, szL]
theorem sz_one {h : Hd} {a : Md} : sz (.ap h [a]) = 1 + (sz a + 0) := by rw [sz, szL, szL]
/-- two parts put together -/
theorem ent_bin {K : PySem.W.Frag} {C cS : Addr} {zE : Env9} {L T a PL ML : Addr} {H : Hp} {hd : Hd} {m0 m1 : Md} {u0 u1 : V} (nE : (zE.map fun e => e.1).Nodup) (bin : hd = .le ∨ hd = .gr) (hT : H T = some (.tup [.ref a, .ref PL, .ref ML])) (nP : PL ≠ L) (nM : ML ≠ L)
    (hE : ExR K C cS 5 H (.ap hd [m0, m1]) (.ref a)) (o0 : OkT cS H zE 4 m0) (o1 : OkT cS H zE 4 m1) (z0 : sz m0 ≤ 4) (z1 : sz m1 ≤ 4) (hP : H PL = some (.lst [u0, u1])) (hM : H ML = some (.lst [])) (e0 : ExR K C cS 4 H m0 u0) (e1 : ExR K C cS 4 H m1 u1) : Ent K C cS zE L H (.ref T) := by
  have b0 := lvs_sz m0
  have b1 := lvs_sz m1
  have hd2 : arity hd = 2 ∧ HdS cS H hd ∧ HdIn zE hd ∧ sts (.ap hd [m0, m1]) = stsL [m0, m1] := by
    rcases bin with rfl | rfl
    · exact ⟨rfl, trivial, (fun _ _ _ e => nomatch e), by rw [sts]; rfl⟩
    · exact ⟨rfl, trivial, (fun _ _ _ e => nomatch e), by rw [sts]; rfl⟩
  have ok5 : OkT cS H zE 5 (.ap hd [m0, m1]) := okT_ap nE hd2.2.1 hd2.2.2.1 hd2.1.symm fun m hm => by
    rcases List.mem_cons.mp hm with rfl | hm
    · exact o0
    · rw [List.mem_singleton.mp hm]
      exact o1
  refine ⟨T, a, PL, ML, .ap hd [m0, m1], [(u0, m0), (u1, m1)], [], [], rfl, hT, nP, nM, ExR.up (by decide) hE, ok5.up (by decide), by rw [sz_bin]; omega, hP, hM, KeyL.nil, fun e he => ?_, fun k => ?_, fun k => ?_, ?_, ?_⟩
  · rcases List.mem_cons.mp he with rfl | he
    · exact ⟨4, e0⟩
    · rw [List.mem_singleton.mp he]
      exact ⟨4, e1⟩
  · rw [lvs, lvsL_flat]
    exact Iff.rfl
  · rw [hd2.2.2.2, stsL_flat]
    exact Iff.rfl
  · show (lvs m0 ++ (lvs m1 ++ [])).length < 60
    rw [List.length_append, List.length_append, List.length_nil]
    omega
  · show ([] ++ (sts m0 ++ (sts m1 ++ []))).length < 60
    rw [List.nil_append, List.length_append, List.length_append, List.length_nil]
    omega
/-- a part, one step over it, once or twice -/
theorem ent_one {K : PySem.W.Frag} {C cS : Addr} {zE : Env9} {L T a PL ML b : Addr} {z w : Str} {H : Hp} {m m' : Md} {u : V} (nE : (zE.map fun e => e.1).Nodup) (th : HdS cS H (.st b z w)) (mem : (z, w, b) ∈ zE) (lw : w.length = 1) (two : m' = .ap (.st b z w) [m] ∨ m' = .ap (.st b z w) [.ap (.st b z w) [m]])
    (hT : H T = some (.tup [.ref a, .ref PL, .ref ML])) (nP : PL ≠ L) (nM : ML ≠ L) (hE : ExR K C cS 8 H m' (.ref a)) (o : OkT cS H zE 4 m) (zm : sz m ≤ 4) (hP : H PL = some (.lst [u])) (hM : H ML = some (.lst [.ref b])) (e : ExR K C cS 4 H m u) : Ent K C cS zE L H (.ref T) := by
  have b0 := lvs_sz m
  have hi : HdIn zE (.st b z w) := fun a' z' y' q => by
    cases q
    exact mem
  have ok1 : OkT cS H zE 5 (.ap (.st b z w) [m]) := okT_ap nE th hi lw.symm fun x hx => by
    rw [List.mem_singleton.mp hx]
    exact o
  have ok2 : OkT cS H zE 6 (.ap (.st b z w) [.ap (.st b z w) [m]]) := okT_ap nE th hi lw.symm fun x hx => by
    rw [List.mem_singleton.mp hx]
    exact ok1
  have all : OkT cS H zE 8 m' ∧ sz m' ≤ 12 ∧ (∀ k, k ∈ lvs m ↔ k ∈ lvs m') ∧ ∀ k, k = (z, w) ∨ k ∈ sts m ↔ k ∈ sts m' := by
    rcases two with rfl | rfl
    · exact ⟨ok1.up (by decide), by rw [sz_one]; omega, fun k => by simp [lvs, lvsL], fun k => by simp [sts, stsL, hdK]⟩
    · exact ⟨ok2.up (by decide), by rw [sz_one, sz_one]; omega, fun k => by simp [lvs, lvsL], fun k => by simp [sts, stsL, hdK]⟩
  refine ⟨T, a, PL, ML, m', [(u, m)], [.ref b], [(z, w)], rfl, hT, nP, nM, hE, all.1, all.2.1, hP, hM, KeyL.one th.1, fun x hx => ?_, fun k => ?_, fun k => ?_, ?_, ?_⟩
  · rw [List.mem_singleton.mp hx]
    exact ⟨4, e⟩
  · show k ∈ lvs m ++ [] ↔ _
    rw [List.append_nil]
    exact all.2.2.1 k
  · show k ∈ (z, w) :: (sts m ++ []) ↔ _
    rw [List.append_nil, List.mem_cons]
    exact all.2.2.2 k
  · show (lvs m ++ []).length < 60
    rw [List.append_nil]
    omega
  · show ((z, w) :: (sts m ++ [])).length < 60
    rw [List.append_nil, List.length_cons]
    omega
end LK

namespace LK
open PySem PySem.Spec PyProof.Rows L2 LR
/-! ### the law -/
/-- a class of chains: made, called -/
structure ChF (K : PySem.W.Frag) (mg : Str → Option Value) (C fI fC : Addr) (dC : FuncData) : Prop where
  M : Mk K C fI
  g : mg "Chain" = some (.ref C)
  o : StX.CallO K C fC
  b : Binds K dC ["self", "part"] []
/-- the defs that the law calls, as they are and what they give -/
structure Lw (K : PySem.W.Frag) (mg : Str → Option Value) (C cS fE fS fT fX : Addr) (dE dS dT dX : FuncData) : Prop where
  I : EqF K mg C cS fE fS dE dS
  J : StF K mg cS fS dS
  T : StrO K C sExprStr "Expr.__str__" fT dT
  T1 : Df K mg "_text" sTextE fX dX ["expr"]
theorem op_any {X : Cx} {op : Value → Value → Sem Value} {ι : Type} {r : ι → R2} (h : ∀ i, OpR X op (r i)) : OpR X op (fun x y H Q => ∃ i, r i x y H Q) := fun pins s σ H x y u v Q I rx ry d => d.elim fun i d => h i pins s σ H x y u v Q I rx ry d
theorem cut2C (xs : List V) : (cutV xs none (some 2)).length ≤ 2 := by
  unfold cutV HT.sIx
  rw [List.length_take]
  simp
  omega
theorem way1 {c : Nat} (h : c ∈ ("+-?" : Str).cps.toList) : WaysOk ⟨#[c]⟩ := ⟨by show 0 < 1; decide, by show 1 ≤ 3; decide, fun c' hc => by
  have e : c' = c := List.mem_singleton.mp (show c' ∈ [c] from hc)
  rw [e]
  exact h⟩
theorem inV_mem {x : Str} : ∀ {xs : List Str}, inV (.str x) (xs.map V.str) = true → x ∈ xs
  | [], h => by cases h
  | y :: r, h => by
    have h' : ((y == x) || inV (.str x) (r.map V.str)) = true := h
    rw [Bool.or_eq_true] at h'
    rcases h' with e | e
    · rw [beq_iff_eq] at e
      rw [e]
      exact List.mem_cons_self
    · exact List.mem_cons_of_mem _ (inV_mem e)
theorem all_str (l : List Str) : (l.map V.str).all flatV = true := by
  rw [List.all_eq_true]
  intro v hv
  obtain ⟨z, _, rfl⟩ := List.mem_map.mp hv
  rfl
def fIn (zs : Env9) (z w : Str) (j : Nat) : Bool := match zs[j]? with
  | some e => decide (e.1 = z) && decide (e.2.1 = w)
  | none => false
theorem fIn_yes {zs : Env9} {z w : Str} {j : Nat} (h : fIn zs z w j = true) : ∃ e, zs[j]? = some e ∧ e.1 = z := by
  unfold fIn at h
  split at h
  · rename_i e he
    rw [Bool.and_eq_true, decide_eq_true_eq] at h
    exact ⟨e, he, h.1⟩
  · cases h
theorem MoR.inn {cS : Addr} {zs zE : Env9} {H : Hp} (sub : ∀ x ∈ zs, x ∈ zE) : ∀ {n : Nat} {m : Md} {v : V}, MoR cS zs n H m v → MoR cS zE n H m v
  | 0, _, _, h => h.elim
  | _ + 1, .nm _, _, h => h
  | n + 1, .ap _ _, _, ⟨p, ks, e, hp, em, k, hs, hi, g⟩ => ⟨p, ks, e, hp, em, k, hs, (fun a z y q => sub _ (hi a z y q)), fun e he => MoR.inn sub (g e he)⟩
/-- what stands once all is made -/
structure S10 (K : PySem.W.Frag) (C cS : Addr) (zE : Env9) (z w : Str) (b Ev So Mo : Addr) (u0 u1 u2 x0 x1 x2 : V) (m0 m1 m2 : Md) (H : Hp) : Prop where
  ev : Ste9 K cS Ev zE H
  th : HdS cS H (.st b z w)
  mem : (z, w, b) ∈ zE
  so : H So = some (.lst [u0, u1, u2])
  mo : H Mo = some (.lst [x0, x1, x2])
  e0 : ExR K C cS 4 H m0 u0
  e1 : ExR K C cS 4 H m1 u1
  e2 : ExR K C cS 4 H m2 u2
  x0 : MoR cS zE 4 H m0 x0
  x1 : MoR cS zE 4 H m1 x1
  x2 : MoR cS zE 4 H m2 x2
  z0 : sz m0 ≤ 4
  z1 : sz m1 ≤ 4
  z2 : sz m2 ≤ 4
  evl : H Ev = some (.lst (zE.map fun e => V.ref e.2.2))
theorem S10.same {K : PySem.W.Frag} {C cS : Addr} {zE : Env9} {z w : Str} {b Ev So Mo : Addr} {u0 u1 u2 x0 x1 x2 : V} {m0 m1 m2 : Md} {H H' : Hp} (s : Same H H') (h : S10 K C cS zE z w b Ev So Mo u0 u1 u2 x0 x1 x2 m0 m1 m2 H) : S10 K C cS zE z w b Ev So Mo u0 u1 u2 x0 x1 x2 m0 m1 m2 H' :=
  ⟨h.ev.same s, hdS_tr (Tr.same s) h.th, h.mem, s _ _ h.so, s _ _ h.mo, h.e0.same s, h.e1.same s, h.e2.same s, h.x0.same s, h.x1.same s, h.x2.same s, h.z0, h.z1, h.z2, s _ _ h.evl⟩
theorem S10.mk' {K : PySem.W.Frag} {C cS : Addr} {zs zE : Env9} {z w : Str} {b Ev So Mo : Addr} {u0 u1 u2 x0 x1 x2 : V} {m0 m1 m2 : Md} {H H' : Hp} (s : Same H H') (hE : H' Ev = some (.lst (zE.map fun e => V.ref e.2.2))) (lE : zE.length ≤ 20) (nE : (zE.map fun e => e.1).Nodup) (gE : ∀ x ∈ zE, StE9 cS H x) (mE : (z, w, b) ∈ zE) (sub : ∀ x ∈ zs, x ∈ zE)
    (hO : H So = some (.lst [u0, u1, u2])) (hM : H Mo = some (.lst [x0, x1, x2])) (e0 : ExR K C cS 4 H m0 u0) (e1 : ExR K C cS 4 H m1 u1) (e2 : ExR K C cS 4 H m2 u2) (h0 : MoR cS zs 4 H m0 x0) (h1 : MoR cS zs 4 H m1 x1) (h2 : MoR cS zs 4 H m2 x2) (z0 : sz m0 ≤ 4) (z1 : sz m1 ≤ 4) (z2 : sz m2 ≤ 4) : S10 K C cS zE z w b Ev So Mo u0 u1 u2 x0 x1 x2 m0 m1 m2 H' := by
  obtain ⟨st, no, wo⟩ := (gE _ mE).same s
  exact ⟨⟨.inl (SqL.of hE), lE, nE, fun x hx => (gE x hx).same s⟩, ⟨st, no, wo⟩, mE, s _ _ hO, s _ _ hM, e0.same s, e1.same s, e2.same s, (h0.inn sub).same s, (h1.inn sub).same s, (h2.inn sub).same s, z0, z1, z2, hE⟩
theorem decide_congr {p q : Prop} [Decidable p] [Decidable q] (h : p ↔ q) : decide p = decide q := by
  by_cases c : p
  · rw [decide_eq_true c, decide_eq_true (h.mp c)]
  · rw [decide_eq_false c, decide_eq_false fun d => c (h.mpr d)]
theorem hdW_len {cS : Addr} {H : Hp} : ∀ {h : Hd}, HdS cS H h → (hdW h).length ≤ 8
  | .le, _ => by decide +kernel
  | .gr, _ => by decide +kernel
  | .st _ z _, h => by
    have := h.2.1.len
    show z.length ≤ 8
    omega
theorem sep_len {n : Nat} {cS : Addr} {H : Hp} {zs : Env9} (ih : ∀ {m : Md}, OkT cS H zs n m → (cp m).length + 2 ≤ 12 * sz m) : ∀ (ms : List Md), (∀ m ∈ ms, OkT cS H zs n m) → (TL.joinL [44, 32] (cpL ms)).length ≤ 12 * szL ms
  | [], _ => by simp [cpL, TL.joinL]
  | [m], g => by
    have := ih (g m List.mem_cons_self)
    show (cp m).length ≤ 12 * (sz m + 0)
    omega
  | m :: m' :: r, g => by
    have h1 := ih (g m List.mem_cons_self)
    have h2 := sep_len ih (m' :: r) fun x hx => g x (List.mem_cons_of_mem _ hx)
    show (cp m ++ ([44, 32] ++ TL.joinL [44, 32] (cpL (m' :: r)))).length ≤ 12 * (sz m + szL (m' :: r))
    rw [List.length_append, List.length_append]
    show (cp m).length + (2 + _) ≤ _
    omega
theorem cp_len {cS : Addr} {H : Hp} {zs : Env9} : ∀ {n : Nat} {m : Md}, OkT cS H zs n m → (cp m).length + 2 ≤ 12 * sz m
  | 0, _, h => h.elim
  | _ + 1, .nm z, h => by
    have l : z.length ≤ 4 := NameOk.len h
    have e : (cp (.nm z)).length = z.length := by rw [cp]; rfl
    rw [e, sz]
    omega
  | n + 1, .ap hd ms, h => by
    have l := hdW_len h.1
    have q := sep_len (cp_len (n := n)) ms h.2.2.2
    rw [cp_ap, List.length_append, List.length_cons, List.length_append, List.length_singleton, sz]
    have e : (TL.tl (hdW hd)).length = (hdW hd).length := rfl
    rw [e]
    omega
theorem bools_sh (a b : Bool) : SeqAt.shaped (.list [.bool a, .bool b]) = true ∧ PyData.eqv (.list [.bool a, .bool b]) (.list [.bool a, .bool b]) = true := by
  cases a <;> cases b <;> decide +kernel
def nLaw10 : List Str := ["_law_script", "_law_k", "_law_feed_here", "_law_names", "_law_steps", "_law_thin", "_law_step", "_law_models", "_law_turn", "_law_some", "_law_model", "_law_every", "_law_one", "_law_other", "_law_alike", "_law_made_here", "_law_expr_here", "_law_parts", "_law_more"]
theorem scLaw10 : FnScope nLaw10 ["_law_script"] (defScope sLaw) := ⟨rfl, rfl, rfl, by decide +kernel, rfl, by decide +kernel, by decide +kernel⟩
section
variable {P : Program} {w : World} {K : PySem.W.Frag} {mg : Str → Option Value} {base : Heap}
theorem ok_law10 {C cS cC fE fS fT fX fA fR fO fQ fC iS iC gC fF fD fP fW fG fXp fOt fMd fSo fJo f : Addr} {dE dS dT dX dA dR dO dQ dC jS kC fdF fdD fdP fdW fdG fdXp fdOt fdMd fdSo fdJo fd : FuncData}
    (S : Std mg) (W : Lw K mg C cS fE fS fT fX dE dS dT dX) (O : OpsF K mg C cS fA fR fO fQ fC dA dR dO dQ dC)
    (GA : FnOk P w K mg base CX0 7 fA dA ["self", "other"] (spBinX K C cS .le false)) (GO : FnOk P w K mg base CX0 7 fO dO ["self", "other"] (spBinX K C cS .gr false))
    (GC : FnOk P w K mg base CX0 7 fC dC ["self", "first", "second", "third"] (spCallX K C cS))
    (MS : Mk K cS iS) (GS0 : FnOk P w K mg base CX0 2 iS jS ["self", "name", "ways"] (spStInit cS)) (bS : Binds K jS ["self", "name", "ways"] [])
    (H1 : ChF K mg cC iC gC kC) (GI : FnR P w K mg base CX0 3 iC (fun vs H Q E => ∃ ws rest, vs = ws ++ rest ∧ ws.length = ([("self" : Str)] : List Str).length ∧ rest.length ≤ sizeLine ∧ ∀ p, H p = Option.none → spChainI K cS cC (ws ++ [V.ref p]) (upd H p (.tup rest)) Q E))
    (GCh : FnOk P w K mg base CX0 7 gC kC ["self", "part"] (spChCallX K C cC cS))
    (FE : Df K mg "_law_feed" sFeed fF fdF ["_law_script", "_law_k"]) (GF : FnOk P w K mg base CX0 1 fF fdF ["_law_script", "_law_k"] (spFeed K)) (D : Df K mg "_law_draw" sDraw fD fdD ["_law_feed_here", "_law_many"]) (PK : Df K mg "_law_pick" sPick fP fdP ["_law_feed_here", "_law_items"])
    (WO : Df K mg "_law_words" sWords fW fdW ["_law_feed_here", "_law_many"]) (GW : FnOk P w K mg base CX0 4 fW fdW ["_law_feed_here", "_law_many"] spWords)
    (PO : Df K mg "_law_step_pool" sPoolSteps fG fdG ["_law_feed_here", "_law_many"]) (GG : FnOk P w K mg base CX0 5 fG fdG ["_law_feed_here", "_law_many"] (spPool9 cS))
    (XE : Df K mg "_law_expr" sExpr fXp fdXp ["_law_feed_here", "_law_steps", "_law_names", "_law_room", "_law_deep"]) (GX0 : ∀ zs, FnOk P w K mg base CX0 7 fXp fdXp ["_law_feed_here", "_law_steps", "_law_names", "_law_room", "_law_deep"] (spExprM K cS zs 4))
    (OT : Df K mg "_law_otherwise" sOther fOt fdOt ["_law_feed_here", "_law_model", "_law_steps", "_law_names"]) (GT0 : ∀ zs, FnOk P w K mg base CX0 8 fOt fdOt ["_law_feed_here", "_law_model", "_law_steps", "_law_names"] (spOther K cS zs 4))
    (MD : Df K mg "_law_made" sMade fMd fdMd ["_law_feed_here", "_law_model"]) (GM0 : ∀ zs, FnOk P w K mg base CX0 12 fMd fdMd ["_law_feed_here", "_law_model"] (spMadeX K C cS zs 4))
    (SO : Df K mg "_law_sound" sSound fSo fdSo ["_law_expr_here", "_law_steps"]) (GO0 : ∀ zs, FnOk P w K mg base CX0 46 fSo fdSo ["_law_expr_here", "_law_steps"] (spSound K C cS zs 8))
    (JO : Df K mg "_law_joined" sLJoined fJo fdJo ["_law_expr_here", "_law_parts", "_law_more"]) (GJ : FnOk P w K mg base CX0 6 fJo fdJo ["_law_expr_here", "_law_parts", "_law_more"] (spJoined K C cS))
    (F : Fun K "law" "law" sLaw f fd) : FnOk P w K mg base CX0 47 f fd ["_law_script"] (spLaw K) := by
  have GD : FnOk P w K mg base CX0 1 fD fdD ["_law_feed_here", "_law_many"] spDraw := ok_draw S D.F
  have GP : FnOk P w K mg base CX0 2 fP fdP ["_law_feed_here", "_law_items"] (spPick K) := ok_pick S PK.F D
  have GX := fn_any GX0
  have GT := fn_any GT0
  have GM := fn_any GM0
  have GS := fn_any GO0
  have GTx : FnOk P w K mg base CX0 34 fT dT ["self"] (spTextR K C cS 8) := ok_exStrR S W.T1 (ok_textR S W.I.c.cl W.I.n W.I.cT.cl W.I.s1 W.T W.T1 8) W.T.F
  have GE : FnOk P w K mg base CX0 19 fE dE ["self", "other"] (spExEq K C cS 8) := ok_exEq S W.I 8
  have GQ : FnOk P w K mg base CX0 1 fS dS ["self", "other"] (spEqB K cS) := ok_stepEqB S W.J.cT W.J.s1 W.J.s2 W.J.q.F
  have C1 : FnR P w K mg base CX0 7 fC (fun vs H Q E => spCallX K C cS (vs ++ [V.non, V.non]) H Q E) := GC.raw O.call.b2 (.cons rfl (.cons rfl .nil))
  have C2 : FnR P w K mg base CX0 7 gC (fun vs H Q E => spChCallX K C cC cS (vs ++ []) H Q E) := GCh.raw H1.b .nil
  refine F.ok scLaw10 (fun vs H Q E h => ?_) (fun cdv A outer s H vs Q E hr h => ?_)
  · obtain ⟨a, ns, rfl, _⟩ := h
    rfl
  · obtain ⟨a, ns, rfl, hSc, hlen, q⟩ := h
    have hr1 : Room 1 _ := hr.mono (by decide)
    have hr2 : Room 2 _ := hr.mono (by decide)
    have hr3 : Room 3 _ := hr.mono (by decide)
    have hr4 : Room 4 _ := hr.mono (by decide)
    have hr5 : Room 5 _ := hr.mono (by decide)
    have hr6 : Room 6 _ := hr.mono (by decide)
    have hr7 : Room 7 _ := hr.mono (by decide)
    have hr8 : Room 8 _ := hr.mono (by decide)
    have hr12 : Room 12 _ := hr.mono (by decide)
    have hr19 : Room 19 _ := hr.mono (by decide)
    have hr20 : Room 20 _ := hr.mono (by decide)
    have hr34 : Room (34 + 2) _ := hr.mono (by decide)
    refine ⟨_, pss_cons (ps_for PassesOwn.never rfl (pi_range1 (by rfl) S.range (pa_cons (pe_op op_add pe_int (pe_callB call_len_seq (by rfl) S.len PySem.boot_len (pa_cons (pe_slice sl_list (pv 0) po_none (po_some pe_int)) pa_nil))) pa_nil)) (pg_name (i := 1) scLaw10.nd rfl (Or.inl rfl))
        (pss_cons (ps_set (i := 2) scLaw10.nd rfl (by first | exact Or.inl rfl | exact Or.inr rfl) (pe_call GF hr1 rfl FE.g FE.F.kp FE.b .nil pass0 (pa_cons (pv 0) (pa_cons (pv 1) pa_nil))))
        (pss_cons (ps_asg (pe_tup (pa_cons (pe_call GW hr4 rfl WO.g WO.F.kp WO.b .nil pass0 (pa_cons (pv 2) (pa_cons pe_int pa_nil))) (pa_cons (pe_call GG hr5 rfl PO.g PO.F.kp PO.b .nil pass0 (pa_cons (pv 2) (pa_cons pe_int pa_nil))) pa_nil)))
            (pg_tup rfl (pgs_cons (pg_name (i := 3) scLaw10.nd rfl (by first | exact Or.inl rfl | exact Or.inr rfl)) (pgs_cons (pg_name (i := 4) scLaw10.nd rfl (by first | exact Or.inl rfl | exact Or.inr rfl)) pgs_nil))))
        (pss_cons (ps_set (i := 5) scLaw10.nd rfl (by first | exact Or.inl rfl | exact Or.inr rfl) (pe_make MS GS0 hr3 rfl W.J.cT.g bS .nil pass0 (pa_cons (pe_ix ix_list (pe_call GW hr4 rfl WO.g WO.F.kp WO.b .nil pass0 (pa_cons (pv 2) (pa_cons pe_int pa_nil))) pe_int (fun _ _ => rfl)) (pa_cons (pe_call GP hr2 rfl PK.g PK.F.kp PK.b .nil pass0 (pa_cons (pv 2) (pa_cons pe_str pa_nil))) pa_nil))))
        (pss_cons (ps_if (pt_cmpR op_in_seq (pe_fld (pv 5) rfl) (pe_lc (own := [("_law_step", 6)]) (g := gName 6) (tt := tYes) (te := tFld K (tVar 6) "name") rfl scLaw10.nd (pi_list (pv 4)) (blkOk_by (N := nLaw10) (sc := defScope sLaw) (by decide +kernel))
                (fun _ _ _ _ _ => pg_name (i := 6) scLaw10.nd rfl (Or.inl rfl)) (fun _ _ _ _ _ => pts_nil) (fun _ _ _ _ _ => pe_fld (pv 6) rfl)) (by rfl))
            (pss_one (ps_set (i := 5) scLaw10.nd rfl (by first | exact Or.inl rfl | exact Or.inr rfl) (pe_ix ix_list (pe_lc (own := [("_law_step", 6)]) (g := gName 6) (te := tVar 6) (tt := tTest (tOp rEq (tFld K (tVar 6) "name") (tFld K (tVar 5) "name"))) rfl scLaw10.nd (pi_list (pv 4)) (blkOk_by (N := nLaw10) (sc := defScope sLaw) (by decide +kernel))
                (fun _ _ _ _ _ => pg_name (i := 6) scLaw10.nd rfl (Or.inl rfl)) (fun _ _ _ _ _ => pts_one (pt_cmpR op_eq (pe_fld (pv 6) rfl) (pe_fld (pv 5) rfl) (nomark _))) (fun _ _ _ _ _ => pv 6)) pe_int (fun _ _ => rfl)))) pss_nil)
        (pss_cons (ps_setLc (i := 7) (own := [("_law_turn", 8)]) (g := gName 8) (tt := tYes) rfl scLaw10.nd rfl rfl (sw_true rfl rfl rfl (by decide +kernel)) (pi_range1 (by rfl) S.range (pa_cons pe_int pa_nil)) (blkOk_by (N := nLaw10) (sc := defScope sLaw) (by decide +kernel))
            (fun _ _ _ _ _ => pg_name (i := 8) scLaw10.nd rfl (Or.inl rfl)) (fun _ _ _ _ _ => pts_nil) (fun _ _ _ _ _ => pe_call GX hr7 rfl XE.g XE.F.kp XE.b .nil pass0 (pa_cons (pv 2) (pa_cons (pv 4) (pa_cons (pv 3) (pa_cons pe_int (pa_cons pe_int pa_nil)))))))
        (pss_cons (ps_expr (pe_bm PySem.F.plainAttrs_list PySem.F.slot_list_append PySem.F.type_list_append mt_append (pv 7) (pa_cons (pe_call GT hr8 rfl OT.g OT.F.kp OT.b .nil pass0 (pa_cons (pv 2) (pa_cons (pe_ix ix_list (pv 7) pe_int (fun _ _ => rfl)) (pa_cons (pv 4) (pa_cons (pv 3) pa_nil))))) pa_nil)))
        (pss_cons (ps_setLc (i := 9) (own := [("_law_model", 10)]) (g := gName 10) (tt := tYes) rfl scLaw10.nd rfl rfl (sw_true rfl rfl rfl (by decide +kernel)) (pi_list (pv 7)) (blkOk_by (N := nLaw10) (sc := defScope sLaw) (by decide +kernel))
            (fun _ _ _ _ _ => pg_name (i := 10) scLaw10.nd rfl (Or.inl rfl)) (fun _ _ _ _ _ => pts_nil) (fun _ _ _ _ _ => pe_call GM hr12 rfl MD.g MD.F.kp MD.b .nil pass0 (pa_cons (pv 2) (pa_cons (pv 10) pa_nil))))
        (pss_cons (ps_set (i := 11) scLaw10.nd rfl (by first | exact Or.inl rfl | exact Or.inr rfl) (pe_op op_cat (pv 4) (pe_op op_rep (pe_lst (pa_cons (pv 5) pa_nil)) (pe_callTy call_int1 (by rfl) S.int (by decide +kernel) (pa_cons (pe_cmpR (op_notInGB mon_step (eqGB_step S W.J.cT W.J.s1 W.J.s2 W.J.q) hr2) (pv 5) (pv 4) (by rfl)) pa_nil)))))
        (pss_cons (ps_for PassesOwn.never rfl (pi_list (pv 9)) (pg_name (i := 12) scLaw10.nd rfl (Or.inl rfl))
          (pss_one (ps_for PassesOwn.never rfl (pi_list (pv 9)) (pg_name (i := 13) scLaw10.nd rfl (Or.inl rfl))
            (pss_cons (ps_set (i := 14) scLaw10.nd rfl (by first | exact Or.inl rfl | exact Or.inr rfl) (pe_cmpR (op_eqGB (rcGB_head S W.J) hr2) (pe_lst (pa_cons (pe_fld (pv 12) rfl) (pa_cons (pe_fld (pv 12) rfl) (pa_cons (pe_fld (pv 12) rfl) pa_nil)))) (pe_lst (pa_cons (pe_fld (pv 13) rfl) (pa_cons (pe_fld (pv 13) rfl) (pa_cons (pe_fld (pv 13) rfl) pa_nil)))) (nomark _)))
            (pss_cons (ps_if (pt_cmpR op_ne (pe_cmpR (op_eqOwn (C := C) (E := E0) GE W.I.q.at_ W.I.q.fn W.I.q.b pass0 hr19) (pv 12) (pv 13) (nomark _)) (pe_cmpR op_eq (pe_callTy (LR.call_strOwn GTx W.T.at_ W.T.fn W.T.b pass0 hr34) (by rfl) S.str (by decide +kernel) (pa_cons (pv 12) pa_nil)) (pe_callTy (LR.call_strOwn GTx W.T.at_ W.T.fn W.T.b pass0 hr34) (by rfl) S.str (by decide +kernel) (pa_cons (pv 13) pa_nil)) (nomark _)) (nomark _)) (pss_one (ps_ret pe_bl)) pss_nil)
            (pss_one (ps_if (pt_cmpR op_ne (pe_cmpR (op_eqOwn (C := C) (E := E0) GE W.I.q.at_ W.I.q.fn W.I.q.b pass0 hr19) (pv 12) (pv 13) (nomark _)) (pe_and (pv 14) (pe_one (pe_cmpR (op_eqGB (rcGB_tup mon_ex (eqGB_ex W.I GE)) hr20) (pe_fld (pv 12) rfl) (pe_fld (pv 13) rfl) (nomark _)))) (nomark _)) (pss_one (ps_ret pe_bl)) pss_nil)))))))
        (pss_cons (ps_if (pt_cmpR (show OpR _ _ (rNeD K) from op_neD hr.units) (pe_lst (pa_cons (pe_cmpR (op_any fun zs : Env9 => op_eqGB (rcGB_md (zs := zs) S W.J 3) hr5) (pe_ix ix_list (pv 7) pe_int (fun _ _ => rfl)) (pe_ix ix_list (pv 7) pe_int (fun _ _ => rfl)) (nomark _)) (pa_cons (pe_cmpR (op_any fun zs : Env9 => op_eqGB (rcGB_md (zs := zs) S W.J 3) hr5) (pe_ix ix_list (pv 7) pe_int (fun _ _ => rfl)) (pe_ix ix_list (pv 7) pe_int (fun _ _ => rfl)) (nomark _)) pa_nil)))
              (pe_lst (pa_cons (pe_cmpR (op_eqOwn (C := C) (E := E0) GE W.I.q.at_ W.I.q.fn W.I.q.b pass0 hr19) (pe_ix ix_list (pv 9) pe_int (fun _ _ => rfl)) (pe_ix ix_list (pv 9) pe_int (fun _ _ => rfl)) (nomark _)) (pa_cons (pe_cmpR (op_eqOwn (C := C) (E := E0) GE W.I.q.at_ W.I.q.fn W.I.q.b pass0 hr19) (pe_ix ix_list (pv 9) pe_int (fun _ _ => rfl)) (pe_ix ix_list (pv 9) pe_int (fun _ _ => rfl)) (nomark _)) pa_nil))) (nomark _)) (pss_one (ps_ret pe_bl)) pss_nil)
        (pss_cons (ps_set (i := 15) scLaw10.nd rfl (by first | exact Or.inl rfl | exact Or.inr rfl) (pe_lst (pa_cons (pe_tup (pa_cons (pe_op (op_binOwn (C := C) (E := E0) GA O.sf str_and O.a O.fa O.ba pass0 hr7) (pe_ix ix_list (pv 9) pe_int (fun _ _ => rfl)) (pe_ix ix_list (pv 9) pe_int (fun _ _ => rfl))) (pa_cons (pe_slice sl_list (pv 9) po_none (po_some pe_int)) (pa_cons (pe_lst pa_nil) pa_nil))))
            (pa_cons (pe_tup (pa_cons (pe_op (op_binOwn (C := C) (E := E0) GO O.sf str_or O.o O.fo O.bo pass0 hr7) (pe_ix ix_list (pv 9) pe_int (fun _ _ => rfl)) (pe_ix ix_list (pv 9) pe_int (fun _ _ => rfl))) (pa_cons (pe_lst (pa_cons (pe_ix ix_list (pv 9) pe_int (fun _ _ => rfl)) (pa_cons (pe_ix ix_list (pv 9) pe_int (fun _ _ => rfl)) pa_nil))) (pa_cons (pe_lst pa_nil) pa_nil)))) pa_nil))))
        (pss_cons (ps_if (pt_cmpR op_eq (pe_callB call_len_str (by rfl) S.len PySem.boot_len (pa_cons (pe_fld (pv 5) rfl) pa_nil)) pe_int (nomark _))
            (pss_cons (ps_expr (pe_bm PySem.F.plainAttrs_list PySem.F.slot_list_append PySem.F.type_list_append mt_append (pv 15) (pa_cons (pe_tup (pa_cons (StX.pe_callO (E := E0) (StX.pe_makeR H1.M GI hr4 rfl H1.g pass0 (pa_cons (pv 5) (pa_cons (pv 5) pa_nil))) H1.o C2 hr7 pass0 (pa_cons (pe_ix ix_list (pv 9) pe_int (fun _ _ => rfl)) pa_nil)) (pa_cons (pe_lst (pa_cons (pe_ix ix_list (pv 9) pe_int (fun _ _ => rfl)) pa_nil)) (pa_cons (pe_lst (pa_cons (pv 5) pa_nil)) pa_nil)))) pa_nil)))
            (pss_one (ps_expr (pe_bm PySem.F.plainAttrs_list PySem.F.slot_list_append PySem.F.type_list_append mt_append (pv 15) (pa_cons (pe_tup (pa_cons (StX.pe_callO (E := E0) (pv 5) O.call.o C1 hr7 pass0 (pa_cons (pe_ix ix_list (pv 9) pe_int (fun _ _ => rfl)) pa_nil)) (pa_cons (pe_lst (pa_cons (pe_ix ix_list (pv 9) pe_int (fun _ _ => rfl)) pa_nil)) (pa_cons (pe_lst (pa_cons (pv 5) pa_nil)) pa_nil)))) pa_nil))))) pss_nil)
        (pss_one (ps_for PassesOwn.never rfl (pi_list (pv 15)) (pg_tup rfl (pgs_cons (pg_name (i := 16) scLaw10.nd rfl (Or.inl rfl)) (pgs_cons (pg_name (i := 17) scLaw10.nd rfl (Or.inl rfl)) (pgs_cons (pg_name (i := 18) scLaw10.nd rfl (Or.inl rfl)) pgs_nil))))
            (pss_one (ps_if (PW.pt (pw_or (pt_not (pt_val (pe_call GS hr rfl SO.g SO.F.kp SO.b .nil pass0 (pa_cons (pv 16) (pa_cons (pv 11) pa_nil))))) (pw_or1 (pt_not (pt_val (pe_call GJ hr6 rfl JO.g JO.F.kp JO.b .nil pass0 (pa_cons (pv 16) (pa_cons (pv 17) (pa_cons (pv 18) pa_nil)))))))))
              (pss_one (ps_ret pe_bl)) pss_nil)))))))))))))))))
      (pss_one (ps_ret pe_bl)), ?_⟩
    refine ⟨_, rfl, _, rfl, a, _, rfl, hSc, fun c' hc' => ⟨c', _, rfl, .inl (SqL.of upd_same), ?_⟩⟩
    have hcut := cut2C (ns.map V.int)
    generalize (cutV (ns.map V.int) none (some 2)) = cut at hcut ⊢
    have s3 := same_new (o := .lst cut) hc'
    generalize upd H c' (.lst cut) = H3 at s3 ⊢
    refine ⟨_, _, rfl, rfl, 1 + (cut.length : Int), rfl, by omega, by omega, for_range (lo := 0) (n := (1 + (cut.length : Int)).toNat) (fun i σ H' => (∃ v1 v2 v3 v4 v5 v6 v7 v8 v9 v10 v11 v12 v13 v14 v15 v16 v17 v18, σ = [some (.ref a), v1, v2, v3, v4, v5, v6, v7, v8, v9, v10, v11, v12, v13, v14, v15, v16, v17, v18]) ∧ Same H3 H') ⟨⟨_, _, _, _, _, _, _, _, _, _, _, _, _, _, _, _, _, _, rfl⟩, fun _ _ e => e⟩ ?_ ?_⟩
    · rintro i σ H4 hi ⟨⟨v1, v2, v3, v4, v5, v6, v7, v8, v9, v10, v11, v12, v13, v14, v15, v16, v17, v18, rfl⟩, s34⟩
      refine ⟨_, rfl, _, rfl, a, ns, i, by show [V.ref a, V.int (0 + (i : Int))] = _; rw [Int.zero_add], sqL_same (s3.trans s34) hSc, fun l H5 hl hf5 s5 => ?_⟩
      have hlH : ∀ {b o}, H3 b = some o → b ≠ l := fun {b o} e => ne_of_none (s34 _ _ e) hl
      refine gN_key ?_
      dsimp only
      refine seq_key (fun σ' H' => ∃ (Nx Sx : Addr) (nms : List Str) (zs : Env9), σ' = [some (.ref a), some (.int (0 + (i : Int))), some (.ref l), some (.ref Nx), some (.ref Sx), v5, v6, v7, v8, v9, v10, v11, v12, v13, v14, v15, v16, v17, v18] ∧ zs.length = 3 ∧ (zs.map fun e => e.1).Nodup ∧ Sx ≠ l ∧ H' Sx = some (.lst (zs.map fun e => V.ref e.2.2)) ∧ (∀ x ∈ zs, StE9 cS H' x) ∧ Feed H' l ∧ Nx ≠ l ∧
          H' Nx = some (.lst (nms.map V.str)) ∧ nms.length = 3 ∧ (∀ z ∈ nms, NameOk z) ∧ ∀ b o, H3 b = some o → H' b = some o) (fun key => ?_) (fun σ' H7 h => ?_)
      · refine ⟨_, rfl, l, 3, rfl, by decide, hf5, fun Nx nms H6 ln gN ndN nN0 nN hN f6 k6 => ?_⟩
        refine ⟨_, rfl, l, 3, rfl, by decide, f6, fun Sx zs H7 lz ndz nS0 nS hS gS f7 k7 => ⟨(by show 2 ≤ sizeLine; decide), fun T hT => ?_⟩⟩
        have sT := same_new (o := .tup [V.ref Nx, V.ref Sx]) hT
        refine ⟨T, _, rfl, SqT.of upd_same, rfl, _, _, rfl, _, _, rfl, rfl, key _ _ ⟨Nx, Sx, nms, zs, rfl, lz, ndz, nS, sT _ _ hS, fun x hx => (gS x hx).same sT, f7.same sT, nN, sT _ _ (k7 _ _ nN hN), ln, gN, fun b o e => sT _ _ (k7 b o (hlH e) (k6 b o (hlH e) (s5 _ _ (s34 _ _ e))))⟩⟩
      obtain ⟨Nx, Sx, nms, zs, rfl, lz, ndz, nS, hS, gS, f7, nN, hN, lN, gN, k37⟩ := h
      refine asg_key (fun y H' => ∃ (b : Addr) (z w : Str), y = .ref b ∧ StE9 cS H' (z, w, b) ∧ Feed H' l ∧ Keep l H7 H') (fun R key => ?_) (fun y H8 h => ?_)
      · refine ⟨_, rfl, l, 6, rfl, by decide, f7, fun D nm6 H8 l6 g6 _ nD0 nD hD f8 k8 => ?_⟩
        obtain ⟨n0, n1, n2, n3, n4, n5, rfl⟩ : ∃ n0 n1 n2 n3 n4 n5, nm6 = [n0, n1, n2, n3, n4, n5] := by
          match nm6, l6 with
          | [n0, n1, n2, n3, n4, n5], _ => exact ⟨n0, n1, n2, n3, n4, n5, rfl⟩
        refine ⟨D, _, 5, .str n5, rfl, rfl, SqL.of hD, at_of (j := 5) rfl rfl, _, rfl, l, .str "+-?", (fun v => ∃ w, v = .str w ∧ WaysOk w), rfl, f8, .inl ⟨"+-?", rfl, by decide +kernel, by decide +kernel, fun c hc => ⟨_, rfl, way1 hc⟩⟩, fun v H9 hv f9 k9 => ?_⟩
        obtain ⟨w, rfl, hw⟩ := hv
        intro x dx nx nd ne2
        refine ⟨x, dx, n5, w, rfl, upd_same, g6 n5 (by simp), hw, fun H10 st k10 => ⟨rfl, ?_⟩⟩
        have s10 := same_of_keep (H1 := H9) nx nd k10
        exact key _ _ ⟨x, n5, w, rfl, ⟨st, g6 n5 (by simp), hw⟩, f9.same s10, (k8.trans k9).trans (Keep.same s10)⟩
      obtain ⟨b0, z0, w0, rfl, gb, f8, k8⟩ := h
      refine gN_key ?_
      have hS8 := k8 _ _ nS hS
      have gS8 : ∀ x ∈ zs, StE9 cS H8 x := fun x hx => (gS x hx).keep f7 k8
      refine seq_key (fun σ' H' => ∃ (b : Addr) (z w : Str) (v6 : Option V), σ' = [some (.ref a), some (.int (0 + (i : Int))), some (.ref l), some (.ref Nx), some (.ref Sx), some (.ref b), v6, v7, v8, v9, v10, v11, v12, v13, v14, v15, v16, v17, v18] ∧ StE9 cS H' (z, w, b) ∧ ((z, w, b) ∈ zs ∨ z ∉ zs.map fun e => e.1) ∧ Same H8 H') (fun key => ?_) (fun σ' H9 h => ?_)
      · obtain ⟨⟨dx0, hb0⟩, no0, wo0⟩ := gb
        refine if_key (fun b H' => Same H8 H' ∧ (b = true → z0 ∈ zs.map fun e => e.1) ∧ (b = false → z0 ∉ zs.map fun e => e.1)) (fun R key2 => ?_) (fun H9 h => ?_) (fun H9 h => ?_)
        · refine ⟨_, rfl, b0, cS, dx0, _, .str z0, rfl, hb0, W.J.cT.cl, W.J.s1, rfl, _, rfl, Sx, rfl, ⟨_, SqL.of hS8⟩, fun D hD => lc_list (xs := zs.map fun e => V.ref e.2.2) (fun i H4 => Same H8 H4 ∧ H4 D = some (.lst ((zs.take i).map fun e => V.str e.1))) ⟨same_new hD, upd_same⟩ (fun i H4 _ h => SqL.of (h.1 _ _ hS8)) (fun i v H4 hv h => ?_) (fun H4 h => ?_)⟩
          · obtain ⟨s4, d4⟩ := h
            rw [List.getElem?_map] at hv
            obtain ⟨e, he, rfl⟩ := Option.map_eq_some_iff.mp hv
            have lt := (List.getElem?_eq_some_iff.mp he).1
            obtain ⟨dx, hb⟩ := (gS8 e (List.mem_of_getElem? he)).st
            refine ⟨rfl, _, rfl, _, cS, dx, _, .str e.1, rfl, s4 _ _ hb, W.J.cT.cl, W.J.s1, rfl, _, d4, by rw [List.length_map, List.length_take, sizeLine_eq]; omega, same_put hD s4, ?_⟩
            rw [upd_same, List.take_add_one, he, List.map_append]
            rfl
          · obtain ⟨s4, d4⟩ := h
            rw [List.length_map, List.take_length] at d4
            have em : (zs.map fun e => V.str e.1) = (zs.map fun e => e.1).map V.str := by rw [List.map_map]; rfl
            rw [em] at d4
            exact ⟨D, _, rfl, .inl (SqL.of d4), rfl, all_str _, _, rfl, key2 _ _ ⟨s4, inV_mem, fun e hm => by
              have q : inV (.str z0) ((zs.map fun e => e.1).map V.str) = false := e
              rw [in_inV hm] at q
              cases q⟩⟩
        · obtain ⟨s9, yes, _⟩ := h
          have yes := yes rfl
          have hS9 := s9 _ _ hS8
          have gS9 : ∀ x ∈ zs, StE9 cS H9 x := fun x hx => (gS8 x hx).same s9
          refine ⟨_, rfl, Sx, rfl, ⟨_, SqL.of hS9⟩, fun D hD => lc_list (xs := zs.map fun e => V.ref e.2.2) (fun i H4 => Same H9 H4 ∧ ∃ xs, H4 D = some (.lst xs) ∧ xs.length ≤ i ∧ (∀ v ∈ xs, ∃ e ∈ zs, v = .ref e.2.2) ∧ (z0 ∈ (zs.take i).map (fun e => e.1) → xs ≠ [])) ⟨same_new hD, [], upd_same, Nat.le_refl _, (fun _ h => nomatch h), fun h => by simp at h⟩ (fun i H4 _ h => SqL.of (h.1 _ _ hS9)) (fun i v H4 hv h => ?_) (fun H4 h => ?_)⟩
          · obtain ⟨s4, xs, d4, lx, gx, nx⟩ := h
            rw [List.getElem?_map] at hv
            obtain ⟨e, he, rfl⟩ := Option.map_eq_some_iff.mp hv
            have lt := (List.getElem?_eq_some_iff.mp he).1
            obtain ⟨dx, hb⟩ := (gS9 e (List.mem_of_getElem? he)).st
            refine ⟨rfl, _, rfl, _, cS, dx, _, .str e.1, rfl, s4 _ _ hb, W.J.cT.cl, W.J.s1, rfl, _, rfl, b0, cS, dx0, _, .str z0, rfl, s4 _ _ (s9 _ _ hb0), W.J.cT.cl, W.J.s1, rfl, rfl, _, rfl, ite2 (fun c => ?_) (fun c => ?_)⟩
            · refine ⟨_, rfl, xs, d4, by rw [sizeLine_eq]; omega, same_put hD s4, xs ++ [.ref e.2.2], upd_same, by rw [List.length_append]; show xs.length + 1 ≤ i + 1; omega, fun u hu => ?_, fun _ h => by simp at h⟩
              rcases List.mem_append.mp hu with hu | hu
              · exact gx u hu
              · rw [List.mem_singleton.mp hu]
                exact ⟨e, List.mem_of_getElem? he, rfl⟩
            · refine ⟨s4, xs, d4, by omega, gx, fun hm => nx ?_⟩
              rw [List.take_add_one, he, List.map_append] at hm
              rcases List.mem_append.mp hm with hm | hm
              · exact hm
              · have ez : z0 = e.1 := List.mem_singleton.mp (show z0 ∈ [e.1] from hm)
                exact absurd (decide_eq_true (by rw [ez])) c
          · obtain ⟨s4, xs, d4, lx, gx, nx⟩ := h
            rw [List.length_map, List.take_length] at nx
            cases xs with
            | nil => exact absurd rfl (nx yes)
            | cons v r =>
              obtain ⟨e, me, rfl⟩ := gx v List.mem_cons_self
              exact ⟨D, _, 0, .ref e.2.2, rfl, rfl, SqL.of d4, at_of (j := 0) rfl rfl, key _ _ ⟨e.2.2, e.1, e.2.1, _, rfl, (gS9 e me).same s4, .inl me, s9.trans s4⟩⟩
        · obtain ⟨s9, _, no⟩ := h
          exact key _ _ ⟨b0, z0, w0, _, rfl, StE9.same s9 ⟨⟨dx0, hb0⟩, no0, wo0⟩, .inr (no rfl), s9⟩
      obtain ⟨b, z, w, v6', rfl, gb', hbz, s89⟩ := h
      have f9 := f8.same s89
      have hS9 := s89 _ _ hS8
      have gS9 : ∀ x ∈ zs, StE9 cS H9 x := fun x hx => (gS8 x hx).same s89
      have hN9 : H9 Nx = some (.lst (nms.map V.str)) := s89 _ _ (k8 _ _ nN hN)
      have k39 : ∀ b o, H3 b = some o → H9 b = some o := fun b o e => s89 _ _ (k8 _ _ (hlH e) (k37 _ _ e))
      clear gS8 hS8 gb k8 f8 k37 gS hS hN f7 s89
      refine asg_key (fun y H' => ∃ (Mo : Addr) (x0 x1 : V) (m0 m1 : Md), y = .ref Mo ∧ Mo ≠ l ∧ H' Mo = some (.lst [x0, x1]) ∧ MoR cS zs 4 H' m0 x0 ∧ MoR cS zs 4 H' m1 x1 ∧ sz m0 ≤ 4 ∧ sz m1 ≤ 4 ∧ Feed H' l ∧ Keep l H9 H' ∧ H9 Mo = none) (fun R key => ?_) (fun y H10 h => ?_)
      · refine ⟨2, rfl, by decide, by decide, fun D hD => lc_range (lo := 0) (n := 2) (fun j H4 => Feed H4 l ∧ Keep l H9 H4 ∧ ∃ xs : List (V × Md), H4 D = some (.lst (xs.map fun e => e.1)) ∧ xs.length = j ∧ ∀ e ∈ xs, MoR cS zs 4 H4 e.2 e.1 ∧ sz e.2 ≤ 4) ⟨f9.same (same_new hD), Keep.same (same_new hD), [], upd_same, rfl, fun _ h => nomatch h⟩ (fun j H4 lt h => ?_) (fun H4 h => ?_)⟩
        · obtain ⟨f4, k4, xs, d4, lx, gx⟩ := h
          have nD := (f9.ne hD).symm
          refine ⟨rfl, _, rfl, _, rfl, _, rfl, zs, l, Sx, Nx, nms, 4, 3, rfl, by decide, by decide, by decide, by decide, f4, nS, k4 _ _ nS hS9, by omega, fun x hx => (gS9 x hx).keep f9 k4, nN, k4 _ _ nN hN9, by omega, by omega, gN, fun v m H5 hm le f5 k5 => ?_⟩
          have d5 := k5 _ _ nD d4
          refine ⟨_, d5, by rw [List.length_map, sizeLine_eq]; omega, f5.keep Keep.put nD.symm, ?_, xs ++ [(v, m)], by rw [upd_same, List.map_append]; rfl, by rw [List.length_append, lx]; rfl, fun e he => ?_⟩
          · exact fun b o nb e => by
              rw [upd_ne (ne_of_none e hD)]
              exact k5 _ _ nb (k4 _ _ nb e)
          · rcases List.mem_append.mp he with he | he
            · exact ⟨moR_tr ((Tr.keep f4 k5).trans (Tr.lst d5)) (gx e he).1, (gx e he).2⟩
            · rw [List.mem_singleton.mp he]
              exact ⟨moR_tr (Tr.lst d5) hm, (by omega : sz m ≤ 4)⟩
        · obtain ⟨f4, k4, xs, d4, lx, gx⟩ := h
          obtain ⟨⟨x0, m0⟩, ⟨x1, m1⟩, rfl⟩ : ∃ e0 e1, xs = [e0, e1] := by
            match xs, lx with
            | [e0, e1], _ => exact ⟨e0, e1, rfl⟩
          have g0 := gx (x0, m0) List.mem_cons_self
          have g1 := gx (x1, m1) (List.mem_cons_of_mem _ List.mem_cons_self)
          exact key _ _ ⟨D, x0, x1, m0, m1, rfl, (f9.ne hD).symm, d4, g0.1, g1.1, g0.2, g1.2, f4, k4, hD⟩
      obtain ⟨Mo, x0, x1, m0, m1, rfl, nM, hM, h0, h1, z0', z1', f10, k10, nMo⟩ := h
      have nMS : Sx ≠ Mo := ne_of_none hS9 nMo
      have nMN : Nx ≠ Mo := ne_of_none hN9 nMo
      have nM3 : ∀ b o, H3 b = some o → b ≠ Mo := fun b o e => ne_of_none (k39 _ _ e) nMo
      refine gN_key ?_
      have hS10 := k10 _ _ nS hS9
      have hN10 := k10 _ _ nN hN9
      have gS10 : ∀ x ∈ zs, StE9 cS H10 x := fun x hx => (gS9 x hx).keep f9 k10
      have gb10 := gb'.keep f9 k10
      have k310 : ∀ b o, H3 b = some o → H10 b = some o := fun b o e => k10 b o (hlH e) (k39 _ _ e)
      clear gS9 hS9 hN9 gb' k39 k10 f9 nMo
      refine seq_key (fun σ' H' => ∃ (x2 : V) (m2 : Md), σ' = [some (.ref a), some (.int (0 + (i : Int))), some (.ref l), some (.ref Nx), some (.ref Sx), some (.ref b), v6', some (.ref Mo), v8, v9, v10, v11, v12, v13, v14, v15, v16, v17, v18] ∧ H' Mo = some (.lst [x0, x1, x2]) ∧ MoR cS zs 4 H' m0 x0 ∧ MoR cS zs 4 H' m1 x1 ∧ MoR cS zs 4 H' m2 x2 ∧ sz m2 ≤ 4 ∧ Feed H' l ∧
          H' Sx = some (.lst (zs.map fun e => V.ref e.2.2)) ∧ (∀ x ∈ zs, StE9 cS H' x) ∧ StE9 cS H' (z, w, b) ∧ ∀ b o, H3 b = some o → H' b = some o) (fun key => ?_) (fun σ' H11 h => ?_)
      · refine ⟨_, rfl, .inl ⟨rfl, _, SqL.of hM⟩, _, rfl, _, rfl, Mo, _, 1, x1, rfl, rfl, SqL.of hM, at_of (j := 1) rfl rfl, _, rfl, _, rfl, zs, l, Sx, Nx, x1, m1, nms, rfl, h1, by omega, f10, nS, hS10, by omega, gS10, nN, hN10, by omega, by omega, gN, fun v' m' H11 hm' le' f11 k11 => ?_⟩
        have d11 := k11 _ _ nM hM
        have tr := Tr.keep f10 k11
        have tl := Tr.lst (zs := [x0, x1, v']) d11
        refine ⟨Mo, [x0, x1], v', rfl, rfl, d11, (by show 2 < sizeLine; decide), key _ _ ⟨v', m', rfl, upd_same, moR_tr (tr.trans tl) h0, moR_tr (tr.trans tl) h1, moR_tr tl hm', by omega, f11.keep Keep.put nM.symm, ?_, fun x hx => StE9.lst ((gS10 x hx).keep f10 k11) d11, StE9.lst (gb10.keep f10 k11) d11, fun b' o e => ?_⟩⟩
        · rw [upd_ne nMS]
          exact k11 _ _ nS hS10
        · rw [upd_ne (nM3 _ _ e)]
          exact k11 _ _ (hlH e) (k310 _ _ e)
      obtain ⟨x2, m2, rfl, hM', h0', h1', h2', z2', f11, hS11, gS11, gb11, k311⟩ := h
      clear hM h0 h1 f10 hS10 gS10 gb10 hN10 k310
      refine asg_key (fun y H' => ∃ (So : Addr) (u0 u1 u2 : V), y = .ref So ∧ H' So = some (.lst [u0, u1, u2]) ∧ ExR K C cS 4 H' m0 u0 ∧ ExR K C cS 4 H' m1 u1 ∧ ExR K C cS 4 H' m2 u2 ∧ Feed H' l ∧ Keep l H11 H') (fun R key => ?_) (fun y H12 h => ?_)
      · refine ⟨_, rfl, Mo, rfl, ⟨_, SqL.of hM'⟩, fun D hD => lc_list (xs := [x0, x1, x2]) (fun j H4 => Feed H4 l ∧ Keep l H11 H4 ∧ ∃ es : List (V × Md), H4 D = some (.lst (es.map fun e => e.1)) ∧ es.map (fun e => e.2) = [m0, m1, m2].take j ∧ ∀ e ∈ es, ExR K C cS 4 H4 e.2 e.1) ⟨f11.same (same_new hD), Keep.same (same_new hD), [], upd_same, rfl, fun _ h => nomatch h⟩ (fun j H4 _ h => SqL.of (h.2.1 _ _ nM hM')) (fun j v H4 hv h => ?_) (fun H4 h => ?_)⟩
        · obtain ⟨f4, k4, es, d4, em, gx⟩ := h
          have nD := (f11.ne hD).symm
          obtain ⟨m, hm, hv', hz⟩ : ∃ m, [m0, m1, m2][j]? = some m ∧ MoR cS zs 4 H11 m v ∧ sz m < 64 := by
            match j, hv with
            | 0, hv => cases hv; exact ⟨m0, rfl, h0', by omega⟩
            | 1, hv => cases hv; exact ⟨m1, rfl, h1', by omega⟩
            | 2, hv => cases hv; exact ⟨m2, rfl, h2', by omega⟩
            | k + 3, hv => cases hv
          have lt := (List.getElem?_eq_some_iff.mp hm).1
          have lt3 : j < 3 := lt
          refine ⟨rfl, _, rfl, _, rfl, zs, l, v, m, rfl, moR_tr (Tr.keep f11 k4) hv', hz, f4, fun e H5 he f5 k5 => ?_⟩
          have d5 := k5 _ _ nD d4
          have le : es.length = j := by
            have q := congrArg List.length em
            rw [List.length_map, List.length_take] at q
            rw [q]
            exact Nat.min_eq_left (Nat.le_of_lt lt)
          refine ⟨_, d5, by rw [List.length_map, sizeLine_eq]; omega, f5.keep Keep.put nD.symm, fun b' o nb e' => ?_, es ++ [(e, m)], by rw [upd_same, List.map_append]; rfl, by rw [List.map_append, em, List.take_add_one, hm]; rfl, fun e' he' => ?_⟩
          · rw [upd_ne (ne_of_none e' hD)]
            exact k5 _ _ nb (k4 _ _ nb e')
          · rcases List.mem_append.mp he' with he' | he'
            · exact exR_tr ((Tr.keep f4 k5).trans (Tr.lst d5)) (gx e' he')
            · rw [List.mem_singleton.mp he']
              exact exR_tr (Tr.lst d5) he
        · obtain ⟨f4, k4, es, d4, em, gx⟩ := h
          obtain ⟨⟨u0, _⟩, ⟨u1, _⟩, ⟨u2, _⟩, rfl⟩ : ∃ e0 e1 e2, es = [e0, e1, e2] := by
            have q := congrArg List.length em
            rw [List.length_map] at q
            match es, q with
            | [e0, e1, e2], _ => exact ⟨e0, e1, e2, rfl⟩
          simp only [List.map_cons, List.map_nil, List.take, List.cons.injEq, and_true, List.length_cons, List.length_nil] at em
          obtain ⟨rfl, rfl, rfl⟩ := em
          exact key _ _ ⟨D, u0, u1, u2, rfl, d4, gx (u0, _) (by simp), gx (u1, _) (by simp), gx (u2, _) (by simp), f4, k4⟩
      obtain ⟨So, u0, u1, u2, rfl, hO, e0, e1, e2, f12, k12⟩ := h
      refine gN_key ?_
      have t12 := Tr.keep f11 k12
      have hM12 := k12 _ _ nM hM'
      have hS12 := k12 _ _ nS hS11
      have gS12 : ∀ x ∈ zs, StE9 cS H12 x := fun x hx => (gS11 x hx).keep f11 k12
      have gb12 := gb11.keep f11 k12
      have k312 : ∀ b o, H3 b = some o → H12 b = some o := fun b o e => k12 b o (hlH e) (k311 _ _ e)
      replace h0' := moR_tr t12 h0'
      replace h1' := moR_tr t12 h1'
      replace h2' := moR_tr t12 h2'
      clear hM' hS11 gS11 gb11 k311 t12 k12 f11
      refine asg_key (fun y H' => ∃ (Ev : Addr) (zE : Env9), y = .ref Ev ∧ H' Ev = some (.lst (zE.map fun e => V.ref e.2.2)) ∧ zE.length ≤ 20 ∧ (zE.map fun e => e.1).Nodup ∧ (∀ x ∈ zE, StE9 cS H12 x) ∧ (z, w, b) ∈ zE ∧ (∀ x ∈ zs, x ∈ zE) ∧ Same H12 H') (fun R key => ?_) (fun y H13 h => ?_)
      · refine ⟨_, rfl, _, rfl, (by show 1 ≤ sizeLine; decide), fun p hp => ?_⟩
        have sp := same_new (o := .lst [V.ref b]) hp
        have hSp := sp _ _ hS12
        refine ⟨_, rfl, _, rfl, Sx, _, fIn zs z w, rfl, .inr hSp, fun j v hv => ?_, fun H' s' => ?_⟩
        · rw [List.getElem?_map] at hv
          obtain ⟨e, he, rfl⟩ := Option.map_eq_some_iff.mp hv
          obtain ⟨dx, hx⟩ := (gS12 e (List.mem_of_getElem? he)).st
          obtain ⟨db, hb⟩ := gb12.st
          exact ⟨e.2.2, b, dx, db, _, _, rfl, rfl, sp _ _ hx, sp _ _ hb, e.1, e.2.1, z, w, ⟨dx, sp _ _ hx⟩, ⟨db, sp _ _ hb⟩, by rw [fIn, he]⟩
        · have s2 : Same H12 H' := sp.trans s'
          have hS' := s2 _ _ hS12
          have hp' := s' _ _ (@upd_same H12 p (.lst [V.ref b]))
          rw [List.length_map]
          cases hin : anyB zs.length (fIn zs z w) with
          | true =>
            have mem : (z, w, b) ∈ zs := by
              rcases hbz with m | no
              · exact m
              · exfalso
                obtain ⟨j, hj, e⟩ := List.any_eq_true.mp hin
                obtain ⟨e', he', ez⟩ := fIn_yes e
                exact no (List.mem_map.mpr ⟨e', List.mem_of_getElem? he', ez⟩)
            refine .inr ⟨_, rfl, p, _, [V.ref b], rfl, rfl, hp', by decide, by decide, (by show 0 ≤ sizeLine; decide), fun p2 hp2 => ?_⟩
            have s3 := same_new (o := .lst ([] : List V)) hp2
            refine ⟨Sx, p2, _, _, rfl, rfl, s3 _ _ hS', upd_same, by rw [List.length_map, sizeLine_eq]; show zs.length + 0 ≤ _; omega, fun p3 hp3 => ?_⟩
            exact key _ _ ⟨p3, zs, rfl, by rw [upd_same]; show some (HO.lst (_ ++ [])) = _; rw [List.append_nil], by omega, ndz, gS12, mem, fun x h => h, (s2.trans s3).trans (same_new hp3)⟩
          | false =>
            have nin : z ∉ zs.map fun e => e.1 := by
              rcases hbz with m | no
              · exfalso
                obtain ⟨j, hj⟩ := List.getElem?_of_mem m
                have lt := (List.getElem?_eq_some_iff.mp hj).1
                have := anyB_yes (f := fIn zs z w) lt (by rw [fIn, hj]; simp)
                rw [hin] at this
                cases this
              · exact no
            refine .inr ⟨_, rfl, p, _, [V.ref b], rfl, rfl, hp', by decide, by decide, (by show 1 ≤ sizeLine; decide), fun p2 hp2 => ?_⟩
            have s3 := same_new (o := .lst [V.ref b]) hp2
            refine ⟨Sx, p2, _, _, rfl, rfl, s3 _ _ hS', upd_same, by rw [List.length_map, sizeLine_eq]; show zs.length + 1 ≤ _; omega, fun p3 hp3 => ?_⟩
            refine key _ _ ⟨p3, zs ++ [(z, w, b)], rfl, by rw [upd_same, List.map_append]; rfl, by rw [List.length_append]; show zs.length + 1 ≤ 20; omega, ?_, fun x hx => ?_, List.mem_append_right _ List.mem_cons_self, fun x h => List.mem_append_left _ h, (s2.trans s3).trans (same_new hp3)⟩
            · rw [List.map_append]
              exact nd_snoc ndz nin
            · rcases List.mem_append.mp hx with hx | hx
              · exact gS12 x hx
              · rw [List.mem_singleton.mp hx]
                exact gb12
      obtain ⟨Ev, zE, rfl, hE, lE, nE, gE, mE, sub, s13⟩ := h
      refine gN_key ?_
      have st := S10.mk' s13 hE lE nE gE mE sub hO hM12 e0 e1 e2 h0' h1' h2' z0' z1' z2'
      have k313 : ∀ b o, H3 b = some o → H13 b = some o := fun b o e => s13 _ _ (k312 _ _ e)
      clear hE gE hO hM12 e0 e1 e2 h0' h1' h2' hS12 gS12 gb12 k312 s13 f12
      have pick : ∀ {j : Nat} {v : V} {H' : Hp}, Same H13 H' → ([u0, u1, u2] : List V)[j]? = some v → ∃ m, ExR K C cS 4 H' m v ∧ OkT cS H' zE 4 m ∧ sz m ≤ 4 := fun {j v H'} s hv => by
        have st' := st.same s
        match j, hv with
        | 0, hv => cases hv; exact ⟨m0, st'.e0, st'.x0.ok nE, st'.z0⟩
        | 1, hv => cases hv; exact ⟨m1, st'.e1, st'.x1.ok nE, st'.z1⟩
        | 2, hv => cases hv; exact ⟨m2, st'.e2, st'.x2.ok nE, st'.z2⟩
        | k + 3, hv => cases hv
      refine seq_key (fun σ' H' => (∃ v12 v13 v14, σ' = [some (.ref a), some (.int (0 + (i : Int))), some (.ref l), some (.ref Nx), some (.ref Sx), some (.ref b), v6', some (.ref Mo), v8, some (.ref So), v10, some (.ref Ev), v12, v13, v14, v15, v16, v17, v18]) ∧ Same H13 H') (fun key => ?_) (fun σ' H14 h => ?_)
      · refine ⟨_, rfl, So, rfl, ⟨_, SqL.of st.so⟩, for_list (xs := [u0, u1, u2]) (fun j σ' H' => (∃ v12 v13 v14, σ' = [some (.ref a), some (.int (0 + (i : Int))), some (.ref l), some (.ref Nx), some (.ref Sx), some (.ref b), v6', some (.ref Mo), v8, some (.ref So), v10, some (.ref Ev), v12, v13, v14, v15, v16, v17, v18]) ∧ Same H13 H')
          ⟨⟨_, _, _, rfl⟩, Same.refl _⟩ (fun j σ' H' _ h => SqL.of (h.2 _ _ st.so)) (fun j v σ' H14 hv h => ?_) (fun σ' H' h => key _ _ h)⟩
        obtain ⟨⟨v12', v13', v14', rfl⟩, s14⟩ := h
        refine gN_key ?_
        refine ⟨_, rfl, So, rfl, ⟨_, SqL.of (s14 _ _ st.so)⟩, for_list (xs := [u0, u1, u2]) (fun j σ' H' => (∃ v13 v14, σ' = [some (.ref a), some (.int (0 + (i : Int))), some (.ref l), some (.ref Nx), some (.ref Sx), some (.ref b), v6', some (.ref Mo), v8, some (.ref So), v10, some (.ref Ev), some v, v13, v14, v15, v16, v17, v18]) ∧ Same H13 H')
          ⟨⟨_, _, rfl⟩, s14⟩ (fun j σ' H' _ h => SqL.of (h.2 _ _ st.so)) (fun k v' σ' H15 hv' h => ?_) (fun σ' H' h => ⟨⟨_, _, _, h.1.choose_spec.choose_spec⟩, h.2⟩)⟩
        obtain ⟨⟨v13'', v14'', rfl⟩, s15⟩ := h
        refine gN_key ?_
        dsimp only
        obtain ⟨m, hm, okm, zm⟩ := pick s15 hv
        obtain ⟨m', hm', okm', zm'⟩ := pick s15 hv'
        have hm0 := ExR.up (n' := 8) (by decide) hm
        have hm1 := ExR.up (n' := 8) (by decide) hm'
        obtain ⟨es, ⟨c, dx, p, q1, q2, jj, ys, bs, js, rfl, hc, hp, _⟩, lE1, okE, gE1⟩ := hm
        obtain ⟨es', ⟨c2, dx2, p2, q12, q22, jj2, ys2, bs2, js2, rfl, hc2, hp2, _⟩, lE2, okE2, gE2⟩ := hm'
        have lc := cp_len okm
        have lc' := cp_len okm'
        refine asg_key (fun y H' => y = .bl (decide (kdM m = kdM m') && (decide (wdM m = wdM m') && keyEq m m')) ∧ Same H15 H') (fun R key => ?_) (fun y H16 h => ?_)
        · refine ⟨_, rfl, c, C, dx, _, .str (kdM m), rfl, hc, W.I.c.cl, W.I.n.kind, rfl, _, rfl, c, C, dx, _, .str (wdM m), rfl, hc, W.I.c.cl, W.I.n.word, rfl, _, rfl, c, C, dx, _, stM m, rfl, hc, W.I.c.cl, W.I.n.step, rfl, (by show 3 ≤ sizeLine; decide), fun p3 hp3 => ?_⟩
          have t1 := same_new (o := .lst [V.str (kdM m), .str (wdM m), stM m]) hp3
          have hc2' := t1 _ _ hc2
          refine ⟨_, rfl, c2, C, dx2, _, .str (kdM m'), rfl, hc2', W.I.c.cl, W.I.n.kind, rfl, _, rfl, c2, C, dx2, _, .str (wdM m'), rfl, hc2', W.I.c.cl, W.I.n.word, rfl, _, rfl, c2, C, dx2, _, stM m', rfl, hc2', W.I.c.cl, W.I.n.step, rfl, (by show 3 ≤ sizeLine; decide), fun p4 hp4 => ?_⟩
          have t2 := same_new (o := .lst [V.str (kdM m'), .str (wdM m'), stM m']) hp4
          have t12 := t1.trans t2
          exact ⟨_, head_list (okM_tr (Tr.same t12) okE) (okM_tr (Tr.same t12) okE2) (t2 _ _ upd_same) upd_same, fun H' e => key _ _ ⟨rfl, t12.trans e⟩⟩
        obtain ⟨rfl, s16⟩ := h
        refine gN_key ?_
        refine if_key (fun b H' => b = false ∧ Same H16 H') (fun R key => ?_) (fun H17 h => by cases h.1) (fun H17 h => ?_)
        · refine ⟨_, rfl, _, rfl, c, dx, _, _, rfl, s16 _ _ hc, W.I.c.ty (s16 _ _ hc2), nf_own, c, .ref c2, m, rfl, hm0.same s16, .inl ⟨c2, m', rfl, hm1.same s16, fun H17 s17 => ⟨_, rfl, ?_⟩⟩⟩
          have s57 := s16.trans s17
          refine ⟨_, rfl, c, dx, _, rfl, s57 _ _ hc, m, .ref c, rfl, hm0.same s57, by omega, fun y H18 hy s18 => ⟨y, rfl, ?_⟩⟩
          have s58 := s57.trans s18
          refine ⟨_, rfl, c2, dx2, _, rfl, s58 _ _ hc2, m', .ref c2, rfl, hm1.same s58, by omega, fun y' H19 hy' s19 => ⟨y', rfl, rfl, rfl, _, rfl, ?_⟩⟩
          have eq := eq_text okm okm' hy hy'
          rw [decide_eq_true (show V.bl (eqM m m') = V.bl (decide (V.str y = V.str y')) from congrArg V.bl (eq.trans (decide_congr ⟨fun e => congrArg V.str e, fun e => by injection e⟩)))]
          exact key _ _ ⟨rfl, s17.trans (s18.trans s19)⟩
        obtain ⟨_, s17⟩ := h
        have s57 := s16.trans s17
        have parts := eqM_parts m m'
        refine ⟨_, rfl, _, rfl, c, dx, _, _, rfl, s57 _ _ hc, W.I.c.ty (s57 _ _ hc2), nf_own, c, .ref c2, m, rfl, hm0.same s57, .inl ⟨c2, m', rfl, hm1.same s57, fun H18 s18 => ⟨_, rfl, ?_⟩⟩⟩
        have s58 := s57.trans s18
        refine ⟨_, rfl, _, rfl, ?_⟩
        by_cases cA : (decide (kdM m = kdM m') && (decide (wdM m = wdM m') && keyEq m m')) = true
        · rw [if_pos cA]
          have pe : eqM m m' = eqL (prM m) (prM m') := by
            rw [parts, ← Bool.and_assoc, ← Bool.and_assoc]
            rw [← Bool.and_assoc] at cA
            rw [cA, Bool.true_and]
          refine ⟨_, rfl, c, C, dx, _, .ref p, rfl, s58 _ _ hc, W.I.c.cl, W.I.n.parts, rfl, _, rfl, c2, C, dx2, _, .ref p2, rfl, s58 _ _ hc2, W.I.c.cl, W.I.n.parts, rfl, _, ⟨p, p2, es, es', eqAt (prM m) (prM m'), rfl, rfl, SqT.of (s58 _ _ hp), SqT.of (s58 _ _ hp2), fun i x y h1 h2 => ?_, rfl⟩, fun H19 s19 => ⟨rfl, _, rfl, ?_⟩⟩
          · have i1 := (List.getElem?_eq_some_iff.mp h1).1
            have i2 := (List.getElem?_eq_some_iff.mp h2).1
            have g1 : (prM m)[i]? = some ((prM m)[i]'(by omega)) := List.getElem?_eq_getElem _
            have g2 : (prM m')[i]? = some ((prM m')[i]'(by omega)) := List.getElem?_eq_getElem _
            have y1 := ExR.up (n' := 8) (by decide) ((gE1 i _ x g1 h1).same s58)
            have y2 := ExR.up (n' := 8) (by decide) ((gE2 i _ y g2 h2).same s58)
            obtain ⟨c', dc, fc, rfl, hc'⟩ := y1.ins
            obtain ⟨d', dd, fd', rfl, hd'⟩ := y2.ins
            exact ⟨c', d', dc, dd, fc, fd', rfl, rfl, hc', hd', _, _, y1, y2, eqAt_of g1 g2⟩
          · rw [ans_eqL lE1 lE2, ← pe, decide_eq_true (show V.bl (eqM m m') = V.bl (eqM m m') from rfl)]
            exact iteF ⟨⟨_, _, rfl⟩, (s15.trans s57).trans (s18.trans s19)⟩
        · rw [if_neg cA]
          have cA' : (decide (kdM m = kdM m') && (decide (wdM m = wdM m') && keyEq m m')) = false := by simpa using cA
          have pe : eqM m m' = false := by
            rw [parts, ← Bool.and_assoc, ← Bool.and_assoc]
            rw [← Bool.and_assoc] at cA'
            rw [cA', Bool.false_and]
          refine ⟨rfl, _, rfl, ?_⟩
          rw [pe, decide_eq_true (show V.bl false = V.bl false from rfl)]
          exact iteF ⟨⟨_, _, rfl⟩, (s15.trans s57).trans s18⟩
      obtain ⟨⟨v12', v13', v14', rfl⟩, s14⟩ := h
      have st14 := st.same s14
      obtain ⟨c0, dx0, fc0, rfl, hc0⟩ := st14.e0.ins
      obtain ⟨c1, dx1, fc1, rfl, hc1⟩ := st14.e1.ins
      obtain ⟨c2, dx2, fc2, rfl, hc2⟩ := st14.e2.ins
      have k314 : ∀ b o, H3 b = some o → H14 b = some o := fun b o e => s14 _ _ (k313 _ _ e)
      clear st pick k313 s14
      have E8 : ∀ {m : Md} {v : V} {H' : Hp}, Same H14 H' → ExR K C cS 4 H14 m v → ExR K C cS 8 H' m v := fun s e => ExR.up (by decide) (e.same s)
      refine if_key (fun b H' => b = false ∧ Same H14 H') (fun R key => ?_) (fun H15 h => by cases h.1) (fun H15 h => ?_)
      · refine ⟨_, rfl, Mo, _, 1, x1, rfl, rfl, SqL.of st14.mo, at_of (j := 1) rfl rfl, _, rfl, Mo, _, 2, x2, rfl, rfl, SqL.of st14.mo, at_of (j := 2) rfl rfl, zE, _, ⟨m1, m2, st14.x1, st14.x2, rfl⟩, fun H15 s15 => ?_⟩
        have st15 := st14.same s15
        refine ⟨_, rfl, Mo, _, 0, x0, rfl, rfl, SqL.of st15.mo, at_of (j := 0) rfl rfl, _, rfl, Mo, _, 1, x1, rfl, rfl, SqL.of st15.mo, at_of (j := 1) rfl rfl, zE, _, ⟨m0, m1, st15.x0, st15.x1, rfl⟩, fun H16 s16 => ⟨(by show 2 ≤ sizeLine; decide), fun p hp => ?_⟩⟩
        have t16 := s16.trans (same_new (o := .lst [V.bl (eqM m1 m2), .bl (eqM m0 m1)]) hp)
        have dp := @upd_same H16 p (.lst [V.bl (eqM m1 m2), .bl (eqM m0 m1)])
        generalize upd H16 p (.lst [V.bl (eqM m1 m2), .bl (eqM m0 m1)]) = H17 at t16 dp ⊢
        have t17 := Same.trans s15 t16
        have st17 := st14.same t17
        refine ⟨_, rfl, So, _, 1, .ref c1, rfl, rfl, SqL.of st17.so, at_of (j := 1) rfl rfl, _, rfl, So, _, 2, .ref c2, rfl, rfl, SqL.of st17.so, at_of (j := 2) rfl rfl, c1, dx1, _, _, rfl, t17 _ _ hc1, W.I.c.ty (t17 _ _ hc2), nf_own, c1, .ref c2, m1, rfl, E8 t17 st14.e1, .inl ⟨c2, m2, rfl, E8 t17 st14.e2, fun H18 s18 => ⟨_, rfl, ?_⟩⟩⟩
        have t18 := t17.trans s18
        have st18 := st14.same t18
        refine ⟨_, rfl, So, _, 0, .ref c0, rfl, rfl, SqL.of st18.so, at_of (j := 0) rfl rfl, _, rfl, So, _, 1, .ref c1, rfl, rfl, SqL.of st18.so, at_of (j := 1) rfl rfl, c0, dx0, _, _, rfl, t18 _ _ hc0, W.I.c.ty (t18 _ _ hc1), nf_own, c0, .ref c1, m0, rfl, E8 t18 st14.e0, .inl ⟨c1, m1, rfl, E8 t18 st14.e1, fun H19 s19 => ⟨_, rfl, (by show 2 ≤ sizeLine; decide), fun p2 hp2 => ?_⟩⟩⟩
        have s20 := same_new (o := .lst [V.bl (eqM m1 m2), .bl (eqM m0 m1)]) hp2
        obtain ⟨sh, ev⟩ := bools_sh (eqM m1 m2) (eqM m0 m1)
        refine ⟨.list [.bool (eqM m1 m2), .bool (eqM m0 m1)], .list [.bool (eqM m1 m2), .bool (eqM m0 m1)], .lst (SqL.of (s20 _ _ (s19 _ _ (s18 _ _ dp)))) (.cons (.bl _) (.cons (.bl _) .nil)), .lst (SqL.of upd_same) (.cons (.bl _) (.cons (.bl _) .nil)), sh, sh, _, rfl, ?_⟩
        rw [ev]
        exact key _ _ ⟨rfl, (t18.trans s19).trans s20⟩
      obtain ⟨_, s15⟩ := h
      have st15 := st14.same s15
      have hc0' := s15 _ _ hc0
      have hc1' := s15 _ _ hc1
      have hc2' := s15 _ _ hc2
      have k315 : ∀ b o, H3 b = some o → H15 b = some o := fun b o e => s15 _ _ (k314 _ _ e)
      clear st14 hc0 hc1 hc2 k314 s15 E8
      have isref : ∀ {v : V} {m : Md} {k : Nat} {H' : Hp}, ExR K C cS k H' m v → ∃ r, v = .ref r := fun h => by
        obtain ⟨a, _, _, e, _⟩ := h.ins
        exact ⟨a, e⟩
      have oks : ∀ {H' : Hp}, Same H15 H' → OkT cS H' zE 4 m0 ∧ OkT cS H' zE 4 m1 ∧ OkT cS H' zE 4 m2 := fun s => ⟨(st15.same s).x0.ok nE, (st15.same s).x1.ok nE, (st15.same s).x2.ok nE⟩
      have z0' := st15.z0
      have z1' := st15.z1
      have z2' := st15.z2
      dsimp only [tNext]
      refine asg_key (fun y H' => ∃ L T1 T2, y = .ref L ∧ H' L = some (.lst [.ref T1, .ref T2]) ∧ Ent K C cS zE L H' (.ref T1) ∧ Ent K C cS zE L H' (.ref T2) ∧ Same H15 H' ∧ H15 L = none) (fun R key => ?_) (fun y H16 h => ?_)
      · refine ⟨_, rfl, So, _, 0, .ref c0, rfl, rfl, SqL.of st15.so, at_of (j := 0) rfl rfl, _, rfl, So, _, 1, .ref c1, rfl, rfl, SqL.of st15.so, at_of (j := 1) rfl rfl, ⟨c0, _, _, rfl, hc0'⟩, .inr ⟨c1, _, _, rfl, hc1'⟩, .ref c0, .ref c1, 4, m0, m1, rfl, st15.e0, .inl st15.e1, by omega, fun v H16 s16 ex => ⟨isref ex, ?_⟩⟩
        obtain ⟨a1, rfl⟩ := isref ex
        replace ex : ExR K C cS 5 H16 (.ap .le [m0, m1]) (.ref a1) := ex
        refine ⟨_, rfl, _, rfl, So, _, rfl, SqL.of (s16 _ _ st15.so), fun P1 hP1 => ?_⟩
        have sP1 := same_new (o := .lst (cutV [V.ref c0, .ref c1, .ref c2] none (some 2))) hP1
        have dP1 : (upd H16 P1 (.lst (cutV [V.ref c0, .ref c1, .ref c2] none (some 2)))) P1 = some (.lst [V.ref c0, .ref c1]) := upd_same
        generalize upd H16 P1 (.lst (cutV [V.ref c0, .ref c1, .ref c2] none (some 2))) = G1 at sP1 dP1 ⊢
        refine ⟨(by show 0 ≤ sizeLine; decide), fun M1 hM1 => ⟨(by show 3 ≤ sizeLine; decide), ?_⟩⟩
        have sM1 := same_new (o := .lst ([] : List V)) hM1
        have dM1 := @upd_same G1 M1 (.lst ([] : List V))
        generalize upd G1 M1 (.lst ([] : List V)) = G2 at sM1 dM1 ⊢
        intro T1 hT1
        have sT1 := same_new (o := .tup [V.ref a1, .ref P1, .ref M1]) hT1
        have dT1 := @upd_same G2 T1 (.tup [V.ref a1, .ref P1, .ref M1])
        generalize upd G2 T1 (.tup [V.ref a1, .ref P1, .ref M1]) = G3 at sT1 dT1 ⊢
        have sA := (sP1.trans sM1).trans sT1
        have s1 := s16.trans sA
        replace ex := ex.same sA
        replace dP1 := sT1 _ _ (sM1 _ _ dP1)
        replace dM1 := sT1 _ _ dM1
        clear sP1 hP1 sM1 hM1 sT1 hT1 sA s16
        have st3 := st15.same s1
        refine ⟨_, rfl, So, _, 2, .ref c2, rfl, rfl, SqL.of st3.so, at_of (j := 2) rfl rfl, _, rfl, So, _, 0, .ref c0, rfl, rfl, SqL.of st3.so, at_of (j := 0) rfl rfl, ⟨c2, _, _, rfl, s1 _ _ hc2'⟩, .inr ⟨c0, _, _, rfl, s1 _ _ hc0'⟩, .ref c2, .ref c0, 4, m2, m0, rfl, st3.e2, .inl st3.e0, by omega, fun v G4 s4 ey => ⟨isref ey, ?_⟩⟩
        obtain ⟨a2, rfl⟩ := isref ey
        replace ey : ExR K C cS 5 G4 (.ap .gr [m2, m0]) (.ref a2) := ey
        have s14' := s1.trans s4
        have st4 := st15.same s14'
        refine ⟨_, rfl, So, _, 2, .ref c2, rfl, rfl, SqL.of st4.so, at_of (j := 2) rfl rfl, _, rfl, So, _, 0, .ref c0, rfl, rfl, SqL.of st4.so, at_of (j := 0) rfl rfl, (by show 2 ≤ sizeLine; decide), fun P2 hP2 => ?_⟩
        have sP2 := same_new (o := .lst [V.ref c2, .ref c0]) hP2
        have dP2 := @upd_same G4 P2 (.lst [V.ref c2, .ref c0])
        generalize upd G4 P2 (.lst [V.ref c2, .ref c0]) = G5 at sP2 dP2 ⊢
        refine ⟨(by show 0 ≤ sizeLine; decide), fun M2 hM2 => ⟨(by show 3 ≤ sizeLine; decide), ?_⟩⟩
        have sM2 := same_new (o := .lst ([] : List V)) hM2
        have dM2 := @upd_same G5 M2 (.lst ([] : List V))
        generalize upd G5 M2 (.lst ([] : List V)) = G6 at sM2 dM2 ⊢
        intro T2 hT2
        have sT2 := same_new (o := .tup [V.ref a2, .ref P2, .ref M2]) hT2
        have dT2 := @upd_same G6 T2 (.tup [V.ref a2, .ref P2, .ref M2])
        generalize upd G6 T2 (.tup [V.ref a2, .ref P2, .ref M2]) = G7 at sT2 dT2 ⊢
        have sB := (sP2.trans sM2).trans sT2
        have s7 := s14'.trans sB
        have st7 := st15.same s7
        have s37 := s4.trans sB
        refine ⟨(by show 2 ≤ sizeLine; decide), fun L hL => ?_⟩
        have sL := same_new (o := .lst [V.ref T1, .ref T2]) hL
        have nL : ∀ {b o}, G7 b = some o → b ≠ L := fun e => ne_of_none e hL
        have E1 : Ent K C cS zE L G7 (.ref T1) := ent_bin nE (.inl rfl) (s37 _ _ dT1) (nL (s37 _ _ dP1)) (nL (s37 _ _ dM1)) (ex.same s37) (oks s7).1 (oks s7).2.1 z0' z1' (s37 _ _ dP1) (s37 _ _ dM1) st7.e0 st7.e1
        have dP2' := sT2 _ _ (sM2 _ _ dP2)
        have dM2' := sT2 _ _ dM2
        have E2 : Ent K C cS zE L G7 (.ref T2) := ent_bin nE (.inr rfl) dT2 (nL dP2') (nL dM2') (ey.same sB) (oks s7).2.2 (oks s7).1 z2' z0' dP2' dM2' st7.e2 st7.e0
        exact key _ _ ⟨L, T1, T2, rfl, upd_same, E1.same sL, E2.same sL, s7.trans sL, Same.free s7 hL⟩
      obtain ⟨L, T1, T2, rfl, hL, E1, E2, s16, nL0⟩ := h
      refine gN_key ?_
      have st16 := st15.same s16
      have hc0 := s16 _ _ hc0'
      have hc2 := s16 _ _ hc2'
      have k316 : ∀ b o, H3 b = some o → H16 b = some o := fun b o e => s16 _ _ (k315 _ _ e)
      have oks6 := oks s16
      have nL3 : ∀ b o, H3 b = some o → b ≠ L := fun b o e => ne_of_none (k315 _ _ e) nL0
      have nLE : Ev ≠ L := ne_of_none st15.evl nL0
      have nLS : So ≠ L := ne_of_none st15.so nL0
      clear hc0' hc1' hc2' k315 st15 oks s16
      refine seq_key (fun σ' H' => σ' = [some (.ref a), some (.int (0 + (i : Int))), some (.ref l), some (.ref Nx), some (.ref Sx), some (.ref b), v6', some (.ref Mo), v8, some (.ref So), v10, some (.ref Ev), v12', v13', v14', some (.ref L), v16, v17, v18] ∧ (∃ xs : List V, H' L = some (.lst xs) ∧ ∀ v ∈ xs, Ent K C cS zE L H' v) ∧ Ste9 K cS Ev zE H' ∧ ∀ b o, H3 b = some o → H' b = some o) (fun key => ?_) (fun σ' H17 h => ?_)
      · obtain ⟨db, hb⟩ := st16.th.1
        have lw3 := st16.th.2.2.len
        refine ⟨_, rfl, b, cS, db, _, .str w, rfl, hb, W.J.cT.cl, W.J.s2, rfl, w, rfl, by rw [sizeLine_eq]; omega, rfl, _, rfl, ite2 (fun c => ?_) (fun _ => key _ _ ⟨rfl, ⟨_, hL, fun v hv => ?_⟩, st16.ev, k316⟩)⟩
        rotate_left
        · rcases List.mem_cons.mp hv with rfl | hv
          · exact E1
          · rw [List.mem_singleton.mp hv]
            exact E2
        have lw : w.length = 1 := by
          have := of_decide_eq_true c
          injection this with this
          omega
        -- the chain of it twice, applied
        refine ⟨_, rfl, .inl ⟨rfl, _, SqL.of hL⟩, ?_⟩
        refine ⟨_, rfl, _, rfl, ?_⟩
        intro x dx nx nd ne2
        have tx : ∀ b' o, H16 b' = some o → (upd (upd H16 dx (.own x)) x (.ins cC dx [])) b' = some o := fun b' o e => by
          rw [upd_ne (ne_of_none e nx), upd_ne (ne_of_none e nd)]
          exact e
        have dx1 := @upd_same (upd H16 dx (.own x)) x (.ins cC dx [])
        generalize eU : upd (upd H16 dx (.own x)) x (.ins cC dx []) = U at tx dx1 ⊢
        refine ⟨[.ref x], [.ref b, .ref b], rfl, rfl, (by show 2 ≤ sizeLine; decide), fun p hp => ?_⟩
        have sp := same_new (o := .tup [V.ref b, .ref b]) hp
        have one : ∀ {H' : Hp}, Same H16 H' → ∀ s ∈ ([(b, z, w), (b, z, w)] : List St3), OneS cS H' s := fun s q hq => by
          have e : q = (b, z, w) := by
            rcases List.mem_cons.mp hq with rfl | hq
            · rfl
            · exact List.mem_singleton.mp hq
          rw [e]
          exact ⟨hdS_tr (Tr.same s) st16.th, lw⟩
        refine ⟨x, dx, p, [(b, z, w), (b, z, w)], rfl, sp _ _ dx1, upd_same, one (Same.trans (show Same H16 U from tx) sp), fun H17 dx2 k17 => ⟨rfl, ?_⟩⟩
        have px : p ≠ x := (ne_of_none dx1 hp).symm
        have s17 : Same H16 H17 := fun b' o e => k17 b' o (ne_of_none e nx) (sp _ _ (tx _ _ e))
        have dp := k17 _ _ px (@upd_same U p (.tup [V.ref b, .ref b]))
        clear tx dx1 eU hp sp k17
        have st17 := st16.same s17
        refine ⟨x, rfl, _, rfl, So, _, 0, .ref c0, rfl, rfl, SqL.of st17.so, at_of (j := 0) rfl rfl, .inr ⟨_, _, dx2⟩, x, _, p, .ref c0, [(b, z, w), (b, z, w)], 4, m0, rfl, dx2, dp, one s17, .inl st17.e0, ?_, fun v H18 s18 ex => ?_⟩
        · show sz (.ap (.st b z w) [.ap (.st b z w) [m0]]) < 64
          rw [sz_one, sz_one]
          omega
        obtain ⟨a3, rfl⟩ : ∃ r, v = .ref r := by
          obtain ⟨r, _, _, e, _⟩ := ex.ins
          exact ⟨r, e⟩
        replace ex : ExR K C cS 6 H18 (.ap (.st b z w) [.ap (.st b z w) [m0]]) (.ref a3) := ex
        have s8 := s17.trans s18
        have st18 := st16.same s8
        clear dx2 dp st17 s18
        refine ⟨_, rfl, So, _, 0, .ref c0, rfl, rfl, SqL.of st18.so, at_of (j := 0) rfl rfl, (by show 1 ≤ sizeLine; decide), fun P1 hP1 => ?_⟩
        have sP := same_new (o := .lst [V.ref c0]) hP1
        have dP := @upd_same H18 P1 (.lst [V.ref c0])
        generalize upd H18 P1 (.lst [V.ref c0]) = G1 at sP dP ⊢
        refine ⟨_, rfl, (by show 1 ≤ sizeLine; decide), fun M1 hM1 => ⟨(by show 3 ≤ sizeLine; decide), ?_⟩⟩
        have sM := same_new (o := .lst [V.ref b]) hM1
        have dM := @upd_same G1 M1 (.lst [V.ref b])
        generalize upd G1 M1 (.lst [V.ref b]) = G2 at sM dM ⊢
        intro T3 hT3
        have sT := same_new (o := .tup [V.ref a3, .ref P1, .ref M1]) hT3
        have dT := @upd_same G2 T3 (.tup [V.ref a3, .ref P1, .ref M1])
        generalize upd G2 T3 (.tup [V.ref a3, .ref P1, .ref M1]) = G3 at sT dT ⊢
        have s3' := s8.trans ((sP.trans sM).trans sT)
        have st3 := st16.same s3'
        have hL3 := s3' _ _ hL
        have nP1 : P1 ≠ L := (ne_of_none (s8 _ _ hL) hP1).symm
        have nM1 : M1 ≠ L := (ne_of_none (sP _ _ (s8 _ _ hL)) hM1).symm
        have E3 : Ent K C cS zE L G3 (.ref T3) := ent_one nE st3.th st3.mem lw (.inr rfl) dT nP1 nM1 (ExR.up (by decide) (ex.same ((sP.trans sM).trans sT))) (st3.x0.ok nE) st3.z0 (sT _ _ (sM _ _ dP)) (sT _ _ dM) st3.e0
        refine ⟨L, _, .ref T3, rfl, rfl, hL3, (by show 2 < sizeLine; decide), ?_⟩
        have F1 := (E1.same s3').put (zs := [.ref T1, .ref T2, .ref T3]) hL3
        have F2 := (E2.same s3').put (zs := [.ref T1, .ref T2, .ref T3]) hL3
        have F3 := E3.put (zs := [.ref T1, .ref T2, .ref T3]) hL3
        have tr := Tr.lst (zs := [V.ref T1, .ref T2, .ref T3]) hL3
        have hL4 := @upd_same G3 L (.lst [V.ref T1, .ref T2, .ref T3])
        have kp : ∀ b' o, b' ≠ L → G3 b' = some o → (upd G3 L (.lst [V.ref T1, .ref T2, .ref T3])) b' = some o := fun b' o n e => by
          rw [upd_ne n]
          exact e
        have hSo4 := kp _ _ nLS st3.so
        have th4 := hdS_tr tr st3.th
        have e24 := exR_tr tr st3.e2
        have ok4 : OkT cS (upd G3 L (.lst [V.ref T1, .ref T2, .ref T3])) zE 4 m2 := okT_tr tr (st3.x2.ok nE)
        have k34 : ∀ b o, H3 b = some o → (upd G3 L (.lst [V.ref T1, .ref T2, .ref T3])) b = some o := fun b' o e => kp _ _ (nL3 _ _ e) (s3' _ _ (k316 _ _ e))
        have evl4 := kp _ _ nLE st3.evl
        have evs : ∀ x ∈ zE, StE9 cS (upd G3 L (.lst [V.ref T1, .ref T2, .ref T3])) x := fun x hx => StE9.lst (st3.ev.st x hx) hL3
        have lE := st3.ev.few
        have mem := st3.mem
        have z2' := st3.z2
        rw [show ([V.ref T1, V.ref T2] ++ [V.ref T3] : List V) = [V.ref T1, .ref T2, .ref T3] from rfl]
        generalize upd G3 L (.lst [V.ref T1, .ref T2, .ref T3]) = G4 at F1 F2 F3 hL4 hSo4 th4 e24 ok4 k34 evl4 evs ⊢
        clear E1 E2 E3 st16 hL hc0 hc2 k316 oks6 st3 hL3 s3' dT dM dP sT sM sP hT3 hM1 hP1 nP1 nM1 tr kp s8 st18 ex one hb nL0
        obtain ⟨db, hb⟩ := th4.1
        refine ⟨_, rfl, .inl ⟨rfl, _, SqL.of hL4⟩, ?_⟩
        refine ⟨_, rfl, b, rfl, _, rfl, So, _, 2, .ref c2, rfl, rfl, SqL.of hSo4, at_of (j := 2) rfl rfl, .inr ⟨_, _, hb⟩, b, .ref c2, .non, .non, z, w, 4, [(.ref c2, m2)], rfl, th4, by rw [lw]; rfl, by rw [lw]; rfl, fun x hx => by rw [List.mem_singleton.mp hx]; exact .inl e24, ?_, fun v G5 s5 ex => ?_⟩
        · show sz (.ap (.st b z w) [m2]) < 64
          rw [sz_one]
          omega
        obtain ⟨a4, rfl⟩ : ∃ r, v = .ref r := by
          obtain ⟨r, _, _, e, _⟩ := ex.ins
          exact ⟨r, e⟩
        replace ex : ExR K C cS 5 G5 (.ap (.st b z w) [m2]) (.ref a4) := ex
        refine ⟨_, rfl, So, _, 2, .ref c2, rfl, rfl, SqL.of (s5 _ _ hSo4), at_of (j := 2) rfl rfl, (by show 1 ≤ sizeLine; decide), fun P1 hP1 => ?_⟩
        have sP := same_new (o := .lst [V.ref c2]) hP1
        have dP := @upd_same G5 P1 (.lst [V.ref c2])
        generalize upd G5 P1 (.lst [V.ref c2]) = G6 at sP dP ⊢
        refine ⟨_, rfl, (by show 1 ≤ sizeLine; decide), fun M1 hM1 => ⟨(by show 3 ≤ sizeLine; decide), ?_⟩⟩
        have sM := same_new (o := .lst [V.ref b]) hM1
        have dM := @upd_same G6 M1 (.lst [V.ref b])
        generalize upd G6 M1 (.lst [V.ref b]) = G7 at sM dM ⊢
        intro T4 hT4
        have sT := same_new (o := .tup [V.ref a4, .ref P1, .ref M1]) hT4
        have dT := @upd_same G7 T4 (.tup [V.ref a4, .ref P1, .ref M1])
        generalize upd G7 T4 (.tup [V.ref a4, .ref P1, .ref M1]) = G8 at sT dT ⊢
        have s58 := (sP.trans sM).trans sT
        have s8' := s5.trans s58
        have hL8 := s8' _ _ hL4
        have nP1 : P1 ≠ L := (ne_of_none (s5 _ _ hL4) hP1).symm
        have nM1 : M1 ≠ L := (ne_of_none (sP _ _ (s5 _ _ hL4)) hM1).symm
        have E4 : Ent K C cS zE L G8 (.ref T4) := ent_one nE (hdS_tr (Tr.same s8') th4) mem lw (.inl rfl) dT nP1 nM1 (ExR.up (by decide) (ex.same s58)) (ok4.same s8') z2' (sT _ _ (sM _ _ dP)) (sT _ _ dM) (e24.same s8')
        refine ⟨L, _, .ref T4, rfl, rfl, hL8, (by show 3 < sizeLine; decide), key _ _ ⟨rfl, ⟨_, upd_same, fun v hv => ?_⟩, ⟨.inl (SqL.of (by rw [upd_ne nLE]; exact s8' _ _ evl4)), lE, nE, fun x hx => StE9.lst ((evs x hx).same s8') hL8⟩, fun b' o e => by rw [upd_ne (nL3 _ _ e)]; exact s8' _ _ (k34 _ _ e)⟩⟩
        rcases List.mem_append.mp hv with hv | hv
        · rcases List.mem_cons.mp hv with rfl | hv
          · exact (F1.same s8').put hL8
          · rcases List.mem_cons.mp hv with rfl | hv
            · exact (F2.same s8').put hL8
            · rw [List.mem_singleton.mp hv]
              exact (F3.same s8').put hL8
        · rw [List.mem_singleton.mp hv]
          exact E4.put hL8
      obtain ⟨rfl, ⟨xs, hL', gx⟩, ev, k317⟩ := h
      refine ⟨_, rfl, L, rfl, ⟨_, SqL.of hL'⟩, for_list (xs := xs) (fun j σ' H' => (∃ v16 v17 v18, σ' = [some (.ref a), some (.int (0 + (i : Int))), some (.ref l), some (.ref Nx), some (.ref Sx), some (.ref b), v6', some (.ref Mo), v8, some (.ref So), v10, some (.ref Ev), v12', v13', v14', some (.ref L), v16, v17, v18]) ∧ Same H17 H')
        ⟨⟨_, _, _, rfl⟩, Same.refl _⟩ (fun j σ' H' _ h => SqL.of (h.2 _ _ hL')) (fun j v σ' H18 hv h => ?_) (fun σ' H18 h => ?_)⟩
      · obtain ⟨⟨v16', v17', v18', rfl⟩, s18⟩ := h
        obtain ⟨T, a5, PL, ML, m, ks, ms, mk, rfl, hT, _, _, hE, hO, zm, hP, hM, kM, g, i1, i2, l1, l2⟩ := (gx v (List.mem_of_getElem? hv)).same s18
        refine ⟨T, _, rfl, SqT.of hT, rfl, _, _, rfl, _, _, rfl, _, _, rfl, rfl, ?_⟩
        have lc := cp_len hO
        refine ⟨_, rfl, _, rfl, zE, a5, Ev, m, rfl, hE, hO, ev.same s18, by omega, by omega, fun H19 s19 => ⟨_, rfl, iteF ?_⟩⟩
        have s19' := s18.trans s19
        refine ⟨_, rfl, _, rfl, _, rfl, a5, PL, ML, m, 8, ks, ms, mk, rfl, hE.same s19, s19 _ _ hP, s19 _ _ hM, kM.same s19, fun e he => (g e he).elim fun n h => ⟨n, h.same s19⟩, i1, i2, one_of nE hO, by omega, l1, l2, fun H20 s20 => ⟨_, rfl, iteF ⟨⟨_, _, _, rfl⟩, s19'.trans s20⟩⟩⟩
      · obtain ⟨⟨v16', v17', v18', rfl⟩, s18⟩ := h
        exact ⟨⟨_, _, _, _, _, _, _, _, _, _, _, _, _, _, _, _, _, _, rfl⟩, fun b' o e => s18 _ _ (k317 _ _ e)⟩
    · rintro σ H4 ⟨⟨v1, v2, v3, v4, v5, v6, v7, v8, v9, v10, v11, v12, v13, v14, v15, v16, v17, v18, rfl⟩, s34⟩
      exact q H4
end
end LK

namespace LK
open PySem PySem.Spec PyProof.Rows L2 LR
/-! ### the end -/
theorem rows12 {p : Nat → Prop} (h0 : p 0) (h1 : p 1) (h2 : p 2) (h3 : p 3) (h4 : p 4) (h5 : p 5) (h6 : p 6) (h7 : p 7) (h8 : p 8) (h9 : p 9) (h10 : p 10) (h11 : p 11) : ∀ i, i < 12 → p i
  | 0, _ => h0
  | 1, _ => h1
  | 2, _ => h2
  | 3, _ => h3
  | 4, _ => h4
  | 5, _ => h5
  | 6, _ => h6
  | 7, _ => h7
  | 8, _ => h8
  | 9, _ => h9
  | 10, _ => h10
  | 11, _ => h11
  | n + 12, h => absurd h (by omega)
theorem rows11 {p : Nat → Prop} (h0 : p 0) (h1 : p 1) (h2 : p 2) (h3 : p 3) (h4 : p 4) (h5 : p 5) (h6 : p 6) (h7 : p 7) (h8 : p 8) (h9 : p 9) (h10 : p 10) : ∀ i, i < 11 → p i
  | 0, _ => h0
  | 1, _ => h1
  | 2, _ => h2
  | 3, _ => h3
  | 4, _ => h4
  | 5, _ => h5
  | 6, _ => h6
  | 7, _ => h7
  | 8, _ => h8
  | 9, _ => h9
  | 10, _ => h10
  | n + 11, h => absurd h (by omega)
theorem all_mk {l : PySem.W.OpenLaw} {w : World} {K : PySem.W.Frag} {h : Heap} {mg : Str → Option Value} {fa : Addr} (X : K.In h) (G : h.Ns mainGlobals mg) (hfa : mg "law" = some (.ref fa))
    {flaw_feed : Addr} {odlaw_feed anlaw_feed : Option Addr} {sllaw_feed : Array (Option Value)} {oclaw_feed kVlaw_feed dclaw_feed pmlaw_feed cdlaw_feed ctlaw_feed : Value}
    {flaw_draw : Addr} {odlaw_draw anlaw_draw : Option Addr} {sllaw_draw : Array (Option Value)} {oclaw_draw kVlaw_draw dclaw_draw pmlaw_draw cdlaw_draw ctlaw_draw : Value}
    {flaw_pick : Addr} {odlaw_pick anlaw_pick : Option Addr} {sllaw_pick : Array (Option Value)} {oclaw_pick kVlaw_pick dclaw_pick pmlaw_pick cdlaw_pick ctlaw_pick : Value}
    {flaw_same : Addr} {odlaw_same anlaw_same : Option Addr} {sllaw_same : Array (Option Value)} {oclaw_same kVlaw_same dclaw_same pmlaw_same cdlaw_same ctlaw_same : Value}
    {flaw_word : Addr} {odlaw_word anlaw_word : Option Addr} {sllaw_word : Array (Option Value)} {oclaw_word kVlaw_word dclaw_word pmlaw_word cdlaw_word ctlaw_word : Value}
    {flaw_words : Addr} {odlaw_words anlaw_words : Option Addr} {sllaw_words : Array (Option Value)} {oclaw_words kVlaw_words dclaw_words pmlaw_words cdlaw_words ctlaw_words : Value}
    {flaw_ways : Addr} {odlaw_ways anlaw_ways : Option Addr} {sllaw_ways : Array (Option Value)} {oclaw_ways kVlaw_ways dclaw_ways pmlaw_ways cdlaw_ways ctlaw_ways : Value}
    {flaw_step_pool : Addr} {odlaw_step_pool anlaw_step_pool : Option Addr} {sllaw_step_pool : Array (Option Value)} {oclaw_step_pool kVlaw_step_pool dclaw_step_pool pmlaw_step_pool cdlaw_step_pool ctlaw_step_pool : Value}
    {flaw_expr : Addr} {odlaw_expr anlaw_expr : Option Addr} {sllaw_expr : Array (Option Value)} {oclaw_expr kVlaw_expr dclaw_expr pmlaw_expr cdlaw_expr ctlaw_expr : Value}
    {flaw_made : Addr} {odlaw_made anlaw_made : Option Addr} {sllaw_made : Array (Option Value)} {oclaw_made kVlaw_made dclaw_made pmlaw_made cdlaw_made ctlaw_made : Value}
    {flaw_otherwise : Addr} {odlaw_otherwise anlaw_otherwise : Option Addr} {sllaw_otherwise : Array (Option Value)} {oclaw_otherwise kVlaw_otherwise dclaw_otherwise pmlaw_otherwise cdlaw_otherwise ctlaw_otherwise : Value}
    {flaw_sound : Addr} {odlaw_sound anlaw_sound : Option Addr} {sllaw_sound : Array (Option Value)} {oclaw_sound kVlaw_sound dclaw_sound pmlaw_sound cdlaw_sound ctlaw_sound : Value}
    {flaw_joined : Addr} {odlaw_joined anlaw_joined : Option Addr} {sllaw_joined : Array (Option Value)} {oclaw_joined kVlaw_joined dclaw_joined pmlaw_joined cdlaw_joined ctlaw_joined : Value}
    {flaw : Addr} {odlaw anlaw : Option Addr} {sllaw : Array (Option Value)} {oclaw kVlaw dclaw pmlaw cdlaw ctlaw : Value}
    {fis_name : Addr} {odis_name anis_name : Option Addr} {slis_name : Array (Option Value)} {ocis_name kVis_name dcis_name pmis_name cdis_name ctis_name : Value}
    {fnamed : Addr} {odnamed annamed : Option Addr} {slnamed : Array (Option Value)} {ocnamed kVnamed dcnamed pmnamed cdnamed ctnamed : Value}
    {fapplied : Addr} {odapplied anapplied : Option Addr} {slapplied : Array (Option Value)} {ocapplied kVapplied dcapplied pmapplied cdapplied ctapplied : Value}
    {fas_expr : Addr} {odas_expr anas_expr : Option Addr} {slas_expr : Array (Option Value)} {ocas_expr kVas_expr dcas_expr pmas_expr cdas_expr ctas_expr : Value}
    {fpart_expr : Addr} {odpart_expr anpart_expr : Option Addr} {slpart_expr : Array (Option Value)} {ocpart_expr kVpart_expr dcpart_expr pmpart_expr cdpart_expr ctpart_expr : Value}
    {flesser : Addr} {odlesser anlesser : Option Addr} {sllesser : Array (Option Value)} {oclesser kVlesser dclesser pmlesser cdlesser ctlesser : Value}
    {fgreater : Addr} {odgreater angreater : Option Addr} {slgreater : Array (Option Value)} {ocgreater kVgreater dcgreater pmgreater cdgreater ctgreater : Value}
    {ftext : Addr} {odtext antext : Option Addr} {sltext : Array (Option Value)} {octext kVtext dctext pmtext cdtext cttext : Value}
    {fread_expr : Addr} {odread_expr anread_expr : Option Addr} {slread_expr : Array (Option Value)} {ocread_expr kVread_expr dcread_expr pmread_expr cdread_expr ctread_expr : Value}
    {fexpr_at : Addr} {odexpr_at anexpr_at : Option Addr} {slexpr_at : Array (Option Value)} {ocexpr_at kVexpr_at dcexpr_at pmexpr_at cdexpr_at ctexpr_at : Value}
    {fword_end : Addr} {odword_end anword_end : Option Addr} {slword_end : Array (Option Value)} {ocword_end kVword_end dcword_end pmword_end cdword_end ctword_end : Value}
    {fparts_at : Addr} {odparts_at anparts_at : Option Addr} {slparts_at : Array (Option Value)} {ocparts_at kVparts_at dcparts_at pmparts_at cdparts_at ctparts_at : Value}
    {fput_together : Addr} {odput_together anput_together : Option Addr} {slput_together : Array (Option Value)} {ocput_together kVput_together dcput_together pmput_together cdput_together ctput_together : Value}
    {fare_ways : Addr} {odare_ways anare_ways : Option Addr} {slare_ways : Array (Option Value)} {ocare_ways kVare_ways dcare_ways pmare_ways cdare_ways ctare_ways : Value}
    {fall_names : Addr} {odall_names anall_names : Option Addr} {slall_names : Array (Option Value)} {ocall_names kVall_names dcall_names pmall_names cdall_names ctall_names : Value}
    {Tall_names tall_names : Addr} {oTall_names : Value} {dTall_names : Option Addr} {nTall_names : Nat} {sTall_names : Array (Option Value)}
    {fall_steps : Addr} {odall_steps anall_steps : Option Addr} {slall_steps : Array (Option Value)} {ocall_steps kVall_steps dcall_steps pmall_steps cdall_steps ctall_steps : Value}
    {Tall_steps tall_steps : Addr} {oTall_steps : Value} {dTall_steps : Option Addr} {nTall_steps : Nat} {sTall_steps : Array (Option Value)}
    {kw : Addr} {tL tM tk1 tk2 tk3 : Tok} {dKW : Option Addr} {nKW : Nat} {sKW : Array (Option Value)}
    {tY tS : Tok}
    {gS : Addr}
    {fiS : Addr} {odiS aniS : Option Addr} {sliS : Array (Option Value)} {ociS kViS dciS pmiS cdiS ctiS : Value}
    {fqS : Addr} {odqS anqS : Option Addr} {slqS : Array (Option Value)} {ocqS kVqS dcqS pmqS cdqS ctqS : Value}
    {gE : Addr}
    {fiE : Addr} {odiE aniE : Option Addr} {sliE : Array (Option Value)} {ociE kViE dciE pmiE cdiE ctiE : Value}
    {fqE : Addr} {odqE anqE : Option Addr} {slqE : Array (Option Value)} {ocqE kVqE dcqE pmqE cdqE ctqE : Value}
    {gC : Addr}
    {fiC : Addr} {odiC aniC : Option Addr} {sliC : Array (Option Value)} {ociC kViC dciC pmiC cdiC ctiC : Value}
    {flS : Addr} {odlS anlS : Option Addr} {sllS : Array (Option Value)} {oclS kVlS dclS pmlS cdlS ctlS : Value}
    {flE : Addr} {odlE anlE : Option Addr} {sllE : Array (Option Value)} {oclE kVlE dclE pmlE cdlE ctlE : Value}
    {fsE : Addr} {odsE ansE : Option Addr} {slsE : Array (Option Value)} {ocsE kVsE dcsE pmsE cdsE ctsE : Value}
    {fcS : Addr} {odcS ancS : Option Addr} {slcS : Array (Option Value)} {occS kVcS dccS pmcS cdcS ctcS : Value}
    {TcS : Addr} {oTcS : Value} {dTcS : Option Addr} {nTcS : Nat} {sTcS : Array (Option Value)}
    {faE : Addr} {odaE anaE : Option Addr} {slaE : Array (Option Value)} {ocaE kVaE dcaE pmaE cdaE ctaE : Value}
    {frE : Addr} {odrE anrE : Option Addr} {slrE : Array (Option Value)} {ocrE kVrE dcrE pmrE cdrE ctrE : Value}
    {foE : Addr} {odoE anoE : Option Addr} {sloE : Array (Option Value)} {ocoE kVoE dcoE pmoE cdoE ctoE : Value}
    {fpE : Addr} {odpE anpE : Option Addr} {slpE : Array (Option Value)} {ocpE kVpE dcpE pmpE cdpE ctpE : Value}
    {fcC : Addr} {odcC ancC : Option Addr} {slcC : Array (Option Value)} {occC kVcC dccC pmcC cdcC ctcC : Value}
    (b_len : PySem.W.nsIn K mainGlobals "len" = some none)
    (b_abs : PySem.W.nsIn K mainGlobals "abs" = some none)
    (b_int : PySem.W.nsIn K mainGlobals "int" = some none)
    (b_range : PySem.W.nsIn K mainGlobals "range" = some none)
    (b_isinstance : PySem.W.nsIn K mainGlobals "isinstance" = some none)
    (b_tuple : PySem.W.nsIn K mainGlobals "tuple" = some none)
    (b_list : PySem.W.nsIn K mainGlobals "list" = some none)
    (b_all : PySem.W.nsIn K mainGlobals "all" = some none)
    (b_zip : PySem.W.nsIn K mainGlobals "zip" = some none)
    (b_bool : PySem.W.nsIn K mainGlobals "bool" = some none)
    (b_str : PySem.W.nsIn K mainGlobals "str" = some none)
    (b_set : PySem.W.nsIn K mainGlobals "set" = some none)
    (b_sorted : PySem.W.nsIn K mainGlobals "sorted" = some none)
    (b_sum : PySem.W.nsIn K mainGlobals "sum" = some none)
    (b_any : PySem.W.nsIn K mainGlobals "any" = some none)
    (b_enumerate : PySem.W.nsIn K mainGlobals "enumerate" = some none)
    (b_dict : PySem.W.nsIn K mainGlobals "dict" = some none)
    (alaw_feed : PySem.W.nsIn K mainGlobals "_law_feed" = some (some (.ref flaw_feed)))
    (llaw_feed : K.lookup flaw_feed = some ⟨oclaw_feed, odlaw_feed, .func (PySem.W.fnOf "_law_feed" "_law_feed" (defArgs sFeed) (defBody sFeed) (defScope sFeed) .none kVlaw_feed dclaw_feed pmlaw_feed anlaw_feed cdlaw_feed ctlaw_feed), sllaw_feed⟩)
    (claw_feed : PySem.W.codeIn K cdlaw_feed "_law_feed" = true)
    (klaw_feed : PySem.W.keepIn K (.ref flaw_feed) = true)
    (alaw_draw : PySem.W.nsIn K mainGlobals "_law_draw" = some (some (.ref flaw_draw)))
    (llaw_draw : K.lookup flaw_draw = some ⟨oclaw_draw, odlaw_draw, .func (PySem.W.fnOf "_law_draw" "_law_draw" (defArgs sDraw) (defBody sDraw) (defScope sDraw) .none kVlaw_draw dclaw_draw pmlaw_draw anlaw_draw cdlaw_draw ctlaw_draw), sllaw_draw⟩)
    (claw_draw : PySem.W.codeIn K cdlaw_draw "_law_draw" = true)
    (klaw_draw : PySem.W.keepIn K (.ref flaw_draw) = true)
    (alaw_pick : PySem.W.nsIn K mainGlobals "_law_pick" = some (some (.ref flaw_pick)))
    (llaw_pick : K.lookup flaw_pick = some ⟨oclaw_pick, odlaw_pick, .func (PySem.W.fnOf "_law_pick" "_law_pick" (defArgs sPick) (defBody sPick) (defScope sPick) .none kVlaw_pick dclaw_pick pmlaw_pick anlaw_pick cdlaw_pick ctlaw_pick), sllaw_pick⟩)
    (claw_pick : PySem.W.codeIn K cdlaw_pick "_law_pick" = true)
    (klaw_pick : PySem.W.keepIn K (.ref flaw_pick) = true)
    (alaw_same : PySem.W.nsIn K mainGlobals "_law_same" = some (some (.ref flaw_same)))
    (llaw_same : K.lookup flaw_same = some ⟨oclaw_same, odlaw_same, .func (PySem.W.fnOf "_law_same" "_law_same" (defArgs sSame) (defBody sSame) (defScope sSame) .none kVlaw_same dclaw_same pmlaw_same anlaw_same cdlaw_same ctlaw_same), sllaw_same⟩)
    (claw_same : PySem.W.codeIn K cdlaw_same "_law_same" = true)
    (klaw_same : PySem.W.keepIn K (.ref flaw_same) = true)
    (alaw_word : PySem.W.nsIn K mainGlobals "_law_word" = some (some (.ref flaw_word)))
    (llaw_word : K.lookup flaw_word = some ⟨oclaw_word, odlaw_word, .func (PySem.W.fnOf "_law_word" "_law_word" (defArgs sWord) (defBody sWord) (defScope sWord) .none kVlaw_word dclaw_word pmlaw_word anlaw_word cdlaw_word ctlaw_word), sllaw_word⟩)
    (claw_word : PySem.W.codeIn K cdlaw_word "_law_word" = true)
    (klaw_word : PySem.W.keepIn K (.ref flaw_word) = true)
    (alaw_words : PySem.W.nsIn K mainGlobals "_law_words" = some (some (.ref flaw_words)))
    (llaw_words : K.lookup flaw_words = some ⟨oclaw_words, odlaw_words, .func (PySem.W.fnOf "_law_words" "_law_words" (defArgs sWords) (defBody sWords) (defScope sWords) .none kVlaw_words dclaw_words pmlaw_words anlaw_words cdlaw_words ctlaw_words), sllaw_words⟩)
    (claw_words : PySem.W.codeIn K cdlaw_words "_law_words" = true)
    (klaw_words : PySem.W.keepIn K (.ref flaw_words) = true)
    (alaw_ways : PySem.W.nsIn K mainGlobals "_law_ways" = some (some (.ref flaw_ways)))
    (llaw_ways : K.lookup flaw_ways = some ⟨oclaw_ways, odlaw_ways, .func (PySem.W.fnOf "_law_ways" "_law_ways" (defArgs sWays) (defBody sWays) (defScope sWays) .none kVlaw_ways dclaw_ways pmlaw_ways anlaw_ways cdlaw_ways ctlaw_ways), sllaw_ways⟩)
    (claw_ways : PySem.W.codeIn K cdlaw_ways "_law_ways" = true)
    (klaw_ways : PySem.W.keepIn K (.ref flaw_ways) = true)
    (alaw_step_pool : PySem.W.nsIn K mainGlobals "_law_step_pool" = some (some (.ref flaw_step_pool)))
    (llaw_step_pool : K.lookup flaw_step_pool = some ⟨oclaw_step_pool, odlaw_step_pool, .func (PySem.W.fnOf "_law_step_pool" "_law_step_pool" (defArgs sPoolSteps) (defBody sPoolSteps) (defScope sPoolSteps) .none kVlaw_step_pool dclaw_step_pool pmlaw_step_pool anlaw_step_pool cdlaw_step_pool ctlaw_step_pool), sllaw_step_pool⟩)
    (claw_step_pool : PySem.W.codeIn K cdlaw_step_pool "_law_step_pool" = true)
    (klaw_step_pool : PySem.W.keepIn K (.ref flaw_step_pool) = true)
    (alaw_expr : PySem.W.nsIn K mainGlobals "_law_expr" = some (some (.ref flaw_expr)))
    (llaw_expr : K.lookup flaw_expr = some ⟨oclaw_expr, odlaw_expr, .func (PySem.W.fnOf "_law_expr" "_law_expr" (defArgs sExpr) (defBody sExpr) (defScope sExpr) .none kVlaw_expr dclaw_expr pmlaw_expr anlaw_expr cdlaw_expr ctlaw_expr), sllaw_expr⟩)
    (claw_expr : PySem.W.codeIn K cdlaw_expr "_law_expr" = true)
    (klaw_expr : PySem.W.keepIn K (.ref flaw_expr) = true)
    (alaw_made : PySem.W.nsIn K mainGlobals "_law_made" = some (some (.ref flaw_made)))
    (llaw_made : K.lookup flaw_made = some ⟨oclaw_made, odlaw_made, .func (PySem.W.fnOf "_law_made" "_law_made" (defArgs sMade) (defBody sMade) (defScope sMade) .none kVlaw_made dclaw_made pmlaw_made anlaw_made cdlaw_made ctlaw_made), sllaw_made⟩)
    (claw_made : PySem.W.codeIn K cdlaw_made "_law_made" = true)
    (klaw_made : PySem.W.keepIn K (.ref flaw_made) = true)
    (alaw_otherwise : PySem.W.nsIn K mainGlobals "_law_otherwise" = some (some (.ref flaw_otherwise)))
    (llaw_otherwise : K.lookup flaw_otherwise = some ⟨oclaw_otherwise, odlaw_otherwise, .func (PySem.W.fnOf "_law_otherwise" "_law_otherwise" (defArgs sOther) (defBody sOther) (defScope sOther) .none kVlaw_otherwise dclaw_otherwise pmlaw_otherwise anlaw_otherwise cdlaw_otherwise ctlaw_otherwise), sllaw_otherwise⟩)
    (claw_otherwise : PySem.W.codeIn K cdlaw_otherwise "_law_otherwise" = true)
    (klaw_otherwise : PySem.W.keepIn K (.ref flaw_otherwise) = true)
    (alaw_sound : PySem.W.nsIn K mainGlobals "_law_sound" = some (some (.ref flaw_sound)))
    (llaw_sound : K.lookup flaw_sound = some ⟨oclaw_sound, odlaw_sound, .func (PySem.W.fnOf "_law_sound" "_law_sound" (defArgs sSound) (defBody sSound) (defScope sSound) .none kVlaw_sound dclaw_sound pmlaw_sound anlaw_sound cdlaw_sound ctlaw_sound), sllaw_sound⟩)
    (claw_sound : PySem.W.codeIn K cdlaw_sound "_law_sound" = true)
    (klaw_sound : PySem.W.keepIn K (.ref flaw_sound) = true)
    (alaw_joined : PySem.W.nsIn K mainGlobals "_law_joined" = some (some (.ref flaw_joined)))
    (llaw_joined : K.lookup flaw_joined = some ⟨oclaw_joined, odlaw_joined, .func (PySem.W.fnOf "_law_joined" "_law_joined" (defArgs sLJoined) (defBody sLJoined) (defScope sLJoined) .none kVlaw_joined dclaw_joined pmlaw_joined anlaw_joined cdlaw_joined ctlaw_joined), sllaw_joined⟩)
    (claw_joined : PySem.W.codeIn K cdlaw_joined "_law_joined" = true)
    (klaw_joined : PySem.W.keepIn K (.ref flaw_joined) = true)
    (alaw : PySem.W.nsIn K mainGlobals "law" = some (some (.ref flaw)))
    (llaw : K.lookup flaw = some ⟨oclaw, odlaw, .func (PySem.W.fnOf "law" "law" (defArgs sLaw) (defBody sLaw) (defScope sLaw) .none kVlaw dclaw pmlaw anlaw cdlaw ctlaw), sllaw⟩)
    (claw : PySem.W.codeIn K cdlaw "law" = true)
    (klaw : PySem.W.keepIn K (.ref flaw) = true)
    (ais_name : PySem.W.nsIn K mainGlobals "is_name" = some (some (.ref fis_name)))
    (lis_name : K.lookup fis_name = some ⟨ocis_name, odis_name, .func (PySem.W.fnOf "is_name" "is_name" (defArgs sIsName) (defBody sIsName) (defScope sIsName) .none kVis_name dcis_name pmis_name anis_name cdis_name ctis_name), slis_name⟩)
    (cis_name : PySem.W.codeIn K cdis_name "is_name" = true)
    (kis_name : PySem.W.keepIn K (.ref fis_name) = true)
    (anamed : PySem.W.nsIn K mainGlobals "named" = some (some (.ref fnamed)))
    (lnamed : K.lookup fnamed = some ⟨ocnamed, odnamed, .func (PySem.W.fnOf "named" "named" (defArgs sNamed) (defBody sNamed) (defScope sNamed) .none kVnamed dcnamed pmnamed annamed cdnamed ctnamed), slnamed⟩)
    (cnamed : PySem.W.codeIn K cdnamed "named" = true)
    (knamed : PySem.W.keepIn K (.ref fnamed) = true)
    (aapplied : PySem.W.nsIn K mainGlobals "applied" = some (some (.ref fapplied)))
    (lapplied : K.lookup fapplied = some ⟨ocapplied, odapplied, .func (PySem.W.fnOf "applied" "applied" (defArgs sApplied) (defBody sApplied) (defScope sApplied) .none kVapplied dcapplied pmapplied anapplied cdapplied ctapplied), slapplied⟩)
    (capplied : PySem.W.codeIn K cdapplied "applied" = true)
    (kapplied : PySem.W.keepIn K (.ref fapplied) = true)
    (aas_expr : PySem.W.nsIn K mainGlobals "as_expr" = some (some (.ref fas_expr)))
    (las_expr : K.lookup fas_expr = some ⟨ocas_expr, odas_expr, .func (PySem.W.fnOf "as_expr" "as_expr" (defArgs sAsExpr) (defBody sAsExpr) (defScope sAsExpr) .none kVas_expr dcas_expr pmas_expr anas_expr cdas_expr ctas_expr), slas_expr⟩)
    (cas_expr : PySem.W.codeIn K cdas_expr "as_expr" = true)
    (kas_expr : PySem.W.keepIn K (.ref fas_expr) = true)
    (apart_expr : PySem.W.nsIn K mainGlobals "part_expr" = some (some (.ref fpart_expr)))
    (lpart_expr : K.lookup fpart_expr = some ⟨ocpart_expr, odpart_expr, .func (PySem.W.fnOf "part_expr" "part_expr" (defArgs sPartExpr) (defBody sPartExpr) (defScope sPartExpr) .none kVpart_expr dcpart_expr pmpart_expr anpart_expr cdpart_expr ctpart_expr), slpart_expr⟩)
    (cpart_expr : PySem.W.codeIn K cdpart_expr "part_expr" = true)
    (kpart_expr : PySem.W.keepIn K (.ref fpart_expr) = true)
    (alesser : PySem.W.nsIn K mainGlobals "_lesser" = some (some (.ref flesser)))
    (llesser : K.lookup flesser = some ⟨oclesser, odlesser, .func (PySem.W.fnOf "_lesser" "_lesser" (defArgs sLesser) (defBody sLesser) (defScope sLesser) .none kVlesser dclesser pmlesser anlesser cdlesser ctlesser), sllesser⟩)
    (clesser : PySem.W.codeIn K cdlesser "_lesser" = true)
    (klesser : PySem.W.keepIn K (.ref flesser) = true)
    (agreater : PySem.W.nsIn K mainGlobals "_greater" = some (some (.ref fgreater)))
    (lgreater : K.lookup fgreater = some ⟨ocgreater, odgreater, .func (PySem.W.fnOf "_greater" "_greater" (defArgs sGreater) (defBody sGreater) (defScope sGreater) .none kVgreater dcgreater pmgreater angreater cdgreater ctgreater), slgreater⟩)
    (cgreater : PySem.W.codeIn K cdgreater "_greater" = true)
    (kgreater : PySem.W.keepIn K (.ref fgreater) = true)
    (atext : PySem.W.nsIn K mainGlobals "_text" = some (some (.ref ftext)))
    (ltext : K.lookup ftext = some ⟨octext, odtext, .func (PySem.W.fnOf "_text" "_text" (defArgs sTextE) (defBody sTextE) (defScope sTextE) .none kVtext dctext pmtext antext cdtext cttext), sltext⟩)
    (ctext : PySem.W.codeIn K cdtext "_text" = true)
    (ktext : PySem.W.keepIn K (.ref ftext) = true)
    (aread_expr : PySem.W.nsIn K mainGlobals "read_expr" = some (some (.ref fread_expr)))
    (lread_expr : K.lookup fread_expr = some ⟨ocread_expr, odread_expr, .func (PySem.W.fnOf "read_expr" "read_expr" (defArgs sReadExpr) (defBody sReadExpr) (defScope sReadExpr) .none kVread_expr dcread_expr pmread_expr anread_expr cdread_expr ctread_expr), slread_expr⟩)
    (cread_expr : PySem.W.codeIn K cdread_expr "read_expr" = true)
    (kread_expr : PySem.W.keepIn K (.ref fread_expr) = true)
    (aexpr_at : PySem.W.nsIn K mainGlobals "_expr_at" = some (some (.ref fexpr_at)))
    (lexpr_at : K.lookup fexpr_at = some ⟨ocexpr_at, odexpr_at, .func (PySem.W.fnOf "_expr_at" "_expr_at" (defArgs sExprAt) (defBody sExprAt) (defScope sExprAt) .none kVexpr_at dcexpr_at pmexpr_at anexpr_at cdexpr_at ctexpr_at), slexpr_at⟩)
    (cexpr_at : PySem.W.codeIn K cdexpr_at "_expr_at" = true)
    (kexpr_at : PySem.W.keepIn K (.ref fexpr_at) = true)
    (aword_end : PySem.W.nsIn K mainGlobals "_word_end" = some (some (.ref fword_end)))
    (lword_end : K.lookup fword_end = some ⟨ocword_end, odword_end, .func (PySem.W.fnOf "_word_end" "_word_end" (defArgs sWordEnd) (defBody sWordEnd) (defScope sWordEnd) .none kVword_end dcword_end pmword_end anword_end cdword_end ctword_end), slword_end⟩)
    (cword_end : PySem.W.codeIn K cdword_end "_word_end" = true)
    (kword_end : PySem.W.keepIn K (.ref fword_end) = true)
    (aparts_at : PySem.W.nsIn K mainGlobals "_parts_at" = some (some (.ref fparts_at)))
    (lparts_at : K.lookup fparts_at = some ⟨ocparts_at, odparts_at, .func (PySem.W.fnOf "_parts_at" "_parts_at" (defArgs sPartsAt) (defBody sPartsAt) (defScope sPartsAt) .none kVparts_at dcparts_at pmparts_at anparts_at cdparts_at ctparts_at), slparts_at⟩)
    (cparts_at : PySem.W.codeIn K cdparts_at "_parts_at" = true)
    (kparts_at : PySem.W.keepIn K (.ref fparts_at) = true)
    (aput_together : PySem.W.nsIn K mainGlobals "_put_together" = some (some (.ref fput_together)))
    (lput_together : K.lookup fput_together = some ⟨ocput_together, odput_together, .func (PySem.W.fnOf "_put_together" "_put_together" (defArgs sPutTog) (defBody sPutTog) (defScope sPutTog) .none kVput_together dcput_together pmput_together anput_together cdput_together ctput_together), slput_together⟩)
    (cput_together : PySem.W.codeIn K cdput_together "_put_together" = true)
    (kput_together : PySem.W.keepIn K (.ref fput_together) = true)
    (aare_ways : PySem.W.nsIn K mainGlobals "_are_ways" = some (some (.ref fare_ways)))
    (lare_ways : K.lookup fare_ways = some ⟨ocare_ways, odare_ways, .func (PySem.W.fnOf "_are_ways" "_are_ways" (defArgs sAreWays) (defBody sAreWays) (defScope sAreWays) .none kVare_ways dcare_ways pmare_ways anare_ways cdare_ways ctare_ways), slare_ways⟩)
    (care_ways : PySem.W.codeIn K cdare_ways "_are_ways" = true)
    (kare_ways : PySem.W.keepIn K (.ref fare_ways) = true)
    (aall_names : PySem.W.nsIn K mainGlobals "all_names" = some (some (.ref fall_names)))
    (lall_names : K.lookup fall_names = some ⟨ocall_names, odall_names, .func (PySem.W.fnOf "all_names" "all_names" (defArgs sAllNames) (defBody sAllNames) (defScope sAllNames) (.ref Tall_names) kVall_names dcall_names pmall_names anall_names cdall_names ctall_names), slall_names⟩)
    (call_names : PySem.W.codeIn K cdall_names "all_names" = true)
    (kall_names : PySem.W.keepIn K (.ref fall_names) = true)
    (eall_names : K.lookup Tall_names = some ⟨oTall_names, dTall_names, .seq #[.ref tall_names] nTall_names, sTall_names⟩)
    (aall_steps : PySem.W.nsIn K mainGlobals "all_steps" = some (some (.ref fall_steps)))
    (lall_steps : K.lookup fall_steps = some ⟨ocall_steps, odall_steps, .func (PySem.W.fnOf "all_steps" "all_steps" (defArgs sAllSteps) (defBody sAllSteps) (defScope sAllSteps) (.ref Tall_steps) kVall_steps dcall_steps pmall_steps anall_steps cdall_steps ctall_steps), slall_steps⟩)
    (call_steps : PySem.W.codeIn K cdall_steps "all_steps" = true)
    (kall_steps : PySem.W.keepIn K (.ref fall_steps) = true)
    (eall_steps : K.lookup Tall_steps = some ⟨oTall_steps, dTall_steps, .seq #[.ref tall_steps] nTall_steps, sTall_steps⟩)
    (w1 : PySem.W.nsIn K mainGlobals "LONGEST_NAME" = some (some (.int 4 tL)))
    (w2 : PySem.W.nsIn K mainGlobals "LETTERS" = some (some (.str "abcdefghijklmnopqrstuvwxyz" tM)))
    (w3 : PySem.W.nsIn K mainGlobals "KEPT_WORDS" = some (some (.ref kw)))
    (w4 : K.lookup kw = some ⟨.type "tuple", dKW, .seq #[.str "if" tk1, .str "else" tk2, .str "end" tk3] nKW, sKW⟩)
    (w5 : PySem.W.nsIn K mainGlobals "MOST_ARGUMENTS" = some (some (.int 3 tY)))
    (w6 : PySem.W.nsIn K mainGlobals "WAYS" = some (some (.str "+-?" tS)))
    (so : PySem.W.specialIn K (.builtin "object.__class__") "__get__" = some (some (.builtin "getset_descriptor.__get__")))
    (tk : PySem.W.takesIn K (.builtin "object.__class__") = some true)
    (gSa : PySem.W.nsIn K mainGlobals "Step" = some (some (.ref gS)))
    (gS1 : PySem.W.plainGet K gS Str.empty = true)
    (gS2 : PySem.W.hasDictIn K gS = true)
    (gS3 : PySem.W.plainOver K gS = true)
    (gS4 : PySem.W.findIn K (.ref gS) "__setattr__" = some (some (.builtin "object.__setattr__")))
    (gS5 : PySem.W.findIn K (.ref gS) "__class__" = some (some (.builtin "object.__class__")))
    (gS6 : PySem.W.mroIn K gS (.type "object") = some true)
    (gSk0 : PySem.W.kitOne K (.ref gS) (.type "tuple") = some false)
    (gSk1 : PySem.W.kitOne K (.ref gS) (.type "list") = some false)
    (gSk2 : PySem.W.kitOne K (.ref gS) (.type "bool") = some false)
    (gSk3 : PySem.W.kitOne K (.ref gS) (.type "str") = some false)
    (gS7 : PySem.W.makesIn K gS = true)
    (gS8 : PySem.W.keepIn K (.ref gS) = true)
    (aiS : PySem.W.findIn K (.ref gS) "__init__" = some (some (.ref fiS)))
    (niS : PySem.W.isFn K (.ref fiS) = true)
    (liS : K.lookup fiS = some ⟨ociS, odiS, .func (PySem.W.fnOf "__init__" "Step.__init__" (defArgs sStepInit) (defBody sStepInit) (defScope sStepInit) .none kViS dciS pmiS aniS cdiS ctiS), sliS⟩)
    (ciS : PySem.W.codeIn K cdiS "Step.__init__" = true)
    (kiS : PySem.W.keepIn K (.ref fiS) = true)
    (aqS : PySem.W.findIn K (.ref gS) "__eq__" = some (some (.ref fqS)))
    (nqS : PySem.W.isFn K (.ref fqS) = true)
    (lqS : K.lookup fqS = some ⟨ocqS, odqS, .func (PySem.W.fnOf "__eq__" "Step.__eq__" (defArgs sStepEq) (defBody sStepEq) (defScope sStepEq) .none kVqS dcqS pmqS anqS cdqS ctqS), slqS⟩)
    (cqS : PySem.W.codeIn K cdqS "Step.__eq__" = true)
    (kqS : PySem.W.keepIn K (.ref fqS) = true)
    (gS_name : PySem.W.findIn K (.ref gS) "name" = some none)
    (gS_ways : PySem.W.findIn K (.ref gS) "ways" = some none)
    (gEa : PySem.W.nsIn K mainGlobals "Expr" = some (some (.ref gE)))
    (gE1 : PySem.W.plainGet K gE Str.empty = true)
    (gE2 : PySem.W.hasDictIn K gE = true)
    (gE3 : PySem.W.plainOver K gE = true)
    (gE4 : PySem.W.findIn K (.ref gE) "__setattr__" = some (some (.builtin "object.__setattr__")))
    (gE5 : PySem.W.findIn K (.ref gE) "__class__" = some (some (.builtin "object.__class__")))
    (gE6 : PySem.W.mroIn K gE (.type "object") = some true)
    (gEk0 : PySem.W.kitOne K (.ref gE) (.type "tuple") = some false)
    (gEk1 : PySem.W.kitOne K (.ref gE) (.type "list") = some false)
    (gEk2 : PySem.W.kitOne K (.ref gE) (.type "bool") = some false)
    (gEk3 : PySem.W.kitOne K (.ref gE) (.type "str") = some false)
    (gE7 : PySem.W.makesIn K gE = true)
    (gE8 : PySem.W.keepIn K (.ref gE) = true)
    (aiE : PySem.W.findIn K (.ref gE) "__init__" = some (some (.ref fiE)))
    (niE : PySem.W.isFn K (.ref fiE) = true)
    (liE : K.lookup fiE = some ⟨ociE, odiE, .func (PySem.W.fnOf "__init__" "Expr.__init__" (defArgs sExprInit) (defBody sExprInit) (defScope sExprInit) .none kViE dciE pmiE aniE cdiE ctiE), sliE⟩)
    (ciE : PySem.W.codeIn K cdiE "Expr.__init__" = true)
    (kiE : PySem.W.keepIn K (.ref fiE) = true)
    (aqE : PySem.W.findIn K (.ref gE) "__eq__" = some (some (.ref fqE)))
    (nqE : PySem.W.isFn K (.ref fqE) = true)
    (lqE : K.lookup fqE = some ⟨ocqE, odqE, .func (PySem.W.fnOf "__eq__" "Expr.__eq__" (defArgs sExprEq) (defBody sExprEq) (defScope sExprEq) .none kVqE dcqE pmqE anqE cdqE ctqE), slqE⟩)
    (cqE : PySem.W.codeIn K cdqE "Expr.__eq__" = true)
    (kqE : PySem.W.keepIn K (.ref fqE) = true)
    (gE_kind : PySem.W.findIn K (.ref gE) "kind" = some none)
    (gE_word : PySem.W.findIn K (.ref gE) "word" = some none)
    (gE_step : PySem.W.findIn K (.ref gE) "step" = some none)
    (gE_parts : PySem.W.findIn K (.ref gE) "parts" = some none)
    (gE_names : PySem.W.findIn K (.ref gE) "names" = some none)
    (gE_steps : PySem.W.findIn K (.ref gE) "steps" = some none)
    (gE_size : PySem.W.findIn K (.ref gE) "size" = some none)
    (gE_applied : PySem.W.findIn K (.ref gE) "applied" = some none)
    (gCa : PySem.W.nsIn K mainGlobals "Chain" = some (some (.ref gC)))
    (gC1 : PySem.W.plainGet K gC Str.empty = true)
    (gC2 : PySem.W.hasDictIn K gC = true)
    (gC3 : PySem.W.plainOver K gC = true)
    (gC4 : PySem.W.findIn K (.ref gC) "__setattr__" = some (some (.builtin "object.__setattr__")))
    (gC5 : PySem.W.findIn K (.ref gC) "__class__" = some (some (.builtin "object.__class__")))
    (gC6 : PySem.W.mroIn K gC (.type "object") = some true)
    (gCk0 : PySem.W.kitOne K (.ref gC) (.type "tuple") = some false)
    (gCk1 : PySem.W.kitOne K (.ref gC) (.type "list") = some false)
    (gCk2 : PySem.W.kitOne K (.ref gC) (.type "bool") = some false)
    (gCk3 : PySem.W.kitOne K (.ref gC) (.type "str") = some false)
    (gC7 : PySem.W.makesIn K gC = true)
    (gC8 : PySem.W.keepIn K (.ref gC) = true)
    (aiC : PySem.W.findIn K (.ref gC) "__init__" = some (some (.ref fiC)))
    (niC : PySem.W.isFn K (.ref fiC) = true)
    (liC : K.lookup fiC = some ⟨ociC, odiC, .func (PySem.W.fnOf "__init__" "Chain.__init__" (defArgs sChainInit) (defBody sChainInit) (defScope sChainInit) .none kViC dciC pmiC aniC cdiC ctiC), sliC⟩)
    (ciC : PySem.W.codeIn K cdiC "Chain.__init__" = true)
    (kiC : PySem.W.keepIn K (.ref fiC) = true)
    (gC_steps : PySem.W.findIn K (.ref gC) "steps" = some none)
    (alS : PySem.W.findIn K (.ref gS) "__len__" = some (some (.ref flS)))
    (nlS : PySem.W.isFn K (.ref flS) = true)
    (llS : K.lookup flS = some ⟨oclS, odlS, .func (PySem.W.fnOf "__len__" "Step.__len__" (defArgs sStepLen) (defBody sStepLen) (defScope sStepLen) .none kVlS dclS pmlS anlS cdlS ctlS), sllS⟩)
    (clS : PySem.W.codeIn K cdlS "Step.__len__" = true)
    (klS : PySem.W.keepIn K (.ref flS) = true)
    (alE : PySem.W.findIn K (.ref gE) "__len__" = some (some (.ref flE)))
    (nlE : PySem.W.isFn K (.ref flE) = true)
    (llE : K.lookup flE = some ⟨oclE, odlE, .func (PySem.W.fnOf "__len__" "Expr.__len__" (defArgs sExprLen) (defBody sExprLen) (defScope sExprLen) .none kVlE dclE pmlE anlE cdlE ctlE), sllE⟩)
    (clE : PySem.W.codeIn K cdlE "Expr.__len__" = true)
    (klE : PySem.W.keepIn K (.ref flE) = true)
    (asE : PySem.W.findIn K (.ref gE) "__str__" = some (some (.ref fsE)))
    (nsE : PySem.W.isFn K (.ref fsE) = true)
    (lsE : K.lookup fsE = some ⟨ocsE, odsE, .func (PySem.W.fnOf "__str__" "Expr.__str__" (defArgs sExprStr) (defBody sExprStr) (defScope sExprStr) .none kVsE dcsE pmsE ansE cdsE ctsE), slsE⟩)
    (csE : PySem.W.codeIn K cdsE "Expr.__str__" = true)
    (ksE : PySem.W.keepIn K (.ref fsE) = true)
    (neE : PySem.W.findIn K (.ref gE) "__ne__" = some (some (.builtin "object.__ne__")))
    (hne : gS ≠ gE)
    (kes : PySem.W.kitOne K (.type "str") (.ref gE) = some false)
    (knS : PySem.W.kitOne K (.type "str") (.ref gS) = some false)
    (acS : PySem.W.findIn K (.ref gS) "__call__" = some (some (.ref fcS)))
    (ncS : PySem.W.isFn K (.ref fcS) = true)
    (icS : PySem.W.fnIn K fcS = true)
    (lcS : K.lookup fcS = some ⟨occS, odcS, .func (PySem.W.fnOf "__call__" "Step.__call__" (defArgs sStepCall) (defBody sStepCall) (defScope sStepCall) (.ref TcS) kVcS dccS pmcS ancS cdcS ctcS), slcS⟩)
    (ccS : PySem.W.codeIn K cdcS "Step.__call__" = true)
    (kcS : PySem.W.keepIn K (.ref fcS) = true)
    (ecS : K.lookup TcS = some ⟨oTcS, dTcS, .seq #[.none, .none] nTcS, sTcS⟩)
    (aaE : PySem.W.findIn K (.ref gE) "__and__" = some (some (.ref faE)))
    (naE : PySem.W.isFn K (.ref faE) = true)
    (laE : K.lookup faE = some ⟨ocaE, odaE, .func (PySem.W.fnOf "__and__" "Expr.__and__" (defArgs sExprAnd) (defBody sExprAnd) (defScope sExprAnd) .none kVaE dcaE pmaE anaE cdaE ctaE), slaE⟩)
    (caE : PySem.W.codeIn K cdaE "Expr.__and__" = true)
    (kaE : PySem.W.keepIn K (.ref faE) = true)
    (arE : PySem.W.findIn K (.ref gE) "__rand__" = some (some (.ref frE)))
    (nrE : PySem.W.isFn K (.ref frE) = true)
    (lrE : K.lookup frE = some ⟨ocrE, odrE, .func (PySem.W.fnOf "__rand__" "Expr.__rand__" (defArgs sExprRand) (defBody sExprRand) (defScope sExprRand) .none kVrE dcrE pmrE anrE cdrE ctrE), slrE⟩)
    (crE : PySem.W.codeIn K cdrE "Expr.__rand__" = true)
    (krE : PySem.W.keepIn K (.ref frE) = true)
    (aoE : PySem.W.findIn K (.ref gE) "__or__" = some (some (.ref foE)))
    (noE : PySem.W.isFn K (.ref foE) = true)
    (loE : K.lookup foE = some ⟨ocoE, odoE, .func (PySem.W.fnOf "__or__" "Expr.__or__" (defArgs sExprOr) (defBody sExprOr) (defScope sExprOr) .none kVoE dcoE pmoE anoE cdoE ctoE), sloE⟩)
    (coE : PySem.W.codeIn K cdoE "Expr.__or__" = true)
    (koE : PySem.W.keepIn K (.ref foE) = true)
    (apE : PySem.W.findIn K (.ref gE) "__ror__" = some (some (.ref fpE)))
    (npE : PySem.W.isFn K (.ref fpE) = true)
    (lpE : K.lookup fpE = some ⟨ocpE, odpE, .func (PySem.W.fnOf "__ror__" "Expr.__ror__" (defArgs sExprRor) (defBody sExprRor) (defScope sExprRor) .none kVpE dcpE pmpE anpE cdpE ctpE), slpE⟩)
    (cpE : PySem.W.codeIn K cdpE "Expr.__ror__" = true)
    (kpE : PySem.W.keepIn K (.ref fpE) = true)
    (sfE : PySem.W.selfFirst K gE = true)
    (acC : PySem.W.findIn K (.ref gC) "__call__" = some (some (.ref fcC)))
    (ncC : PySem.W.isFn K (.ref fcC) = true)
    (lcC : K.lookup fcC = some ⟨occC, odcC, .func (PySem.W.fnOf "__call__" "Chain.__call__" (defArgs sChainCall) (defBody sChainCall) (defScope sChainCall) .none kVcC dccC pmcC ancC cdcC ctcC), slcC⟩)
    (ccC : PySem.W.codeIn K cdcC "Chain.__call__" = true)
    (kcC : PySem.W.keepIn K (.ref fcC) = true)
    (icC : PySem.W.fnIn K fcC = true)
    : ∃ fd : FuncData, (∀ (s : Shared) (v : Value), BindsTo s fd ⟨[v], []⟩ [("_law_script", v)]) ∧ ∀ base : Heap, K.In base → base.Ns mainGlobals mg → FnOk l.prog w K mg base CX0 47 fa fd ["_law_script"] (spLaw K) := by
  have e := hfa.symm.trans (PySem.W.mg_of X G alaw)
  cases e
  have S : Std mg := ⟨PySem.W.mg_none_of X G b_len, PySem.W.mg_none_of X G b_abs, PySem.W.mg_none_of X G b_int, PySem.W.mg_none_of X G b_range, PySem.W.mg_none_of X G b_isinstance, PySem.W.mg_none_of X G b_tuple, PySem.W.mg_none_of X G b_list, PySem.W.mg_none_of X G b_all, PySem.W.mg_none_of X G b_zip, PySem.W.mg_none_of X G b_bool, PySem.W.mg_none_of X G b_str, PySem.W.mg_none_of X G b_set, PySem.W.mg_none_of X G b_sorted, PySem.W.mg_none_of X G b_sum, PySem.W.mg_none_of X G b_any, PySem.W.mg_none_of X G b_enumerate⟩
  have hDict := PySem.W.mg_none_of X G b_dict
  have Flaw_feed := fun_mk (st := sFeed) llaw_feed claw_feed klaw_feed
  have Dlaw_feed : Df K mg "_law_feed" sFeed _ _ ["_law_script", "_law_k"] := ⟨Flaw_feed, Flaw_feed.binds (ps := ["_law_script", "_law_k"]) fun _ _ _ _ _ _ us hl => match us, hl with | [_, _], _ => rfl, PySem.W.mg_of X G alaw_feed⟩
  have Flaw_draw := fun_mk (st := sDraw) llaw_draw claw_draw klaw_draw
  have Dlaw_draw : Df K mg "_law_draw" sDraw _ _ ["_law_feed_here", "_law_many"] := ⟨Flaw_draw, Flaw_draw.binds (ps := ["_law_feed_here", "_law_many"]) fun _ _ _ _ _ _ us hl => match us, hl with | [_, _], _ => rfl, PySem.W.mg_of X G alaw_draw⟩
  have Flaw_pick := fun_mk (st := sPick) llaw_pick claw_pick klaw_pick
  have Dlaw_pick : Df K mg "_law_pick" sPick _ _ ["_law_feed_here", "_law_items"] := ⟨Flaw_pick, Flaw_pick.binds (ps := ["_law_feed_here", "_law_items"]) fun _ _ _ _ _ _ us hl => match us, hl with | [_, _], _ => rfl, PySem.W.mg_of X G alaw_pick⟩
  have Flaw_same := fun_mk (st := sSame) llaw_same claw_same klaw_same
  have Dlaw_same : Df K mg "_law_same" sSame _ _ ["_law_found", "_law_due"] := ⟨Flaw_same, Flaw_same.binds (ps := ["_law_found", "_law_due"]) fun _ _ _ _ _ _ us hl => match us, hl with | [_, _], _ => rfl, PySem.W.mg_of X G alaw_same⟩
  have Flaw_word := fun_mk (st := sWord) llaw_word claw_word klaw_word
  have Dlaw_word : Df K mg "_law_word" sWord _ _ ["_law_feed_here"] := ⟨Flaw_word, Flaw_word.binds (ps := ["_law_feed_here"]) fun _ _ _ _ _ _ us hl => match us, hl with | [_], _ => rfl, PySem.W.mg_of X G alaw_word⟩
  have Flaw_words := fun_mk (st := sWords) llaw_words claw_words klaw_words
  have Dlaw_words : Df K mg "_law_words" sWords _ _ ["_law_feed_here", "_law_many"] := ⟨Flaw_words, Flaw_words.binds (ps := ["_law_feed_here", "_law_many"]) fun _ _ _ _ _ _ us hl => match us, hl with | [_, _], _ => rfl, PySem.W.mg_of X G alaw_words⟩
  have Flaw_ways := fun_mk (st := sWays) llaw_ways claw_ways klaw_ways
  have Dlaw_ways : Df K mg "_law_ways" sWays _ _ ["_law_feed_here"] := ⟨Flaw_ways, Flaw_ways.binds (ps := ["_law_feed_here"]) fun _ _ _ _ _ _ us hl => match us, hl with | [_], _ => rfl, PySem.W.mg_of X G alaw_ways⟩
  have Flaw_step_pool := fun_mk (st := sPoolSteps) llaw_step_pool claw_step_pool klaw_step_pool
  have Dlaw_step_pool : Df K mg "_law_step_pool" sPoolSteps _ _ ["_law_feed_here", "_law_many"] := ⟨Flaw_step_pool, Flaw_step_pool.binds (ps := ["_law_feed_here", "_law_many"]) fun _ _ _ _ _ _ us hl => match us, hl with | [_, _], _ => rfl, PySem.W.mg_of X G alaw_step_pool⟩
  have Flaw_expr := fun_mk (st := sExpr) llaw_expr claw_expr klaw_expr
  have Dlaw_expr : Df K mg "_law_expr" sExpr _ _ ["_law_feed_here", "_law_steps", "_law_names", "_law_room", "_law_deep"] := ⟨Flaw_expr, Flaw_expr.binds (ps := ["_law_feed_here", "_law_steps", "_law_names", "_law_room", "_law_deep"]) fun _ _ _ _ _ _ us hl => match us, hl with | [_, _, _, _, _], _ => rfl, PySem.W.mg_of X G alaw_expr⟩
  have Flaw_made := fun_mk (st := sMade) llaw_made claw_made klaw_made
  have Dlaw_made : Df K mg "_law_made" sMade _ _ ["_law_feed_here", "_law_model"] := ⟨Flaw_made, Flaw_made.binds (ps := ["_law_feed_here", "_law_model"]) fun _ _ _ _ _ _ us hl => match us, hl with | [_, _], _ => rfl, PySem.W.mg_of X G alaw_made⟩
  have Flaw_otherwise := fun_mk (st := sOther) llaw_otherwise claw_otherwise klaw_otherwise
  have Dlaw_otherwise : Df K mg "_law_otherwise" sOther _ _ ["_law_feed_here", "_law_model", "_law_steps", "_law_names"] := ⟨Flaw_otherwise, Flaw_otherwise.binds (ps := ["_law_feed_here", "_law_model", "_law_steps", "_law_names"]) fun _ _ _ _ _ _ us hl => match us, hl with | [_, _, _, _], _ => rfl, PySem.W.mg_of X G alaw_otherwise⟩
  have Flaw_sound := fun_mk (st := sSound) llaw_sound claw_sound klaw_sound
  have Dlaw_sound : Df K mg "_law_sound" sSound _ _ ["_law_expr_here", "_law_steps"] := ⟨Flaw_sound, Flaw_sound.binds (ps := ["_law_expr_here", "_law_steps"]) fun _ _ _ _ _ _ us hl => match us, hl with | [_, _], _ => rfl, PySem.W.mg_of X G alaw_sound⟩
  have Flaw_joined := fun_mk (st := sLJoined) llaw_joined claw_joined klaw_joined
  have Dlaw_joined : Df K mg "_law_joined" sLJoined _ _ ["_law_expr_here", "_law_parts", "_law_more"] := ⟨Flaw_joined, Flaw_joined.binds (ps := ["_law_expr_here", "_law_parts", "_law_more"]) fun _ _ _ _ _ _ us hl => match us, hl with | [_, _, _], _ => rfl, PySem.W.mg_of X G alaw_joined⟩
  have Flaw := fun_mk (st := sLaw) llaw claw klaw
  have Dlaw : Df K mg "law" sLaw _ _ ["_law_script"] := ⟨Flaw, Flaw.binds (ps := ["_law_script"]) fun _ _ _ _ _ _ us hl => match us, hl with | [_], _ => rfl, PySem.W.mg_of X G alaw⟩
  have Fis_name := fun_mk (st := sIsName) lis_name cis_name kis_name
  have Dis_name : Df K mg "is_name" sIsName _ _ ["value"] := ⟨Fis_name, Fis_name.binds (ps := ["value"]) fun _ _ _ _ _ _ us hl => match us, hl with | [_], _ => rfl, PySem.W.mg_of X G ais_name⟩
  have Fnamed := fun_mk (st := sNamed) lnamed cnamed knamed
  have Dnamed : Df K mg "named" sNamed _ _ ["word"] := ⟨Fnamed, Fnamed.binds (ps := ["word"]) fun _ _ _ _ _ _ us hl => match us, hl with | [_], _ => rfl, PySem.W.mg_of X G anamed⟩
  have Fapplied := fun_mk (st := sApplied) lapplied capplied kapplied
  have Dapplied : Df K mg "applied" sApplied _ _ ["step", "parts"] := ⟨Fapplied, Fapplied.binds (ps := ["step", "parts"]) fun _ _ _ _ _ _ us hl => match us, hl with | [_, _], _ => rfl, PySem.W.mg_of X G aapplied⟩
  have Fas_expr := fun_mk (st := sAsExpr) las_expr cas_expr kas_expr
  have Das_expr : Df K mg "as_expr" sAsExpr _ _ ["value"] := ⟨Fas_expr, Fas_expr.binds (ps := ["value"]) fun _ _ _ _ _ _ us hl => match us, hl with | [_], _ => rfl, PySem.W.mg_of X G aas_expr⟩
  have Fpart_expr := fun_mk (st := sPartExpr) lpart_expr cpart_expr kpart_expr
  have Dpart_expr : Df K mg "part_expr" sPartExpr _ _ ["value"] := ⟨Fpart_expr, Fpart_expr.binds (ps := ["value"]) fun _ _ _ _ _ _ us hl => match us, hl with | [_], _ => rfl, PySem.W.mg_of X G apart_expr⟩
  have Flesser := fun_mk (st := sLesser) llesser clesser klesser
  have Dlesser : Df K mg "_lesser" sLesser _ _ ["left", "right"] := ⟨Flesser, Flesser.binds (ps := ["left", "right"]) fun _ _ _ _ _ _ us hl => match us, hl with | [_, _], _ => rfl, PySem.W.mg_of X G alesser⟩
  have Fgreater := fun_mk (st := sGreater) lgreater cgreater kgreater
  have Dgreater : Df K mg "_greater" sGreater _ _ ["left", "right"] := ⟨Fgreater, Fgreater.binds (ps := ["left", "right"]) fun _ _ _ _ _ _ us hl => match us, hl with | [_, _], _ => rfl, PySem.W.mg_of X G agreater⟩
  have Ftext := fun_mk (st := sTextE) ltext ctext ktext
  have Dtext : Df K mg "_text" sTextE _ _ ["expr"] := ⟨Ftext, Ftext.binds (ps := ["expr"]) fun _ _ _ _ _ _ us hl => match us, hl with | [_], _ => rfl, PySem.W.mg_of X G atext⟩
  have Fread_expr := fun_mk (st := sReadExpr) lread_expr cread_expr kread_expr
  have Dread_expr : Df K mg "read_expr" sReadExpr _ _ ["text", "steps"] := ⟨Fread_expr, Fread_expr.binds (ps := ["text", "steps"]) fun _ _ _ _ _ _ us hl => match us, hl with | [_, _], _ => rfl, PySem.W.mg_of X G aread_expr⟩
  have Fexpr_at := fun_mk (st := sExprAt) lexpr_at cexpr_at kexpr_at
  have Dexpr_at : Df K mg "_expr_at" sExprAt _ _ ["text", "at", "known"] := ⟨Fexpr_at, Fexpr_at.binds (ps := ["text", "at", "known"]) fun _ _ _ _ _ _ us hl => match us, hl with | [_, _, _], _ => rfl, PySem.W.mg_of X G aexpr_at⟩
  have Fword_end := fun_mk (st := sWordEnd) lword_end cword_end kword_end
  have Dword_end : Df K mg "_word_end" sWordEnd _ _ ["text", "at"] := ⟨Fword_end, Fword_end.binds (ps := ["text", "at"]) fun _ _ _ _ _ _ us hl => match us, hl with | [_, _], _ => rfl, PySem.W.mg_of X G aword_end⟩
  have Fparts_at := fun_mk (st := sPartsAt) lparts_at cparts_at kparts_at
  have Dparts_at : Df K mg "_parts_at" sPartsAt _ _ ["text", "at", "known"] := ⟨Fparts_at, Fparts_at.binds (ps := ["text", "at", "known"]) fun _ _ _ _ _ _ us hl => match us, hl with | [_, _, _], _ => rfl, PySem.W.mg_of X G aparts_at⟩
  have Fput_together := fun_mk (st := sPutTog) lput_together cput_together kput_together
  have Dput_together : Df K mg "_put_together" sPutTog _ _ ["word", "parts", "known"] := ⟨Fput_together, Fput_together.binds (ps := ["word", "parts", "known"]) fun _ _ _ _ _ _ us hl => match us, hl with | [_, _, _], _ => rfl, PySem.W.mg_of X G aput_together⟩
  have Fare_ways := fun_mk (st := sAreWays) lare_ways care_ways kare_ways
  have Dare_ways : Df K mg "_are_ways" sAreWays _ _ ["value"] := ⟨Fare_ways, Fare_ways.binds (ps := ["value"]) fun _ _ _ _ _ _ us hl => match us, hl with | [_], _ => rfl, PySem.W.mg_of X G aare_ways⟩
  have Fall_names : FunD K "all_names" "all_names" (defArgs sAllNames) (defBody sAllNames) (defScope sAllNames) [V.ref tall_names] [] fall_names _ := ⟨⟨ocall_names, odall_names, .ref Tall_names, kVall_names, dcall_names, pmall_names, anall_names, cdall_names, ctall_names, slall_names, rfl, lall_names, call_names, .inr ⟨by simp, Tall_names, _, [.ref tall_names], nTall_names, rfl, eall_names, rfl, .cons rfl .nil⟩, .inl rfl⟩, kall_names⟩
  have Ball_names : Binds K (PySem.W.fnOf "all_names" "all_names" (defArgs sAllNames) (defBody sAllNames) (defScope sAllNames) (.ref Tall_names) kVall_names dcall_names pmall_names anall_names cdall_names ctall_names) ["holders", "more"] [] := by
    obtain ⟨ds, hd, hb⟩ := Fall_names.binds1 (ps := ["holders", "more"]) 2 1 (by simp) rfl fun T kV doc pm an cdv ct us its h1 h2 => match us, its, h1, h2 with | [_, _], [_], _, _ => ⟨_, rfl, rfl⟩
    cases hd
    exact hb
  have Dall_names : Dd K mg "all_names" sAllNames fall_names _ ["holders", "more"] := ⟨⟨tall_names, Fall_names⟩, Ball_names, PySem.W.mg_of X G aall_names, kall_names⟩
  have Fall_steps : FunD K "all_steps" "all_steps" (defArgs sAllSteps) (defBody sAllSteps) (defScope sAllSteps) [V.ref tall_steps] [] fall_steps _ := ⟨⟨ocall_steps, odall_steps, .ref Tall_steps, kVall_steps, dcall_steps, pmall_steps, anall_steps, cdall_steps, ctall_steps, slall_steps, rfl, lall_steps, call_steps, .inr ⟨by simp, Tall_steps, _, [.ref tall_steps], nTall_steps, rfl, eall_steps, rfl, .cons rfl .nil⟩, .inl rfl⟩, kall_steps⟩
  have Ball_steps : Binds K (PySem.W.fnOf "all_steps" "all_steps" (defArgs sAllSteps) (defBody sAllSteps) (defScope sAllSteps) (.ref Tall_steps) kVall_steps dcall_steps pmall_steps anall_steps cdall_steps ctall_steps) ["holders", "more"] [] := by
    obtain ⟨ds, hd, hb⟩ := Fall_steps.binds1 (ps := ["holders", "more"]) 2 1 (by simp) rfl fun T kV doc pm an cdv ct us its h1 h2 => match us, its, h1, h2 with | [_, _], [_], _, _ => ⟨_, rfl, rfl⟩
    cases hd
    exact hb
  have Dall_steps : Dd K mg "all_steps" sAllSteps fall_steps _ ["holders", "more"] := ⟨⟨tall_steps, Fall_steps⟩, Ball_steps, PySem.W.mg_of X G aall_steps, kall_steps⟩
  have W : Words K mg kw := ⟨⟨_, PySem.W.mg_of X G w1⟩, ⟨_, PySem.W.mg_of X G w2⟩, PySem.W.mg_of X G w3, fun H => .inr ⟨_, _, _, w4, rfl, rfl, by show 3 ≤ sizeLine; decide, .cons ⟨_, rfl⟩ (.cons ⟨_, rfl⟩ (.cons ⟨_, rfl⟩ .nil))⟩⟩
  have OS : OwnCl K mg "Step" gS := ⟨⟨gS1, gS2, gS3, gS4⟩, gS5, so, tk, gS6, gSk0, gSk1, gSk2, gSk3, PySem.W.mg_of X G gSa⟩
  have FiS := fun_mk (st := sStepInit) liS ciS kiS
  have biS := FiS.binds (ps := ["self", "name", "ways"]) fun _ _ _ _ _ _ us hl => match us, hl with | [_, _, _], _ => rfl
  have MS : Mk K gS fiS := ⟨gS7, aiS, niS, gS8⟩
  have FqS := fun_mk (st := sStepEq) lqS cqS kqS
  have bqS := FqS.binds (ps := ["self", "other"]) fun _ _ _ _ _ _ us hl => match us, hl with | [_, _], _ => rfl
  have QS : EqM K gS sStepEq "Step.__eq__" fqS _ := ⟨FqS, bqS, aqS, nqS⟩
  have OE : OwnCl K mg "Expr" gE := ⟨⟨gE1, gE2, gE3, gE4⟩, gE5, so, tk, gE6, gEk0, gEk1, gEk2, gEk3, PySem.W.mg_of X G gEa⟩
  have FiE := fun_mk (st := sExprInit) liE ciE kiE
  have biE := FiE.binds (ps := ["self", "kind", "word", "step", "parts"]) fun _ _ _ _ _ _ us hl => match us, hl with | [_, _, _, _, _], _ => rfl
  have ME : Mk K gE fiE := ⟨gE7, aiE, niE, gE8⟩
  have FqE := fun_mk (st := sExprEq) lqE cqE kqE
  have bqE := FqE.binds (ps := ["self", "other"]) fun _ _ _ _ _ _ us hl => match us, hl with | [_, _], _ => rfl
  have QE : EqM K gE sExprEq "Expr.__eq__" fqE _ := ⟨FqE, bqE, aqE, nqE⟩
  have OC : OwnCl K mg "Chain" gC := ⟨⟨gC1, gC2, gC3, gC4⟩, gC5, so, tk, gC6, gCk0, gCk1, gCk2, gCk3, PySem.W.mg_of X G gCa⟩
  have FiC := fun_mk (st := sChainInit) liC ciC kiC
  have MC : Mk K gC fiC := ⟨gC7, aiC, niC, gC8⟩
  have FlS := fun_mk (st := sStepLen) llS clS klS
  have blS := FlS.binds (ps := ["self"]) fun _ _ _ _ _ _ us hl => match us, hl with | [_], _ => rfl
  have LS : LenM K gS flS _ sStepLen "Step.__len__" := ⟨FlS, blS, alS, nlS⟩
  have FlE := fun_mk (st := sExprLen) llE clE klE
  have blE := FlE.binds (ps := ["self"]) fun _ _ _ _ _ _ us hl => match us, hl with | [_], _ => rfl
  have LE : LenM K gE flE _ sExprLen "Expr.__len__" := ⟨FlE, blE, alE, nlE⟩
  have FsE := fun_mk (st := sExprStr) lsE csE ksE
  have bsE := FsE.binds (ps := ["self"]) fun _ _ _ _ _ _ us hl => match us, hl with | [_], _ => rfl
  have SE : StrO K gE sExprStr "Expr.__str__" fsE _ := ⟨FsE, bsE, asE, nsE⟩
  have NX : ExN K gE := ⟨gE_kind, gE_word, gE_step, gE_parts, gE_names, gE_steps, gE_size, gE_applied, gS, hne, OS.cl, gS_name, gS_ways⟩
  have FcS : FunD K "__call__" "Step.__call__" (defArgs sStepCall) (defBody sStepCall) (defScope sStepCall) [V.non, V.non] [] fcS _ := ⟨⟨occS, odcS, .ref TcS, kVcS, dccS, pmcS, ancS, cdcS, ctcS, slcS, rfl, lcS, ccS, .inr ⟨by simp, TcS, _, [.none, .none], nTcS, rfl, ecS, rfl, .cons rfl (.cons rfl .nil)⟩, .inl rfl⟩, kcS⟩
  have bc0 : Binds K (PySem.W.fnOf "__call__" "Step.__call__" (defArgs sStepCall) (defBody sStepCall) (defScope sStepCall) (.ref TcS) kVcS dccS pmcS ancS cdcS ctcS) ["self", "first", "second", "third"] [] := by
    obtain ⟨ds, hd, hb⟩ := FcS.binds1 (ps := ["self", "first", "second", "third"]) 4 2 (by simp) rfl fun T kV doc pm an cdv ct us its h1 h2 => match us, its, h1, h2 with | [_, _, _, _], [_, _], _, _ => ⟨_, rfl, rfl⟩
    cases hd
    exact hb
  have bc1 : Binds K (PySem.W.fnOf "__call__" "Step.__call__" (defArgs sStepCall) (defBody sStepCall) (defScope sStepCall) (.ref TcS) kVcS dccS pmcS ancS cdcS ctcS) ["self", "first", "second", "third"] [.none] := by
    obtain ⟨ds, hd, hb⟩ := FcS.binds1 (ps := ["self", "first", "second", "third"]) 3 1 (by simp) rfl fun T kV doc pm an cdv ct us its h1 h2 => match us, its, h1, h2 with | [_, _, _], [_, _], _, _ => ⟨_, rfl, rfl⟩
    cases hd with | cons r rs => cases r; cases rs; exact hb
  have bc2 : Binds K (PySem.W.fnOf "__call__" "Step.__call__" (defArgs sStepCall) (defBody sStepCall) (defScope sStepCall) (.ref TcS) kVcS dccS pmcS ancS cdcS ctcS) ["self", "first", "second", "third"] [.none, .none] := by
    obtain ⟨ds, hd, hb⟩ := FcS.binds1 (ps := ["self", "first", "second", "third"]) 2 0 (by simp) rfl fun T kV doc pm an cdv ct us its h1 h2 => match us, its, h1, h2 with | [_, _], [_, _], _, _ => ⟨_, rfl, rfl⟩
    cases hd with | cons r rs => cases r; cases rs with | cons r rs => cases r; cases rs; exact hb
  have CM : CallM K gS fcS _ := ⟨FcS, bc0, bc1, bc2, ⟨acS, ncS, icS⟩⟩
  have FaE := fun_mk (st := sExprAnd) laE caE kaE
  have baE := FaE.binds (ps := ["self", "other"]) fun _ _ _ _ _ _ us hl => match us, hl with | [_, _], _ => rfl
  have FrE := fun_mk (st := sExprRand) lrE crE krE
  have brE := FrE.binds (ps := ["self", "other"]) fun _ _ _ _ _ _ us hl => match us, hl with | [_, _], _ => rfl
  have FoE := fun_mk (st := sExprOr) loE coE koE
  have boE := FoE.binds (ps := ["self", "other"]) fun _ _ _ _ _ _ us hl => match us, hl with | [_, _], _ => rfl
  have FpE := fun_mk (st := sExprRor) lpE cpE kpE
  have bpE := FpE.binds (ps := ["self", "other"]) fun _ _ _ _ _ _ us hl => match us, hl with | [_, _], _ => rfl
  have FcC := fun_mk (st := sChainCall) lcC ccC kcC
  have bcC := FcC.binds (ps := ["self", "part"]) fun _ _ _ _ _ _ us hl => match us, hl with | [_, _], _ => rfl
  have CH : ChF K mg gC fiC fcC _ := ⟨MC, PySem.W.mg_of X G gCa, ⟨acC, ncC, icC⟩, bcC⟩
  have OP : OpsF K mg gE gS faE frE foE fpE fcS _ _ _ _ _ := ⟨OE, OS, sfE, aaE, arE, aoE, apE, naE, nrE, noE, npE, baE, brE, boE, bpE, CM⟩
  have OB : OpsB K mg gE faE foE _ _ := ⟨OE, sfE, aaE, aoE, naE, noE, baE, boE⟩
  have EQ : EqF K mg gE gS fqE fqS _ _ := ⟨OE, OS, NX, QE, QS, gS_name, gS_ways⟩
  have ST : StF K mg gS fqS _ := ⟨OS, gS_name, gS_ways, QS, knS⟩
  have XM : ExMk K mg gE gS fiE fall_names fall_steps _ _ _ := ⟨OE.cl, NX, hne, OS.cl, gS_name, gS_ways, PySem.W.mg_of X G gEa, ME, FiE, biE, Dall_names, Dall_steps⟩
  exact ⟨PySem.W.fnOf "law" "law" (defArgs sLaw) (defBody sLaw) (defScope sLaw) .none kVlaw dclaw pmlaw anlaw cdlaw ctlaw, fun s v => .of_eq rfl, fun base _ _ => by
    have GF := ok_feed (P := l.prog) (w := w) (base := base) S Flaw_feed
    have GWd := ok_word (P := l.prog) (w := w) (base := base) S Flaw_word Dlaw_draw Dlaw_pick
    have GWs := ok_words (P := l.prog) (w := w) (base := base) S Flaw_words Dlaw_word GWd
    have GY := ok_ways (P := l.prog) (w := w) (base := base) S Flaw_ways Dlaw_draw Dlaw_pick
    have GS0 := ok_stInit (P := l.prog) (w := w) (base := base) S W Dis_name (PySem.W.mg_of X G w5) (PySem.W.mg_of X G w6) Dare_ways OS.cl gS_name gS_ways FiS
    have GPO := ok_pool9 (P := l.prog) (w := w) (base := base) S OS MS GS0 biS Dlaw_words GWs Dlaw_ways GY Flaw_step_pool
    have GM := ok_namedX (P := l.prog) (w := w) (base := base) S W Dis_name XM Fnamed
    have GAs := ok_asExprX (P := l.prog) (w := w) (base := base) S W OE kes Dis_name Dnamed GM Fas_expr
    have GPt := ok_partExX (P := l.prog) (w := w) (base := base) Das_expr GAs Fpart_expr
    have GAp := ok_appliedX (P := l.prog) (w := w) (base := base) S XM Fapplied
    have GLe := ok_lesserX (P := l.prog) (w := w) (base := base) S XM Flesser
    have GGr := ok_greaterX (P := l.prog) (w := w) (base := base) S XM Fgreater
    have GAn := ok_andX (P := l.prog) (w := w) (base := base) Dpart_expr GPt Dlesser GLe FaE
    have GRa := ok_randX (P := l.prog) (w := w) (base := base) Dpart_expr GPt Dlesser GLe FrE
    have GOr := ok_orX (P := l.prog) (w := w) (base := base) Dpart_expr GPt Dgreater GGr FoE
    have GRo := ok_rorX (P := l.prog) (w := w) (base := base) Dpart_expr GPt Dgreater GGr FpE
    have GC := ok_callX (P := l.prog) (w := w) (base := base) S OS gS_ways LS (PySem.W.mg_of X G w5) Dpart_expr GPt Dapplied GAp CM
    have GI := ok_chainI (P := l.prog) (w := w) (base := base) S OS gS_ways LS OC.cl gC_steps FiC
    have GCh := ok_chCallX (P := l.prog) (w := w) (base := base) S OC.cl gC_steps Dpart_expr GPt Dapplied GAp FcC
    have GPu := fun zs n => ok_putG (P := l.prog) (w := w) (base := base) (zs := zs) S OS gS_ways LS OB GAn GOr Dapplied GAp Fput_together n
    have GXa := fun zs => ok_readsG (P := l.prog) (w := w) (base := base) (zs := zs) S (PySem.W.mg_of X G w2) W Dword_end Dis_name Dnamed GM Dput_together (GPu zs) Dparts_at Dexpr_at
    have GRx := fun zs => ok_readG (P := l.prog) (w := w) (base := base) (zs := zs) S OS.cl gS_name Dexpr_at (GXa zs) Fread_expr
    have GEx := fun zs => ok_exprM (P := l.prog) (w := w) (base := base) (zs := zs) S OS gS_ways LS Dlaw_draw Dlaw_pick Dlaw_expr 4
    have GOt := fun zs => ok_other (P := l.prog) (w := w) (base := base) (zs := zs) S ST Dlaw_draw Dlaw_pick Dlaw_otherwise 4
    have GMd := fun zs => ok_madeX (P := l.prog) (w := w) (base := base) (zs := zs) S ST OP GAn GRa GOr GRo GC Dlaw_draw Dnamed GM Dlaw_made 4
    have GSo := fun zs => ok_sound (P := l.prog) (w := w) (base := base) (zs := zs) S EQ ST neE SE Dtext LE Dread_expr (GRx zs) Dlaw_same Dlaw_sound 8 (by decide)
    have GJo := ok_joined (P := l.prog) (w := w) (base := base) S hDict EQ ST Dlaw_same Dlaw_joined
    exact ok_law10 S ⟨EQ, ST, SE, Dtext⟩ OP GAn GOr GC MS GS0 biS CH GI GCh Dlaw_feed GF Dlaw_draw Dlaw_pick Dlaw_words GWs Dlaw_step_pool GPO Dlaw_expr GEx Dlaw_otherwise GOt Dlaw_made GMd Dlaw_sound GSo Dlaw_joined GJo Flaw⟩
theorem walk {l : PySem.W.OpenLaw} {q : Program} {loose : List Str} {XP : (Str → Option Value) → Heap → Prop} {YP : World → Heap → Prop} {d : DefRec} {K : Params → PySem.W.Frag} (hn : l.most = some 63) (hdf : d.params.defaults = [])
    (hY : ∀ (w : World) (h : Heap), YP w h → (K w.params).In h)
    (F : ∀ (w : World) (mg : Str → Option Value) (fa : Addr) (h : Heap), (K w.params).In h → h.Ns mainGlobals mg → mg d.name = some (.ref fa) →
      ∃ fd : FuncData, (∀ (s : Shared) (u : Value), BindsTo s fd ⟨[u], []⟩ [("_law_script", u)]) ∧ ∀ base : Heap, (K w.params).In base → base.Ns mainGlobals mg → FnOk l.prog w (K w.params) mg base CX0 47 fa fd ["_law_script"] (spLaw (K w.params))) :
    PySem.W.WalkO q loose XP YP l.row.toRowW d [] (fun f vs => PySem.call f vs) :=
  L2.walk_of (n := 63) (k := 47) (x := "_law_script") (CX := fun _ => CX0) (sp := fun w => spLaw (K w.params)) hn (by decide) hdf ⟨rfl, by decide, by decide⟩ hY F (fun _ _ a ns hl _ hS => ⟨a, ns, rfl, hS, hl, fun _ => rfl⟩) fun _ _ _ _ _ z => z
end LK

open PySem PySem.W PyProof.Rows
set_option maxHeartbeats 0
open_top head for PySem.Challenge.rw_knownways_k10_whole_expressions_and_thei
set_option maxRecDepth 100000 in
set_option maxHeartbeats 0 in
theorem PySem.Challenge.cw_knownways_k10_whole_expressions_and_thei_holds : PySem.Challenge.rw_knownways_k10_whole_expressions_and_thei.Holds := by
  refine head ?_
  k_fill
  refine LK.walk (l := PySem.Challenge.rw_knownways_k10_whole_expressions_and_thei) rfl rfl (fun w h Y => PySem.W.kIn_of Y) ?F
  case F =>
    intro w mg fa h KX G hmg
    refine' LK.all_mk KX G hmg ?b_len ?b_abs ?b_int ?b_range ?b_isinstance ?b_tuple ?b_list ?b_all ?b_zip ?b_bool ?b_str ?b_set ?b_sorted ?b_sum ?b_any ?b_enumerate ?b_dict ?alaw_feed ?llaw_feed ?claw_feed ?klaw_feed ?alaw_draw ?llaw_draw ?claw_draw ?klaw_draw ?alaw_pick ?llaw_pick ?claw_pick ?klaw_pick ?alaw_same ?llaw_same ?claw_same ?klaw_same ?alaw_word ?llaw_word ?claw_word ?klaw_word ?alaw_words ?llaw_words ?claw_words ?klaw_words ?alaw_ways ?llaw_ways ?claw_ways ?klaw_ways ?alaw_step_pool ?llaw_step_pool ?claw_step_pool ?klaw_step_pool ?alaw_expr ?llaw_expr ?claw_expr ?klaw_expr ?alaw_made ?llaw_made ?claw_made ?klaw_made ?alaw_otherwise ?llaw_otherwise ?claw_otherwise ?klaw_otherwise ?alaw_sound ?llaw_sound ?claw_sound ?klaw_sound ?alaw_joined ?llaw_joined ?claw_joined ?klaw_joined ?alaw ?llaw ?claw ?klaw ?ais_name ?lis_name ?cis_name ?kis_name ?anamed ?lnamed ?cnamed ?knamed ?aapplied ?lapplied ?capplied ?kapplied ?aas_expr ?las_expr ?cas_expr ?kas_expr ?apart_expr ?lpart_expr ?cpart_expr ?kpart_expr ?alesser ?llesser ?clesser ?klesser ?agreater ?lgreater ?cgreater ?kgreater ?atext ?ltext ?ctext ?ktext ?aread_expr ?lread_expr ?cread_expr ?kread_expr ?aexpr_at ?lexpr_at ?cexpr_at ?kexpr_at ?aword_end ?lword_end ?cword_end ?kword_end ?aparts_at ?lparts_at ?cparts_at ?kparts_at ?aput_together ?lput_together ?cput_together ?kput_together ?aare_ways ?lare_ways ?care_ways ?kare_ways ?aall_names ?lall_names ?call_names ?kall_names ?eall_names ?aall_steps ?lall_steps ?call_steps ?kall_steps ?eall_steps ?w1 ?w2 ?w3 ?w4 ?w5 ?w6 ?so ?tk ?gSa ?gS1 ?gS2 ?gS3 ?gS4 ?gS5 ?gS6 ?gSk0 ?gSk1 ?gSk2 ?gSk3 ?gS7 ?gS8 ?aiS ?niS ?liS ?ciS ?kiS ?aqS ?nqS ?lqS ?cqS ?kqS ?gS_name ?gS_ways ?gEa ?gE1 ?gE2 ?gE3 ?gE4 ?gE5 ?gE6 ?gEk0 ?gEk1 ?gEk2 ?gEk3 ?gE7 ?gE8 ?aiE ?niE ?liE ?ciE ?kiE ?aqE ?nqE ?lqE ?cqE ?kqE ?gE_kind ?gE_word ?gE_step ?gE_parts ?gE_names ?gE_steps ?gE_size ?gE_applied ?gCa ?gC1 ?gC2 ?gC3 ?gC4 ?gC5 ?gC6 ?gCk0 ?gCk1 ?gCk2 ?gCk3 ?gC7 ?gC8 ?aiC ?niC ?liC ?ciC ?kiC ?gC_steps ?alS ?nlS ?llS ?clS ?klS ?alE ?nlE ?llE ?clE ?klE ?asE ?nsE ?lsE ?csE ?ksE ?neE ?hne ?kes ?knS ?acS ?ncS ?icS ?lcS ?ccS ?kcS ?ecS ?aaE ?naE ?laE ?caE ?kaE ?arE ?nrE ?lrE ?crE ?krE ?aoE ?noE ?loE ?coE ?koE ?apE ?npE ?lpE ?cpE ?kpE ?sfE ?acC ?ncC ?lcC ?ccC ?kcC ?icC
    (case b_len => k_is)
    (case b_abs => k_is)
    (case b_int => k_is)
    (case b_range => k_is)
    (case b_isinstance => k_is)
    (case b_tuple => k_is)
    (case b_list => k_is)
    (case b_all => k_is)
    (case b_zip => k_is)
    (case b_bool => k_is)
    (case b_str => k_is)
    (case b_set => k_is)
    (case b_sorted => k_is)
    (case b_sum => k_is)
    (case b_any => k_is)
    (case b_enumerate => k_is)
    (case b_dict => k_is)
    (case alaw_feed => k_is)
    (case llaw_feed => k_is)
    (case claw_feed => k_is)
    (case klaw_feed => k_is)
    (case alaw_draw => k_is)
    (case llaw_draw => k_is)
    (case claw_draw => k_is)
    (case klaw_draw => k_is)
    (case alaw_pick => k_is)
    (case llaw_pick => k_is)
    (case claw_pick => k_is)
    (case klaw_pick => k_is)
    (case alaw_same => k_is)
    (case llaw_same => k_is)
    (case claw_same => k_is)
    (case klaw_same => k_is)
    (case alaw_word => k_is)
    (case llaw_word => k_is)
    (case claw_word => k_is)
    (case klaw_word => k_is)
    (case alaw_words => k_is)
    (case llaw_words => k_is)
    (case claw_words => k_is)
    (case klaw_words => k_is)
    (case alaw_ways => k_is)
    (case llaw_ways => k_is)
    (case claw_ways => k_is)
    (case klaw_ways => k_is)
    (case alaw_step_pool => k_is)
    (case llaw_step_pool => k_is)
    (case claw_step_pool => k_is)
    (case klaw_step_pool => k_is)
    (case alaw_expr => k_is)
    (case llaw_expr => k_is)
    (case claw_expr => k_is)
    (case klaw_expr => k_is)
    (case alaw_made => k_is)
    (case llaw_made => k_is)
    (case claw_made => k_is)
    (case klaw_made => k_is)
    (case alaw_otherwise => k_is)
    (case llaw_otherwise => k_is)
    (case claw_otherwise => k_is)
    (case klaw_otherwise => k_is)
    (case alaw_sound => k_is)
    (case llaw_sound => k_is)
    (case claw_sound => k_is)
    (case klaw_sound => k_is)
    (case alaw_joined => k_is)
    (case llaw_joined => k_is)
    (case claw_joined => k_is)
    (case klaw_joined => k_is)
    (case alaw => k_is)
    (case llaw => k_is)
    (case claw => k_is)
    (case klaw => k_is)
    (case ais_name => k_is)
    (case lis_name => k_is)
    (case cis_name => k_is)
    (case kis_name => k_is)
    (case anamed => k_is)
    (case lnamed => k_is)
    (case cnamed => k_is)
    (case knamed => k_is)
    (case aapplied => k_is)
    (case lapplied => k_is)
    (case capplied => k_is)
    (case kapplied => k_is)
    (case aas_expr => k_is)
    (case las_expr => k_is)
    (case cas_expr => k_is)
    (case kas_expr => k_is)
    (case apart_expr => k_is)
    (case lpart_expr => k_is)
    (case cpart_expr => k_is)
    (case kpart_expr => k_is)
    (case alesser => k_is)
    (case llesser => k_is)
    (case clesser => k_is)
    (case klesser => k_is)
    (case agreater => k_is)
    (case lgreater => k_is)
    (case cgreater => k_is)
    (case kgreater => k_is)
    (case atext => k_is)
    (case ltext => k_is)
    (case ctext => k_is)
    (case ktext => k_is)
    (case aread_expr => k_is)
    (case lread_expr => k_is)
    (case cread_expr => k_is)
    (case kread_expr => k_is)
    (case aexpr_at => k_is)
    (case lexpr_at => k_is)
    (case cexpr_at => k_is)
    (case kexpr_at => k_is)
    (case aword_end => k_is)
    (case lword_end => k_is)
    (case cword_end => k_is)
    (case kword_end => k_is)
    (case aparts_at => k_is)
    (case lparts_at => k_is)
    (case cparts_at => k_is)
    (case kparts_at => k_is)
    (case aput_together => k_is)
    (case lput_together => k_is)
    (case cput_together => k_is)
    (case kput_together => k_is)
    (case aare_ways => k_is)
    (case lare_ways => k_is)
    (case care_ways => k_is)
    (case kare_ways => k_is)
    (case aall_names => k_is)
    (case lall_names => k_is)
    (case call_names => k_is)
    (case kall_names => k_is)
    (case eall_names => k_is)
    (case aall_steps => k_is)
    (case lall_steps => k_is)
    (case call_steps => k_is)
    (case kall_steps => k_is)
    (case eall_steps => k_is)
    (case w1 => k_is)
    (case w2 => k_is)
    (case w3 => k_is)
    (case w4 => k_is)
    (case w5 => k_is)
    (case w6 => k_is)
    (case so => k_is)
    (case tk => k_is)
    (case gSa => k_is)
    (case gS1 => k_is)
    (case gS2 => k_is)
    (case gS3 => k_is)
    (case gS4 => k_is)
    (case gS5 => k_is)
    (case gS6 => k_is)
    (case gSk0 => kit_is)
    (case gSk1 => kit_is)
    (case gSk2 => kit_is)
    (case gSk3 => kit_is)
    (case gS7 => k_is)
    (case gS8 => k_is)
    (case aiS => k_is)
    (case niS => k_is)
    (case liS => k_is)
    (case ciS => k_is)
    (case kiS => k_is)
    (case aqS => k_is)
    (case nqS => k_is)
    (case lqS => k_is)
    (case cqS => k_is)
    (case kqS => k_is)
    (case gS_name => k_is)
    (case gS_ways => k_is)
    (case gEa => k_is)
    (case gE1 => k_is)
    (case gE2 => k_is)
    (case gE3 => k_is)
    (case gE4 => k_is)
    (case gE5 => k_is)
    (case gE6 => k_is)
    (case gEk0 => kit_is)
    (case gEk1 => kit_is)
    (case gEk2 => kit_is)
    (case gEk3 => kit_is)
    (case gE7 => k_is)
    (case gE8 => k_is)
    (case aiE => k_is)
    (case niE => k_is)
    (case liE => k_is)
    (case ciE => k_is)
    (case kiE => k_is)
    (case aqE => k_is)
    (case nqE => k_is)
    (case lqE => k_is)
    (case cqE => k_is)
    (case kqE => k_is)
    (case gE_kind => k_is)
    (case gE_word => k_is)
    (case gE_step => k_is)
    (case gE_parts => k_is)
    (case gE_names => k_is)
    (case gE_steps => k_is)
    (case gE_size => k_is)
    (case gE_applied => k_is)
    (case gCa => k_is)
    (case gC1 => k_is)
    (case gC2 => k_is)
    (case gC3 => k_is)
    (case gC4 => k_is)
    (case gC5 => k_is)
    (case gC6 => k_is)
    (case gCk0 => kit_is)
    (case gCk1 => kit_is)
    (case gCk2 => kit_is)
    (case gCk3 => kit_is)
    (case gC7 => k_is)
    (case gC8 => k_is)
    (case aiC => k_is)
    (case niC => k_is)
    (case liC => k_is)
    (case ciC => k_is)
    (case kiC => k_is)
    (case gC_steps => k_is)
    (case alS => k_is)
    (case nlS => k_is)
    (case llS => k_is)
    (case clS => k_is)
    (case klS => k_is)
    (case alE => k_is)
    (case nlE => k_is)
    (case llE => k_is)
    (case clE => k_is)
    (case klE => k_is)
    (case asE => k_is)
    (case nsE => k_is)
    (case lsE => k_is)
    (case csE => k_is)
    (case ksE => k_is)
    (case neE => k_is)
    (case hne => decide)
    (case kes => kit_is)
    (case knS => kit_is)
    (case acS => k_is)
    (case ncS => k_is)
    (case icS => k_is)
    (case lcS => k_is)
    (case ccS => k_is)
    (case kcS => k_is)
    (case ecS => k_is)
    (case aaE => k_is)
    (case naE => k_is)
    (case laE => k_is)
    (case caE => k_is)
    (case kaE => k_is)
    (case arE => k_is)
    (case nrE => k_is)
    (case lrE => k_is)
    (case crE => k_is)
    (case krE => k_is)
    (case aoE => k_is)
    (case noE => k_is)
    (case loE => k_is)
    (case coE => k_is)
    (case koE => k_is)
    (case apE => k_is)
    (case npE => k_is)
    (case lpE => k_is)
    (case cpE => k_is)
    (case kpE => k_is)
    (case sfE => k_is)
    (case acC => k_is)
    (case ncC => k_is)
    (case lcC => k_is)
    (case ccC => k_is)
    (case kcC => k_is)
    (case icC => k_is)
