import PyProof.Rows.All
import Wide.All
import OpenK.AllK
import Wide.FinOn
import HandS.ForMost
import HandS.Iter
import HandS.Comp
import HandS.DictComp
import HandS.DictTup
import HandS.Conv
import KE.KSortTupG
import KE.KSortTupUse
import KE.KDictSum
import HandS.Keys
import HandS.Base
import HandS.Call
import HandS.List
import HandS.Ends
import HandS.Dict
import HandS.Text
import HandS.Words
import HandS.WordsList
import KE.KSortTupAny
import PyProof.Rows.StrMeet
import PyProof.Rows.TmSorted
import HandS.OwnEq
import HandS.Star
import HandS.IsInst
import HandS.More
import HandS.ExcInit
import HandS.ExcField
import HandS.ExcIs
import KE.KExcIs
import KE.KExcMake
import HandS.Set
import HandS.SetFor
import HandS.Strs
import HandS.Zip
import HandS.TupAny
import HandS.Sort
import PyProof.ListCopy
import HandS.Defaults
import HandS.Style
import HandS.ClsMeth
import PyProof.EnumIter
import HandS.Hot
import HandS.HotCalls
import HandS.WordsExc
import HandS.ExcCtx
import HandS.ListEq
import HandS.ExcOwn
import HandS.TupMul
import KE.KRevSl
import KE.KCallOwn
import HandS.FStr
import HandS.RaiseMore
import HandS.SuiteRaise
import HandS.TryMany
import KE.KFmtOwn
import OpenK.KMeth
import PyProof.SeqRoads
import KE.RegKIsAll
import KE.RegKTryMore
import PySem.Challenge.RW_knownways_k14_rows_refused
set_option Elab.async false
set_option linter.all false
set_option maxRecDepth 100000
set_option maxHeartbeats 4000000
/-! a dict that is made by a comprehension, its keys tuples -/
namespace LR
open PySem PySem.Spec PyProof.Rows L2
section
variable {X : Cx} {kx vx tg iter : Expr} {ifs : List Expr} {scope : Scope} {own : List (Str × Nat)} {pos : Pos} {wi : TI} {g : TG} {tt : TT} {tk tv : TE}
/-- the new pair goes into the dict at D -/
def PutT (D : Addr) (y z : V) (Nx : Hp → Prop) (H : Hp) : Prop :=
  ∃ kvs k b, y = V.ref b ∧ H b = some (.tup (k.map kV)) ∧ H D = some (.dT kvs) ∧ kvs.length < sizeLine ∧ Nx (upd H D (.dT (putK kvs k z)))
/-- the turn's end, by what the tests say -/
def RowT (D : Addr) (tt : TT) (tk tv : TE) (Nx : Hp → Prop) : L2.St → Hp → Prop := fun σ H =>
  tt σ H fun b H3 => if b = true then tk σ H3 fun y H4 => tv σ H4 fun z H5 => PutT D y z Nx H5 else Nx H3
def tDcT (wi : TI) (g : TG) (tt : TT) (tk tv : TE) (vs : List Nat) : TE := fun σ H Q => wi σ H fun J H1 => ∀ D, H1 D = none →
  ∃ W : Nat → Nat → Hp → Prop, (∃ m, W 0 m (upd H1 D (.dT []))) ∧ ∀ i m H, W i m H → (J.stop i H ∧ Q (.ref D) H) ∨
    (J.go i H ∧ ∃ Nx : Hp → Prop, (∀ H', Nx H' → ∃ m', m' < m ∧ W (i + 1) m' H') ∧ ∀ x H', J.yld i H x H' → g x (wipe σ vs) H' fun σ2 H2 => wipe σ2 vs = wipe σ vs ∧ RowT D tt tk tv Nx σ2 H2)
/-- the store of one pair -/
theorem put_ok {B : Cx} {pins : List (Addr × Obj)} {σ : L2.St} {H : Hp} {s : Shared} {D : Addr} {y z : V} {u r : Value} {Nx : Hp → Prop} {E : Value → Shared → Prop} {Q : Unit → Shared → Prop} (hu : B.A.units < cLine)
    (I : Inv B pins σ H s) (ry : RelV y u) (rz : RelV z r) (p : PutT D y z Nx H) (h : ∀ s' H', Inv B pins σ H' s' → Nx H' → Q () s') : wpAny (model B.prog B.w) B.A (dictSet D u r) Q E s := by
  obtain ⟨kvs, k, b, rfl, hb, hD, few, nx⟩ := p
  cases (show u = Value.ref b from ry)
  obtain ⟨z1, z2, xs, rel, dd⟩ := dt_of I.hok hD
  have fits : xs.length ≤ sizeLine := by
    rw [← Paired.length rel]
    exact z1
  have more := length_putK kvs k z
  refine wpAny_dictSet_heap (hsz := fits) (show (tupleKind (mixKind B.prog B.w)).room B.A from hu) (key_of I.hok hb) dd fun h' now same => h _ _ ?_ nx
  obtain ⟨q, es, ep, a1, a2, a3, a4, _, a5⟩ := now
  refine d_write I (by rw [hD]; exact True.intro) same ⟨q, a1⟩ ⟨by omega, z2, _, (rel.put k hb rz).keeps fun c ys at_c => ?_, q, es, ep, a1, a2, a3, a4, a5⟩
  have away : c ≠ D := ne_of at_c hD fun z => nomatch z
  rw [upd_ne away]
  exact at_c
/-- {kx: vx for tg in iter if ..}, the keys tuples -/
theorem pe_dcT (calm : X.calm = true) (hu : X.A.units < cLine) (nd : X.N.Nodup) (pi : PI X tg iter wi) (ok : BlkOk X.N X.env.scope scope own)
    (pg : ∀ (s : Shared) (H : Hp) (C : Addr) (cl : List (Str × Addr)) (fp : List Addr), PG (X.blk s H scope (compEnvC scope cl C X.env) fp) tg g)
    (pt : ∀ (s : Shared) (H : Hp) (C : Addr) (cl : List (Str × Addr)) (fp : List Addr), PTs (X.blk s H scope (compEnvC scope cl C X.env) fp) ifs tt)
    (pk : ∀ (s : Shared) (H : Hp) (C : Addr) (cl : List (Str × Addr)) (fp : List Addr), PE (X.blk s H scope (compEnvC scope cl C X.env) fp) kx tk)
    (pv : ∀ (s : Shared) (H : Hp) (C : Addr) (cl : List (Str × Addr)) (fp : List Addr), PE (X.blk s H scope (compEnvC scope cl C X.env) fp) vx tv)
    (fold : ∀ x, foldedSetIterable iter X.env x = pure x := by intro _; rfl) :
    PE X (.DictComp kx vx [⟨tg, iter, ifs, 0⟩] scope pos) (tDcT wi g tt tk tv (own.map (·.2))) := by
  refine ⟨fun pins s σ H Q I h => ?_⟩
  rw [arm_eval_DictComp]
  have cells : ∀ y ∈ scope.names, y.2 = .free → ∃ c, X.env.cells.lookup y.1 = some c := fun y hy z => (ok.free y hy z).elim (fun k => I.ok.has _ (.inl k)) fun k => I.ok.has _ (.inr k)
  refine wpAny_comprehension_free (use := none) rfl fold (closure_ok cells) ok.kind (fun y hy z => by rw [ok.uniq y hy, z]) (thn (pi.run pins s σ H _ I h) fun v1 s1 b1 => thn b1 fun v2 s2 b2 => ?_)
  obtain ⟨it, fp, tn, J, H2, rfl, I2, T, at0, off, q⟩ := b2
  refine wpAny_newObj_type (newEnv_comp ?_)
  have freshD : H2 s2.heap.objs.size = none := I2.hok.fresh (Nat.le_refl _)
  obtain ⟨W, ⟨m0, w0⟩, turn⟩ := q s2.heap.objs.size freshD
  have low : ∀ b, b ∈ fp → b < s2.heap.objs.size := fun b hb => by
    obtain ⟨o, z, _⟩ := T.obj _ _ at0 b hb
    exact Heap.lt_size z
  have I3 := I2.laid (t' := s2.toks) (fun b o z => Heap.get?_push_of_some _ z) (Nat.le_refl _) (dt_empty (P := X.prog) (w := X.w) (H := upd H2 s2.heap.objs.size (.dT [])) s2.heap I2.big)
  generalize e3 : ({ s2 with heap := s2.heap.push { cls := .type "dict", data := .dict #[] } } : Shared) = s3
  rw [show ({ s2 with heap := s2.heap.push { cls := .type "dict", data := .dict #[] }, toks := s2.toks } : Shared) = s3 from e3] at I3
  have push3 : ∀ {b : Addr} {o : Obj}, s2.heap.get? b = some o → s3.heap.get? b = some o := fun {b o} z => by
    rw [← e3]
    exact Heap.get?_push_of_some _ z
  have size3 : s3.heap.objs.size = s2.heap.objs.size + 1 := by
    rw [← e3]
    exact Heap.size_push _ _
  generalize eD : s2.heap.objs.size = D at freshD w0 turn low I3 size3 ⊢
  have off3 : ∀ b, b ∈ fp → FpOk X pins (upd H2 D (.dT [])) b ∧ b < s3.heap.objs.size := fun b hb => by
    obtain ⟨f0, f1⟩ := off b hb
    have lb := low b hb
    exact ⟨⟨by rw [upd_ne (Nat.ne_of_lt lb)]; exact f0, f1⟩, by rw [size3]; exact Nat.lt_succ_of_lt lb⟩
  have J0 := block_start I3 ok nd off3
  have pg' := pg s3 (upd H2 D (.dT [])) s3.heap.objs.size (cellsFrom (s3.heap.objs.size + 1) scope.names (cloFrom X.env.cells scope.names [])) fp
  have pt' := pt s3 (upd H2 D (.dT [])) s3.heap.objs.size (cellsFrom (s3.heap.objs.size + 1) scope.names (cloFrom X.env.cells scope.names [])) fp
  have pk' := pk s3 (upd H2 D (.dT [])) s3.heap.objs.size (cellsFrom (s3.heap.objs.size + 1) scope.names (cloFrom X.env.cells scope.names [])) fp
  have pv' := pv s3 (upd H2 D (.dT [])) s3.heap.objs.size (cellsFrom (s3.heap.objs.size + 1) scope.names (cloFrom X.env.cells scope.names [])) fp
  change codeAny _ _ (.compStart (.DictComp kx vx [⟨tg, iter, ifs, 0⟩] scope pos) 0 (.ref it) (.ref D)
    (compEnvC scope (cellsFrom (s3.heap.objs.size + 1) scope.names (cloFrom X.env.cells scope.names [])) s3.heap.objs.size X.env))
    (compPost (model X.prog X.w) X.A X.xe none (EP X pins σ Q) (.ref D) s3.heap.objs.size)
    { s3 with heap := pushCells (s3.heap.push { cls := .type "dict", data := .dict #[] }) scope.names }
  have locs : (compEnvC scope (cellsFrom (s3.heap.objs.size + 1) scope.names (cloFrom X.env.cells scope.names [])) s3.heap.objs.size X.env).locals = s3.heap.objs.size := rfl
  generalize compEnvC scope (cellsFrom (s3.heap.objs.size + 1) scope.names (cloFrom X.env.cells scope.names [])) s3.heap.objs.size X.env = ce at J0 pg' pt' pk' pv' locs ⊢
  generalize e4 : ({ s3 with heap := pushCells (s3.heap.push { cls := .type "dict", data := .dict #[] }) scope.names } : Shared) = s4 at J0 ⊢
  have at4 : tn 0 s4.heap := T.keep _ _ _ at0 fun b _ o z => by
    rw [← e4]
    exact pushCells_keeps _ _ _ _ (Heap.get?_push_of_some _ (push3 z))
  generalize upd H2 D (.dT []) = H3 at I3 off3 J0 pg' pt' pk' pv' w0 ⊢
  -- seen from the block the walker's things are no one's
  have offB : ∀ {σ' : L2.St} {H' : Hp} {s' : Shared}, Inv (X.blk s3 H3 scope ce fp) [] σ' H' s' → (∀ b, b ∈ fp → H' b = none) → ∀ b, b ∈ fp → FpOk (X.blk s3 H3 scope ce fp) [] H' b := fun J free b hb => by
    obtain ⟨z1, z2⟩ := J.ok.exf b hb
    refine ⟨free b hb, z1, J.ok.exfs b hb, .inl hb, z2, fun r hr => ?_⟩
    simp at hr
  have loop : codeAny (model X.prog X.w) X.A (.compLoop (.DictComp kx vx [⟨tg, iter, ifs, 0⟩] scope pos) 0 (.ref it) (.ref D) ce) (compPost (model X.prog X.w) X.A X.xe none (EP X pins σ Q) (.ref D) s3.heap.objs.size) s4 := by
    refine compLoop_anyD (fun n s' => ∃ i H', Inv (X.blk s3 H3 scope ce fp) [] (wipe σ (own.map (·.2))) H' s' ∧ tn i s'.heap ∧ (∀ b, b ∈ fp → H' b = none) ∧ W i n H') (fun n s5 inv => ?_) m0 ⟨0, H3, J0, at4, fun b hb => (off3 b hb).1.1, w0⟩
    obtain ⟨i, H5, J5, at5, free5, w5⟩ := inv
    rcases turn i n H5 w5 with ⟨stop, done⟩ | ⟨go, Nx, again, step⟩
    · refine thnF (T.done (X.blk s3 H3 scope ce fp) rfl rfl rfl calm i [] s5 _ H5 (fun _ _ => False) J5 (offB J5 free5) at5 stop) fun r s6 r6 => ?_
      obtain ⟨rfl, J6⟩ := r6
      have I7 : Inv X pins σ H5 s6 := I3.call' (ch := fp) J6.os J6.base J6.hok J6.bare fun b hb => by
        obtain ⟨_, o1, _, o3, o4, o5⟩ := (off3 b hb).1
        exact ⟨o3, o1, o4, o5⟩
      have noC : H5 s3.heap.objs.size = none := by
        have z : H5 ce.locals = none := J6.free
        rwa [locs] at z
      obtain ⟨m, ns, _⟩ := J6.loc
      have ns' : s6.heap.Ns ce.locals m := ns
      rw [locs] at ns'
      obtain ⟨c0, c1, _, c3, c4, c5⟩ := I3.fpOk (Nat.le_refl _) noC
      exact ⟨m, ns', fun h2 but => ⟨.ref D, H5, I7.turned (t' := s6.toks) (fun b o nb z => (but.2 b nb).trans z) c0 c1 c3 c4 c5, rfl, done⟩⟩
    · refine thnF (T.item (X.blk s3 H3 scope ce fp) rfl rfl rfl calm i [] s5 _ H5 (fun _ _ => False) J5 (offB J5 free5) at5 go) fun r s6 r6 => ?_
      obtain ⟨u, rfl, own6⟩ := r6
      refine thnF own6 fun _ s7 r7 => ?_
      obtain ⟨x, H7, J7, rx, yl, at7, free7⟩ := r7
      have P7 := J7.pinned (offB J7 free7) (T.obj _ _ at7)
      refine thnF (pg'.run _ s7 _ H7 x u _ P7 rx (step x H7 yl)) fun _ s8 r8 => ?_
      obtain ⟨σ8, H8, J8, w8, q8⟩ := r8
      refine thnF (pt'.run _ s8 σ8 H8 _ J8 q8) fun b s9 r9 => ?_
      obtain ⟨H9, J9, q9⟩ := r9
      have close : ∀ {s' : Shared} {H' : Hp}, Inv (X.blk s3 H3 scope ce fp) ([] ++ pinsAt fp s7.heap) σ8 H' s' → Nx H' → ∃ m, m < n ∧ ∃ i H', Inv (X.blk s3 H3 scope ce fp) [] (wipe σ (own.map (·.2))) H' s' ∧ tn i s'.heap ∧ (∀ b, b ∈ fp → H' b = none) ∧ W i m H' := fun {s' H'} J' nx => by
        obtain ⟨m', lt, w'⟩ := again H' nx
        have kept : ∀ b, b ∈ fp → ∀ o, s7.heap.get? b = some o → s'.heap.get? b = some o ∧ H' b = none := fun b hb o z => by
          have r := J'.pin (b, o) (List.mem_append_right _ (List.mem_append_right _ (mem_pinsAt hb z)))
          exact ⟨r.1, r.2.1⟩
        refine ⟨m', lt, i + 1, H', (J'.unpinned (pins := [])).weak (by rw [← w8, wipe_length]) (fun j v z => (wipe_some (by rwa [← w8] at z)).1), T.keep _ _ _ at7 fun b hb o z => (kept b hb o z).1, fun b hb => ?_, w'⟩
        obtain ⟨o, z, _⟩ := T.obj _ _ at7 b hb
        exact (kept b hb o z).2
      cases b with
      | false => exact close J9 (by simpa using q9)
      | true =>
        rw [if_pos rfl] at q9 ⊢
        refine thnF (pk'.run _ s9 σ8 H9 _ J9 q9) fun z s10 r10 => ?_
        obtain ⟨yk, H10, J10, rk, q10⟩ := r10
        refine thnF (pv'.run _ s10 σ8 H10 _ J10 q10) fun z2 s11 r11 => ?_
        obtain ⟨yv, H11, J11, rv, q11⟩ := r11
        exact put_ok (B := X.blk s3 H3 scope ce fp) hu J11 rk rv q11 fun s12 H12 J12 nx => close J12 nx
  exact codeAny_compStart_dict loop (T.self X.A 0 _ _ _ at4 loop)
end
end LR

/-! sorted(found), found a dict whose keys are pairs of texts -/
namespace LR
open PySem PySem.Spec PyProof.Rows L2
/-- a pair of texts as a key, as items of a sort, its order -/
def kT (e : Str × Str) : List Key := [.inr e.1, .inr e.2]
def kL (e : Str × Str) : List (Int ⊕ List Nat) := [.inr e.1.cps.toList, .inr e.2.cps.toList]
def upT (a b : Str × Str) : Prop := lexLt itemOrd (kL b) (kL a) = false
abbrev ent2 (e : (Str × Str) × V) : List Key × V := (kT e.1, e.2)
abbrev Kp := (Str × Str) × Addr
def PairAt (H : Hp) (z : Kp) : Prop := H z.2 = some (.tup [.str z.1.1, .str z.1.2])
theorem kps_of {H : Hp} : ∀ {es : List ((Str × Str) × V)} {xs : List (List Key × Addr × Value)}, KT H (es.map ent2) xs →
    ∃ zs : List Kp, zs.map (·.1) = es.map (·.1) ∧ zs.map (·.2) = xs.map (fun x => x.2.1) ∧ ∀ z ∈ zs, PairAt H z
  | [], _, r => by
    cases r
    exact ⟨[], rfl, rfl, fun _ h => nomatch h⟩
  | e :: es, xs, r => by
    cases r with
    | @cons _ q _ ys h t =>
      obtain ⟨zs, a, b, c⟩ := kps_of t
      refine ⟨(e.1, q.2.1) :: zs, by rw [List.map_cons, List.map_cons, a], by rw [List.map_cons, List.map_cons, b], fun z hz => ?_⟩
      rcases List.mem_cons.mp hz with rfl | hz
      · exact h.2.1
      · exact c z hz
section
variable {P : Program} {w : World} {H : Hp} {h : Heap}
/-- a pair of texts laid out -/
theorem pair_obj {z : Kp} (ok : HOk P w H h) (p : PairAt H z) : ∃ t u, IsTup h z.2 #[.str z.1.1 t, .str z.1.2 u] := by
  obtain ⟨_, its, rv, it⟩ := (show ObjOk P w H h z.2 (.tup [.str z.1.1, .str z.1.2]) from ok _ _ p)
  cases rv with
  | cons r1 r2 =>
    cases r2 with
    | cons r3 r4 =>
      cases r4
      obtain ⟨t, rfl⟩ := r1
      obtain ⟨u, rfl⟩ := r3
      exact ⟨t, u, it⟩
abbrev allS : Nat → Bool := fun _ => true
theorem pair_key {z : Kp} {t u : Tok} (x : IsTup h z.2 #[.str z.1.1 t, .str z.1.2 u]) : G.tupKeyC h allS (.ref z.2) = some (kL z.1) := by
  obtain ⟨o, ho, hc, n, hd⟩ := x
  exact G.tupKeyC_of ho hc hd (by simp [tupItems, allS, kL])
theorem pair_first {z : Kp} {t u : Tok} (x : IsTup h z.2 #[.str z.1.1 t, .str z.1.2 u]) : TupOf h allS (.ref z.2) (.str z.1.1 t) := by
  obtain ⟨o, ho, hc, n, hd⟩ := x
  exact ⟨_, o, _, n, rfl, ho, hc, hd, rfl, ⟨(fun e => nomatch e), fun _ => ⟨_, _, rfl⟩⟩⟩
theorem pairs_first : ∀ zs : List Kp, (∀ z ∈ zs, ∃ t u, IsTup h z.2 #[.str z.1.1 t, .str z.1.2 u]) → ∃ fs, TupsOf h allS (zs.map fun z => Value.ref z.2) fs
  | [], _ => ⟨[], .nil⟩
  | z :: zs, x => by
    obtain ⟨fs, f⟩ := pairs_first zs fun y hy => x y (List.mem_cons_of_mem _ hy)
    obtain ⟨t, u, it⟩ := x z List.mem_cons_self
    exact ⟨_, .cons (pair_first it) f⟩
end
theorem zip_twice {α : Type} (f : α → Value) : ∀ l : List α, (l.map f).zip (l.map f) = l.map fun x => (f x, f x)
  | [] => rfl
  | x :: l => by
    show (f x, f x) :: (l.map f).zip (l.map f) = _
    rw [zip_twice f l]
    rfl
/-- what the sort made of the pairs -/
theorem pairs_out {h : Heap} {zs : List Kp} {arr : Array Keyed} (x : ∀ z ∈ zs, G.tupKeyC h allS (.ref z.2) = some (kL z.1)) (pm : arr.Perm (pairsOf (zs.map fun z => Value.ref z.2)))
    (up : SortedToK (G.tupKindC h allS) arr (pairsOf (zs.map fun z => Value.ref z.2)).size) : ∃ ys : List Kp, ys.Perm zs ∧ (arr.map (·.2)).toList = ys.map (fun z => Value.ref z.2) ∧ ys.Pairwise fun a b => upT a.1 b.1 := by
  have pl : arr.toList.Perm (zs.map fun z => (Value.ref z.2, Value.ref z.2)) := by
    have q := Array.perm_iff_toList_perm.mp pm
    rw [pairsOf_toList, zip_twice] at q
    exact q
  obtain ⟨ys, py, ey⟩ := perm_lift (fun z : Kp => (Value.ref z.2, Value.ref z.2)) pl zs rfl
  have size : (pairsOf (zs.map fun z => Value.ref z.2)).size = ys.length := by rw [pairsOf_size, List.length_map, py.length_eq]
  have at_ : ∀ (i : Nat) (y : Kp), ys[i]? = some y → KK (G.tupKindC h allS) arr i = kL y.1 := by
    intro i y hy
    have q : arr[i]? = some (Value.ref y.2, Value.ref y.2) := by
      rw [← Array.getElem?_toList, ← ey, List.getElem?_map, hy]
      rfl
    unfold KK
    rw [q]
    show ((G.tupKeyC h allS (.ref y.2)).getD _) = _
    rw [x y (py.mem_iff.mp (List.mem_of_getElem? hy))]
    rfl
  refine ⟨ys, py, ?_, ?_⟩
  · rw [Array.toList_map, ← ey, List.map_map]
    rfl
  · rw [List.pairwise_iff_getElem]
    intro i j hi hj lt
    have q := up i j (Nat.le_of_lt lt) (by rw [size]; exact hj)
    rw [at_ i ys[i] (List.getElem?_eq_getElem hi), at_ j ys[j] (List.getElem?_eq_getElem hj)] at q
    exact q
section
variable {P : Program} {w : World} {A : Around} {E : Value → Shared → Prop} {s : Shared} {T : String} {r d : Addr} {n : Nat} {It1 : Nat → Value → Prop} {OK : Heap → Prop}
/-- the things of a source, one after another, and that the heap grew -/
theorem collect_src {R : List Value → Shared → Prop} (src : PySem.W.KdlSrc P w T r d n It1 OK) (quiet : A.handled = none) (here : OK s.heap) (few : n ≤ sizeLine)
    (k : ∀ (h' : Heap) (tk : Nat) (acc : Array Value), (∀ b o, s.heap.get? b = some o → h'.get? b = some o) → s.heap.objs.size ≤ h'.objs.size → ItemsOf It1 acc n → R acc.toList { s with heap := h', toks := tk }) :
    wpAny (model P w) A (collect (.ref r)) R E s := by
  obtain ⟨lr, ld⟩ := src.there _ here
  let End : Result → Shared → Prop := fun q t => ∃ h' tk acc c, q = .ok (.ret (.ref s.heap.objs.size)) ∧ t = { s with heap := h', toks := tk } ∧ (∀ b o, s.heap.get? b = some o → h'.get? b = some o) ∧
    h'.get? s.heap.objs.size = some { cls := .type "list", dict := none, data := .seq acc c, slots := #[] } ∧ ItemsOf It1 acc n
  have fin : ∀ h' tk acc c, (∀ b o, s.heap.get? b = some o → h'.get? b = some o) → h'.get? s.heap.objs.size = some { cls := .type "list", dict := none, data := .seq acc c, slots := #[] } → ItemsOf It1 acc n →
      wpAny (model P w) A (load s.heap.objs.size >>= fun o => match o.data with | .seq xs _ => pure xs.toList | _ => unsupported "internal:collect") R E { s with heap := h', toks := tk } := by
    intro h' tk acc c a1 a2 a3
    refine wpAny_bind (wpAny_load a2 ?_)
    exact wpAny_pure (k h' tk acc a1 (Nat.le_of_lt (Heap.lt_size a2)) a3)
  unfold collect
  refine wpAny_bind (wpAny_runValue (codeAny_builtin entry_proto_collect' ?_))
  rw [Around.under_plainId PySem.F.plain_proto_collect _]
  change wpAny _ A.in1 (newList [] >>= fun l => again (.builtin "list.__iadd__" ⟨[l, .ref r], []⟩)) _ _ s
  refine wpAny_bind (wpAny_newObj_type (wpAny_pure ⟨plainId_quiet PySem.F.plain_list_iadd _, codeAny_builtin entry_list_iadd' ?_⟩))
  rw [Around.under_plainId PySem.F.plain_list_iadd _]
  have new : (s.heap.push { cls := .type "list", data := .seq ([] : List Value).toArray }).get? s.heap.objs.size = some { cls := .type "list", data := .seq #[] } := Heap.get?_push_size _ rfl
  change wpAny _ A.in1 (Builtin.List.listExtendWith (.ref s.heap.objs.size) (.ref r) (.ref s.heap.objs.size)) _ _ _
  have run := PySem.W.kdl_extend (A := A) (R := End) (s := { s with heap := s.heap.push { cls := .type "list", data := .seq ([] : List Value).toArray } }) src quiet (src.keep _ _ here fun b _ o z => Heap.get?_push_of_some _ z)
    s.heap.objs.size (Nat.ne_of_gt lr) (Nat.ne_of_gt ld) (.ref s.heap.objs.size) 0 new (fun h' tk acc c stay at_s items => ⟨h', tk, acc, c, rfl, rfl, fun b o z => stay b o (Nat.ne_of_lt (Heap.lt_size z)) (Heap.get?_push_of_some _ z), at_s, items⟩) few
  refine wpAny_mono run (fun f t x => ?_) fun e t x => ?_
  · cases f with
    | done y =>
      obtain ⟨h', tk, acc, c, q, rfl, a1, a2, a3⟩ := x
      cases q
      exact fin h' tk acc c a1 a2 a3
    | again c1 =>
      obtain ⟨quiet1, x⟩ := x
      refine ⟨quiet1, codeAny_mono x fun y t2 x2 => ?_⟩
      obtain ⟨h', tk, acc, c, rfl, rfl, a1, a2, a3⟩ := x2
      exact fin h' tk acc c a1 a2 a3
  · obtain ⟨_, _, _, _, z, _⟩ := x
    cases z
end
section
variable {X : Cx}
theorem keys_out {P : Program} {w : World} {es : Array DictEntry} {ks : List (List Key × Addr × Value)} {acc : Array Value} (he : es.toList = ks.map (entryOfKey (tupleKind (mixKind P w))))
    (it : ItemsOf (fun i v => ∃ en : DictEntry, es[i]? = some en ∧ v = en.key) acc es.size) : acc.toList = (ks.map fun x => x.2.1).map Value.ref := by
  have few : es.size = ks.length := size_of_entries he
  refine List.ext_getElem? fun j => ?_
  rw [List.map_map, List.getElem?_map]
  by_cases lt : j < ks.length
  · have la : j < acc.size := by
      have := it.1
      omega
    obtain ⟨en, e1, e2⟩ := it.2 j acc[j] (Array.getElem?_eq_getElem la)
    have q := entry_at he j
    rw [e1, List.getElem?_eq_getElem lt] at q
    rw [Array.getElem?_toList, Array.getElem?_eq_getElem la, e2, Option.some.inj q, List.getElem?_eq_getElem lt]
    rfl
  · rw [List.getElem?_eq_none (by have := it.1; rw [Array.length_toList]; omega), List.getElem?_eq_none (by omega)]
    rfl
theorem cr_sortedDT (calm : X.calm = true) : CallR X (.builtin "sorted") (fun vs H Q => ∃ (a : Addr) (es : List ((Str × Str) × V)), vs = [V.ref a] ∧ H a = some (.dT (es.map ent2)) ∧
    ∀ (zs : List Kp) (p : Addr), (zs.map (·.1)).Perm (es.map (·.1)) → (zs.Pairwise fun x y => upT x.1 y.1) → (∀ z ∈ zs, PairAt H z) → H p = none → Q (.ref p) (upd H p (.lst (zs.map fun z => V.ref z.2)))) := by
  intro pins s σ H vs us Q I r h
  obtain ⟨a, es, rfl, ha, q⟩ := h
  rw [Vals.ref1 r]
  obtain ⟨z1, z2, ks, rel, o, ents, ep, ho, hx, hd, he, _, _⟩ := dt_of I.hok ha
  obtain ⟨zs, k1, k2, k3⟩ := kps_of rel
  have l1 : (es.map ent2).length = ks.length := Paired.length rel
  have l2 : zs.length = ks.length := by
    have := congrArg List.length k2
    simpa using this
  have l3 : ents.size = ks.length := size_of_entries he
  refine Calls.call_function_entry kind_sorted plain_sorted entry_sorted (args_sorted1 _) ?_
  unfold Builtin.«sorted»
  refine wpAny_bind (m := checkCount "sorted" 1 1 _) (wpAny_pure (wpAny_bind (collect_src (A := X.A.in1) (kdl_raw z2 hx hd) (I.ok.hd calm) ho (by omega) fun h' tk acc keep old it => ?_)))
  have ev : acc.toList = zs.map fun z => Value.ref z.2 := by
    rw [keys_out he it, ← k2, List.map_map]
    rfl
  rw [ev]
  refine wpAny_bind (wpAny_newList ?_ (by rw [List.length_map]; omega))
  generalize e2 : h'.push { cls := .type "list", data := .seq (zs.map fun z => Value.ref z.2).toArray } = h2
  have hoL : h2.get? h'.objs.size = some (seqObj "list" (zs.map fun z => Value.ref z.2).toArray 0) := by
    rw [← e2]
    exact Heap.get?_push_size _ rfl
  have up2 : ∀ b u, s.heap.get? b = some u → h2.get? b = some u := fun b u z => by
    rw [← e2]
    exact Heap.get?_push_of_some _ (keep b u z)
  have lay : ∀ z ∈ zs, ∃ t u, IsTup h2 z.2 #[.str z.1.1 t, .str z.1.2 u] := fun z hz => by
    obtain ⟨t, u, x⟩ := pair_obj I.hok (k3 z hz)
    exact ⟨t, u, x.keeps up2⟩
  obtain ⟨fs, hf⟩ := pairs_first zs lay
  have keyed : ∀ z ∈ zs, G.tupKeyC h2 allS (.ref z.2) = some (kL z.1) := fun z hz => by
    obtain ⟨t, u, x⟩ := lay z hz
    exact pair_key x
  refine wpAny_bind (wpAny_holding (wpAny_call_entry slot_list_sort ⟨_, hoL, rfl⟩ entry_list_sort (G.list_sort_tups (s := { s with heap := h2, toks := tk }) hoL hf (fun v hv => ?_) (by rw [List.length_map]; omega) fun st pm up _ => ⟨_, rfl, ?_⟩) (args_list_sort _)))
  · obtain ⟨z, hz, rfl⟩ := List.mem_map.mp hv
    exact ⟨_, keyed z hz⟩
  · obtain ⟨ys, y1, y2, y3⟩ := pairs_out keyed pm up
    obtain ⟨c, hc⟩ := sortedHeap_at (vs := zs.map fun z => Value.ref z.2) (out := (arrOf st).map (·.2)) hoL
    have stay : ∀ b u, s.heap.get? b = some u → (sortedHeap h2 h'.objs.size (zs.map fun z => Value.ref z.2) ((arrOf st).map (·.2))).get? b = some u := fun b u z => by
      have lt := Heap.lt_size (keep b u z)
      rw [sortedHeap_old (Nat.ne_of_lt lt) (Heap.lt_size (up2 b u z))]
      exact up2 b u z
    have len : (ys.map fun z => V.ref z.2).length ≤ sizeLine := by rw [List.length_map, y1.length_eq]; omega
    have free : H h'.objs.size = none := I.hok.fresh old
    have laid : ObjOk X.prog X.w (upd H h'.objs.size (.lst (ys.map fun z => V.ref z.2))) (sortedHeap h2 h'.objs.size (zs.map fun z => Value.ref z.2) ((arrOf st).map (·.2))) h'.objs.size (.lst (ys.map fun z => V.ref z.2)) :=
      ⟨len, ((arrOf st).map (·.2)).toList, c, by rw [y2]; exact vals_maps _ _ ys fun _ _ => rfl, hc⟩
    refine wpAny_pure ⟨_, rfl, .ref h'.objs.size, _, I.laid (t' := tk) stay old laid, rfl, q ys h'.objs.size ?_ y3 (fun z hz => k3 z (y1.mem_iff.mp hz)) free⟩
    rw [← k1]
    exact y1.map _
end
end LR

namespace LK
open PySem PySem.Spec PyProof.Rows L2
def top (i : Nat) : Stmt := PySem.Challenge.pw_knownways_k14_rows_refused.main.body.getD i (.Pass ⟨0, 0, 0, 0⟩)
abbrev sAllNames : Stmt := top 11
abbrev sAllSteps : Stmt := top 12
abbrev sIsName : Stmt := top 17
abbrev sIsInteger : Stmt := top 18
abbrev sNamed : Stmt := top 21
abbrev sApplied : Stmt := top 22
abbrev sAsExpr : Stmt := top 23
abbrev sPartExpr : Stmt := top 24
abbrev sLesser : Stmt := top 25
abbrev sGreater : Stmt := top 26
abbrev sTextE : Stmt := top 27
abbrev sLinesOf : Stmt := top 30
abbrev sRowLines : Stmt := top 31
abbrev sIfLines : Stmt := top 32
abbrev sCheckedRows : Stmt := top 43
abbrev sMayLoop : Stmt := top 44
abbrev sSetName : Stmt := top 45
abbrev sRowExpr : Stmt := top 46
abbrev sAreWays : Stmt := top 52
abbrev sSource : Stmt := top 56
abbrev sDrawR : Stmt := top 57
abbrev sPickR : Stmt := top 58
abbrev sDWords : Stmt := top 59
abbrev sToldE : Stmt := top 60
abbrev sPutRef : Stmt := top 61
abbrev sIfRef : Stmt := top 62
abbrev sOneRef : Stmt := top 63
abbrev sNoNames : Stmt := top 64
abbrev sNoExprs : Stmt := top 65
abbrev sNoRows : Stmt := top 66
abbrev sNoLoops : Stmt := top 67
abbrev sLaw : Stmt := top 68
abbrev sExprInit : Stmt := inClass (top 20) 0
abbrev sExprAnd : Stmt := inClass (top 20) 1
abbrev sExprRand : Stmt := inClass (top 20) 2
abbrev sExprOr : Stmt := inClass (top 20) 3
abbrev sExprRor : Stmt := inClass (top 20) 4
abbrev sExprLen : Stmt := inClass (top 20) 5
abbrev sExprEq : Stmt := inClass (top 20) 6
abbrev sExprStr : Stmt := inClass (top 20) 7
abbrev sStepInit : Stmt := inClass (top 50) 0
abbrev sStepCall : Stmt := inClass (top 50) 1
abbrev sStepMul : Stmt := inClass (top 50) 2
abbrev sStepLen : Stmt := inClass (top 50) 4
abbrev sStepEq : Stmt := inClass (top 50) 5
abbrev sStepStr : Stmt := inClass (top 50) 6
abbrev sChainInit : Stmt := inClass (top 51) 0
abbrev sChainCall : Stmt := inClass (top 51) 1
abbrev sChainMul : Stmt := inClass (top 51) 2
abbrev sChainLen : Stmt := inClass (top 51) 4
abbrev sChainEq : Stmt := inClass (top 51) 5
abbrev sChainStr : Stmt := inClass (top 51) 6
abbrev sRowInit : Stmt := inClass (top 36) 0
abbrev sRowEq : Stmt := inClass (top 36) 1
abbrev sRowStr : Stmt := inClass (top 36) 2
abbrev sPutInit : Stmt := inClass (top 37) 0
abbrev sRaiseInit : Stmt := inClass (top 38) 0
abbrev sLowerInit : Stmt := inClass (top 39) 0
abbrev sRefuseInit : Stmt := inClass (top 40) 0
abbrev sIfInit : Stmt := inClass (top 41) 0
abbrev sStillInit : Stmt := inClass (top 42) 0
/-- the built-ins that stand -/
structure Std (mg : Str → Option Value) : Prop where
  len : mg "len" = none
  abs : mg "abs" = none
  int : mg "int" = none
  range : mg "range" = none
  isi : mg "isinstance" = none
  tuple : mg "tuple" = none
  list : mg "list" = none
  all : mg "all" = none
  zip : mg "zip" = none
  bool : mg "bool" = none
  str : mg "str" = none
  set : mg "set" = none
  sorted : mg "sorted" = none
  sum : mg "sum" = none
  any : mg "any" = none
  enumerate : mg "enumerate" = none
  min : mg "min" = none
  max : mg "max" = none
/-- a def of the text, as its callers see it -/
structure Df (K : PySem.W.Frag) (mg : Str → Option Value) (x : Str) (st : Stmt) (f : Addr) (fd : FuncData) (ps : List Str) : Prop where
  F : Fun K x x st f fd
  b : Binds K fd ps []
  g : mg x = some (.ref f)
/-- all but l stands -/
def Keep (l : Addr) (H H' : Hp) : Prop := ∀ b o, b ≠ l → H b = some o → H' b = some o
theorem Keep.refl {l : Addr} {H : Hp} : Keep l H H := fun _ _ _ e => e
theorem Keep.trans {l : Addr} {H H1 H2 : Hp} (a : Keep l H H1) (b : Keep l H1 H2) : Keep l H H2 := fun c o n e => b c o n (a c o n e)
theorem Keep.same {l : Addr} {H H1 : Hp} (a : Same H H1) : Keep l H H1 := fun c o n e => a c o e
theorem Keep.put {l : Addr} {H : Hp} {o : HO} : Keep l H (upd H l o) := fun c u n e => by rw [upd_ne n]; exact e
theorem same_new {H : Hp} {p : Addr} {o : HO} (h : H p = none) : Same H (upd H p o) := fun c u e => by rw [upd_ne (ne_of_none e h)]; exact e
theorem Keep.new {l : Addr} {H : Hp} {p : Addr} {o : HO} (h : H p = none) : Keep l H (upd H p o) := Keep.same (same_new h)
/-- the feed of draws at l -/
def Feed (H : Hp) (l : Addr) : Prop := ∃ a b : Int, H l = some (.lst [.int a, .int b]) ∧ 0 ≤ a ∧ 0 ≤ b
theorem Feed.keep {l m : Addr} {H H' : Hp} (h : Feed H l) (k : Keep m H H') (n : l ≠ m) : Feed H' l := by
  obtain ⟨a, b, e, h0, h1⟩ := h
  exact ⟨a, b, k _ _ n e, h0, h1⟩
theorem Feed.same {l : Addr} {H H' : Hp} (h : Feed H l) (k : Same H H') : Feed H' l := by
  obtain ⟨a, b, e, h0, h1⟩ := h
  exact ⟨a, b, k _ _ e, h0, h1⟩
theorem Feed.ne {l d : Addr} {H : Hp} (h : Feed H l) (e : H d = none) : l ≠ d := by
  obtain ⟨a, b, q, _⟩ := h
  exact ne_of_none q e
def spFeed (K : PySem.W.Frag) : Sp := fun vs H Q _ => ∃ (a : Addr) (ns : List Int) (k : Nat), vs = [.ref a, .int k] ∧ SqL K H a (ns.map V.int) ∧
  ∀ l H', H l = none → Feed H' l → Same H H' → Q (.ref l) H'
def spDraw : Sp := fun vs H Q _ => ∃ (l : Addr) (m : Int), vs = [.ref l, .int m] ∧ Feed H l ∧ 1 ≤ m ∧ m < 1073741824 ∧
  ∀ d H', 0 ≤ d → d < m → Feed H' l → Keep l H H' → Q (.int d) H'
section
variable {P : Program} {w : World} {K : PySem.W.Frag} {mg : Str → Option Value} {base : Heap}
theorem item_int {ns : List Int} {j : Nat} (h : j < ns.length) : (ns.map V.int)[j]? = some (V.int ns[j]) := by
  rw [List.getElem?_map, List.getElem?_eq_getElem h]
  rfl
end
end LK

namespace LK
open PySem PySem.Spec PyProof.Rows L2 LR
/-! ### what is in an expression, in plain words -/
/-- what stands at a head: the lesser, the greater, a step at its place -/
inductive Hd where
  | le
  | gr
  | st (a : Addr) (z y : Str)
inductive Md where
  | nm (z : Str)
  | ap (h : Hd) (ms : List Md)
def hdW : Hd → Str
  | .le => "lesser"
  | .gr => "greater"
  | .st _ z _ => z
def hdK : Hd → List (Str × Str)
  | .st _ z y => [(z, y)]
  | _ => []
def arity : Hd → Nat
  | .le => 2
  | .gr => 2
  | .st _ _ y => y.length
mutual
/-- the signs of a text -/
def cp : Md → List Nat
  | .nm z => TL.tl z
  | .ap h ms => TL.tl (hdW h) ++ 40 :: (TL.joinL [44, 32] (cpL ms) ++ [41])
def cpL : List Md → List (List Nat)
  | [] => []
  | m :: r => cp m :: cpL r
end
mutual
/-- how many parts -/
def sz : Md → Nat
  | .nm _ => 1
  | .ap _ ms => 1 + szL ms
def szL : List Md → Nat
  | [] => 0
  | m :: r => sz m + szL r
end
mutual
/-- the names as they stand -/
def lvs : Md → List Str
  | .nm z => [z]
  | .ap _ ms => lvsL ms
def lvsL : List Md → List Str
  | [] => []
  | m :: r => lvs m ++ lvsL r
end
mutual
/-- the steps as they stand, by name and ways -/
def sts : Md → List (Str × Str)
  | .nm _ => []
  | .ap h ms => hdK h ++ stsL ms
def stsL : List Md → List (Str × Str)
  | [] => []
  | m :: r => sts m ++ stsL r
end
theorem cp_ap (h : Hd) (ms : List Md) : cp (.ap h ms) = TL.tl (hdW h) ++ 40 :: (TL.joinL [44, 32] (cpL ms) ++ [41]) := by
  rw [cp]
theorem cpL_map (ms : List Md) : cpL ms = ms.map cp := by
  induction ms with
  | nil => rfl
  | cons m r ih =>
    unfold cpL
    rw [ih]
    rfl
theorem szL_sum (ms : List Md) : szL ms = (ms.map sz).sum := by
  induction ms with
  | nil => rfl
  | cons m r ih =>
    unfold szL
    rw [ih]
    simp
theorem lvsL_flat (ms : List Md) : lvsL ms = (ms.map lvs).flatten := by
  induction ms with
  | nil => rfl
  | cons m r ih =>
    unfold lvsL
    rw [ih]
    simp
theorem stsL_flat (ms : List Md) : stsL ms = (ms.map sts).flatten := by
  induction ms with
  | nil => rfl
  | cons m r ih =>
    unfold stsL
    rw [ih]
    simp
mutual
theorem lvs_sz : ∀ m : Md, (lvs m).length + (sts m).length ≤ sz m
  | .nm z => by simp [lvs, sts, sz]
  | .ap h ms => by
    have := lvsL_sz ms
    have e : (hdK h).length ≤ 1 := by cases h <;> simp [hdK]
    simp only [lvs, sts, sz, List.length_append]
    omega
theorem lvsL_sz : ∀ ms : List Md, (lvsL ms).length + (stsL ms).length ≤ szL ms
  | [] => by simp [lvsL, stsL, szL]
  | m :: r => by
    have a := lvs_sz m
    have b := lvsL_sz r
    simp only [lvsL, stsL, szL, List.length_append]
    omega
end
/-! ### each once, ascending -/
theorem asc_same {α : Type} {lt : α → α → Prop} (irr : ∀ a, ¬ lt a a) (asy : ∀ a b, lt a b → ¬ lt b a) : ∀ {xs ys : List α}, xs.Pairwise lt → ys.Pairwise lt → (∀ k, k ∈ xs ↔ k ∈ ys) → xs = ys
  | [], [], _, _, _ => rfl
  | [], y :: ys, _, _, h => nomatch (h y).mpr List.mem_cons_self
  | x :: xs, [], _, _, h => nomatch (h x).mp List.mem_cons_self
  | x :: xs, y :: ys, px, py, h => by
    obtain ⟨ax, pxs⟩ := List.pairwise_cons.mp px
    obtain ⟨ay, pys⟩ := List.pairwise_cons.mp py
    have e : x = y := by
      rcases List.mem_cons.mp ((h x).mp List.mem_cons_self) with e | m1
      · exact e
      · rcases List.mem_cons.mp ((h y).mpr List.mem_cons_self) with e | m2
        · exact e.symm
        · exact absurd (ax y m2) (asy _ _ (ay x m1))
    subst e
    refine congrArg (x :: ·) (asc_same irr asy pxs pys fun k => ⟨fun m => ?_, fun m => ?_⟩)
    · rcases List.mem_cons.mp ((h k).mp (List.mem_cons_of_mem _ m)) with e | m'
      · rw [e] at m
        exact absurd (ax x m) (irr x)
      · exact m'
    · rcases List.mem_cons.mp ((h k).mpr (List.mem_cons_of_mem _ m)) with e | m'
      · rw [e] at m
        exact absurd (ay x m) (irr x)
      · exact m'
abbrev ltS (a b : Str) : Prop := a.cps.toList < b.cps.toList
theorem ltS_irr (a : Str) : ¬ ltS a a := List.lt_irrefl _
theorem ltS_trans {a b c : Str} (h : ltS a b) (h' : ltS b c) : ltS a c := List.lt_trans h h'
theorem ltS_asy (a b : Str) (h : ltS a b) : ¬ ltS b a := fun h' => ltS_irr _ (ltS_trans h h')
theorem str_cps {a b : Str} (h : a.cps.toList = b.cps.toList) : a = b := by
  cases a
  cases b
  simp only at h
  rw [Array.toList_inj.mp h]
theorem ltS_or (a b : Str) : ltS a b ∨ a = b ∨ ltS b a := by
  by_cases h : a.cps.toList < b.cps.toList
  · exact .inl h
  · by_cases h' : b.cps.toList < a.cps.toList
    · exact .inr (.inr h')
    · exact .inr (.inl (str_cps (List.le_antisymm h' h)))
/-- ys: these names, each once, ascending -/
structure NmsOf (S ys : List Str) : Prop where
  up : ys.Pairwise ltS
  mem : ∀ k, k ∈ ys ↔ k ∈ S
theorem rising_up : ∀ (p : Str) (r : List Str), risingS p r = true → (p :: r).Nodup → (p :: r).Pairwise ltS
  | p, [], _, _ => by simp
  | p, x :: r, h, n => by
    simp only [risingS, Bool.and_eq_true, Bool.not_eq_true'] at h
    obtain ⟨n1, n2⟩ := List.nodup_cons.mp n
    have ih := rising_up x r h.2 n2
    have px : ltS p x := by
      have h1 := h.1
      rw [ltCps_eq] at h1
      have h2 : ¬ ltS x p := of_decide_eq_false h1
      rcases ltS_or p x with q | q | q
      · exact q
      · exact absurd (q ▸ List.mem_cons_self) n1
      · exact absurd q h2
    refine List.pairwise_cons.mpr ⟨fun y hy => ?_, ih⟩
    rcases List.mem_cons.mp hy with e | hy
    · rw [e]
      exact px
    · exact ltS_trans px ((List.pairwise_cons.mp ih).1 y hy)
theorem nms_of {S ys : List Str} (h : sortedS ys = true) (n : ys.Nodup) (m : ∀ k, k ∈ ys ↔ k ∈ S) : NmsOf S ys := by
  refine ⟨?_, m⟩
  cases ys with
  | nil => exact .nil
  | cons p r => exact rising_up p r h n
theorem NmsOf.eq {S T ys zs : List Str} (a : NmsOf S ys) (b : NmsOf T zs) (e : ∀ k, k ∈ S ↔ k ∈ T) : ys = zs :=
  asc_same ltS_irr ltS_asy a.up b.up fun k => (a.mem k).trans ((e k).trans (b.mem k).symm)
theorem up_nodup {α : Type} {lt : α → α → Prop} (irr : ∀ a, ¬ lt a a) {ys : List α} (h : ys.Pairwise lt) : ys.Nodup := List.Pairwise.imp (fun {a b} q => fun e => irr b (by rw [e] at q; exact q)) h
theorem nodup_le {α : Type} [DecidableEq α] : ∀ {xs ys : List α}, xs.Nodup → (∀ k ∈ xs, k ∈ ys) → xs.length ≤ ys.length
  | [], _, _, _ => Nat.zero_le _
  | x :: xs, ys, n, h => by
    obtain ⟨n1, n2⟩ := List.nodup_cons.mp n
    have m := h x List.mem_cons_self
    have := nodup_le (xs := xs) (ys := ys.erase x) n2 fun k hk => (List.mem_erase_of_ne (by intro e; rw [e] at hk; exact n1 hk)).mpr (h k (List.mem_cons_of_mem _ hk))
    rw [List.length_erase_of_mem m] at this
    have := List.length_pos_of_mem m
    rw [List.length_cons]
    omega
theorem NmsOf.le {S ys : List Str} (a : NmsOf S ys) : ys.length ≤ S.length := nodup_le (up_nodup ltS_irr a.up) fun k h => (a.mem k).mp h
def ltK (a b : Str × Str) : Prop := upT a b ∧ a ≠ b
theorem kL_inj {a b : Str × Str} (h : kL a = kL b) : a = b := by
  unfold kL at h
  injection h with h1 h2
  injection h2 with h3 _
  injection h1 with h1
  injection h3 with h3
  exact Prod.ext (str_cps h1) (str_cps h3)
theorem ltK_irr (a : Str × Str) : ¬ ltK a a := fun h => h.2 rfl
theorem ltK_asy (a b : Str × Str) (h : ltK a b) : ¬ ltK b a := fun h' => h.2 (kL_inj (lex_total _ _ h'.1 h.1))
/-- ks: these keys, each once, ascending -/
structure KysOf (S ks : List (Str × Str)) : Prop where
  up : ks.Pairwise ltK
  mem : ∀ k, k ∈ ks ↔ k ∈ S
theorem KysOf.eq {S T ks js : List (Str × Str)} (a : KysOf S ks) (b : KysOf T js) (e : ∀ k, k ∈ S ↔ k ∈ T) : ks = js :=
  asc_same ltK_irr ltK_asy a.up b.up fun k => (a.mem k).trans ((e k).trans (b.mem k).symm)
theorem KysOf.le {S ks : List (Str × Str)} (a : KysOf S ks) : ks.length ≤ S.length := nodup_le (up_nodup ltK_irr a.up) fun k h => (a.mem k).mp h
/-- names that differ: the keys ascend as they do -/
theorem KysOf.nms {S ks : List (Str × Str)} (a : KysOf S ks) (one : ∀ x ∈ S, ∀ y ∈ S, x.1 = y.1 → x = y) : NmsOf (S.map (·.1)) (ks.map (·.1)) := by
  refine ⟨List.pairwise_map.mpr (a.up.imp_of_mem fun {x y} hx hy h => ?_), fun k => ?_⟩
  · have ne : x.1 ≠ y.1 := fun e => h.2 (one x ((a.mem x).mp hx) y ((a.mem y).mp hy) e)
    rcases ltS_or x.1 y.1 with q | q | q
    · exact q
    · exact absurd q ne
    · have h1 : lexLt itemOrd (kL y) (kL x) = false := h.1
      unfold kL at h1
      rw [lex_diff (by intro e; injection e with e; exact ne (str_cps e.symm))] at h1
      have h2 : decide (y.1.cps.toList < x.1.cps.toList) = false := h1
      exact absurd q (of_decide_eq_false h2)
  · rw [List.mem_map, List.mem_map]
    exact ⟨fun ⟨x, hx, e⟩ => ⟨x, (a.mem x).mp hx, e⟩, fun ⟨x, hx, e⟩ => ⟨x, (a.mem x).mpr hx, e⟩⟩
end LK

namespace LK
open PySem PySem.Spec PyProof.Rows L2
def spPick (K : PySem.W.Frag) : Sp := fun vs H Q _ => ∃ (l : Addr) (x : V) (P : V → Prop), vs = [.ref l, x] ∧ Feed H l ∧
  ((∃ z : Str, x = .str z ∧ 0 < z.length ∧ z.length ≤ 1000 ∧ ∀ c, c ∈ z.cps.toList → P (.str ⟨#[c]⟩)) ∨ (∃ (a : Addr) (xs : List V), x = .ref a ∧ a ≠ l ∧ SqL K H a xs ∧ 0 < xs.length ∧ xs.length ≤ 1000 ∧ ∀ v, v ∈ xs → P v)) ∧
  ∀ v H', P v → Feed H' l → Keep l H H' → Q v H'
section
variable {P : Program} {w : World} {K : PySem.W.Frag} {mg : Str → Option Value} {base : Heap}
end
end LK

namespace LK
open PySem PySem.Spec PyProof.Rows L2
/-- a name: one to four lower-case letters -/
structure NameOk (z : Str) : Prop where
  pos : 0 < z.length
  len : z.length ≤ 4
  low : ∀ c, c ∈ TL.tl z → 97 ≤ c ∧ c ≤ 122
  nif : z ≠ "if"
  nelse : z ≠ "else"
  nend : z ≠ "end"
def letters : Str := "abcdefghijklmnopqrstuvwxyz"
theorem letters_low : ∀ c, c ∈ TL.tl letters → 97 ≤ c ∧ c ≤ 122 := by decide +kernel
theorem letters_len : letters.length = 26 := by decide +kernel
theorem joinL_nil_flat : ∀ ps : List (List Nat), TL.joinL [] ps = ps.flatten
  | [] => rfl
  | [p] => by simp [TL.joinL]
  | p :: q :: r => by
    show p ++ ([] ++ TL.joinL [] (q :: r)) = _
    rw [joinL_nil_flat (q :: r), List.nil_append]
    rfl
theorem flat_one : ∀ {ys : List Str}, (∀ y, y ∈ ys → y.length = 1) → ((ys.map TL.tl).flatten).length = ys.length
  | [], _ => rfl
  | y :: r, h => by
    rw [List.map_cons, List.flatten_cons, List.length_append, flat_one fun z hz => h z (List.mem_cons_of_mem _ hz), ← TL.len_tl, h y (List.mem_cons_self ..), List.length_cons]
    omega
theorem tl_join0 (ys : List Str) : TL.tl (Txt.join "" ys) = (ys.map TL.tl).flatten := by
  rw [TL.join_eq, TL.tl_join]
  exact joinL_nil_flat _
theorem sum_one : ∀ {ys : List Str}, (∀ y, y ∈ ys → y.length = 1) → (ys.map (·.length)).sum = ys.length
  | [], _ => rfl
  | y :: r, h => by
    rw [List.map_cons, List.sum_cons, sum_one fun z hz => h z (List.mem_cons_of_mem _ hz), h y (List.mem_cons_self ..), List.length_cons]
    omega
theorem nameOk_q : NameOk "q" := ⟨by decide +kernel, by decide +kernel, by decide +kernel, by decide +kernel, by decide +kernel, by decide +kernel⟩
def spWord : Sp := fun vs H Q _ => ∃ (l : Addr), vs = [.ref l] ∧ Feed H l ∧ ∀ z H', NameOk z → Feed H' l → Keep l H H' → Q (.str z) H'
section
variable {P : Program} {w : World} {K : PySem.W.Frag} {mg : Str → Option Value} {base : Heap}
def nWord : List Str := ["_law_feed_here", "_law_letters", "_law_word_here", "_law_k"]
end
end LK

/-! operations on instances of own classes that have a method for them -/
namespace LR
open PySem PySem.Spec PyProof.Rows L2
section
variable {X : Cx} {CX : CXT} {n : Nat} {f C : Addr} {fd : FuncData} {ps : List Str} {sp : Sp} {E : XK}
/-- a def called somewhere below the running body -/
theorem call_run {A : Around} {pins : List (Addr × Obj)} {σ : L2.St} {H : Hp} {s : Shared} {vs : List V} {us : List Value} {Q : VK} (sb : Sub X n A) (F : FnOk X.prog X.w X.K X.mg X.base CX n f fd ps sp) (hb : Binds X.K fd ps []) (hx : Passes CX X E)
    (I : Inv X pins σ H s) (r : Vals vs us) (h : sp vs H Q E) : wpAny (model X.prog X.w) A (call (.ref f) us) (EP X pins σ Q) X.xe s := by
  have e0 : Env0 X.prog X.w X.K X.mg X.base A X.stack s H := by
    have e := I.env0
    exact ⟨by rw [sb.fr]; exact e.frames, e.mod, e.bs, e.bsz, e.funs, e.frf, e.hok, e.bare⟩
  have hl := F.len _ _ _ _ h
  have hl2 : us.length = ps.length := by rw [← r.length, hl]
  refine wpAny_call (codeAny_mono (F.run A X.stack s H ⟨us, []⟩ us vs Q E sb.room e0 (by
    have z := hb s us I.kIn (by simpa using hl2)
    simpa using z) r h) fun res s' hq => ?_)
  cases res with
  | error e => exact hx pins σ H s e s' I hq
  | ok fl =>
    cases fl with
    | ret v => exact I.after hq
    | next => exact False.elim hq
    | brk => exact False.elim hq
    | cont => exact False.elim hq
theorem vals1r {a : Addr} {us : List Value} (r : Vals [V.ref a] us) : us = [.ref a] := by
  cases r with
  | cons r1 r2 =>
    cases r2
    cases r1
    rfl
/-- len(x) by an own __len__ -/
theorem call_lenOwn (F : FnOk X.prog X.w X.K X.mg X.base CX n f fd ps sp) (hs : PySem.W.findIn X.K (.ref C) "__len__" = some (some (.ref f))) (hf : PySem.W.isFn X.K (.ref f) = true) (hb : Binds X.K fd ps []) (hx : Passes CX X E) (hr : Room (n + 1) X.A) :
    CallR X (.builtin "len") (fun xs H Q => ∃ a dx fs, xs = [V.ref a] ∧ H a = some (.ins C dx fs) ∧ sp [V.ref a] H (fun v H' => ∃ k : Nat, v = .int k ∧ k < 4611686018427387904 ∧ Q (.int k) H') E) := by
  intro pins s σ H xs us Q I r h
  obtain ⟨a, dx, fs, rfl, ha, h⟩ := h
  have e := vals1r r
  subst e
  obtain ⟨mA, J, _⟩ := ins_get I.hok ha
  obtain ⟨od, J, _⟩ := J.look
  obtain ⟨m, hF⟩ := I.fr
  refine PySem.W.len_K hF I.ok.mod.kin J hs hf ?_
  refine wpAny_mono (call_run (A := X.A.in1) ⟨hr.in1, rfl⟩ F hb hx I (.cons (show RelV (V.ref a) (Value.ref a) from rfl) .nil) h) (fun v s' q => ?_) fun _ _ z => z
  obtain ⟨y, H', I', ry, k, rfl, hk, q⟩ := q
  obtain ⟨t, rfl⟩ := ry
  exact ⟨⟨by omega, by omega⟩, .int k, H', I'.tok _, ⟨_, rfl⟩, q⟩
/-- what an own operator must give -/
def NotNI (v : V) : Prop := True
/-- x == y by an own __eq__ of x's class -/
theorem op_eqOwn (F : FnOk X.prog X.w X.K X.mg X.base CX n f fd ps sp) (hs : PySem.W.findIn X.K (.ref C) "__eq__" = some (some (.ref f))) (hf : PySem.W.isFn X.K (.ref f) = true) (hb : Binds X.K fd ps []) (hx : Passes CX X E) (hr : Room n X.A) :
    OpR X (compareOp .Eq) (fun x y H Q => ∃ a dx fs t, x = V.ref a ∧ H a = some (.ins C dx fs) ∧ TyX X.K H y t ∧ PySem.W.notFirst X.K C t = true ∧ sp [V.ref a, y] H (fun v H' => ∃ b, v = .bl b ∧ Q (.bl b) H') E) := by
  intro pins s σ H x y v u Q I rx ry h
  obtain ⟨a, dx, fs, t, rfl, ha, ty, hn, h⟩ := h
  cases rx
  obtain ⟨mA, J, _⟩ := ins_get I.hok ha
  obtain ⟨od, J, _⟩ := J.look
  obtain ⟨m, hF⟩ := I.fr
  obtain ⟨Pk, Z, pk, _⟩ := kit_of I ry ty
  show wpAny (model X.prog X.w) X.A (richCompare .Eq (.ref a) u) (EP X pins σ Q) X.xe s
  refine PySem.W.cmp_K (op := .Eq) (tb := t) hr.units0 hF I.ok.mod.kin J (Z.ty _ _ I.kIn pk) hn hs hf ?_
  refine wpAny_mono (call_run (A := X.A) ⟨hr, rfl⟩ F hb hx I (.cons (show RelV (V.ref a) (Value.ref a) from rfl) (.cons ry .nil)) h) (fun v s' q => ?_) fun _ _ z => z
  obtain ⟨y', H', I', ry', b, rfl, q⟩ := q
  cases ry'
  exact ⟨.bl b, H', I', rfl, q⟩
end
end LR

/-! error objects of own classes as plain values: made, kept, read, asked for their class -/
namespace LR
open PySem PySem.Spec PyProof.Rows L2
/-- Err(e, ..), by the __init__ that keeps sp; the object stays a value -/
def tErrV (C : Addr) (sp : Sp) (ta : TA) : TE := fun σ H Q => ta σ H fun vs H1 => vs.length ≤ 1000 ∧ ∀ a, H1 a = none → sp (.ref a :: vs) (upd H1 a (exo a C none)) (fun _ H2 => Q (.ref a) H2) E0
/-- Err(), where nothing keeps arguments -/
def tErr0 (C : Addr) : TE := fun _ H Q => ∀ a, H a = none → Q (.ref a) (upd H a (exo a C none))
/-- (..).n of such an object -/
def tErrF (K : PySem.W.Frag) (n : Str) (te : TE) : TE := fun σ H Q => te σ H fun x H1 => ∃ (a C dx : Addr) (fs : List (Str × V)) (v : V), x = .ref a ∧ XfC K C ∧ PySem.W.findIn K (.ref C) n = some none ∧
  H1 a = some (exo a C (some dx)) ∧ H1 dx = some (exd dx fs) ∧ fs.lookup n = some v ∧ Q v H1
/-- isinstance of such an object -/
def rIsErr (K : PySem.W.Frag) : List V → Hp → VK → Prop := fun xs H Q => ∃ (a D : Addr) (d : Option Addr) (c : V) (cv : Value) (b : Bool), xs = [.ref a, c] ∧ H a = some (exo a D d) ∧ (∀ dx, d = some dx → ∃ fs, H dx = some (exd dx fs)) ∧ ExcC K D ∧ ClsV c cv ∧
  PySem.W.kitOne K (.ref D) cv = some b ∧ Q (.bl b) H
section
variable {X : Cx} {pins : List (Addr × Obj)} {σ : L2.St} {H : Hp} {s : Shared}
/-- where it stands -/
theorem err_inst {a D : Addr} {d : Option Addr} (I : Inv X pins σ H s) (ha : H a = some (exo a D d)) (hd : ∀ dx, d = some dx → ∃ fs, H dx = some (exd dx fs)) : ∃ (ox : Obj) (od : Option Obj), PySem.W.InstAt s.heap a ox D od ∧
    ∀ dx fs n v, d = some dx → H dx = some (exd dx fs) → fs.lookup n = some v → ∃ o u, od = some o ∧ PySem.W.lookIn n o = some (some u) ∧ RelV v u := by
  obtain ⟨t1, ho⟩ := exo_at I.hok ha
  cases d with
  | none => exact ⟨_, none, ⟨ho, rfl, rfl, trivial⟩, fun dx fs n v e => nomatch e⟩
  | some dx =>
    obtain ⟨fs0, h0⟩ := hd dx rfl
    obtain ⟨m0, hn0, _⟩ := exd_at I.hok h0
    obtain ⟨od, hod, look⟩ := lookIn_ns hn0
    refine ⟨_, some od, ⟨ho, rfl, rfl, hod⟩, fun dx' fs n v e hx hl => ?_⟩
    obtain rfl : dx = dx' := Option.some.inj e
    obtain ⟨m1, hn1, rel⟩ := exd_at I.hok hx
    obtain ⟨od1, hod1, look1⟩ := lookIn_ns hn1
    rw [hod] at hod1
    obtain rfl : od = od1 := Option.some.inj hod1
    obtain ⟨u, hu, ru⟩ := RelO.some_of (v := v) (o := m1 n) (by rw [← hl]; exact rel n)
    exact ⟨od, u, rfl, by rw [look1, hu], ru⟩
theorem pe_errF {e : Expr} {te : TE} {n : Str} {pos : Pos} (he : PE X e te) (hb : attributeBase e n X.env (eval e X.env) = eval e X.env := by rfl) : PE X (.Attribute e n pos) (tErrF X.K n te) := by
  refine ⟨fun pins s σ H Q I h => attr_of hb (thn (he.run pins s σ H _ I h) fun u s1 hh => ?_)⟩
  obtain ⟨x, H1, I1, rx, a, C, dx, fs, v, ex, T, hno, ha, hx, hl, q⟩ := hh
  subst ex
  obtain rfl : u = Value.ref a := rx
  obtain ⟨ox, od, J, field⟩ := err_inst I1 ha fun dx' e => ⟨fs, by rw [← Option.some.inj e]; exact hx⟩
  obtain ⟨o, u, rfl, hlk, ru⟩ := field dx fs n v rfl hx hl
  exact HandSPX.exc_get I1.kIn J T.ga T.gg T.exC (PySem.W.findObj_own T.hdC hno rfl hlk) (handed_of ru) ⟨v, H1, I1.tok _, ru, q⟩
theorem call_isErr : CallR X (.builtin "isinstance") (rIsErr X.K) := by
  intro pins s σ H xs us Q I r h
  obtain ⟨a, D, d, c, cv, b, rfl, ha, hd, T, k, e, q⟩ := h
  obtain ⟨u1, u2, rfl, r1, r2⟩ := vals2 r
  obtain rfl := k.eq r2
  obtain rfl : u1 = Value.ref a := r1
  obtain ⟨ox, od, J, _⟩ := err_inst I ha hd
  refine PySem.W.kia_one (PySem.W.kitx_exc ?_ T.hg T.hk T.hs T.ha T.hn T.ht T.hm) I.kIn J e (fun z => nomatch z) fun tk => ⟨.bl b, H, I.tok tk, rfl, q⟩
  obtain ⟨cd, hc, _⟩ := PySem.W.any_some T.hd
  rw [hc]
  rfl
end
section
variable {X : Cx} {e : Expr} {es : List Expr} {ta : TA} {p pos : Pos}
/-- the exception's plain form is the tracked one -/
theorem exo_new {P : Program} {w : World} {H : Hp} {h : Heap} {a t C : Addr} (he : h.get? a = some ({ cls := .ref C, dict := none, data := .fields #[.ref t, .none, .none, .none, .bool false, .none] } : Obj)) : ObjOk P w H h a (exo a C none) := exo_ok he
theorem pe_errV {CX : CXT} {x : Str} {C fI : Addr} {k : Nat} {fd : FuncData} {ps : List Str} {sp : Sp} (T : OexC X.K C) (iC : PySem.W.findIn X.K (.ref C) "__init__" = some (some (.ref fI))) (tI : PySem.W.typeIn X.K (.ref fI) = some (.type "function"))
    (F1 : FnOk X.prog X.w X.K X.mg X.base CX k fI fd ps sp) (ret : ∀ vs H Q, sp vs H Q E0 → sp vs H (fun v H' => v = .non ∧ Q v H') E0) (hr : Room (k + 1) X.A) (hb : Binds X.K fd ps []) (hx : Passes CX X E0) (hg : Gl X x) (hm : X.mg x = some (.ref C)) (ha : PA X (e :: es) ta)
    (hdb : (x == ("__debug__" : Str)) = false := by decide) (he : starEach (e :: es) X.env = (false, eval e X.env) :: starEach es X.env := by rfl) (hpl : (backTo pos (starEach es X.env)).any (·.1) = false := by rfl) :
    PE X (.Call (.Name x p) (e :: es) [] pos) (tErrV C sp ta) := by
  refine ⟨fun pins s σ H Q I h => ?_⟩
  obtain ⟨nm, q, N, bs, bm, sn, sub, ab, col, dd, k0, k1, k2, k3, k5, hC, hbm⟩ := T.cls
  refine wpAny_Call_Name_kw (ld_glob I hg hm ?_ hdb)
  refine PySem.W.callWith_K (h₀ := X.base) I.ok.mod.kin T.kC (thn (ha.run pos pins s σ H _ I h) fun us s1 ⟨vs, H1, I1, r1, hz, q1⟩ => ⟨I1.kIn, ?_⟩) he hpl
  obtain ⟨hp, g, dr, tk, os⟩ := s1
  have new := q1 (hp.objs.size + 1) (I1.hok.fresh (Nat.le_succ _))
  have run := ret _ _ _ new
  have J := I1.laid (t' := tk) (h' := (hp.push (PySem.W.kdv_tup us)).push (PySem.HandSPX.excO C hp.objs.size)) (fun b o z => Heap.get?_push_of_some _ (Heap.get?_push_of_some _ z)) (Nat.le_succ hp.objs.size) (exo_ok (C := C) (d := none) (t1 := hp.objs.size) (by heap_get))
  have rels : Vals (V.ref (hp.objs.size + 1) :: vs) (Value.ref (hp.objs.size + 1) :: us) := .cons rfl r1
  have many : (Value.ref (hp.objs.size + 1) :: us).length = ps.length := by rw [← rels.length, F1.len _ _ _ _ new]
  have few : us.length ≤ sizeLine := by rw [← Paired.length r1, sizeLine_eq]; omega
  have bound := hb _ (Value.ref (hp.objs.size + 1) :: us) J.kIn (by simpa using many)
  rw [List.append_nil] at bound
  refine wpAny_call (PySem.HandSPX.call_own F.excBase_ValueError (fun Y => PySem.HandSPX.refsVE_contains Y bm hbm) (I1.kIn _ _ hC) (PySem.W.looks_findIn I1.kIn iC) (fun self => PySem.W.bind_fn I1.kIn self tI) few
    (codeAny_mono (F1.run _ X.stack _ _ _ _ _ _ E0 (hr.make C us []) (J.env0.make C us []) bound rels run) fun r s' out => ?_))
  cases r with
  | error er => exact hx pins σ _ _ er s' J out
  | ok fl =>
    cases fl with
    | ret u =>
      have out' := out
      obtain ⟨v, H2, _, _, _, _, rv, ev, _⟩ := out'
      subst ev
      obtain ⟨v', H3, J3, r3, e3, q3⟩ := J.after out
      exact ⟨rv, ⟨.ref (hp.objs.size + 1), H3, J3, rfl, q3⟩⟩
    | next => exact False.elim out
    | brk => exact False.elim out
    | cont => exact False.elim out
/-- Err(), by ValueError's own __init__ -/
theorem pe_err0 {x : Str} {C : Addr} (T : OexC X.K C) (iC : PySem.W.findIn X.K (.ref C) "__init__" = some (some (.builtin "ValueError.__init__"))) (hg : Gl X x) (hm : X.mg x = some (.ref C)) (hdb : (x == ("__debug__" : Str)) = false := by decide) :
    PE X (.Call (.Name x p) [] [] pos) (tErr0 C) := by
  refine ⟨fun pins s σ H Q I h => ?_⟩
  obtain ⟨nm, q, N, bs, bm, sn, sub, ab, col, dd, k0, k1, k2, k3, k5, hC, hbm⟩ := T.cls
  refine wpAny_Call_Name_kw (ld_glob I hg hm ?_ hdb)
  obtain ⟨hp, g, dr, tk, os⟩ := s
  refine PySem.W.callWith_K0 I.kIn T.kC ?_
  refine PySem.W.call_B F.excBase_ValueError (fun Y => PySem.HandSPX.refsVE_contains Y bm hbm) (I.kIn _ _ hC) (PySem.W.looks_findIn I.kIn iC) (Nat.zero_le _) fun h' keep at1 at2 => ?_
  exact ⟨.ref (hp.objs.size + 1), _, I.laid (t' := tk) keep (Nat.le_succ _) (exo_ok at1), rfl, h _ (I.hok.fresh (Nat.le_succ _))⟩
end
end LR

/-! sets of texts: set(list of texts), sorted(that) -/
namespace LR
open PySem PySem.Spec PyProof.Rows L2
/-- the text of a member -/
def txtOf (e : Int × Value) : Str := match e.2 with | .str z _ => z | _ => Str.empty
/-- a member is a text, with its hash -/
def TxtE (w : World) (e : Int × Value) : Prop := ∃ (z : Str) (tk : Tok), e.2 = Value.str z tk ∧ e.1 = hashStr w z
/-- what a table keeps beside its members: its places rise, and its maker is known -/
def Led (w : World) (t : SetTable) : Prop := Ris t.place.toList ∧ (w.params.followText "set-order" = true ∨ t.led = true)
/-- the set of texts at a -/
def SetS (w : World) (h : Heap) (a : Addr) (S : Str → Bool) (n : Nat) : Prop :=
  ∃ (o : Obj) (es : Array (Int × Value)) (ep : Nat) (t : SetTable), h.get? a = some o ∧ o.ExactSet ∧ o.data = .set es ep t ∧
    ((∀ e ∈ es.toList, TxtE w e) ∧ (es.toList.map txtOf).Nodup ∧ ∀ k, S k = true ↔ k ∈ es.toList.map txtOf) ∧ (es.size < scanBound ∧ t.fits es.size = true ∧ es.size = n) ∧ Led w t
section
variable {P : Program} {w : World} {h h' : Heap} {a : Addr} {S : Str → Bool} {n : Nat}
theorem SetS.at (R : SetS w h a S n) (k : ∀ o, h.get? a = some o → h'.get? a = some o) : SetS w h' a S n := by
  obtain ⟨o, es, ep, t, q, r⟩ := R
  exact ⟨o, es, ep, t, k o q, r⟩
theorem SetS.congr {S' : Str → Bool} (R : SetS w h a S n) (e : ∀ k, S' k = S k) : SetS w h a S' n := by rwa [show S' = S from funext e]
theorem txt_elems {l : List (Int × Value)} (g : ∀ e ∈ l, TxtE w e) : ElemsOf (PySem.strKind P w) l := fun e he => by
  obtain ⟨z, tk, q1, q2⟩ := g e he
  refine ⟨⟨z, ?_, q2⟩, ?_⟩ <;> rw [q1]
  · exact strKind_is P w z tk
  · rfl
theorem txt_is {e : Int × Value} (g : TxtE w e) (k : Str) : (PySem.strKind P w).is k e.2 = true ↔ txtOf e = k := by
  obtain ⟨z, tk, q, _⟩ := g
  have h1 : txtOf e = z := by unfold txtOf; rw [q]
  rw [h1, q]
  show Value.isStrOf k (.str z tk) = true ↔ z = k
  simp [Value.isStrOf]
theorem txt_mem {l : List (Int × Value)} (g : ∀ e ∈ l, TxtE w e) (k : Str) : k ∈ l.map txtOf ↔ ∃ e ∈ l, (PySem.strKind P w).is k e.2 = true :=
  ⟨fun z => by obtain ⟨e, he, q⟩ := List.mem_map.mp z; exact ⟨e, he, (txt_is (g e he) k).2 q⟩, fun ⟨e, he, q⟩ => List.mem_map.mpr ⟨e, he, (txt_is (g e he) k).1 q⟩⟩
end
section
variable {P : Program} {w : World} {A : Around} {E : Value → Shared → Prop} {s : Shared} {a : Addr} {S : Str → Bool} {n : Nat}
/-- the members stored, the table relaid if it is too full -/
theorem setS_tail {give : Bool → Sem Unit} (hg : ∀ (b : Bool) (s₁ : Shared) (Q' : Unit → Shared → Prop), Q' () s₁ → wpAny (model P w) A (give b) Q' E s₁) {o : Obj} {es es1 : Array (Int × Value)} {ep : Nat} {t t2 : SetTable} {S' : Str → Bool}
    (ho : s.heap.get? a = some o) (hex : o.ExactSet) (hd : o.data = .set es ep t) (g1 : (∀ e ∈ es1.toList, TxtE w e) ∧ (es1.toList.map txtOf).Nodup ∧ ∀ k, S' k = true ↔ k ∈ es1.toList.map txtOf)
    (hb1 : es1.size < scanBound) (hf2 : t2.fits es1.size = true) (hr : Led w t2) {wasDummy : Bool} {R : Option Bool → Shared → Prop} (hR : ∀ h', Heap.SameBut a s.heap h' → SetS w h' a S' es1.size → R (some true) { s with heap := h' }) :
    wpAny (model P w) A (do
        storeSet a es1 t2
        if (!wasDummy && t2.tooFull) = true then do
            give (relayAll t2 es1 (SetTable.grown es1.size)).2.2
            storeSet a (relayAll t2 es1 (SetTable.grown es1.size)).1 (relayAll t2 es1 (SetTable.grown es1.size)).2.1
            pure (some true)
          else pure (some true)) R E s := by
  have z1 := store_at (es' := es1) (t' := t2) ho hd
  have z2 := Heap.SameBut.update s.heap a (Obj.putSet es1 t2)
  refine wpAny_bind (wpAny_storeSet_of ho hd ?_ (fits_of_scanBound hb1))
  split
  · obtain ⟨g1a, g1b, g1c⟩ := g1
    have y1 := relayAll_perm t2 es1 (SetTable.grown es1.size)
    have y2 := relayAll_fits t2 es1 (SetTable.grown es1.size)
    have y3 := relayAll_ris t2 es1 (SetTable.grown es1.size)
    have y4 := relayAll_led t2 es1 (SetTable.grown es1.size)
    revert y1 y2 y3 y4
    generalize relayAll t2 es1 (SetTable.grown es1.size) = Z
    obtain ⟨es2, t3, gave⟩ := Z
    intro y1 y2 y3 y4
    dsimp only at y1 y2 y3 y4 ⊢
    have sz : es2.size = es1.size := by simpa using y1.length_eq
    refine wpAny_bind (hg _ _ _ (wpAny_bind (wpAny_storeSet_of z1 rfl ?_ (fits_of_scanBound (by rw [sz]; exact hb1)))))
    refine wpAny_pure (hR _ (z2.trans (Heap.SameBut.update _ a _)) ⟨_, es2, _, t3, store_at (es' := es2) (t' := t3) z1 rfl, hex, rfl, ⟨fun e he => g1a e (y1.mem_iff.mp he), (y1.map txtOf).nodup_iff.mpr g1b, fun k => (g1c k).trans (y1.map txtOf).mem_iff.symm⟩, ⟨by rw [sz]; exact hb1, y2, sz⟩, y3, ?_⟩)
    rcases hr.2 with q | q
    · exact .inl q
    · exact .inr (y4.trans q)
  · exact wpAny_pure (hR _ z2 ⟨_, es1, _, t2, z1, hex, rfl, g1, ⟨hb1, hf2, rfl⟩, hr⟩)
/-- one more text -/
theorem setS_add {k : Str} {tk : Tok} {Q : Bool → Shared → Prop} (R : SetS w s.heap a S n) (room : n + 1 < scanBound)
    (hQ : ∀ h', Heap.SameBut a s.heap h' → SetS w h' a (fun j => S j || decide (j = k)) (if S k = true then n else n + 1) → Q (!S k) { s with heap := h' }) :
    wpAny (model P w) A (setAddHashed a (.str k tk) ((PySem.strKind P w).hash k)) Q E s := by
  obtain ⟨o, es, ep, t, ho, hex, hd, ⟨g, nd, hm⟩, ⟨hb, hf, hn⟩, hr⟩ := R
  have el : ElemsOf (PySem.strKind P w) es.toList := txt_elems g
  have sc : (Value.str k tk).scannable = true := rfl
  unfold setAddHashed setAddHashedIn
  refine wpAny_holding (wpAny_bind (wpAny_setState_of ho hd hf ?_))
  dsimp only
  rw [byScan_of sc hb el]
  simp only [↓reduceIte]
  unfold setAddByScan
  refine wpAny_bind (wpAny_bind (wpAny_rule (wpAny_bind (wpAny_setScan_of (strKind_is P w k tk) ho hd hf el ?_))))
  cases hfi : List.findIdx? (fun e => (PySem.strKind P w).is k e.2) es.toList with
  | some j =>
    obtain ⟨hj, pj, _⟩ := List.findIdx?_eq_some_iff_getElem.mp hfi
    have yes : S k = true := (hm k).2 ((txt_mem (P := P) g k).2 ⟨_, List.getElem_mem hj, pj⟩)
    have q := hQ s.heap (Heap.SameBut.refl a s.heap) ⟨o, es, ep, t, ho, hex, hd, ⟨g, nd, fun i => ?_⟩, ⟨hb, hf, by rw [if_pos yes]; exact hn⟩, hr⟩
    · rw [yes] at q
      exact wpAny_pure (wpAny_pure q)
    · rw [← hm i]
      by_cases e : i = k
      · rw [e, yes]; simp
      · simp [e]
  | none =>
    have fresh : k ∉ es.toList.map txtOf := fun z => by
      obtain ⟨e, he, q⟩ := (txt_mem (P := P) g k).1 z
      have c := List.findIdx?_eq_none_iff.mp hfi e he
      rw [c] at q
      cases q
    have no : S k = false := by
      cases q : S k with
      | false => rfl
      | true => exact absurd ((hm k).1 q) fresh
    have gw : ∀ (b : Bool) (s₁ : Shared) (Q' : Unit → Shared → Prop), Q' () s₁ → wpAny (model P w) A (match b with | true => rule "set.scan.the-table-gave-way" | false => pure ()) Q' E s₁ := fun b s₁ Q' q => by
      cases b
      · exact wpAny_pure q
      · exact wpAny_rule q
    dsimp only
    have y1 := layNew_perm t es ((PySem.strKind P w).hash k) (.str k tk)
    have y2 := layNew_fits t es ((PySem.strKind P w).hash k) (.str k tk)
    have y3 := layNew_ris t es ((PySem.strKind P w).hash k) (.str k tk) hr.1
    have y4 := layNew_led t es ((PySem.strKind P w).hash k) (.str k tk)
    revert y1 y2 y3 y4
    generalize layNew t es ((PySem.strKind P w).hash k) (.str k tk) = Z
    obtain ⟨es1, t1, wasDummy, gave⟩ := Z
    intro y1 y2 y3 y4
    dsimp only at y1 y2 y3 y4 ⊢
    rw [Array.toList_push] at y1
    have pc : es1.toList.Perm (((PySem.strKind P w).hash k, Value.str k tk) :: es.toList) := y1.trans (List.perm_append_singleton _ _)
    have pk : (es1.toList.map txtOf).Perm (k :: es.toList.map txtOf) := pc.map txtOf
    have mem1 : (∀ e ∈ es1.toList, TxtE w e) ∧ (es1.toList.map txtOf).Nodup ∧ ∀ i, (S i || decide (i = k)) = true ↔ i ∈ es1.toList.map txtOf := by
      refine ⟨fun e he => ?_, pk.nodup_iff.mpr (List.nodup_cons.mpr ⟨fresh, nd⟩), fun i => ?_⟩
      · rcases List.mem_cons.mp (pc.mem_iff.mp he) with z | z
        · rw [z]; exact ⟨k, tk, rfl, rfl⟩
        · exact g e z
      · rw [pk.mem_iff, List.mem_cons, ← hm i]
        by_cases e : i = k <;> simp [e]
    have sz : es1.size = n + 1 := by
      have := pc.length_eq
      simp at this
      omega
    have bd : es1.size < scanBound := by omega
    have ld : Led w t1 := ⟨y3, hr.2.imp id fun z => y4.trans z⟩
    have fin : ∀ h', Heap.SameBut a s.heap h' → SetS w h' a (fun j => S j || decide (j = k)) es1.size → Q true { s with heap := h' } := fun h' sb r => by
      have q := hQ h' sb
      rw [no] at q
      rw [sz] at r
      exact q r
    refine wpAny_bind (gw _ _ _ ?_)
    split
    · refine wpAny_bind ?_
      rw [hashByValue_scannable 8 sc]
      refine wpAny_pure (setS_tail (fun b s₁ Q' q => gw b s₁ Q' q) ho hex hd mem1 bd ?_ ?_ fun h' sb r => wpAny_pure (fin h' sb r))
      · first | exact y2 | (split <;> first | exact y2 | exact SetTable.fits_plain_off y2)
      · first | exact ld | (split <;> exact ld)
    · refine wpAny_bind (wpAny_pure ?_)
      simp only [↓reduceIte]
      exact setS_tail (fun b s₁ Q' q => gw b s₁ Q' q) ho hex hd mem1 bd y2 ld fun h' sb r => wpAny_pure (fin h' sb r)
end

section
variable {P : Program} {w : World} {A : Around} {E : Value → Shared → Prop} {s : Shared}
/-- set.update of an iterator that yields the texts xs -/
theorem setS_loop {I S : Addr} {fp wr : List Addr} {G : Array GenState → Array GenState → Prop} {n : Nat} {Pv : Nat → Value → Prop} {St : Nat → Shared → Prop} {R : Result → Shared → Prop} (W : WalksS P w A.in1 I fp wr G n Pv St) (hSf : S ∉ fp) (xs : List Str) (hn : n = xs.length)
    (hb : xs.length + 1 < scanBound) (hval : ∀ i v, Pv i v → ∃ k t, xs[i]? = some k ∧ v = .str k t) : ∀ (k i : Nat) (s : Shared), i + k = n → St i s → (∃ c, c ≤ i ∧ SetS w s.heap S (fun j => decide (j ∈ xs.take i)) c) →
      (∀ s' c, Moved (S :: wr) G s s' → c ≤ n → SetS w s'.heap S (fun j => decide (j ∈ xs)) c → R (.ok (.ret .none)) s') → codeAny (model P w) A (.builtin "set.update.loop" ⟨[.ref S, .ref I], []⟩) R s := by
  have nw : S ∉ wr := fun h => hSf (W.sub _ h)
  have up : ∀ b ∈ wr, b ∈ S :: wr := fun b hb => List.mem_cons_of_mem _ hb
  intro k
  induction k with
  | zero =>
    rintro i s rfl hst ⟨c, hc, hS⟩ hR
    refine codeAny_builtin PyProof.Rows.F.entry_set_update_loop ?_
    rw [Around.under_plainId PyProof.Rows.F.plain_set_update_loop _]
    show wpAny _ A.in1 (pyNext (.ref I) >>= _) _ _ s
    refine wpAny_bind (W.done s _ _ hst fun s' hm => ?_)
    rw [List.take_of_length_le (by omega)] at hS
    exact wpAny_pure (hR s' c (hm.mono up) hc (hS.at fun o e => hm.heap S o nw e))
  | succ k ih =>
    rintro i s hk hst ⟨c, hc, hS⟩ hR
    have lt : i < n := by omega
    refine codeAny_builtin PyProof.Rows.F.entry_set_update_loop ?_
    rw [Around.under_plainId PyProof.Rows.F.plain_set_update_loop _]
    show wpAny _ A.in1 (pyNext (.ref I) >>= _) _ _ s
    refine wpAny_bind (W.item i s _ _ lt hst fun v s' hP hst' hm => ?_)
    obtain ⟨z, t, hz, rfl⟩ := hval i v hP
    show wpAny _ A.in1 (holding [Value.str z t] (setAdd S (.str z t)) >>= _) _ _ s'
    unfold setAdd
    refine wpAny_bind (wpAny_holding (wpAny_holding (wpAny_bind ((PySem.strKind P w).pyHash (k := z) (strKind_is _ _ _ _) ?_))))
    refine setS_add (s := { s' with toks := s'.toks + 1 }) (hS.at fun o e => hm.heap S o nw e) (by omega) fun h' hsb hS2 => ?_
    have hS3 : SetS w h' S (fun j => decide (j ∈ xs.take (i + 1))) (if decide (z ∈ xs.take i) = true then c else c + 1) := hS2.congr fun j => by
      rw [List.take_add_one, hz]
      simp [List.mem_append]
    refine wpAny_pure ⟨plainId_quiet PyProof.Rows.F.plain_set_update_loop _, ih (i + 1) _ (by omega) (W.frame _ s' _ _ hst' (Nat.le_succ _) fun b hb o e => (hsb.2 b (fun h => hSf (h ▸ hb))).trans e) ⟨_, by split <;> omega, hS3⟩ fun s'' c2 hm2 hc2 hS4 => ?_⟩
    exact hR s'' c2 (Moved.trans W.gtrans ((hm.mono up).then_heap (Nat.le_succ _) fun b o hb e => (hsb.2 b (fun h => hb (h ▸ List.mem_cons_self))).trans e) hm2) hc2 hS4
/-- a set as it is made -/
abbrev bareSet (w : World) : Obj := { cls := .type "set", dict := none, data := .set #[] 0 (.fresh 0 0 (!w.params.followText "set-order")) }
theorem setS_none {h : Heap} {a : Addr} {xs : List Str} (ho : h.get? a = some (bareSet w)) : SetS w h a (fun j => decide (j ∈ xs.take 0)) 0 := by
  refine ⟨bareSet w, #[], 0, _, ho, ⟨rfl, rfl, rfl⟩, rfl, ⟨fun e he => by simp at he, by simp, fun k => by simp⟩, ⟨by decide, rfl, rfl⟩, List.Pairwise.nil, ?_⟩
  show _ ∨ (!w.params.followText "set-order") = true
  cases w.params.followText "set-order" <;> simp
set_option maxHeartbeats 6400000 in
/-- set(xs), xs a list of texts -/
theorem set_of_list {l : Addr} {items : Array Value} (xs : List Str) {Q : Value → Shared → Prop} (hh : A.handled = none) (hl : s.heap.IsList l items) (hit : PyProof.Rows.StrsAre items.toList xs) (hb : xs.length + 1 < scanBound)
    (h : ∀ (h' : Heap) (tk c : Nat), SetS w h' s.heap.objs.size (fun j => decide (j ∈ xs)) c → c ≤ xs.length → (∀ b o, s.heap.get? b = some o → h'.get? b = some o) → Q (.ref s.heap.objs.size) { s with heap := h', toks := tk }) :
    wpAny (model P w) A (call (.type "set") [.ref l]) Q E s := by
  have isz : items.size = xs.length := by
    rw [← StrsAre.len_eq hit, Array.length_toList]
  obtain ⟨c, tl, hmro⟩ := PySem.F.called_set.mro
  have hmade := PySem.F.called_set.made
  have hsub := PySem.F.called_set.sub
  refine wpAny_call (codeAny_of_tree ?_)
  show wpAny _ _ (callAny (.type "set") _) _ _ _
  refine wpAny_pure ⟨Code.quiet_builtin _ (by decide +kernel), codeAny_builtin PySem.F.entry_type_call ?_⟩
  rw [Around.under_plain (weight_type_call_type "set" [.ref l] []) rfl]
  have h1 := PySem.F.called_set.notType
  have h2 := PySem.F.called_set.canCreate
  have hct := PySem.F.typeCall_set_1 (.ref l)
  repeat (any_goals (first | assumption | wp_step))
  refine codeAny_mono (code_set_led1 (.ref l) (E := E) (Q₁ := fun obj s₁ => obj = .ref s.heap.objs.size ∧ s₁ = { s with heap := s.heap.push (bareSet w) }) ⟨rfl, rfl⟩) fun r s₁ hr => ?_
  cases r with
  | error er => exact hr
  | ok fl =>
   cases fl with
   | ret obj =>
    obtain ⟨rfl, rfl⟩ := hr
    have hS : (s.heap.push (bareSet w)).get? s.heap.objs.size = some (bareSet w) := Heap.get?_push_size _ rfl
    have hT : Shared.TypeIs { s with heap := s.heap.push (bareSet w) } (.ref s.heap.objs.size) "set" := ⟨_, hS, rfl⟩
    have hli := PySem.F.called_set.init.lookup
    have hbi := PySem.F.called_set.init.bind (.ref s.heap.objs.size)
    repeat (any_goals (first | assumption | wp_step))
    refine codeAny_mono (codeAny_call_builtin (R := wants (fun r s₂ => r = .none ∧ ∃ h' tk c, s₂ = { s with heap := h', toks := tk } ∧ SetS w h' s.heap.objs.size (fun j => decide (j ∈ xs)) c ∧ c ≤ xs.length ∧ (∀ b o, s.heap.get? b = some o → h'.get? b = some o)) E)
      PySem.F.called_set.init.plain PySem.F.entry_set_init (check_set_init_1 hT ?_)) fun r₂ s₂ hr₂ => ?_
    · obtain ⟨⟨k0, k1, k2, k3⟩, hol, hcl, nl, hdl⟩ := hl
      dsimp only at hcl hdl
      subst hcl hdl
      have hol' : (s.heap.push (bareSet w)).get? l = some { cls := .type "list", dict := k1, data := .seq items nl, slots := k3 } := Heap.get?_push_of_some _ hol
      have u1 := PySem.F.sub_list_set
      have u2 := PySem.F.sub_list_frozenset
      have u3 : (Value.type "list" == Value.type "dict") = false := by decide
      have hl1 : (s.heap.push (bareSet w)).IsList l items := ⟨_, hol', rfl, nl, rfl⟩
      unfold Builtin.«set.__init__» noKeywords Builtin.Frozenset.updateFrom
      generalize hPI : pyIter = PI
      wp_walk
      subst hPI
      refine wpAny_pyIter_list hl1 (wpAny_bind (wpAny_runValue ?_))
      have lS : l < s.heap.objs.size := Heap.lt_size hol
      have hh3 : A.in1.in1.in1.handled = none := by simp [hh]
      have sz1 : (s.heap.push (bareSet w)).objs.size = s.heap.objs.size + 1 := Heap.size_push ..
      have neI : l ≠ (s.heap.push (bareSet w)).objs.size := by rw [sz1]; exact Nat.ne_of_lt (Nat.lt_succ_of_lt lS)
      have hSf : s.heap.objs.size ∉ [(s.heap.push (bareSet w)).objs.size, l] := by
        rw [sz1]
        simp only [List.mem_cons, List.not_mem_nil, or_false, not_or]
        exact ⟨Nat.ne_of_lt (Nat.lt_succ_self _), Nat.ne_of_gt lS⟩
      have hval : ∀ (i : Nat) (v : Value), items[i]? = some v → ∃ k t, xs[i]? = some k ∧ v = .str k t := fun i v hv => by
        have hi : i < xs.length := by rw [← isz]; exact (Array.getElem?_eq_some_iff.mp hv).1
        obtain ⟨t, e⟩ := SS.strs_at hit i v (by rw [Array.getElem?_toList]; exact hv)
        exact ⟨xs[i], t, List.getElem?_eq_getElem hi, by rw [e, List.getD_eq_getElem?_getD, List.getElem?_eq_getElem hi]; rfl⟩
      refine setS_loop ((Walks.list hh3 _ l neI items).toS) hSf xs isz hb hval items.size 0 _ (Nat.zero_add _) ⟨⟨_, Heap.get?_push_size _ rfl, rfl, rfl⟩, (hl1.push _)⟩ ?hS0 ?hR
      case hS0 => exact ⟨0, Nat.le_refl 0, setS_none (Heap.get?_push_of_some _ hS)⟩
      case hR =>
        intro s' c' hm hc' hS'
        obtain ⟨h', g2, d', tk', os'⟩ := s'
        have e1 : g2 = s.gens := hm.gens
        have e2 : d' = s.drawn := hm.drawn
        have e3 : os' = s.os := hm.os
        subst e1 e2 e3
        refine wpAny_pure ?_
        show wpAny _ _ (ret Value.none) _ _ _
        rw [isz] at hc'
        refine wpAny_pure ⟨rfl, h', tk', c', rfl, hS', hc', fun b o e => hm.heap b o ?_ (Heap.get?_push_of_some _ (Heap.get?_push_of_some _ e))⟩
        have b0 : b < s.heap.objs.size := Heap.lt_size e
        simp only [List.mem_cons, List.not_mem_nil, or_false, not_or]
        exact ⟨Nat.ne_of_lt b0, by rw [sz1]; exact Nat.ne_of_lt (Nat.lt_succ_of_lt b0)⟩
    · cases r₂ with
      | error er => exact hr₂
      | ok fl₂ =>
       cases fl₂ with
       | ret r =>
        obtain ⟨rfl, h', tk, c', rfl, hS', hc', hk'⟩ := hr₂
        repeat (any_goals (first | assumption | wp_step))
        exact h _ _ _ hS' hc' hk'
       | _ => exact hr₂.elim
   | _ => exact hr.elim
end
end LR

namespace LR
open PySem PySem.Spec PyProof.Rows L2
section
variable {P : Program} {w : World} {A : Around} {E : Value → Shared → Prop} {s : Shared} {a : Addr}
theorem strs_of_txt : ∀ (l : List Value), (∀ v ∈ l, ∃ (k : Str) (tk : Tok), v = Value.str k tk) → StrsAre l (l.map fun v => txtOf (0, v))
  | [], _ => .nil
  | v :: l, h => by
    obtain ⟨k, tk, rfl⟩ := h v List.mem_cons_self
    exact .cons k tk (strs_of_txt l fun u hu => h u (List.mem_cons_of_mem _ hu))
/-- sorted of a set of texts -/
theorem sorted_setS {S : Str → Bool} {n : Nat} {Q : Value → Shared → Prop} (R : SetS w s.heap a S n) (hh : A.handled = none) (h64 : n < 64)
    (hQ : ∀ s' p (out : Array Value) (c : Nat) (ys : List Str), (∀ b o, s.heap.get? b = some o → s'.heap.get? b = some o) → s'.gens = s.gens → s'.os = s.os → s.heap.objs.size ≤ p →
      s'.heap.get? p = some (seqObj "list" out c) → StrsAre out.toList ys → (sortedS ys = true ∧ ys.Nodup) → (∀ k, k ∈ ys ↔ S k = true) → ys.length = n → Q (.ref p) s') :
    wpAny (model P w) A (call (.builtin "sorted") [.ref a]) Q E s := by
  obtain ⟨o, es, ep, t, ho, hex, hd, ⟨g, nd, hm⟩, ⟨hb, hf, hn⟩, hr⟩ := R
  refine Calls.call_function_entry kind_sorted plain_sorted entry_sorted (args_sorted1 _) ?_
  unfold Builtin.«sorted»
  refine wpAny_bind (m := checkCount "sorted" 1 1 _) (wpAny_pure (wpAny_bind (collect_set (A := A.in1) hh ⟨o, ho, hex.1, hd⟩ hf hb hr.1 hr.2 fun s1 vs k1 hz g1 o1 pm => ?_)))
  have vl : vs.length = n := by
    have := pm.length_eq
    simp at this
    omega
  have sa : StrsAre vs (vs.map fun v => txtOf (0, v)) := strs_of_txt vs fun v hv => by
    obtain ⟨e, he, q⟩ := List.mem_map.mp (pm.mem_iff.mp hv)
    obtain ⟨k, tk, h1, _⟩ := g e he
    exact ⟨k, tk, q ▸ h1⟩
  have pk : (vs.map fun v => txtOf (0, v)).Perm (es.toList.map txtOf) := by
    have q := pm.map fun v => txtOf (0, v)
    rw [List.map_map] at q
    exact q
  refine wpAny_bind (wpAny_newList ?_ (by rw [vl, sizeLine_eq]; omega))
  have hoL : (s1.heap.push (seqObj "list" vs.toArray 0)).get? s1.heap.objs.size = some (seqObj "list" vs.toArray 0) := Heap.get?_push_size _ rfl
  refine wpAny_bind (wpAny_holding (wpAny_call_entry slot_list_sort ⟨_, hoL, rfl⟩ entry_list_sort (list_sort_treeK strKind_oneLt hoL sa.keysOf (fun v₁ v₂ rest e => keyKind_strs (by rw [← e]; exact sa)) (by rw [vl]; exact h64) fun st' hp hs => ⟨_, rfl, ?_⟩) (args_list_sort _)))
  obtain ⟨ys, a1, a2, a3⟩ := sorted_out_str sa hp hs
  obtain ⟨c, hc⟩ := sortedHeap_at (vs := vs) (out := (arrOf st').map (·.2)) hoL
  have pn : ys.Perm (es.toList.map txtOf) := a2.trans pk
  refine wpAny_pure ⟨_, rfl, hQ _ s1.heap.objs.size _ c ys (fun b u e => ?_) g1 o1 hz hc a1 ⟨a3, pn.nodup_iff.mpr nd⟩ (fun k => by rw [pn.mem_iff, ← hm k]) (by rw [pn.length_eq, List.length_map, Array.length_toList]; exact hn)⟩
  have q := k1 b u e
  have lt := Heap.lt_size q
  show (sortedHeap (s1.heap.push (seqObj "list" vs.toArray 0)) s1.heap.objs.size vs ((arrOf st').map (·.2))).get? b = some u
  rw [sortedHeap_old (Nat.ne_of_lt lt) (by rw [size_push']; exact Nat.lt_succ_of_lt lt)]
  exact Heap.get?_push_of_some _ q
end
/-- a tracked set of texts -/
def SetSO (w : World) (a : Addr) (S : Str → Bool) (n : Nat) : HO := .ext fun h => SetS w h a S n
section
variable {X : Cx}
theorem setSO_get {pins : List (Addr × Obj)} {σ : L2.St} {H : Hp} {s : Shared} {a : Addr} {S : Str → Bool} {n : Nat} (I : Inv X pins σ H s) (ha : H a = some (SetSO X.w a S n)) : SetS X.w s.heap a S n := (I.hok a _ ha).1
/-- set(xs), xs a list of texts -/
theorem cr_setL (hc : X.calm = true) : CallR X (.type "set") (fun xs H Q => ∃ (l : Addr) (zs : List Str), xs = [V.ref l] ∧ SqL X.K H l (zs.map V.str) ∧ zs.length < 64 ∧
    ∀ p c, H p = none → c ≤ zs.length → Q (.ref p) (upd H p (SetSO X.w p (fun j => decide (j ∈ zs)) c))) := by
  intro pins s σ H xs us Q I r h
  obtain ⟨l, zs, rfl, hl, h64, q⟩ := h
  rw [Vals.ref1 r]
  obtain ⟨its, rv, pl, _⟩ := I.list hl
  refine set_of_list zs (I.ok.hd hc) pl.isList (by rw [List.toList_toArray]; exact rv.strs) (by unfold scanBound; omega) fun h' tk c R hc' k => ?_
  have hn : H s.heap.objs.size = none := I.hok.fresh (Nat.le_refl _)
  have R' := R
  obtain ⟨o, es, ep, t, ho, _⟩ := R'
  have ok : ObjOk X.prog X.w (upd H s.heap.objs.size (SetSO X.w s.heap.objs.size (fun j => decide (j ∈ zs)) c)) h' s.heap.objs.size (SetSO X.w s.heap.objs.size (fun j => decide (j ∈ zs)) c) := ⟨R, ⟨o, ho⟩, fun h1 h2 z k => z.at fun o e => k o e⟩
  exact ⟨.ref s.heap.objs.size, _, I.laid (t' := tk) k (Nat.le_refl _) ok, rfl, q _ c hn hc'⟩
/-- sorted(found), found a set of texts -/
theorem cr_sortedSetS (hc : X.calm = true) : CallR X (.builtin "sorted") (fun vs H Q => ∃ (a : Addr) (S : Str → Bool) (n : Nat), vs = [V.ref a] ∧ H a = some (SetSO X.w a S n) ∧ n < 64 ∧
    ∀ (ys : List Str) (p : Addr), sortedS ys = true → ys.Nodup → (∀ k, k ∈ ys ↔ S k = true) → ys.length = n → H p = none → Q (.ref p) (upd H p (.lst (ys.map V.str)))) := by
  intro pins s σ H vs us Q I r h
  obtain ⟨a, S, n, rfl, ha, h64, q⟩ := h
  rw [Vals.ref1 r]
  refine sorted_setS (setSO_get I ha) (I.ok.hd hc) h64 fun s' p out c ys k g o hp hg hi hs hm hl => ?_
  have len : (ys.map V.str).length ≤ sizeLine := by rw [List.length_map, hl, sizeLine_eq]; omega
  have hn : H p = none := I.hok.fresh hp
  have J : Inv X pins σ (upd H p (.lst (ys.map V.str))) { s with heap := s'.heap, gens := s'.gens, drawn := s'.drawn, toks := s'.toks } :=
    I.call (ch := []) (Un.laid k hp hn) (I.hok.laid k hp ⟨len, out.toList, c, vals_of_strs hi, hg⟩) (by rw [g]; exact I.bare) (fun _ z => nomatch z)
  have e : s' = { s with heap := s'.heap, gens := s'.gens, drawn := s'.drawn, toks := s'.toks } := by
    cases s'
    cases s
    cases o
    rfl
  rw [e]
  exact ⟨.ref p, _, J, rfl, q ys p hs.1 hs.2 hm hl hn⟩
end
end LR

namespace LK
open PySem PySem.Spec PyProof.Rows L2
/-! ### the four classes, their objects, each equal to itself -/
/-- what is known of a class of the program -/
structure OwnCl (K : PySem.W.Frag) (mg : Str → Option Value) (x : Str) (C : Addr) : Prop where
  cl : Cls K C
  ca : PySem.W.findIn K (.ref C) "__class__" = some (some (.builtin "object.__class__"))
  so : PySem.W.specialIn K (.builtin "object.__class__") "__get__" = some (some (.builtin "getset_descriptor.__get__"))
  tk : PySem.W.takesIn K (.builtin "object.__class__") = some true
  ob : PySem.W.mroIn K C (.type "object") = some true
  nt : PySem.W.kitOne K (.ref C) (.type "tuple") = some false
  nl : PySem.W.kitOne K (.ref C) (.type "list") = some false
  nb : PySem.W.kitOne K (.ref C) (.type "bool") = some false
  ns : PySem.W.kitOne K (.ref C) (.type "str") = some false
  g : mg x = some (.ref C)
theorem OwnCl.ty {K : PySem.W.Frag} {mg : Str → Option Value} {x : Str} {C a dx : Addr} {fs : List (Str × V)} {H : Hp} (c : OwnCl K mg x C) (h : H a = some (.ins C dx fs)) : TyX K H (.ref a) (.ref C) := .base (.ins h c.cl c.ca c.so c.tk c.ob)
theorem kit_self {K : PySem.W.Frag} {C : Addr} : PySem.W.kitOne K (.ref C) (.ref C) = some true := by
  unfold PySem.W.kitOne
  rw [if_pos (beq_self_eq_true _)]
/-- a method __eq__ of the class -/
structure EqM (K : PySem.W.Frag) (C : Addr) (st : Stmt) (q : Str) (f : Addr) (fd : FuncData) : Prop where
  F : Fun K "__eq__" q st f fd
  b : Binds K fd ["self", "other"] []
  at_ : PySem.W.findIn K (.ref C) "__eq__" = some (some (.ref f))
  fn : PySem.W.isFn K (.ref f) = true
def StepAt (C : Addr) (H : Hp) (a : Addr) (z w : Str) : Prop := ∃ dx, H a = some (.ins C dx [("name", .str z), ("ways", .str w)])
/-- what else an expression of one name holds -/
def NmX (K : PySem.W.Frag) (H : Hp) (z : Str) (x1 x2 x3 x4 : V) : Prop := ∃ q1 q2 i j zs, x1 = .ref q1 ∧ x2 = .ref q2 ∧ x3 = .int i ∧ x4 = .int j ∧ H q1 = some (.tup ((zs : List Str).map V.str)) ∧ zs.length ≤ 1 ∧ H q2 = some (.tup []) ∧ NameOk z
def ExprAt (K : PySem.W.Frag) (C : Addr) (H : Hp) (a : Addr) : Prop := ∃ dx z p x1 x2 x3 x4, H a = some (.ins C dx [("kind", .str "name"), ("word", .str z), ("step", .non), ("parts", .ref p), ("names", x1), ("steps", x2), ("size", x3), ("applied", x4)]) ∧ SqT K H p [] ∧ NmX K H z x1 x2 x3 x4
def TraitAt (K : PySem.W.Frag) (C : Addr) (H : Hp) (a : Addr) : Prop := ∃ dx z p b, H a = some (.ins C dx [("word", .str z), ("steps", .ref p)]) ∧ SqT K H p [.ref b]
def ChainAt (K : PySem.W.Frag) (C : Addr) (H : Hp) (a : Addr) : Prop := ∃ dx p b, H a = some (.ins C dx [("steps", .ref p)]) ∧ SqT K H p [.ref b]
/-- the very same thing -/
def DSame : Eqv := fun x y _ => ∃ a, x = .ref a ∧ y = .ref a
theorem mon_same : Mon DSame := fun _ _ _ _ _ d => d
theorem eqG_same {X : Cx} : EqG X 0 DSame := by
  intro A pins s σ H x y u v sb I rx ry d
  obtain ⟨a, rfl, rfl⟩ := d
  cases rx
  cases ry
  exact SeqAt.EqAt.same (A := A) (s := s) (.ref a) X.prog X.w X.xe _ ⟨rfl, H, I, Ext.rfl'⟩
theorem op_or {X : Cx} {op : Value → Value → Sem Value} {r r' : R2} (h : OpR X op r) (h' : OpR X op r') : OpR X op (fun x y H Q => r x y H Q ∨ r' x y H Q) := fun pins s σ H x y u v Q I rx ry d => d.elim (fun d => h pins s σ H x y u v Q I rx ry d) fun d => h' pins s σ H x y u v Q I rx ry d
/-- the same object, so seen by its class -/
def spSelf (R : Hp → Addr → Prop) : Sp := spEq fun a b H => a = b ∧ R H a
section
variable {P : Program} {w : World} {K : PySem.W.Frag} {mg : Str → Option Value} {base : Heap}
theorem scStepEq : FnScope ["self", "other"] ["self", "other"] (defScope sStepEq) := ⟨rfl, rfl, rfl, by decide +kernel, rfl, by decide +kernel, by decide +kernel⟩
theorem ok_stepEq {C f : Addr} {fd : FuncData} (S : Std mg) (c : OwnCl K mg "Step" C) (n1 : NoAttr K C "name") (n2 : NoAttr K C "ways") (F : Fun K "__eq__" "Step.__eq__" sStepEq f fd) :
    FnOk P w K mg base CX0 1 f fd ["self", "other"] (spSelf fun H a => ∃ z y, StepAt C H a z y) := by
  refine F.ok scStepEq (fun vs H Q E h => ?_) (fun cdv A outer s H vs Q E hr h => ?_)
  · obtain ⟨a, b, rfl, _⟩ := h
    rfl
  · obtain ⟨a, b, rfl, ⟨rfl, z, y, dx, ha⟩, q⟩ := h
    refine ⟨_, pss_one (ps_ret (pe_and (pe_callB call_isi (by rfl) S.isi (by decide +kernel) (pa_cons (pv 1) (pa_cons (pe_glob (v := .ref C) rfl c.g rfl) pa_nil)))
      (pe_and (pe_cmpR op_eq (pe_fld (pv 0) rfl) (pe_fld (pv 1) rfl) (nomark _)) (pe_one (pe_cmpR op_eq (pe_fld (pv 0) rfl) (pe_fld (pv 1) rfl) (nomark _)))))), ?_⟩
    refine ⟨_, rfl, _, _, _, _, true, rfl, .own C, c.ty ha, kit_self, true, rfl, iteT ?_⟩
    refine ⟨_, rfl, _, _, _, _, _, rfl, ha, c.cl, n1, rfl, _, rfl, _, _, _, _, _, rfl, ha, c.cl, n1, rfl, rfl, _, rfl, ?_⟩
    rw [decide_eq_true (show V.str z = V.str z from rfl)]
    refine iteT ⟨_, rfl, _, _, _, _, _, rfl, ha, c.cl, n2, rfl, _, rfl, _, _, _, _, _, rfl, ha, c.cl, n2, rfl, rfl, ?_⟩
    rw [decide_eq_true (show V.str y = V.str y from rfl)]
    exact q H Ext.rfl'
theorem prs_same {xs : List V} {H : Hp} (h : ∀ v, v ∈ xs → ∃ a, v = .ref a) : Prs DSame xs xs H := ⟨rfl, fun i x y e1 e2 => by
  rw [e1] at e2
  cases e2
  obtain ⟨a, rfl⟩ := h x (List.mem_of_getElem? e1)
  exact ⟨a, rfl, rfl⟩⟩
theorem scExprEq : FnScope ["self", "other"] ["self", "other"] (defScope sExprEq) := ⟨rfl, rfl, rfl, by decide +kernel, rfl, by decide +kernel, by decide +kernel⟩
theorem ok_exprEq {C f : Addr} {fd : FuncData} (S : Std mg) (c : OwnCl K mg "Expr" C) (n1 : NoAttr K C "kind") (n2 : NoAttr K C "word") (n3 : NoAttr K C "step") (n4 : NoAttr K C "parts") (F : Fun K "__eq__" "Expr.__eq__" sExprEq f fd) :
    FnOk P w K mg base CX0 2 f fd ["self", "other"] (spSelf (ExprAt K C)) := by
  refine F.ok scExprEq (fun vs H Q E h => ?_) (fun cdv A outer s H vs Q E hr h => ?_)
  · obtain ⟨a, b, rfl, _⟩ := h
    rfl
  · obtain ⟨a, b, rfl, ⟨rfl, dx, z, p, x1, x2, x3, x4, ha, hp, _⟩, q⟩ := h
    refine ⟨_, pss_one (ps_ret (pe_and (pe_callB call_isi (by rfl) S.isi (by decide +kernel) (pa_cons (pv 1) (pa_cons (pe_glob (v := .ref C) rfl c.g rfl) pa_nil)))
      (pe_and (pe_cmpR op_eq (pe_fld (pv 0) rfl) (pe_fld (pv 1) rfl) (nomark _)) (pe_and (pe_cmpR op_eq (pe_fld (pv 0) rfl) (pe_fld (pv 1) rfl) (nomark _)) (pe_and (pe_cmpR op_eq (pe_fld (pv 0) rfl) (pe_fld (pv 1) rfl) (nomark _))
        (pe_one (pe_cmpR (op_eqG (rcG_tup mon_same eqG_same) hr) (pe_fld (pv 0) rfl) (pe_fld (pv 1) rfl) (nomark _)))))))), ?_⟩
    refine ⟨_, rfl, _, _, _, _, true, rfl, .own C, c.ty ha, kit_self, true, rfl, iteT ?_⟩
    refine ⟨_, rfl, _, _, _, _, _, rfl, ha, c.cl, n1, rfl, _, rfl, _, _, _, _, _, rfl, ha, c.cl, n1, rfl, rfl, _, rfl, ?_⟩
    rw [decide_eq_true (show V.str "name" = V.str "name" from rfl)]
    refine iteT ⟨_, rfl, _, _, _, _, _, rfl, ha, c.cl, n2, rfl, _, rfl, _, _, _, _, _, rfl, ha, c.cl, n2, rfl, rfl, _, rfl, ?_⟩
    rw [decide_eq_true (show V.str z = V.str z from rfl)]
    refine iteT ⟨_, rfl, _, _, _, _, _, rfl, ha, c.cl, n3, rfl, _, rfl, _, _, _, _, _, rfl, ha, c.cl, n3, rfl, rfl, _, rfl, ?_⟩
    rw [decide_eq_true (show V.non = V.non from rfl)]
    refine iteT ⟨_, rfl, _, _, _, _, _, rfl, ha, c.cl, n4, rfl, _, rfl, _, _, _, _, _, rfl, ha, c.cl, n4, rfl, ?_⟩
    exact ⟨⟨p, p, [], [], rfl, rfl, hp, hp, Prs.nil⟩, q⟩
theorem scChainEq : FnScope ["self", "other"] ["self", "other"] (defScope sChainEq) := ⟨rfl, rfl, rfl, by decide +kernel, rfl, by decide +kernel, by decide +kernel⟩
theorem ok_chainEq {C f : Addr} {fd : FuncData} (S : Std mg) (c : OwnCl K mg "Chain" C) (n2 : NoAttr K C "steps") (F : Fun K "__eq__" "Chain.__eq__" sChainEq f fd) :
    FnOk P w K mg base CX0 2 f fd ["self", "other"] (spSelf (ChainAt K C)) := by
  refine F.ok scChainEq (fun vs H Q E h => ?_) (fun cdv A outer s H vs Q E hr h => ?_)
  · obtain ⟨a, b, rfl, _⟩ := h
    rfl
  · obtain ⟨a, b, rfl, ⟨rfl, dx, p, o, ha, hp⟩, q⟩ := h
    refine ⟨_, pss_one (ps_ret (pe_and (pe_callB call_isi (by rfl) S.isi (by decide +kernel) (pa_cons (pv 1) (pa_cons (pe_glob (v := .ref C) rfl c.g rfl) pa_nil)))
      (pe_one (pe_cmpR (op_eqG (rcG_tup mon_same eqG_same) hr) (pe_fld (pv 0) rfl) (pe_fld (pv 1) rfl) (nomark _))))), ?_⟩
    refine ⟨_, rfl, _, _, _, _, true, rfl, .own C, c.ty ha, kit_self, true, rfl, iteT ?_⟩
    refine ⟨_, rfl, _, _, _, _, _, rfl, ha, c.cl, n2, rfl, _, rfl, _, _, _, _, _, rfl, ha, c.cl, n2, rfl, ?_⟩
    exact ⟨⟨p, p, _, _, rfl, rfl, hp, hp, prs_same fun v hv => ⟨o, by simpa using hv⟩⟩, q⟩
end
end LK

namespace LK
open PySem PySem.Spec PyProof.Rows L2
theorem lc_zipL {K : PySem.W.Frag} {a b : Addr} {xs ys : List V} {g : TG} {tt : TT} {te : TE} {vs : List Nat} {σ : L2.St} {H1 : Hp} {D : Addr} {Qd : Hp → Prop} (hl : xs.length = ys.length) (Pv : Nat → Hp → Prop) (h0 : Pv 0 (upd H1 D (.lst []))) (hq : ∀ i H, Pv i H → SqL K H a xs ∧ SqL K H b ys)
    (hs : ∀ (i : Nat) (x y : V) (T : Addr) (H : Hp), xs[i]? = some x → ys[i]? = some y → Pv i H → H T = none → g (.ref T) (wipe σ vs) (upd H T (.tup [x, y])) fun σ2 H2 => wipe σ2 vs = wipe σ vs ∧ tt σ2 H2 fun b H3 =>
      if b = true then te σ2 H3 fun y H4 => ∃ acc, H4 D = some (.lst acc) ∧ acc.length < sizeLine ∧ Pv (i + 1) (upd H4 D (.lst (acc ++ [y]))) else Pv (i + 1) H3) (hd : ∀ H, Pv xs.length H → Qd H) :
    ∃ W : Nat → Nat → Hp → Prop, (∃ m, W 0 m (upd H1 D (.lst []))) ∧ ∀ i m H, W i m H →
      ((Itz K a b).stop i H ∧ Qd H) ∨ ((Itz K a b).go i H ∧ ∃ Nx : Hp → Prop, (∀ H', Nx H' → ∃ m', m' < m ∧ W (i + 1) m' H') ∧ ∀ x H', (Itz K a b).yld i H x H' → g x (wipe σ vs) H' fun σ2 H2 => wipe σ2 vs = wipe σ vs ∧ tt σ2 H2 fun b H3 =>
        if b = true then te σ2 H3 fun y H4 => ∃ acc, H4 D = some (.lst acc) ∧ acc.length < sizeLine ∧ Nx (upd H4 D (.lst (acc ++ [y]))) else Nx H3) := by
  refine ⟨fun i m H => m = xs.length - i ∧ i ≤ xs.length ∧ Pv i H, ⟨xs.length, by simp, Nat.zero_le _, h0⟩, ?_⟩
  rintro i m H ⟨rfl, hi, p⟩
  obtain ⟨q1, q2⟩ := hq i H p
  by_cases hlt : i < xs.length
  · refine .inr ⟨⟨xs, ys, xs[i], ys[i]'(by omega), q1, q2, by simp [hlt], by simp [← hl, hlt]⟩, Pv (i + 1), fun H' p' => ⟨xs.length - (i + 1), by omega, rfl, hlt, p'⟩, fun v H' y => ?_⟩
    obtain ⟨T, x, y', rfl, hT, rfl, hx, hy⟩ := y
    exact hs i x y' T H (hx xs q1) (hy ys q2) p hT
  · have e : i = xs.length := by omega
    subst e
    exact .inl ⟨⟨xs, ys, q1, q2, .inl (Nat.le_refl _)⟩, hd H p⟩
theorem lc_zipT {K : PySem.W.Frag} {a b : Addr} {xs ys : List V} {g : TG} {tt : TT} {te : TE} {vs : List Nat} {σ : L2.St} {H1 : Hp} {D : Addr} {Qd : Hp → Prop} (hl : xs.length = ys.length) (Pv : Nat → Hp → Prop) (h0 : Pv 0 (upd H1 D (.lst []))) (hq : ∀ i H, Pv i H → SqT K H a xs ∧ SqT K H b ys)
    (hs : ∀ (i : Nat) (x y : V) (T : Addr) (H : Hp), xs[i]? = some x → ys[i]? = some y → Pv i H → H T = none → g (.ref T) (wipe σ vs) (upd H T (.tup [x, y])) fun σ2 H2 => wipe σ2 vs = wipe σ vs ∧ tt σ2 H2 fun b H3 =>
      if b = true then te σ2 H3 fun y H4 => ∃ acc, H4 D = some (.lst acc) ∧ acc.length < sizeLine ∧ Pv (i + 1) (upd H4 D (.lst (acc ++ [y]))) else Pv (i + 1) H3) (hd : ∀ H, Pv xs.length H → Qd H) :
    ∃ W : Nat → Nat → Hp → Prop, (∃ m, W 0 m (upd H1 D (.lst []))) ∧ ∀ i m H, W i m H →
      ((RZ.ItzT K a b).stop i H ∧ Qd H) ∨ ((RZ.ItzT K a b).go i H ∧ ∃ Nx : Hp → Prop, (∀ H', Nx H' → ∃ m', m' < m ∧ W (i + 1) m' H') ∧ ∀ x H', (RZ.ItzT K a b).yld i H x H' → g x (wipe σ vs) H' fun σ2 H2 => wipe σ2 vs = wipe σ vs ∧ tt σ2 H2 fun b H3 =>
        if b = true then te σ2 H3 fun y H4 => ∃ acc, H4 D = some (.lst acc) ∧ acc.length < sizeLine ∧ Nx (upd H4 D (.lst (acc ++ [y]))) else Nx H3) := by
  refine ⟨fun i m H => m = xs.length - i ∧ i ≤ xs.length ∧ Pv i H, ⟨xs.length, by simp, Nat.zero_le _, h0⟩, ?_⟩
  rintro i m H ⟨rfl, hi, p⟩
  obtain ⟨q1, q2⟩ := hq i H p
  by_cases hlt : i < xs.length
  · refine .inr ⟨⟨xs, ys, xs[i], ys[i]'(by omega), q1, q2, by simp [hlt], by simp [← hl, hlt]⟩, Pv (i + 1), fun H' p' => ⟨xs.length - (i + 1), by omega, rfl, hlt, p'⟩, fun v H' y => ?_⟩
    obtain ⟨T, x, y', rfl, hT, rfl, hx, hy⟩ := y
    exact hs i x y' T H (hx xs q1) (hy ys q2) p hT
  · have e : i = xs.length := by omega
    subst e
    exact .inl ⟨⟨xs, ys, q1, q2, .inl (Nat.le_refl _)⟩, hd H p⟩
theorem SqT.same {K : PySem.W.Frag} {H H' : Hp} {a : Addr} {xs : List V} (e : Same H H') (h : SqT K H a xs) : SqT K H' a xs := by
  rcases h with (h | ⟨o, h⟩) | h
  · exact .inl (.inl (e _ _ h))
  · exact .inl (.inr ⟨o, e _ _ h⟩)
  · exact .inr h
theorem kitA {K : PySem.W.Frag} {t : Value} {r1 r2 : Bool} (h1 : PySem.W.kitOne K t (.type "tuple") = some r1) (h2 : PySem.W.kitOne K t (.type "list") = some r2) : PySem.W.kitAny K t [.type "tuple", .type "list"] = some (r1 || r2) := by
  unfold PySem.W.kitAny
  rw [h1]
  cases r1 with
  | true => rfl
  | false =>
    show PySem.W.kitAny K t [.type "list"] = _
    unfold PySem.W.kitAny
    rw [h2]
    cases r2 <;> rfl
/-- the classes of the program whose objects a value may hold -/
structure Kinds where
  cS : Addr
  cE : Addr
  cT : Addr
  cC : Addr
/-- the ways of a step: one to three of the three signs -/
structure WaysOk (y : Str) : Prop where
  pos : 0 < y.length
  len : y.length ≤ 3
  sg : ∀ c, c ∈ TL.tl y → c ∈ TL.tl ("+-?" : Str)
/-- one that holds no other -/
inductive Leaf (K : PySem.W.Frag) (k : Kinds) (H : Hp) : V → Prop where
  | non : Leaf K k H .non
  | bl (b : Bool) : Leaf K k H (.bl b)
  | int (i : Int) : Leaf K k H (.int i)
  | str (z : Str) (h : z.length ≤ 1000) : Leaf K k H (.str z)
theorem Leaf.same {K : PySem.W.Frag} {k : Kinds} {H H' : Hp} {v : V} (s : Same H H') (h : Leaf K k H v) : Leaf K k H' v := by
  cases h with
  | non => exact .non
  | bl b => exact .bl b
  | int i => exact .int i
  | str z h => exact .str z h
/-- two values that are just alike, at most n levels deep -/
def Alike (K : PySem.W.Frag) (k : Kinds) : Nat → Hp → V → V → Prop
  | 0, _, _, _ => False
  | n + 1, H, x, y => (Leaf K k H x ∧ x = y) ∨ ∃ a b xs ys, x = .ref a ∧ y = .ref b ∧ xs.length = ys.length ∧ xs.length ≤ 20 ∧ ((H a = some (.lst xs) ∧ H b = some (.lst ys)) ∨ (H a = some (.tup xs) ∧ H b = some (.tup ys))) ∧
      ∀ (i : Nat) x' y', xs[i]? = some x' → ys[i]? = some y' → Alike K k n H x' y'
theorem Alike.same {K : PySem.W.Frag} {k : Kinds} {H H' : Hp} (s : Same H H') : ∀ {n : Nat} {x y : V}, Alike K k n H x y → Alike K k n H' x y
  | 0, _, _, h => h.elim
  | n + 1, x, y, h => by
    rcases h with ⟨h, e⟩ | ⟨a, b, xs, ys, e1, e2, hl, h20, hq, hi⟩
    · exact .inl ⟨h.same s, e⟩
    · refine .inr ⟨a, b, xs, ys, e1, e2, hl, h20, ?_, fun i x' y' p q => (hi i x' y' p q).same s⟩
      rcases hq with ⟨p, q⟩ | ⟨p, q⟩
      · exact .inl ⟨s _ _ p, s _ _ q⟩
      · exact .inr ⟨s _ _ p, s _ _ q⟩
theorem Alike.up {K : PySem.W.Frag} {k : Kinds} {H : Hp} : ∀ {n : Nat} {x y : V}, Alike K k n H x y → Alike K k (n + 1) H x y
  | 0, _, _, h => h.elim
  | n + 1, x, y, h => by
    rcases h with h | ⟨a, b, xs, ys, e1, e2, hl, h20, hq, hi⟩
    · exact .inl h
    · exact .inr ⟨a, b, xs, ys, e1, e2, hl, h20, hq, fun i x' y' p q => (hi i x' y' p q).up⟩
theorem leaf_kind {K : PySem.W.Frag} {k : Kinds} {H : Hp} {v : V} (h : Leaf K k H v) :
    ∃ t bb, TyX K H v t ∧ PySem.W.kitOne K t (.type "tuple") = some false ∧ PySem.W.kitOne K t (.type "list") = some false ∧ PySem.W.kitOne K t (.type "bool") = some bb ∧ scal v v = true := by
  cases h with
  | non => exact ⟨_, false, .base .non, kit_ty (by decide +kernel), kit_ty (by decide +kernel), kit_ty (by decide +kernel), rfl⟩
  | bl b => exact ⟨_, true, .base (.bl b), kit_ty (by decide +kernel), kit_ty (by decide +kernel), kit_ty (by decide +kernel), rfl⟩
  | int i => exact ⟨_, false, .base (.int i), kit_ty (by decide +kernel), kit_ty (by decide +kernel), kit_ty (by decide +kernel), rfl⟩
  | str z _ => exact ⟨_, false, .base (.str z), kit_ty (by decide +kernel), kit_ty (by decide +kernel), kit_ty (by decide +kernel), rfl⟩
def spSame (K : PySem.W.Frag) (k : Kinds) (n : Nat) : Sp := fun vs H Q _ => ∃ (x y : V), vs = [x, y] ∧ Alike K k n H x y ∧ ∀ H', Same H H' → Q (.bl true) H'
section
variable {P : Program} {w : World} {K : PySem.W.Frag} {mg : Str → Option Value} {base : Heap}
def nSame : List Str := ["_law_found", "_law_due", "_law_one", "_law_other"]
end
end LK

namespace LK
open PySem PySem.Spec PyProof.Rows L2
/-! ### what makes the objects -/
/-- what is never run -/
theorem pe_never {X : Cx} {e : Expr} : PE X e (fun _ _ _ => False) := ⟨fun _ _ _ _ _ _ h => h.elim⟩
/-- a list by a comprehension over the characters of a text -/
theorem lc_str {x : Str} {g : TG} {tt : TT} {te : TE} {vs : List Nat} {σ : L2.St} {H1 : Hp} {D : Addr} {Qd : Hp → Prop} (Pv : Nat → Hp → Prop) (h0 : Pv 0 (upd H1 D (.lst [])))
    (hs : ∀ i c H, x.cps[i]? = some c → Pv i H → g (.str ⟨#[c]⟩) (wipe σ vs) H fun σ2 H2 => wipe σ2 vs = wipe σ vs ∧ tt σ2 H2 fun b H3 =>
      if b = true then te σ2 H3 fun y H4 => ∃ acc, H4 D = some (.lst acc) ∧ acc.length < sizeLine ∧ Pv (i + 1) (upd H4 D (.lst (acc ++ [y]))) else Pv (i + 1) H3) (hd : ∀ H, Pv x.cps.size H → Qd H) :
    ∃ W : Nat → Nat → Hp → Prop, (∃ m, W 0 m (upd H1 D (.lst []))) ∧ ∀ i m H, W i m H →
      ((Its x).stop i H ∧ Qd H) ∨ ((Its x).go i H ∧ ∃ Nx : Hp → Prop, (∀ H', Nx H' → ∃ m', m' < m ∧ W (i + 1) m' H') ∧ ∀ v H', (Its x).yld i H v H' → g v (wipe σ vs) H' fun σ2 H2 => wipe σ2 vs = wipe σ vs ∧ tt σ2 H2 fun b H3 =>
        if b = true then te σ2 H3 fun y H4 => ∃ acc, H4 D = some (.lst acc) ∧ acc.length < sizeLine ∧ Nx (upd H4 D (.lst (acc ++ [y]))) else Nx H3) := by
  refine ⟨fun i m H => m + i = x.cps.size ∧ Pv i H, ⟨x.cps.size, rfl, h0⟩, fun i m H w => ?_⟩
  obtain ⟨e, p⟩ := w
  by_cases lt : i < x.cps.size
  · refine .inr ⟨lt, Pv (i + 1), fun H' p' => ⟨m - 1, by omega, by omega, p'⟩, fun v H' y => ?_⟩
    obtain ⟨rfl, c, ec, rfl⟩ := y
    exact hs i c H' ec p
  · refine .inl ⟨by show x.cps.size ≤ i; omega, hd H ?_⟩
    rw [show x.cps.size = i by omega]
    exact p
theorem letters_all : ∀ c, c < 123 → 97 ≤ c → c ∈ TL.tl letters := by decide +kernel
def spName : Sp := fun vs H Q _ => ∃ z, vs = [.str z] ∧ NameOk z ∧ ∀ H', Same H H' → Q (.bl true) H'
/-- the constants of the names' module -/
structure Words (K : PySem.W.Frag) (mg : Str → Option Value) (kw : Addr) : Prop where
  longest : ∃ t, mg "LONGEST_NAME" = some (.int 4 t)
  letters : ∃ t, mg "LETTERS" = some (.str letters t)
  kept : mg "KEPT_WORDS" = some (.ref kw)
  tup : ∀ H, SqT K H kw [.str "if", .str "else", .str "end"]
section
variable {P : Program} {w : World} {K : PySem.W.Frag} {mg : Str → Option Value} {base : Heap}
def nIs : List Str := ["value", "letter"]
theorem scIs : FnScope nIs ["value"] (defScope sIsName) := ⟨rfl, rfl, rfl, by decide +kernel, rfl, by decide +kernel, by decide +kernel⟩
theorem ok_isName {f kw : Addr} {fd : FuncData} (S : Std mg) (W : Words K mg kw) (F : Fun K "is_name" "is_name" sIsName f fd) : FnOk P w K mg base CX0 1 f fd ["value"] spName := by
  refine F.ok scIs (fun vs H Q E h => ?_) (fun cdv A outer s H vs Q E hr h => ?_)
  · obtain ⟨z, rfl, _⟩ := h
    rfl
  · obtain ⟨z, rfl, hz, q⟩ := h
    obtain ⟨t1, m1⟩ := W.longest
    obtain ⟨t2, m2⟩ := W.letters
    refine ⟨_, pss_cons (ps_if (PW.pt (pw_or (pt_not (pt_val (pe_callB call_isi (by rfl) S.isi (by decide +kernel) (pa_cons (pv 0) (pa_cons (pe_bltn (v := .ty "str") (by rfl) S.str (by decide +kernel) rfl) pa_nil)))))
          (pw_or1 (pt_not (pt_chain op_le op_le pe_int (pe_callB call_len (by rfl) S.len PySem.boot_len (pa_cons (pv 0) pa_nil)) (pe_glob (v := .int 4) rfl m1 ⟨_, rfl⟩))))))
        (pss_one (ps_ret pe_bl)) pss_nil)
      (pss_one (ps_ret (pe_and (pe_cmpR op_notIn_seq (pv 0) (pe_glob (v := .ref kw) rfl W.kept rfl) (by rfl))
        (pe_one (pe_callB (cr_all rfl) (by rfl) S.all (by decide +kernel) (pa_cons (pe_lc (own := [("letter", 1)]) (g := gName 1) (tt := tYes) rfl scIs.nd
            (pi_str (pv 0)) (blkOk_by (N := nIs) (sc := defScope sIsName) (by decide +kernel)) (fun _ _ _ _ _ => pg_name (i := 1) scIs.nd rfl (Or.inl rfl)) (fun _ _ _ _ _ => pts_nil)
            (fun _ _ _ _ _ => pe_cmpR op_in_sign (pv 1) (pe_glob (v := .str letters) rfl m2 ⟨_, rfl⟩) (by rfl))) pa_nil)))))), ?_⟩
    have zl : z.length = z.cps.size := rfl
    have h4 := hz.len
    have h1 := hz.pos
    refine ⟨_, rfl, _, _, _, _, true, rfl, .ty "str", .base (.str z), kit_ty (by decide +kernel), true, rfl, iteF ?_⟩
    refine ⟨_, rfl, _, z.length, rfl, ⟨by rw [sizeLine_eq]; omega, rfl⟩, _, _, rfl, rfl, _, rfl, ?_⟩
    rw [decide_eq_true (show (1 : Int) ≤ (z.length : Int) by omega)]
    refine iteT ⟨_, _, rfl, rfl, _, rfl, ?_⟩
    rw [decide_eq_true (show (z.length : Int) ≤ 4 by omega)]
    refine iteF ⟨_, rfl, kw, _, rfl, .inr (W.tup H), rfl, by decide +kernel, ?_⟩
    have no : inV (.str z) [.str "if", .str "else", .str "end"] = false := by
      have e1 : (("if" : Str) == z) = false := beq_eq_false_iff_ne.mpr (Ne.symm hz.nif)
      have e2 : (("else" : Str) == z) = false := beq_eq_false_iff_ne.mpr (Ne.symm hz.nelse)
      have e3 : (("end" : Str) == z) = false := beq_eq_false_iff_ne.mpr (Ne.symm hz.nend)
      show (("if" : Str) == z || (("else" : Str) == z || (("end" : Str) == z || false))) = false
      rw [e1, e2, e3]
      rfl
    rw [if_pos rfl, no]
    refine ⟨_, rfl, iteT ⟨_, rfl, z, rfl, fun D hD => lc_str (fun i H4 => Keep D H H4 ∧ H4 D = some (.lst (List.replicate i (V.bl true)))) ⟨Keep.new hD, upd_same⟩ (fun i c H4 hc ⟨k4, d4⟩ => ?_) (fun H4 ⟨k4, d4⟩ => ?_)⟩⟩
    · have lt : i < z.cps.size := (Array.getElem?_eq_some_iff.mp hc).1
      have mem : c ∈ TL.tl letters := by
        obtain ⟨c0, c1⟩ := hz.low c (Array.mem_toList_iff.mpr (Array.mem_of_getElem? hc))
        exact letters_all c (by omega) c0
      refine ⟨rfl, _, rfl, c, letters, rfl, rfl, _, d4, by rw [List.length_replicate]; exact small1000 (by omega), fun b o n e => ?_, ?_⟩
      · rw [upd_ne n]
        exact k4 b o n e
      · rw [upd_same, decide_eq_true (show c ∈ letters.cps.toList from mem), List.replicate_succ']
    · refine ⟨D, List.replicate z.cps.size true, rfl, SqL.of (by rw [List.map_replicate]; exact d4), ?_⟩
      rw [show (List.replicate z.cps.size true).all id = true from by rw [List.all_eq_true]; intro b hb; exact (List.mem_replicate.mp hb).2]
      exact q _ fun b o e => k4 b o (ne_of_none e hD) e
end
end LK

/-! xs.extend(t), t a tuple -/
namespace LR
open PySem PySem.Spec PyProof.Rows L2
theorem meets_extT {l b : Addr} {its more : Array Value} {n : Nat} {ob : Obj} (few : its.size + more.size ≤ sizeLine) :
    Meets (Builtin.«list.extend» ⟨[.ref l, .ref b], []⟩) (fun _ R s => s.heap.get? l = some { cls := .type "list", dict := none, data := .seq its n, slots := #[] } ∧ (s.heap.get? b = some ob ∧ ob.cls = .type "tuple" ∧ ∃ k, ob.data = .seq more k) ∧
      R (.ok (.ret Value.none)) { s with heap := s.heap.update l (Obj.mapSeq fun x => x ++ more), toks := s.toks }) :=
  .of_wp fun prog w A R s h => by
    obtain ⟨a1, ⟨a2, a3, k, a4⟩, q⟩ := h
    change wpAny _ _ (Builtin.List.listExtendWith (.ref l) (.ref b) .none) _ _ s
    unfold Builtin.List.listExtendWith
    refine wpAny_bind (wpAny_typeOf ⟨ob, a2, a3⟩ ?_)
    rw [if_pos (by simp)]
    unfold Builtin.List.listItems
    refine wpAny_bind (wpAny_bind (wpAny_seqItems a2 a4 (wpAny_pure ?_)))
    refine wpAny_bind (wpAny_bind (wpAny_seqItems a1 rfl (wpAny_pure ?_)))
    have short : ¬ ((!its.isEmpty && Builtin.List.listTooLong (its.size + more.size)) = true) := by
      rw [notLongL few, Bool.and_false]
      exact Bool.false_ne_true
    rw [if_neg short]
    change wpAny _ _ (updateSeq l (· ++ more) >>= fun _ => ret Value.none) _ _ s
    refine wpAny_bind (wpAny_updateSeq a1 rfl ?_ (hz := by omega) (_hz' := by rw [Array.size_append]; omega))
    exact wpAny_pure ⟨_, rfl, q⟩
section
variable {X : Cx}
def rExtT (K : PySem.W.Frag) : V → List V → Hp → VK → Prop := fun x vs H Q => ∃ l b xs zs, x = V.ref l ∧ vs = [V.ref b] ∧ H l = some (.lst xs) ∧ SqT K H b zs ∧ xs.length + zs.length ≤ sizeLine ∧ Q .non (upd H l (.lst (xs ++ zs)))
theorem mt_extT : MtM X "list.extend" (rExtT X.K) := by
  intro pins s σ H x vs v us Q I rx rv h
  obtain ⟨l, b, xs, zs, rfl, rfl, hl, hb, few, q⟩ := h
  cases rx
  obtain ⟨u, rfl, ru⟩ := rv.one
  cases ru
  obtain ⟨_, its, n, r, len, e⟩ := I.lstM hl
  obtain ⟨its2, r2, it, _⟩ := I.tuple hb
  obtain ⟨ob, b1, b2, b3⟩ := it
  have len2 := r2.length
  refine call_meets PySem.F.slot_list_extend ⟨_, e, rfl⟩ PySem.F.entry_list_extend (PySem.F.args_list_extend_2 _ _) (meets_extT (its := its.toArray) (n := n) (more := its2.toArray) (ob := ob) (by rw [List.size_toArray, List.size_toArray]; omega)) ⟨e, ⟨b1, b2, b3⟩, ?_⟩
  refine ⟨.non, _, I.lset (its' := its ++ its2) hl e (by simp) (r.append r2) (by rw [List.length_append]; omega), rfl, q⟩
end
end LR

namespace LK
open PySem PySem.Spec PyProof.Rows L2 LR
/-! ### names and steps, gathered from what has them -/
/-- a def of the text with one default -/
structure Dd (K : PySem.W.Frag) (mg : Str → Option Value) (x : Str) (st : Stmt) (f : Addr) (fd : FuncData) (ps : List Str) : Prop where
  F : ∃ t, FunD K x x (defArgs st) (defBody st) (defScope st) [V.ref t] [] f fd
  b : Binds K fd ps []
  g : mg x = some (.ref f)
  kp : PySem.W.keepIn K (.ref f) = true
/-- v has a field that is a tuple -/
def FldT (K : PySem.W.Frag) (f : Str) (H : Hp) (v : V) (xs : List V) : Prop := ∃ a C dx fs q, v = .ref a ∧ H a = some (.ins C dx fs) ∧ Cls K C ∧ NoAttr K C f ∧ fs.lookup f = some (.ref q) ∧ SqT K H q xs
theorem FldT.same {K : PySem.W.Frag} {f : Str} {H H' : Hp} {v : V} {xs : List V} (s : Same H H') (h : FldT K f H v xs) : FldT K f H' v xs := by
  obtain ⟨a, C, dx, fs, q, e, ha, c, n, l, t⟩ := h
  exact ⟨a, C, dx, fs, q, e, s _ _ ha, c, n, l, SqT.same s t⟩
def tot (ks : List (V × Nat)) : Nat := (ks.map (·.2)).sum
theorem tot_take {ks : List (V × Nat)} {i : Nat} {e : V × Nat} (h : ks[i]? = some e) : tot (ks.take (i + 1)) = tot (ks.take i) + e.2 := by
  unfold tot
  rw [List.take_add_one, h, List.map_append, List.sum_append]
  simp
theorem tot_le (ks : List (V × Nat)) (i : Nat) : tot (ks.take i) ≤ tot ks := by
  have q : tot ks = tot (ks.take i) + tot (ks.drop i) := by
    unfold tot
    rw [← List.sum_append, ← List.map_append, List.take_append_drop]
  omega
def HasNames (K : PySem.W.Frag) (H : Hp) (e : V × Nat) : Prop := ∃ zs : List Str, FldT K "names" H e.1 (zs.map V.str) ∧ zs.length ≤ e.2
def IsSt (cS : Addr) (H : Hp) (v : V) : Prop := ∃ b z y, v = .ref b ∧ StepAt cS H b z y
theorem IsSt.same {cS : Addr} {H H' : Hp} {v : V} (s : Same H H') (h : IsSt cS H v) : IsSt cS H' v := by
  obtain ⟨b, z, y, e, dx, hb⟩ := h
  exact ⟨b, z, y, e, dx, s _ _ hb⟩
def HasSteps (K : PySem.W.Frag) (cS : Addr) (H : Hp) (e : V × Nat) : Prop := ∃ bs : List V, FldT K "steps" H e.1 bs ∧ bs.length ≤ e.2 ∧ ∀ b ∈ bs, IsSt cS H b
def spNames (K : PySem.W.Frag) : Sp := fun vs H Q _ => ∃ (p a : Addr) (own : List Str) (ks : List (V × Nat)), vs = [.ref p, .ref a] ∧ SqT K H p (ks.map (·.1)) ∧ H a = some (.lst (own.map V.str)) ∧ (∀ e ∈ ks, HasNames K H e) ∧ own.length + tot ks < 64 ∧
  ∀ (q : Addr) (ys : List Str) (H' : Hp), Same H H' → H q = none → H' q = some (.tup (ys.map V.str)) → ys.length ≤ own.length + tot ks → Q (.ref q) H'
def spSteps (K : PySem.W.Frag) (cS : Addr) : Sp := fun vs H Q _ => ∃ (p a : Addr) (own : List V) (ks : List (V × Nat)), vs = [.ref p, .ref a] ∧ SqT K H p (ks.map (·.1)) ∧ H a = some (.lst own) ∧ (∀ b ∈ own, IsSt cS H b) ∧ (∀ e ∈ ks, HasSteps K cS H e) ∧ own.length + tot ks < 64 ∧
  ∀ (q : Addr) (bs : List V) (H' : Hp), Same H H' → H q = none → H' q = some (.tup bs) → (∀ b ∈ bs, IsSt cS H' b) → bs.length ≤ own.length + tot ks → Q (.ref q) H'
theorem same_put {H H1 : Hp} {l : Addr} {o : HO} (hl : H l = none) (s : Same H H1) : Same H (upd H1 l o) := fun b u e => by
  rw [upd_ne (ne_of_none e hl)]
  exact s _ _ e
section
variable {P : Program} {w : World} {K : PySem.W.Frag} {mg : Str → Option Value} {base : Heap}
theorem Dd.ok {x : Str} {st : Stmt} {f : Addr} {fd : FuncData} {N ps : List Str} {k : Nat} {sp : Sp} (D : Dd K mg x st f fd ps) (S : FnScope N ps (defScope st)) (len : ∀ vs H Q E, sp vs H Q E → vs.length = ps.length)
    (walk : ∀ (cdv : Value) (A : Around) (outer : List Env) (s : Shared) (H : Hp) (vs : List V) (Q : VK) (E : XK), Room k (A.deeper (envOfC x (defScope st) s.heap.objs.size f cdv)) → sp vs H Q E →
      ∃ t, PSs (cxOf CX0 P w K mg base N x (defScope st) f cdv A outer s H E).nox (defBody st) t ∧ t { nx := fun _ H' => Q .non H', rt := Q } (start N vs) H) : FnOk P w K mg base CX0 (k + 1) f fd ps sp := by
  obtain ⟨t, F⟩ := D.F
  refine F.ok S len fun cdv A outer s H vs Q E hr h => ?_
  obtain ⟨t, p, q⟩ := walk cdv A outer s H vs Q E hr h
  exact ⟨t, p.nox, q⟩
def nAn : List Str := ["holders", "more", "found", "holder"]
theorem scAn : FnScope nAn ["holders", "more"] (defScope sAllNames) := ⟨rfl, rfl, rfl, by decide +kernel, rfl, by decide +kernel, by decide +kernel⟩
theorem ok_allNames {f : Addr} {fd : FuncData} (S : Std mg) (D : Dd K mg "all_names" sAllNames f fd ["holders", "more"]) : FnOk P w K mg base CX0 1 f fd ["holders", "more"] (spNames K) := by
  refine D.ok scAn (fun vs H Q E h => ?_) (fun cdv A outer s H vs Q E hr h => ?_)
  · obtain ⟨p, a, own, ks, rfl, _⟩ := h
    rfl
  · obtain ⟨p, a, own, ks, rfl, hp, ha, hk, few, q⟩ := h
    refine ⟨_, pss_cons (ps_set (i := 2) scAn.nd rfl (Or.inl rfl) (pe_callTy call_list_of (by rfl) S.list (by decide +kernel) (pa_cons (pv 1) pa_nil)))
      (pss_cons (ps_for PassesOwn.never rfl (pi_tup (pv 0)) (pg_name (i := 3) scAn.nd rfl (Or.inl rfl))
        (pss_one (ps_expr (pe_bm PySem.F.plainAttrs_list PySem.F.slot_list_extend PySem.F.type_list_extend mt_extT (pv 2) (pa_cons (pe_fld (pv 3) rfl) pa_nil)))))
      (pss_one (ps_ret (pe_callTy call_tuple_of (by rfl) S.tuple (by decide +kernel) (pa_cons (pe_callB (LR.cr_sortedSetS rfl) (by rfl) S.sorted (by decide +kernel)
        (pa_cons (pe_callTy (LR.cr_setL rfl) (by rfl) S.set (by decide +kernel) (pa_cons (pv 2) pa_nil)) pa_nil)) pa_nil))))), ?_⟩
    refine ⟨_, rfl, a, _, rfl, .inl (SqL.of ha), fun l hl => ?_⟩
    refine ⟨_, rfl, p, rfl, ⟨_, SqT.same (same_new hl) hp⟩, for_tup (xs := ks.map fun e : V × Nat => e.1) (fun i σ' H' => ∃ h zs, σ' = [some (.ref p), some (.ref a), some (.ref l), h] ∧ Same H H' ∧ H' l = some (.lst (zs.map V.str)) ∧ zs.length ≤ own.length + tot (ks.take i))
      ⟨_, own, rfl, same_new hl, upd_same, Nat.le_add_right _ _⟩ (fun i σ' H' _ h => ?_) (fun i x σ' H' hx h => ?_) (fun σ' H' h => ?_)⟩
    · obtain ⟨_, _, _, s1, _⟩ := h
      exact SqT.same s1 hp
    · obtain ⟨h0, zs, rfl, s1, hz, len⟩ := h
      rw [List.getElem?_map] at hx
      obtain ⟨e, he, rfl⟩ := Option.map_eq_some_iff.mp hx
      obtain ⟨ys, ⟨b, C, dx, fs, q1, e1, hb, c, n, lk, t⟩, few1⟩ := hk e (List.mem_of_getElem? he)
      refine ⟨_, rfl, .inl ⟨rfl, _, SqL.of hz⟩, _, rfl, b, C, dx, fs, .ref q1, e1, s1 _ _ hb, c, n, lk, l, q1, zs.map V.str, ys.map V.str, rfl, rfl, hz, SqT.same s1 t, ?_, ?_⟩
      · have := tot_le ks i
        rw [List.length_map, List.length_map, sizeLine_eq]
        have := tot_take he
        have := tot_le ks (i + 1)
        omega
      · refine ⟨_, zs ++ ys, rfl, same_put hl s1, by rw [upd_same, List.map_append], ?_⟩
        rw [List.length_append, tot_take he]
        omega
    · obtain ⟨h0, zs, rfl, s1, hz, len⟩ := h
      rw [List.take_of_length_le (by rw [List.length_map]; exact Nat.le_refl _)] at len
      refine ⟨_, rfl, l, zs, rfl, SqL.of hz, by omega, fun p2 c hp2 hc => ?_⟩
      refine ⟨p2, _, c, rfl, upd_same, by omega, fun ys p3 o1 o2 o3 o4 hp3 => ⟨p3, _, rfl, .inl ⟨SqL.of upd_same, fun l4 hl4 => q _ ys _ (((s1.trans (same_new hp2)).trans (same_new hp3)).trans (same_new hl4)) (Same.free ((s1.trans (same_new hp2)).trans (same_new hp3)) hl4) upd_same (by omega)⟩⟩⟩
end
end LK

namespace LK
open PySem PySem.Spec PyProof.Rows L2 LR
/-! ### all_steps -/
abbrev Dn := List ((Str × Str) × V)
def putP (es : Dn) (e : Str × Str) (v : V) : Dn := if (es.any fun x => decide (x.1 = e)) = true then es.map (fun x => if x.1 = e then (x.1, v) else x) else es ++ [(e, v)]
theorem kT_inj {a b : Str × Str} (h : kT a = kT b) : a = b := by
  unfold kT at h
  injection h with h1 h2
  injection h2 with h3 _
  injection h1 with h1
  injection h3 with h3
  exact Prod.ext h1 h3
theorem kT_eq (a b : Str × Str) : decide (kT a = kT b) = decide (a = b) := by
  by_cases h : a = b
  · rw [h]
    simp
  · rw [decide_eq_false h, decide_eq_false fun z => h (kT_inj z)]
theorem putK_ent (es : Dn) (e : Str × Str) (v : V) : putK (es.map ent2) (kT e) v = (putP es e v).map ent2 := by
  have q : ((es.map ent2).any fun kv => decide (kv.1 = kT e)) = es.any fun x => decide (x.1 = e) := by
    rw [List.any_map]
    congr 1
    funext x
    exact kT_eq x.1 e
  unfold putK putP
  rw [q]
  by_cases h : (es.any fun x => decide (x.1 = e)) = true
  · rw [if_pos h, if_pos h, List.map_map, List.map_map]
    apply List.map_congr_left
    intro x _
    show (if kT x.1 = kT e then (kT x.1, v) else (kT x.1, x.2)) = ent2 (if x.1 = e then (x.1, v) else x)
    by_cases g : x.1 = e
    · rw [if_pos g, if_pos (congrArg kT g)]
    · rw [if_neg g, if_neg fun z => g (kT_inj z)]
  · rw [if_neg h, if_neg h, List.map_append]
    rfl
theorem putP_len (es : Dn) (e : Str × Str) (v : V) : (putP es e v).length ≤ es.length + 1 := by
  unfold putP
  split
  · rw [List.length_map]
    omega
  · rw [List.length_append]
    exact Nat.le_refl _
theorem putP_all {Q : (Str × Str) × V → Prop} {es : Dn} {e : Str × Str} {v : V} (h : ∀ x ∈ es, Q x) (q : Q (e, v)) : ∀ x ∈ putP es e v, Q x := by
  intro x hx
  unfold putP at hx
  split at hx
  · obtain ⟨y, hy, rfl⟩ := List.mem_map.mp hx
    by_cases g : y.1 = e
    · rw [if_pos g, g]
      exact q
    · rw [if_neg g]
      exact h y hy
  · rcases List.mem_append.mp hx with hx | hx
    · exact h x hx
    · rw [List.mem_singleton.mp hx]
      exact q
theorem valV_ent : ∀ (es : Dn) (e : Str × Str), e ∈ es.map (·.1) → ∃ v, valV (es.map ent2) (kT e) = some v ∧ (e, v) ∈ es
  | [], e, h => nomatch h
  | x :: es, e, h => by
    by_cases g : x.1 = e
    · exact ⟨x.2, by rw [List.map_cons]; exact valV_pos (congrArg kT g), by rw [← g]; exact List.mem_cons_self⟩
    · rw [List.map_cons] at h
      rcases List.mem_cons.mp h with h | h
      · exact absurd h.symm g
      · obtain ⟨v, a, b⟩ := valV_ent es e h
        exact ⟨v, by rw [List.map_cons, valV_neg fun z => g (kT_inj z)]; exact a, List.mem_cons_of_mem _ b⟩
/-- a comprehension for a dict over a list that stays -/
theorem dcT_list {K : PySem.W.Frag} {a : Addr} {xs : List V} {g : TG} {tt : TT} {tk tv : TE} {vs : List Nat} {σ : L2.St} {H1 : Hp} {D : Addr} {Qd : Hp → Prop} (Pv : Nat → Hp → Prop) (h0 : Pv 0 (upd H1 D (.dT []))) (hl : ∀ i H, Pv i H → SqL K H a xs)
    (hs : ∀ i x H, xs[i]? = some x → Pv i H → g x (wipe σ vs) H fun σ2 H2 => wipe σ2 vs = wipe σ vs ∧ RowT D tt tk tv (Pv (i + 1)) σ2 H2) (hd : ∀ H, Pv xs.length H → Qd H) :
    ∃ W : Nat → Nat → Hp → Prop, (∃ m, W 0 m (upd H1 D (.dT []))) ∧ ∀ i m H, W i m H → ((Itl K a).stop i H ∧ Qd H) ∨
      ((Itl K a).go i H ∧ ∃ Nx : Hp → Prop, (∀ H', Nx H' → ∃ m', m' < m ∧ W (i + 1) m' H') ∧ ∀ x H', (Itl K a).yld i H x H' → g x (wipe σ vs) H' fun σ2 H2 => wipe σ2 vs = wipe σ vs ∧ RowT D tt tk tv Nx σ2 H2) := by
  refine ⟨fun i m H => m + i = xs.length ∧ Pv i H, ⟨xs.length, rfl, h0⟩, fun i m H w => ?_⟩
  obtain ⟨e, p⟩ := w
  have at_ := hl i H p
  by_cases lt : i < xs.length
  · refine .inr ⟨⟨xs, xs[i], at_, List.getElem?_eq_getElem lt⟩, Pv (i + 1), fun H' p' => ⟨m - 1, by omega, by omega, p'⟩, fun x H' y => ?_⟩
    obtain ⟨rfl, y⟩ := y
    exact hs i x H' (y xs at_) p
  · refine .inl ⟨⟨xs, at_, by omega⟩, hd H ?_⟩
    rw [show xs.length = i by omega]
    exact p
def StE (cS : Addr) (H : Hp) (x : (Str × Str) × V) : Prop := ∃ b, x.2 = .ref b ∧ StepAt cS H b x.1.1 x.1.2
theorem StE.same {cS : Addr} {H H' : Hp} {x : (Str × Str) × V} (s : Same H H') (h : StE cS H x) : StE cS H' x := by
  obtain ⟨b, e, dx, hb⟩ := h
  exact ⟨b, e, dx, s _ _ hb⟩
section
variable {P : Program} {w : World} {K : PySem.W.Frag} {mg : Str → Option Value} {base : Heap}
def nAs : List Str := ["holders", "more", "steps", "found", "holder", "step", "key"]
theorem scAs : FnScope nAs ["holders", "more"] (defScope sAllSteps) := ⟨rfl, rfl, rfl, by decide +kernel, rfl, by decide +kernel, by decide +kernel⟩
theorem ok_allSteps {cS f : Addr} {fd : FuncData} (S : Std mg) (cl : Cls K cS) (n1 : NoAttr K cS "name") (n2 : NoAttr K cS "ways") (D : Dd K mg "all_steps" sAllSteps f fd ["holders", "more"]) : FnOk P w K mg base CX0 1 f fd ["holders", "more"] (spSteps K cS) := by
  refine D.ok scAs (fun vs H Q E h => ?_) (fun cdv A outer s H vs Q E hr h => ?_)
  · obtain ⟨p, a, own, ks, rfl, _⟩ := h
    rfl
  · obtain ⟨p, a, own, ks, rfl, hp, ha, ho, hk, few, q⟩ := h
    refine ⟨_, pss_cons (ps_set (i := 2) scAs.nd rfl (Or.inl rfl) (pe_callTy call_list_of (by rfl) S.list (by decide +kernel) (pa_cons (pv 1) pa_nil)))
      (pss_cons (ps_for PassesOwn.never rfl (pi_tup (pv 0)) (pg_name (i := 4) scAs.nd rfl (Or.inl rfl))
        (pss_one (ps_expr (pe_bm PySem.F.plainAttrs_list PySem.F.slot_list_extend PySem.F.type_list_extend mt_extT (pv 2) (pa_cons (pe_fld (pv 4) rfl) pa_nil)))))
      (pss_cons (ps_set (i := 3) scAs.nd rfl (Or.inr rfl) (pe_dcT (own := [("step", 5)]) (g := gName 5) (tt := tYes) (tk := tTup (tCons (tFld K (tVar 5) "name") (tCons (tFld K (tVar 5) "ways") tNil))) (tv := tVar 5) rfl hr.units0 scAs.nd (pi_list (pv 2)) (blkOk_by (N := nAs) (sc := defScope sAllSteps) (by decide +kernel))
          (fun _ _ _ _ _ => pg_name (i := 5) scAs.nd rfl (Or.inl rfl)) (fun _ _ _ _ _ => pts_nil) (fun _ _ _ _ _ => pe_tup (pa_cons (pe_fld (pv 5) rfl) (pa_cons (pe_fld (pv 5) rfl) pa_nil))) (fun _ _ _ _ _ => pv 5)))
      (pss_one (ps_ret (pe_callTy call_tuple_of (by rfl) S.tuple (by decide +kernel) (pa_cons (pe_lc (own := [("key", 6)]) (g := gName 6) (tt := tYes) rfl scAs.nd
          (pi_list (pe_callB (cr_sortedDT rfl) (by rfl) S.sorted (by decide +kernel) (pa_cons (pv 3) pa_nil))) (blkOk_by (N := nAs) (sc := defScope sAllSteps) (by decide +kernel))
          (fun _ _ _ _ _ => pg_name (i := 6) scAs.nd rfl (Or.inl rfl)) (fun _ _ _ _ _ => pts_nil) (fun _ _ _ _ _ => pe_dget (by show (A.deeper (envOfC "all_steps" (defScope sAllSteps) s.heap.objs.size f cdv)).units + 1 < cLine; have := hr.units; omega) (pv 3) (pv 6) (fun _ _ => rfl))) pa_nil)))))), ?_⟩
    refine ⟨_, rfl, a, _, rfl, .inl (SqL.of ha), fun l hl => ?_⟩
    refine ⟨_, rfl, p, rfl, ⟨_, SqT.same (same_new hl) hp⟩, for_tup (xs := ks.map fun e : V × Nat => e.1) (fun i σ' H' => ∃ h zs, σ' = [some (.ref p), some (.ref a), some (.ref l), none, h, none, none] ∧ Same H H' ∧ H' l = some (.lst zs) ∧ (∀ b ∈ zs, IsSt cS H' b) ∧ zs.length ≤ own.length + tot (ks.take i))
      ⟨_, own, rfl, same_new hl, upd_same, fun b hb => (ho b hb).same (same_new hl), Nat.le_add_right _ _⟩ (fun i σ' H' _ h => ?_) (fun i x σ' H' hx h => ?_) (fun σ' H' h => ?_)⟩
    · obtain ⟨_, _, _, s1, _⟩ := h
      exact SqT.same s1 hp
    · obtain ⟨h0, zs, rfl, s1, hz, gz, len⟩ := h
      rw [List.getElem?_map] at hx
      obtain ⟨e, he, rfl⟩ := Option.map_eq_some_iff.mp hx
      obtain ⟨ys, ⟨b, C, dx, fs, q1, e1, hb, c, n, lk, t⟩, few1, gy⟩ := hk e (List.mem_of_getElem? he)
      refine ⟨_, rfl, .inl ⟨rfl, _, SqL.of hz⟩, _, rfl, b, C, dx, fs, .ref q1, e1, s1 _ _ hb, c, n, lk, l, q1, zs, ys, rfl, rfl, hz, SqT.same s1 t, ?_, ?_⟩
      · rw [sizeLine_eq]
        have := tot_take he
        have := tot_le ks (i + 1)
        omega
      · have s2 : Same H (upd H' l (.lst (zs ++ ys))) := same_put hl s1
        have low : ∀ v, IsSt cS H' v → IsSt cS (upd H' l (.lst (zs ++ ys))) v := fun v h => by
          obtain ⟨b, z, y, e2, d2, h2⟩ := h
          refine ⟨b, z, y, e2, d2, ?_⟩
          rw [upd_ne (ne_of h2 hz (by intro z; cases z))]
          exact h2
        refine ⟨_, zs ++ ys, rfl, s2, upd_same, fun v hv => ?_, ?_⟩
        · rcases List.mem_append.mp hv with hv | hv
          · exact low v (gz v hv)
          · exact low v ((gy v hv).same s1)
        · rw [List.length_append, tot_take he]
          omega
    · obtain ⟨h0, zs, rfl, s1, hz, gz, len⟩ := h
      rw [List.take_of_length_le (by rw [List.length_map]; exact Nat.le_refl _)] at len
      refine ⟨_, rfl, l, rfl, ⟨_, SqL.of hz⟩, fun d hd => dcT_list (xs := zs) (fun i H4 => Same H' H4 ∧ ∃ es : Dn, H4 d = some (.dT (es.map ent2)) ∧ es.length ≤ i ∧ ∀ x ∈ es, StE cS H' x) ⟨same_new hd, [], upd_same, Nat.le_refl _, fun _ h => nomatch h⟩
        (fun i H4 h => SqL.of (h.1 _ _ hz)) (fun i v H4 hv h => ?_) (fun H4 h => ?_)⟩
      · obtain ⟨s4, es, hd4, le, ge⟩ := h
        have le2 : i < zs.length := (List.getElem?_eq_some_iff.mp hv).1
        obtain ⟨b, z, y, rfl, dx, hb⟩ := gz v (List.mem_of_getElem? hv)
        refine ⟨rfl, ?_⟩
        refine ⟨_, rfl, b, cS, dx, _, _, rfl, s4 _ _ hb, cl, n1, rfl, _, rfl, b, cS, dx, _, _, rfl, s4 _ _ hb, cl, n2, rfl, (by show 2 ≤ sizeLine; decide), fun t ht => ?_⟩
        refine ⟨_, rfl, es.map ent2, kT (z, y), t, rfl, upd_same, ?_, ?_, ?_⟩
        · rw [upd_ne (ne_of_none hd4 ht)]
          exact hd4
        · rw [List.length_map, sizeLine_eq]
          omega
        · rw [putK_ent]
          refine ⟨same_put hd (s4.trans (same_new ht)), putP es (z, y) (.ref b), upd_same, Nat.le_trans (putP_len _ _ _) (by omega), putP_all ge ⟨b, rfl, dx, hb⟩⟩
      · obtain ⟨s4, es, hd4, le, ge⟩ := h
        refine ⟨_, rfl, d, es, rfl, hd4, fun kz p3 pm _ hk hp3 => ?_⟩
        have s5 : Same H' (upd H4 p3 (.lst (kz.map fun z => V.ref z.2))) := s4.trans (same_new hp3)
        have kl : kz.length = es.length := by
          have := pm.length_eq
          rwa [List.length_map, List.length_map] at this
        refine ⟨p3, rfl, ⟨_, SqL.of upd_same⟩, fun D5 hD5 => lc_list (xs := kz.map fun z => V.ref z.2) (fun i H6 => Same (upd H4 p3 (.lst (kz.map fun z => V.ref z.2))) H6 ∧ ∃ bs, H6 D5 = some (.lst bs) ∧ bs.length = i ∧ ∀ b ∈ bs, IsSt cS H' b)
          ⟨same_new hD5, [], upd_same, rfl, fun _ h => nomatch h⟩ (fun i H6 _ h => SqL.of (h.1 _ _ upd_same)) (fun i v H6 hv h => ?_) (fun H6 h => ?_)⟩
        · obtain ⟨s6, bs, hb6, lb, gb⟩ := h
          rw [List.getElem?_map] at hv
          obtain ⟨z, hz2, rfl⟩ := Option.map_eq_some_iff.mp hv
          have mz := List.mem_of_getElem? hz2
          obtain ⟨v, v1, v2⟩ := valV_ent es z.1 (pm.mem_iff.mp (List.mem_map_of_mem mz))
          obtain ⟨b, rfl, hb⟩ := ge _ v2
          have il : i < kz.length := (List.getElem?_eq_some_iff.mp hz2).1
          have pz : H6 z.2 = some (.tup ((kT z.1).map kV)) := s6 _ _ (same_new hp3 _ _ (hk z mz))
          have dz : H6 d = some (.dT (es.map ent2)) := s6 _ _ (same_new hp3 _ _ hd4)
          refine ⟨rfl, _, rfl, _, rfl, d, .ref b, rfl, v1 ▸ DGet.t dz pz, bs, hb6, by rw [lb, sizeLine_eq]; omega, same_put hD5 s6, bs ++ [.ref b], upd_same, by rw [List.length_append, lb]; rfl, fun x hx => ?_⟩
          rcases List.mem_append.mp hx with hx | hx
          · exact gb x hx
          · rw [List.mem_singleton.mp hx]
            exact ⟨b, _, _, rfl, hb⟩
        · obtain ⟨s6, bs, hb6, lb, gb⟩ := h
          have s7 : Same H' H6 := s5.trans s6
          refine ⟨D5, _, rfl, .inl ⟨SqL.of hb6, fun l5 hl5 => q _ bs _ ((s1.trans s7).trans (same_new hl5)) (Same.free (s1.trans s7) hl5) upd_same (fun b hb => (gb b hb).same (s7.trans (same_new hl5))) ?_⟩⟩
          rw [lb, List.length_map]
          omega
end
end LK

namespace LK
open PySem PySem.Spec PyProof.Rows L2 LR
/-! ### names and steps gathered, each once, ascending -/
def HasNmX (K : PySem.W.Frag) (H : Hp) (e : V × List Str) : Prop := ∃ zs, FldT K "names" H e.1 (zs.map V.str) ∧ NmsOf e.2 zs
/-- steps of these names and ways -/
def KeyL (cS : Addr) (H : Hp) (bs : List V) (ks : List (Str × Str)) : Prop := bs.length = ks.length ∧ ∀ (i : Nat) b k, bs[i]? = some b → ks[i]? = some k → ∃ a, b = .ref a ∧ StepAt cS H a k.1 k.2
theorem KeyL.same {cS : Addr} {H H' : Hp} {bs : List V} {ks : List (Str × Str)} (s : Same H H') (h : KeyL cS H bs ks) : KeyL cS H' bs ks := ⟨h.1, fun i b k h1 h2 => by
  obtain ⟨a, e, dx, st⟩ := h.2 i b k h1 h2
  exact ⟨a, e, dx, s _ _ st⟩⟩
theorem KeyL.nil {cS : Addr} {H : Hp} : KeyL cS H [] [] := ⟨rfl, fun i b k h => by simp at h⟩
theorem KeyL.app {cS : Addr} {H : Hp} {bs cs : List V} {ks js : List (Str × Str)} (h : KeyL cS H bs ks) (h' : KeyL cS H cs js) : KeyL cS H (bs ++ cs) (ks ++ js) := by
  refine ⟨by rw [List.length_append, List.length_append, h.1, h'.1], fun i b k h1 h2 => ?_⟩
  have l1 := h.1
  by_cases lt : i < bs.length
  · rw [List.getElem?_append_left (by omega)] at h1 h2
    exact h.2 i b k h1 h2
  · rw [List.getElem?_append_right (by omega)] at h1 h2
    rw [← l1] at h2
    exact h'.2 _ b k h1 h2
theorem KeyL.one {cS a : Addr} {H : Hp} {z y : Str} (h : StepAt cS H a z y) : KeyL cS H [.ref a] [(z, y)] := ⟨rfl, fun i b k h1 h2 => by
  cases i with
  | zero =>
    cases h1
    cases h2
    exact ⟨a, rfl, h⟩
  | succ i => simp at h1⟩
theorem KeyL.is {cS : Addr} {H : Hp} {bs : List V} {ks : List (Str × Str)} (h : KeyL cS H bs ks) : ∀ b ∈ bs, IsSt cS H b := fun b hb => by
  obtain ⟨i, hi⟩ := List.getElem?_of_mem hb
  have lt := (List.getElem?_eq_some_iff.mp hi).1
  obtain ⟨a, e, st⟩ := h.2 i b (ks[i]'(by rw [← h.1]; exact lt)) hi (List.getElem?_eq_getElem _)
  exact ⟨a, _, _, e, st⟩
theorem KeyL.lst {cS D : Addr} {H : Hp} {ys zs bs : List V} {ks : List (Str × Str)} (e : H D = some (.lst ys)) (h : KeyL cS H bs ks) : KeyL cS (upd H D (.lst zs)) bs ks := ⟨h.1, fun i b k h1 h2 => by
  obtain ⟨a, q, dx, st⟩ := h.2 i b k h1 h2
  exact ⟨a, q, dx, by rw [upd_ne (ne_of st e (by intro z; cases z))]; exact st⟩⟩
def HasStX (K : PySem.W.Frag) (cS : Addr) (H : Hp) (e : V × List (Str × Str)) : Prop := ∃ bs ks, FldT K "steps" H e.1 bs ∧ KeyL cS H bs ks ∧ KysOf e.2 ks
theorem flT {α : Type} {ks : List (V × List α)} {i : Nat} {e : V × List α} (h : ks[i]? = some e) : ((ks.take (i + 1)).map (·.2)).flatten = ((ks.take i).map (·.2)).flatten ++ e.2 := by
  rw [List.take_add_one, h, List.map_append, List.flatten_append]
  simp
theorem flT_le {α : Type} (ks : List (V × List α)) (i : Nat) : ((ks.take i).map (·.2)).flatten.length ≤ (ks.map (·.2)).flatten.length := by
  have q : (ks.map (·.2)).flatten = ((ks.take i).map (·.2)).flatten ++ ((ks.drop i).map (·.2)).flatten := by
    rw [← List.flatten_append, ← List.map_append, List.take_append_drop]
  rw [q, List.length_append]
  omega
def spNamesX (K : PySem.W.Frag) : Sp := fun vs H Q _ => ∃ (p a : Addr) (own : List Str) (ks : List (V × List Str)), vs = [.ref p, .ref a] ∧ SqT K H p (ks.map (·.1)) ∧ H a = some (.lst (own.map V.str)) ∧ (∀ e ∈ ks, HasNmX K H e) ∧ own.length + (ks.map (·.2)).flatten.length < 64 ∧
  ∀ (q : Addr) (ys : List Str) (H' : Hp), Same H H' → H q = none → H' q = some (.tup (ys.map V.str)) → NmsOf (own ++ (ks.map (·.2)).flatten) ys → Q (.ref q) H'
def spStepsX (K : PySem.W.Frag) (cS : Addr) : Sp := fun vs H Q _ => ∃ (p a : Addr) (own : List V) (ok : List (Str × Str)) (ks : List (V × List (Str × Str))), vs = [.ref p, .ref a] ∧ SqT K H p (ks.map (·.1)) ∧ H a = some (.lst own) ∧ KeyL cS H own ok ∧ (∀ e ∈ ks, HasStX K cS H e) ∧ ok.length + (ks.map (·.2)).flatten.length < 64 ∧
  ∀ (q : Addr) (bs : List V) (js : List (Str × Str)) (H' : Hp), Same H H' → H q = none → H' q = some (.tup bs) → KeyL cS H' bs js → KysOf (ok ++ (ks.map (·.2)).flatten) js → Q (.ref q) H'
theorem putP_keys (es : Dn) (e : Str × Str) (v : V) : (putP es e v).map (·.1) = if e ∈ es.map (·.1) then es.map (·.1) else es.map (·.1) ++ [e] := by
  have q : ((es.any fun x => decide (x.1 = e)) = true) ↔ e ∈ es.map (·.1) := by
    rw [List.any_eq_true, List.mem_map]
    exact ⟨fun ⟨x, h1, h2⟩ => ⟨x, h1, of_decide_eq_true h2⟩, fun ⟨x, h1, h2⟩ => ⟨x, h1, decide_eq_true h2⟩⟩
  unfold putP
  by_cases h : e ∈ es.map (·.1)
  · rw [if_pos h, if_pos (q.mpr h), List.map_map]
    apply List.map_congr_left
    intro x _
    show (if x.1 = e then (x.1, v) else x).1 = x.1
    split <;> rfl
  · rw [if_neg h, if_neg fun z => h (q.mp z), List.map_append]
    rfl
theorem putP_nodup {es : Dn} {e : Str × Str} {v : V} (h : (es.map (·.1)).Nodup) : ((putP es e v).map (·.1)).Nodup := by
  rw [putP_keys]
  split
  · exact h
  · rename_i n
    rw [List.nodup_append]
    exact ⟨h, by simp, fun a ha b hb => by rw [List.mem_singleton.mp hb]; intro q; rw [q] at ha; exact n ha⟩
theorem putP_mem {es : Dn} {e : Str × Str} {v : V} (k : Str × Str) : k ∈ (putP es e v).map (·.1) ↔ k ∈ es.map (·.1) ∨ k = e := by
  rw [putP_keys]
  split
  · rename_i m
    exact ⟨.inl, fun h => h.elim id fun q => q ▸ m⟩
  · rw [List.mem_append, List.mem_singleton]
section
variable {P : Program} {w : World} {K : PySem.W.Frag} {mg : Str → Option Value} {base : Heap}
theorem ok_allNamesX {f : Addr} {fd : FuncData} (S : Std mg) (D : Dd K mg "all_names" sAllNames f fd ["holders", "more"]) : FnOk P w K mg base CX0 1 f fd ["holders", "more"] (spNamesX K) := by
  refine D.ok scAn (fun vs H Q E h => ?_) (fun cdv A outer s H vs Q E hr h => ?_)
  · obtain ⟨p, a, own, ks, rfl, _⟩ := h
    rfl
  · obtain ⟨p, a, own, ks, rfl, hp, ha, hk, few, q⟩ := h
    refine ⟨_, pss_cons (ps_set (i := 2) scAn.nd rfl (Or.inl rfl) (pe_callTy call_list_of (by rfl) S.list (by decide +kernel) (pa_cons (pv 1) pa_nil)))
      (pss_cons (ps_for PassesOwn.never rfl (pi_tup (pv 0)) (pg_name (i := 3) scAn.nd rfl (Or.inl rfl))
        (pss_one (ps_expr (pe_bm PySem.F.plainAttrs_list PySem.F.slot_list_extend PySem.F.type_list_extend mt_extT (pv 2) (pa_cons (pe_fld (pv 3) rfl) pa_nil)))))
      (pss_one (ps_ret (pe_callTy call_tuple_of (by rfl) S.tuple (by decide +kernel) (pa_cons (pe_callB (LR.cr_sortedSetS rfl) (by rfl) S.sorted (by decide +kernel)
        (pa_cons (pe_callTy (LR.cr_setL rfl) (by rfl) S.set (by decide +kernel) (pa_cons (pv 2) pa_nil)) pa_nil)) pa_nil))))), ?_⟩
    refine ⟨_, rfl, a, _, rfl, .inl (SqL.of ha), fun l hl => ?_⟩
    refine ⟨_, rfl, p, rfl, ⟨_, SqT.same (same_new hl) hp⟩, for_tup (xs := ks.map fun e : V × List Str => e.1) (fun i σ' H' => ∃ h zs, σ' = [some (.ref p), some (.ref a), some (.ref l), h] ∧ Same H H' ∧ H' l = some (.lst (zs.map V.str)) ∧ zs.length ≤ own.length + ((ks.take i).map (·.2)).flatten.length ∧ ∀ k, k ∈ zs ↔ k ∈ own ++ ((ks.take i).map (·.2)).flatten)
      ⟨_, own, rfl, same_new hl, upd_same, Nat.le_add_right _ _, fun k => by simp⟩ (fun i σ' H' _ h => ?_) (fun i x σ' H' hx h => ?_) (fun σ' H' h => ?_)⟩
    · obtain ⟨_, _, _, s1, _⟩ := h
      exact SqT.same s1 hp
    · obtain ⟨h0, zs, rfl, s1, hz, len, mem⟩ := h
      rw [List.getElem?_map] at hx
      obtain ⟨e, he, rfl⟩ := Option.map_eq_some_iff.mp hx
      obtain ⟨ys, ⟨b, C, dx, fs, q1, e1, hb, c, n, lk, t⟩, no⟩ := hk e (List.mem_of_getElem? he)
      have e2 := flT he
      have few1 := no.le
      have e3 := flT_le ks (i + 1)
      rw [e2, List.length_append] at e3
      refine ⟨_, rfl, .inl ⟨rfl, _, SqL.of hz⟩, _, rfl, b, C, dx, fs, .ref q1, e1, s1 _ _ hb, c, n, lk, l, q1, zs.map V.str, ys.map V.str, rfl, rfl, hz, SqT.same s1 t, ?_, ?_⟩
      · rw [List.length_map, List.length_map, sizeLine_eq]
        omega
      · refine ⟨_, zs ++ ys, rfl, same_put hl s1, by rw [upd_same, List.map_append], ?_, fun k => ?_⟩
        · rw [List.length_append, e2, List.length_append]
          omega
        · rw [e2, List.mem_append, mem k, no.mem k, ← List.append_assoc, List.mem_append (s := own ++ _)]
    · obtain ⟨h0, zs, rfl, s1, hz, len, mem⟩ := h
      rw [List.take_of_length_le (by rw [List.length_map]; exact Nat.le_refl _)] at len mem
      refine ⟨_, rfl, l, zs, rfl, SqL.of hz, by omega, fun p2 c hp2 hc => ?_⟩
      refine ⟨p2, _, c, rfl, upd_same, by omega, fun ys p3 o1 o2 o3 o4 hp3 => ⟨p3, _, rfl, .inl ⟨SqL.of upd_same, fun l4 hl4 => q _ ys _ (((s1.trans (same_new hp2)).trans (same_new hp3)).trans (same_new hl4)) (Same.free ((s1.trans (same_new hp2)).trans (same_new hp3)) hl4) upd_same (nms_of o1 o2 fun k => ?_)⟩⟩⟩
      rw [o3 k, ← mem k]
      exact decide_eq_true_iff
theorem ok_allStepsX {cS f : Addr} {fd : FuncData} (S : Std mg) (cl : Cls K cS) (n1 : NoAttr K cS "name") (n2 : NoAttr K cS "ways") (D : Dd K mg "all_steps" sAllSteps f fd ["holders", "more"]) : FnOk P w K mg base CX0 1 f fd ["holders", "more"] (spStepsX K cS) := by
  refine D.ok scAs (fun vs H Q E h => ?_) (fun cdv A outer s H vs Q E hr h => ?_)
  · obtain ⟨p, a, own, ok, ks, rfl, _⟩ := h
    rfl
  · obtain ⟨p, a, own, ok, ks, rfl, hp, ha, ho, hk, few, q⟩ := h
    refine ⟨_, pss_cons (ps_set (i := 2) scAs.nd rfl (Or.inl rfl) (pe_callTy call_list_of (by rfl) S.list (by decide +kernel) (pa_cons (pv 1) pa_nil)))
      (pss_cons (ps_for PassesOwn.never rfl (pi_tup (pv 0)) (pg_name (i := 4) scAs.nd rfl (Or.inl rfl))
        (pss_one (ps_expr (pe_bm PySem.F.plainAttrs_list PySem.F.slot_list_extend PySem.F.type_list_extend mt_extT (pv 2) (pa_cons (pe_fld (pv 4) rfl) pa_nil)))))
      (pss_cons (ps_set (i := 3) scAs.nd rfl (Or.inr rfl) (pe_dcT (own := [("step", 5)]) (g := gName 5) (tt := tYes) (tk := tTup (tCons (tFld K (tVar 5) "name") (tCons (tFld K (tVar 5) "ways") tNil))) (tv := tVar 5) rfl hr.units0 scAs.nd (pi_list (pv 2)) (blkOk_by (N := nAs) (sc := defScope sAllSteps) (by decide +kernel))
          (fun _ _ _ _ _ => pg_name (i := 5) scAs.nd rfl (Or.inl rfl)) (fun _ _ _ _ _ => pts_nil) (fun _ _ _ _ _ => pe_tup (pa_cons (pe_fld (pv 5) rfl) (pa_cons (pe_fld (pv 5) rfl) pa_nil))) (fun _ _ _ _ _ => pv 5)))
      (pss_one (ps_ret (pe_callTy call_tuple_of (by rfl) S.tuple (by decide +kernel) (pa_cons (pe_lc (own := [("key", 6)]) (g := gName 6) (tt := tYes) rfl scAs.nd
          (pi_list (pe_callB (cr_sortedDT rfl) (by rfl) S.sorted (by decide +kernel) (pa_cons (pv 3) pa_nil))) (blkOk_by (N := nAs) (sc := defScope sAllSteps) (by decide +kernel))
          (fun _ _ _ _ _ => pg_name (i := 6) scAs.nd rfl (Or.inl rfl)) (fun _ _ _ _ _ => pts_nil) (fun _ _ _ _ _ => pe_dget (by show (A.deeper (envOfC "all_steps" (defScope sAllSteps) s.heap.objs.size f cdv)).units + 1 < cLine; have := hr.units; omega) (pv 3) (pv 6) (fun _ _ => rfl))) pa_nil)))))), ?_⟩
    refine ⟨_, rfl, a, _, rfl, .inl (SqL.of ha), fun l hl => ?_⟩
    refine ⟨_, rfl, p, rfl, ⟨_, SqT.same (same_new hl) hp⟩, for_tup (xs := ks.map fun e : V × List (Str × Str) => e.1) (fun i σ' H' => ∃ h zs js, σ' = [some (.ref p), some (.ref a), some (.ref l), none, h, none, none] ∧ Same H H' ∧ H' l = some (.lst zs) ∧ KeyL cS H' zs js ∧ js.length ≤ ok.length + ((ks.take i).map (·.2)).flatten.length ∧ ∀ k, k ∈ js ↔ k ∈ ok ++ ((ks.take i).map (·.2)).flatten)
      ⟨_, own, ok, rfl, same_new hl, upd_same, ho.same (same_new hl), Nat.le_add_right _ _, fun k => by simp⟩ (fun i σ' H' _ h => ?_) (fun i x σ' H' hx h => ?_) (fun σ' H' h => ?_)⟩
    · obtain ⟨_, _, _, _, s1, _⟩ := h
      exact SqT.same s1 hp
    · obtain ⟨h0, zs, js, rfl, s1, hz, gz, len, mem⟩ := h
      rw [List.getElem?_map] at hx
      obtain ⟨e, he, rfl⟩ := Option.map_eq_some_iff.mp hx
      obtain ⟨ys, is, ⟨b, C, dx, fs, q1, e1, hb, c, n, lk, t⟩, gy, no⟩ := hk e (List.mem_of_getElem? he)
      have e2 := flT he
      have few1 := no.le
      have e3 := flT_le ks (i + 1)
      rw [e2, List.length_append] at e3
      have l1 := gz.1
      have l2 := gy.1
      refine ⟨_, rfl, .inl ⟨rfl, _, SqL.of hz⟩, _, rfl, b, C, dx, fs, .ref q1, e1, s1 _ _ hb, c, n, lk, l, q1, zs, ys, rfl, rfl, hz, SqT.same s1 t, ?_, ?_⟩
      · rw [sizeLine_eq]
        omega
      · refine ⟨_, zs ++ ys, js ++ is, rfl, same_put hl s1, upd_same, (gz.app (gy.same s1)).lst hz, ?_, fun k => ?_⟩
        · rw [List.length_append, e2, List.length_append]
          omega
        · rw [e2, List.mem_append, mem k, no.mem k, ← List.append_assoc, List.mem_append (s := ok ++ _)]
    · obtain ⟨h0, zs, js, rfl, s1, hz, gz, len, mem⟩ := h
      rw [List.take_of_length_le (by rw [List.length_map]; exact Nat.le_refl _)] at len mem
      have l1 := gz.1
      refine ⟨_, rfl, l, rfl, ⟨_, SqL.of hz⟩, fun d hd => dcT_list (xs := zs) (fun i H4 => Same H' H4 ∧ ∃ es : Dn, H4 d = some (.dT (es.map ent2)) ∧ es.length ≤ i ∧ (∀ x ∈ es, StE cS H' x) ∧ (es.map (·.1)).Nodup ∧ ∀ k, k ∈ es.map (·.1) ↔ k ∈ js.take i) ⟨same_new hd, [], upd_same, Nat.le_refl _, (fun _ h => nomatch h), .nil, fun k => by simp⟩
        (fun i H4 h => SqL.of (h.1 _ _ hz)) (fun i v H4 hv h => ?_) (fun H4 h => ?_)⟩
      · obtain ⟨s4, es, hd4, le, ge, nd, me⟩ := h
        have le2 : i < zs.length := (List.getElem?_eq_some_iff.mp hv).1
        have hj : js[i]? = some (js[i]'(by omega)) := List.getElem?_eq_getElem _
        obtain ⟨b, rfl, dx, hb⟩ := gz.2 i v _ hv hj
        generalize js[i]'(by omega) = zy at hj hb
        obtain ⟨z, y⟩ := zy
        refine ⟨rfl, ?_⟩
        refine ⟨_, rfl, b, cS, dx, _, _, rfl, s4 _ _ hb, cl, n1, rfl, _, rfl, b, cS, dx, _, _, rfl, s4 _ _ hb, cl, n2, rfl, (by show 2 ≤ sizeLine; decide), fun t ht => ?_⟩
        refine ⟨_, rfl, es.map ent2, kT (z, y), t, rfl, upd_same, ?_, ?_, ?_⟩
        · rw [upd_ne (ne_of_none hd4 ht)]
          exact hd4
        · rw [List.length_map, sizeLine_eq]
          omega
        · rw [putK_ent]
          refine ⟨same_put hd (s4.trans (same_new ht)), putP es (z, y) (.ref b), upd_same, Nat.le_trans (putP_len _ _ _) (by omega), putP_all ge ⟨b, rfl, dx, hb⟩, putP_nodup nd, fun k => ?_⟩
          rw [putP_mem, me k, List.take_add_one, hj, List.mem_append]
          simp
      · obtain ⟨s4, es, hd4, le, ge, nd, me⟩ := h
        rw [l1, List.take_length] at me
        refine ⟨_, rfl, d, es, rfl, hd4, fun kz p3 pm up hk hp3 => ?_⟩
        have s5 : Same H' (upd H4 p3 (.lst (kz.map fun z => V.ref z.2))) := s4.trans (same_new hp3)
        have kl : kz.length = es.length := by
          have := pm.length_eq
          rwa [List.length_map, List.length_map] at this
        have kys : KysOf (ok ++ (ks.map (·.2)).flatten) (kz.map (·.1)) := by
          refine ⟨?_, fun k => by rw [pm.mem_iff, me k, mem k]⟩
          have n2 : (kz.map (·.1)).Nodup := pm.nodup_iff.mpr nd
          rw [List.pairwise_map]
          have n3 := List.pairwise_map.mp n2
          exact (up.and n3).imp fun h => ⟨h.1, h.2⟩
        refine ⟨p3, rfl, ⟨_, SqL.of upd_same⟩, fun D5 hD5 => lc_list (xs := kz.map fun z => V.ref z.2) (fun i H6 => Same (upd H4 p3 (.lst (kz.map fun z => V.ref z.2))) H6 ∧ ∃ bs, H6 D5 = some (.lst bs) ∧ bs.length = i ∧ KeyL cS H' bs ((kz.map (·.1)).take i))
          ⟨same_new hD5, [], upd_same, rfl, by rw [List.take_zero]; exact KeyL.nil⟩ (fun i H6 _ h => SqL.of (h.1 _ _ upd_same)) (fun i v H6 hv h => ?_) (fun H6 h => ?_)⟩
        · obtain ⟨s6, bs, hb6, lb, gb⟩ := h
          rw [List.getElem?_map] at hv
          obtain ⟨z, hz2, rfl⟩ := Option.map_eq_some_iff.mp hv
          have mz := List.mem_of_getElem? hz2
          obtain ⟨v, v1, v2⟩ := valV_ent es z.1 (pm.mem_iff.mp (List.mem_map_of_mem mz))
          obtain ⟨b, rfl, hb⟩ := ge _ v2
          have il : i < kz.length := (List.getElem?_eq_some_iff.mp hz2).1
          have pz : H6 z.2 = some (.tup ((kT z.1).map kV)) := s6 _ _ (same_new hp3 _ _ (hk z mz))
          have dz : H6 d = some (.dT (es.map ent2)) := s6 _ _ (same_new hp3 _ _ hd4)
          refine ⟨rfl, _, rfl, _, rfl, d, .ref b, rfl, v1 ▸ DGet.t dz pz, bs, hb6, by rw [lb, sizeLine_eq]; omega, same_put hD5 s6, bs ++ [.ref b], upd_same, by rw [List.length_append, lb]; rfl, ?_⟩
          rw [List.take_add_one, List.getElem?_map, hz2]
          exact gb.app (KeyL.one hb)
        · obtain ⟨s6, bs, hb6, lb, gb⟩ := h
          have s7 : Same H' H6 := s5.trans s6
          rw [List.take_of_length_le (by rw [List.length_map, List.length_map]; exact Nat.le_refl _)] at gb
          exact ⟨D5, _, rfl, .inl ⟨SqL.of hb6, fun l5 hl5 => q _ bs _ _ ((s1.trans s7).trans (same_new hl5)) (Same.free (s1.trans s7) hl5) upd_same (gb.same (s7.trans (same_new hl5))) kys⟩⟩
end
end LK

namespace LK
open PySem PySem.Spec PyProof.Rows L2 LR
/-! ### expressions -/
structure ExN (K : PySem.W.Frag) (C : Addr) : Prop where
  kind : NoAttr K C "kind"
  word : NoAttr K C "word"
  step : NoAttr K C "step"
  parts : NoAttr K C "parts"
  names : NoAttr K C "names"
  steps : NoAttr K C "steps"
  size : NoAttr K C "size"
  applied : NoAttr K C "applied"
  other : ∃ cS, cS ≠ C ∧ Cls K cS ∧ NoAttr K cS "name" ∧ NoAttr K cS "ways"
abbrev exFs (kd z : Str) (st : V) (p q1 q2 : Addr) (i j : Int) : List (Str × V) := [("kind", .str kd), ("word", .str z), ("step", st), ("parts", .ref p), ("names", .ref q1), ("steps", .ref q2), ("size", .int i), ("applied", .int j)]
/-- an expression of at most n names and steps -/
def ExF (C cS : Addr) (H : Hp) (a : Addr) (kd z : Str) (st : V) (p : Addr) (n : Nat) : Prop := ∃ dx q1 q2 i j, ∃ (zs : List Str) (bs : List V), H a = some (.ins C dx (exFs kd z st p q1 q2 i j)) ∧
  H q1 = some (.tup (zs.map V.str)) ∧ H q2 = some (.tup bs) ∧ zs.length ≤ n ∧ bs.length ≤ n ∧ ∀ b ∈ bs, IsSt cS H b
def IsEx (C cS : Addr) (H : Hp) (e : V × Nat) : Prop := ∃ a kd z st p, e.1 = .ref a ∧ ExF C cS H a kd z st p e.2
theorem ExF.same {C cS : Addr} {H H' : Hp} {a : Addr} {kd z : Str} {st : V} {p : Addr} {n : Nat} (s : Same H H') (h : ExF C cS H a kd z st p n) : ExF C cS H' a kd z st p n := by
  obtain ⟨dx, q1, q2, i, j, zs, bs, e, t1, t2, l1, l2, g⟩ := h
  exact ⟨dx, q1, q2, i, j, zs, bs, s _ _ e, s _ _ t1, s _ _ t2, l1, l2, fun b hb => (g b hb).same s⟩
theorem IsEx.same {C cS : Addr} {H H' : Hp} {e : V × Nat} (s : Same H H') (h : IsEx C cS H e) : IsEx C cS H' e := by
  obtain ⟨a, kd, z, st, p, q, f⟩ := h
  exact ⟨a, kd, z, st, p, q, f.same s⟩
/-- v is an expression of this kind, word and step, its parts ps, with at most n names and steps -/
def ExP (K : PySem.W.Frag) (C cS : Addr) (H : Hp) (v : V) (kd z : Str) (st : V) (ps : List V) (n : Nat) : Prop := ∃ a p, v = .ref a ∧ ExF C cS H a kd z st p n ∧ SqT K H p ps
theorem ExP.same {K : PySem.W.Frag} {C cS : Addr} {H H' : Hp} {v : V} {kd z : Str} {st : V} {ps : List V} {n : Nat} (s : Same H H') (h : ExP K C cS H v kd z st ps n) : ExP K C cS H' v kd z st ps n := by
  obtain ⟨a, p, e, f, t⟩ := h
  exact ⟨a, p, e, f.same s, SqT.same s t⟩
theorem ExP.is {K : PySem.W.Frag} {C cS : Addr} {H : Hp} {v : V} {kd z : Str} {st : V} {ps : List V} {n : Nat} (h : ExP K C cS H v kd z st ps n) : IsEx C cS H (v, n) := by
  obtain ⟨a, p, e, f, t⟩ := h
  exact ⟨a, kd, z, st, p, e, f⟩
theorem IsSt.put {C cS x dx : Addr} {H : Hp} {fs gs : List (Str × V)} {v : V} (ne : cS ≠ C) (e : H x = some (.ins C dx fs)) (h : IsSt cS H v) : IsSt cS (upd H x (.ins C dx gs)) v := by
  obtain ⟨b, z, y, q, d, hb⟩ := h
  refine ⟨b, z, y, q, d, ?_⟩
  rw [upd_ne (ne_of hb e (by intro z; injection z with z1; exact ne z1))]
  exact hb
theorem IsEx.put {C cS x dx : Addr} {H : Hp} {fs gs : List (Str × V)} {v : V × Nat} (ne : cS ≠ C) (e : H x = some (.ins C dx fs)) (fl : fs.length < 8) (h : IsEx C cS H v) : IsEx C cS (upd H x (.ins C dx gs)) v := by
  obtain ⟨a, kd, z, st, p, q, d, q1, q2, i, j, zs, bs, ha, t1, t2, l1, l2, g⟩ := h
  refine ⟨a, kd, z, st, p, q, d, q1, q2, i, j, zs, bs, ?_, ?_, ?_, l1, l2, fun b hb => (g b hb).put ne e⟩
  · rw [upd_ne (ne_of ha e (by intro z; injection z with _ _ z3; rw [← z3] at fl; simp at fl))]
    exact ha
  · rw [upd_ne (ne_of t1 e (by intro z; cases z))]
    exact t1
  · rw [upd_ne (ne_of t2 e (by intro z; cases z))]
    exact t2
/-- while it is filled -/
structure Fill (K : PySem.W.Frag) (C cS x dx l l2 : Addr) (own : List Str) (own2 : List V) (ks : List (V × Nat)) (ts tr : List (Addr × List V)) (gb : List V) (H0 H : Hp) (fs : List (Str × V)) : Prop where
  at_ : H x = some (.ins C dx fs)
  l1 : H l = some (.lst (own.map V.str))
  l2 : H l2 = some (.lst own2)
  ts : ∀ t ∈ ts, SqT K H t.1 t.2
  tr : ∀ t ∈ tr, H t.1 = some (.tup t.2)
  st : ∀ b ∈ gb, IsSt cS H b
  pk : ∀ e ∈ ks, IsEx C cS H e
  kp : Keep x H0 H
theorem sqT_put {K : PySem.W.Frag} {H : Hp} {x p C dx : Addr} {fs gs : List (Str × V)} {ys : List V} (h : SqT K H p ys) (e : H x = some (.ins C dx fs)) : SqT K (upd H x (.ins C dx gs)) p ys := by
  have ne : ∀ o, H p = some o → o ≠ .ins C dx fs → p ≠ x := fun o e1 n z => by
    rw [z, e] at e1
    exact n (Option.some.inj e1).symm
  rcases h with (h | ⟨o, h⟩) | h
  · exact .inl (.inl (by rw [upd_ne (ne _ h (by intro z; cases z))]; exact h))
  · exact .inl (.inr ⟨o, by rw [upd_ne (ne _ h (by intro z; cases z))]; exact h⟩)
  · exact .inr h
section
variable {K : PySem.W.Frag} {C cS x dx l l2 : Addr} {own : List Str} {own2 : List V} {ks : List (V × Nat)} {ts tr : List (Addr × List V)} {gb : List V} {H0 H H' : Hp} {fs : List (Str × V)}
theorem Fill.same (h : Fill K C cS x dx l l2 own own2 ks ts tr gb H0 H fs) (s : Same H H') : Fill K C cS x dx l l2 own own2 ks ts tr gb H0 H' fs :=
  ⟨s _ _ h.at_, s _ _ h.l1, s _ _ h.l2, fun t ht => SqT.same s (h.ts t ht), fun t ht => s _ _ (h.tr t ht), fun b hb => (h.st b hb).same s, fun e he => (h.pk e he).same s, h.kp.trans (Keep.same s)⟩
theorem Fill.put (h : Fill K C cS x dx l l2 own own2 ks ts tr gb H0 H fs) (ne : cS ≠ C) (fl : fs.length < 8) (gs : List (Str × V)) : Fill K C cS x dx l l2 own own2 ks ts tr gb H0 (upd H x (.ins C dx gs)) gs :=
  ⟨upd_same, by rw [upd_ne (ne_of h.l1 h.at_ (by intro z; cases z))]; exact h.l1, by rw [upd_ne (ne_of h.l2 h.at_ (by intro z; cases z))]; exact h.l2, fun t ht => sqT_put (h.ts t ht) h.at_, fun t ht => by rw [upd_ne (ne_of (h.tr t ht) h.at_ (by intro z; cases z))]; exact h.tr t ht, fun b hb => (h.st b hb).put ne h.at_, fun e he => (h.pk e he).put ne h.at_ fl, h.kp.trans Keep.put⟩
theorem Fill.tup (h : Fill K C cS x dx l l2 own own2 ks ts tr gb H0 H fs) {q : Addr} {ys : List V} (t : H q = some (.tup ys)) : Fill K C cS x dx l l2 own own2 ks ts ((q, ys) :: tr) gb H0 H fs :=
  ⟨h.at_, h.l1, h.l2, h.ts, fun u hu => (List.mem_cons.mp hu).elim (fun e => by rw [e]; exact t) (h.tr u), h.st, h.pk, h.kp⟩
theorem Fill.free (h : Fill K C cS x dx l l2 own own2 ks ts tr gb H0 H fs) {b : Addr} (n : H b = none) : H0 b = none := by
  cases e : H0 b with
  | none => rfl
  | some o =>
    rw [h.kp b o (ne_of_none h.at_ n).symm e] at n
    cases n
theorem Fill.sts (h : Fill K C cS x dx l l2 own own2 ks ts tr gb H0 H fs) {bs : List V} (t : ∀ b ∈ bs, IsSt cS H b) : Fill K C cS x dx l l2 own own2 ks ts tr (bs ++ gb) H0 H fs :=
  ⟨h.at_, h.l1, h.l2, h.ts, h.tr, fun u hu => (List.mem_append.mp hu).elim (t u) (h.st u), h.pk, h.kp⟩
end
theorem IsEx.hasNames {K : PySem.W.Frag} {C cS : Addr} {H : Hp} {e : V × Nat} (cl : Cls K C) (n : ExN K C) (h : IsEx C cS H e) : HasNames K H e := by
  obtain ⟨a, kd, z, st, p, q, d, q1, q2, i, j, zs, bs, ha, t1, t2, l1, l2, g⟩ := h
  exact ⟨zs, ⟨a, C, d, _, q1, q, ha, cl, n.names, rfl, SqT.of t1⟩, l1⟩
theorem IsEx.hasSteps {K : PySem.W.Frag} {C cS : Addr} {H : Hp} {e : V × Nat} (cl : Cls K C) (n : ExN K C) (h : IsEx C cS H e) : HasSteps K cS H e := by
  obtain ⟨a, kd, z, st, p, q, d, q1, q2, i, j, zs, bs, ha, t1, t2, l1, l2, g⟩ := h
  exact ⟨bs, ⟨a, C, d, _, q2, q, ha, cl, n.steps, rfl, SqT.of t2⟩, l2, g⟩
theorem ite_te {c : Prop} [Decidable c] {t1 t2 : TE} {σ : L2.St} {H : Hp} {G : VK} (P : V → Hp → Prop) (h1 : (∀ y H', P y H' → G y H') → c → t1 σ H G) (h2 : (∀ y H', P y H' → G y H') → ¬ c → t2 σ H G) (key : ∀ y H', P y H' → G y H') : if c then t1 σ H G else t2 σ H G := by
  by_cases h : c
  · rw [if_pos h]
    exact h1 key h
  · rw [if_neg h]
    exact h2 key h
def ownN (kd z : Str) : List Str := if kd = "name" then [z] else []
def ownS (st : V) : List V := if st = .non then [] else [st]
theorem ownN_le (kd z : Str) : (ownN kd z).length ≤ 1 := by
  unfold ownN
  split
  · exact Nat.le_refl _
  · exact Nat.zero_le _
theorem ownS_le (st : V) : (ownS st).length ≤ 1 := by
  unfold ownS
  split
  · exact Nat.zero_le _
  · exact Nat.le_refl _
def spExInit (K : PySem.W.Frag) (C cS : Addr) : Sp := fun vs H Q _ => ∃ (x dx p : Addr) (kd z : Str) (st : V) (ks : List (V × Nat)), vs = [.ref x, .str kd, .str z, st, .ref p] ∧ H x = some (.ins C dx []) ∧ SqT K H p (ks.map fun e => e.1) ∧ (∀ e ∈ ks, IsEx C cS H e) ∧
  (st = .non ∨ IsSt cS H st) ∧ 1 + tot ks < 64 ∧ ks.length < 64 ∧ ∀ H', (∃ q1 q2 i j, ∃ (zs : List Str) (bs : List V), H' x = some (.ins C dx (exFs kd z st p q1 q2 i j)) ∧ H q1 = none ∧ H q2 = none ∧ H' q1 = some (.tup (zs.map V.str)) ∧ H' q2 = some (.tup bs) ∧
    zs.length ≤ (ownN kd z).length + tot ks ∧ bs.length ≤ (ownS st).length + tot ks ∧ ∀ b ∈ bs, IsSt cS H' b) → Keep x H H' → Q .non H'
section
variable {P : Program} {w : World} {K : PySem.W.Frag} {mg : Str → Option Value} {base : Heap}
def nEx : List Str := ["self", "kind", "word", "step", "parts", "own_names", "own_steps", "part"]
theorem scEx : FnScope nEx ["self", "kind", "word", "step", "parts"] (defScope sExprInit) := ⟨rfl, rfl, rfl, by decide +kernel, rfl, by decide +kernel, by decide +kernel⟩
theorem ok_exInit {C cS f fN fS : Addr} {fd fdN fdS : FuncData} (S : Std mg) (cl : Cls K C) (n : ExN K C) (ne : cS ≠ C) (clS : Cls K cS) (s1 : NoAttr K cS "name") (s2 : NoAttr K cS "ways") (F : Fun K "__init__" "Expr.__init__" sExprInit f fd) (N : Dd K mg "all_names" sAllNames fN fdN ["holders", "more"]) (T : Dd K mg "all_steps" sAllSteps fS fdS ["holders", "more"]) :
    FnOk P w K mg base CX0 2 f fd ["self", "kind", "word", "step", "parts"] (spExInit K C cS) := by
  have GN : FnOk P w K mg base CX0 1 fN fdN ["holders", "more"] (spNames K) := ok_allNames S N
  have GS : FnOk P w K mg base CX0 1 fS fdS ["holders", "more"] (spSteps K cS) := ok_allSteps S clS s1 s2 T
  refine F.ok scEx (fun vs H Q E h => ?_) (fun cdv A outer s H vs Q E hr h => ?_)
  · obtain ⟨x, dx, p, kd, z, st, ks, rfl, _⟩ := h
    rfl
  · obtain ⟨x, dx, p, kd, z, st, ks, rfl, hx, hp, hk, hst, few, short, q⟩ := h
    refine ⟨_, pss_cons (ps_set (i := 5) scEx.nd rfl (Or.inl rfl) (pe_ifExp (pt_cmpR op_eq (pv 1) pe_str (nomark _)) (pe_lst (pa_cons (pv 2) pa_nil)) (pe_lst pa_nil)))
      (pss_cons (ps_set (i := 6) scEx.nd rfl (Or.inl rfl) (pe_ifExp (pt_cmp (pc_isN (pv 3))) (pe_lst pa_nil) (pe_lst (pa_cons (pv 3) pa_nil))))
      (pss_cons (ps_fld (pv 0) (pv 1) rfl) (pss_cons (ps_fld (pv 0) (pv 2) rfl) (pss_cons (ps_fld (pv 0) (pv 3) rfl) (pss_cons (ps_fld (pv 0) (pv 4) rfl)
      (pss_cons (ps_fld (pv 0) (pe_call GN hr rfl N.g N.kp N.b .nil pass0 (pa_cons (pv 4) (pa_cons (pv 5) pa_nil))) rfl)
      (pss_cons (ps_fld (pv 0) (pe_call GS hr rfl T.g T.kp T.b .nil pass0 (pa_cons (pv 4) (pa_cons (pv 6) pa_nil))) rfl)
      (pss_cons (ps_fld (pv 0) (pe_op op_add pe_int (pe_callB (cr_sum rfl) (by rfl) S.sum (by decide +kernel) (pa_cons (pe_lc (own := [("part", 7)]) (g := gName 7) (tt := tYes) (te := tFld K (tVar 7) "size") rfl scEx.nd
          (pi_tup (pv 4)) (blkOk_by (N := nEx) (sc := defScope sExprInit) (by decide +kernel)) (fun _ _ _ _ _ => pg_name (i := 7) scEx.nd rfl (Or.inl rfl)) (fun _ _ _ _ _ => pts_nil) (fun _ _ _ _ _ => pe_fld (pv 7) rfl)) pa_nil))) rfl)
      (pss_one (ps_fld (pv 0) (pe_op op_add (pe_callB call_len_seq (by rfl) S.len PySem.boot_len (pa_cons (pv 6) pa_nil)) (pe_callB (cr_sum rfl) (by rfl) S.sum (by decide +kernel) (pa_cons (pe_lc (own := [("part", 7)]) (g := gName 7) (tt := tYes) (te := tFld K (tVar 7) "applied") rfl scEx.nd
          (pi_tup (pv 4)) (blkOk_by (N := nEx) (sc := defScope sExprInit) (by decide +kernel)) (fun _ _ _ _ _ => pg_name (i := 7) scEx.nd rfl (Or.inl rfl)) (fun _ _ _ _ _ => pts_nil) (fun _ _ _ _ _ => pe_fld (pv 7) rfl)) pa_nil))) rfl)))))))))), ?_⟩
    refine ⟨_, rfl, rfl, _, rfl, ite_te (fun y H' => ∃ l, y = .ref l ∧ H' l = some (.lst ((ownN kd z).map V.str)) ∧ Same H H') (fun key c => ?_) (fun key c => ?_) (fun y Hl hl => ?_)⟩
    · refine ⟨_, rfl, (by show 1 ≤ sizeLine; decide), fun l hl => key _ _ ⟨l, rfl, ?_, same_new hl⟩⟩
      have e : kd = "name" := by simpa using c
      rw [upd_same, ownN, if_pos e]
      rfl
    · refine ⟨(by show 0 ≤ sizeLine; decide), fun l hl => key _ _ ⟨l, rfl, ?_, same_new hl⟩⟩
      have e : ¬ kd = "name" := by simpa using c
      rw [upd_same, ownN, if_neg e]
      rfl
    obtain ⟨l, rfl, hl1, sl⟩ := hl
    refine ⟨_, rfl, _, rfl, ite_te (fun y H' => ∃ l2, y = .ref l2 ∧ H' l2 = some (.lst (ownS st)) ∧ Same Hl H') (fun key c => ?_) (fun key c => ?_) (fun y Ha hl => ?_)⟩
    · refine ⟨(by show 0 ≤ sizeLine; decide), fun l hl => key _ _ ⟨l, rfl, ?_, same_new hl⟩⟩
      have e : st = .non := by simpa using c
      rw [upd_same, ownS, if_pos e]
    · refine ⟨_, rfl, (by show 1 ≤ sizeLine; decide), fun l hl => key _ _ ⟨l, rfl, ?_, same_new hl⟩⟩
      have e : ¬ st = .non := by simpa using c
      rw [upd_same, ownS, if_neg e]
    obtain ⟨l2, rfl, hl2, sl2⟩ := hl
    have s2 : Same H Ha := sl.trans sl2
    have f0 : Fill K C cS x dx l l2 (ownN kd z) (ownS st) ks [(p, ks.map fun e => e.1)] [] (ownS st) H Ha [] := by
      refine ⟨s2 _ _ hx, sl2 _ _ hl1, hl2, fun t ht => ?_, (fun _ h => nomatch h), fun b hb => ?_, fun e he => (hk e he).same s2, Keep.same s2⟩
      · rw [List.mem_singleton.mp ht]
        exact SqT.same s2 hp
      · unfold ownS at hb
        by_cases e : st = .non
        · rw [if_pos e] at hb
          cases hb
        · rw [if_neg e] at hb
          rw [List.mem_singleton.mp hb]
          exact (hst.resolve_left e).same s2
    refine ⟨_, rfl, _, rfl, x, C, dx, _, rfl, f0.at_, cl, n.kind, by decide, ?_⟩
    have f1 := f0.put ne (by decide) (putF "kind" (.str kd) [])
    generalize e1 : putF "kind" (.str kd) [] = g1 at f1 ⊢
    have m1 : g1.length = 1 := by rw [← e1]; rfl
    generalize upd Ha x (.ins C dx g1) = Hb at f1 ⊢
    refine ⟨_, rfl, _, rfl, x, C, dx, _, rfl, f1.at_, cl, n.word, by omega, ?_⟩
    have f2 := f1.put ne (by omega) (putF "word" (.str z) g1)
    generalize e2 : putF "word" (.str z) g1 = g2 at f2 ⊢
    have m2 : g2.length = 2 := by rw [← e2, ← e1]; rfl
    generalize upd Hb x (.ins C dx g2) = Hc at f2 ⊢
    refine ⟨_, rfl, _, rfl, x, C, dx, _, rfl, f2.at_, cl, n.step, by omega, ?_⟩
    have f3 := f2.put ne (by omega) (putF "step" st g2)
    generalize e3 : putF "step" st g2 = g3 at f3 ⊢
    have m3 : g3.length = 3 := by rw [← e3, ← e2, ← e1]; rfl
    generalize upd Hc x (.ins C dx g3) = Hd at f3 ⊢
    refine ⟨_, rfl, _, rfl, x, C, dx, _, rfl, f3.at_, cl, n.parts, by omega, ?_⟩
    have f4 := f3.put ne (by omega) (putF "parts" (.ref p) g3)
    generalize e4 : putF "parts" (.ref p) g3 = g4 at f4 ⊢
    have m4 : g4.length = 4 := by rw [← e4, ← e3, ← e2, ← e1]; rfl
    generalize upd Hd x (.ins C dx g4) = He at f4 ⊢
    have o1 := ownN_le kd z
    have o2 := ownS_le st
    refine ⟨_, rfl, _, rfl, p, l, ownN kd z, ks, rfl, f4.ts _ List.mem_cons_self, f4.l1, fun e he => (f4.pk e he).hasNames cl n, by omega, fun q4 ys J4 s4 n4 t4 len4 => ?_⟩
    have k4 := f4.free n4
    have f4' := (f4.same s4).tup t4
    refine ⟨_, rfl, x, C, dx, _, rfl, f4'.at_, cl, n.names, by omega, ?_⟩
    have f5 := f4'.put ne (by omega) (putF "names" (.ref q4) g4)
    generalize e5 : putF "names" (.ref q4) g4 = g5 at f5 ⊢
    have m5 : g5.length = 5 := by rw [← e5, ← e4, ← e3, ← e2, ← e1]; rfl
    generalize upd J4 x (.ins C dx g5) = Hf at f5 ⊢
    refine ⟨_, rfl, _, rfl, p, l2, ownS st, ks, rfl, f5.ts _ List.mem_cons_self, f5.l2, f5.st, fun e he => (f5.pk e he).hasSteps cl n, by omega, fun q5 bs J5 s5 n5 t5 g5s len5 => ?_⟩
    have k5 := f5.free n5
    have f5' := ((f5.same s5).tup t5).sts g5s
    refine ⟨_, rfl, x, C, dx, _, rfl, f5'.at_, cl, n.steps, by omega, ?_⟩
    have f6 := f5'.put ne (by omega) (putF "steps" (.ref q5) g5)
    generalize e6 : putF "steps" (.ref q5) g5 = g6 at f6 ⊢
    have m6 : g6.length = 6 := by rw [← e6, ← e5, ← e4, ← e3, ← e2, ← e1]; rfl
    generalize upd J5 x (.ins C dx g6) = Hg at f6 ⊢
    refine ⟨_, rfl, p, rfl, ⟨_, f6.ts _ List.mem_cons_self⟩, fun D6 hD6 => lc_tup (xs := ks.map fun e : V × Nat => e.1) (fun i H4 => Same Hg H4 ∧ ∃ is : List Int, H4 D6 = some (.lst (is.map V.int)) ∧ is.length = i)
      ⟨same_new hD6, [], upd_same, rfl⟩ (fun i H4 _ h => SqT.same h.1 (f6.ts _ List.mem_cons_self)) (fun i v H4 hv h => ?_) (fun J6 h6 => ?_)⟩
    · obtain ⟨sm, is, d6, li⟩ := h
      rw [List.getElem?_map] at hv
      obtain ⟨e, he, rfl⟩ := Option.map_eq_some_iff.mp hv
      have lt : i < ks.length := (List.getElem?_eq_some_iff.mp he).1
      obtain ⟨a, kd', z', st', p', q', d', q1, q2, i', j', zs', bs', ha, _⟩ := f6.pk e (List.mem_of_getElem? he)
      refine ⟨rfl, _, rfl, a, C, d', _, .int i', q', sm _ _ ha, cl, n.size, rfl, _, d6, by rw [List.length_map, li, sizeLine_eq]; omega, same_put hD6 sm, is ++ [i'], by rw [upd_same, List.map_append]; rfl, by rw [List.length_append, li]; rfl⟩
    obtain ⟨sm, is6, d6, li6⟩ := h6
    have f6' := f6.same sm
    refine ⟨D6, is6, rfl, SqL.of d6, _, _, rfl, rfl, ?_⟩
    refine ⟨_, rfl, x, C, dx, _, rfl, f6'.at_, cl, n.size, by omega, ?_⟩
    have f7 := f6'.put ne (by omega) (putF "size" (.int (1 + is6.sum)) g6)
    generalize e7 : putF "size" (.int (1 + is6.sum)) g6 = g7 at f7 ⊢
    have m7 : g7.length = 7 := by rw [← e7, ← e6, ← e5, ← e4, ← e3, ← e2, ← e1]; rfl
    generalize upd J6 x (.ins C dx g7) = Hh at f7 ⊢
    refine ⟨_, rfl, l2, _, rfl, .inl (SqL.of f7.l2), _, rfl, p, rfl, ⟨_, f7.ts _ List.mem_cons_self⟩, fun D7 hD7 => lc_tup (xs := ks.map fun e : V × Nat => e.1) (fun i H4 => Same Hh H4 ∧ ∃ is : List Int, H4 D7 = some (.lst (is.map V.int)) ∧ is.length = i)
      ⟨same_new hD7, [], upd_same, rfl⟩ (fun i H4 _ h => SqT.same h.1 (f7.ts _ List.mem_cons_self)) (fun i v H4 hv h => ?_) (fun J7 h7 => ?_)⟩
    · obtain ⟨sm, is, d7, li⟩ := h
      rw [List.getElem?_map] at hv
      obtain ⟨e, he, rfl⟩ := Option.map_eq_some_iff.mp hv
      have lt : i < ks.length := (List.getElem?_eq_some_iff.mp he).1
      obtain ⟨a, kd', z', st', p', q', d', q1, q2, i', j', zs', bs', ha, _⟩ := f7.pk e (List.mem_of_getElem? he)
      refine ⟨rfl, _, rfl, a, C, d', _, .int j', q', sm _ _ ha, cl, n.applied, rfl, _, d7, by rw [List.length_map, li, sizeLine_eq]; omega, same_put hD7 sm, is ++ [j'], by rw [upd_same, List.map_append]; rfl, by rw [List.length_append, li]; rfl⟩
    obtain ⟨sm, is7, d7, li7⟩ := h7
    have f7' := f7.same sm
    refine ⟨D7, is7, rfl, SqL.of d7, _, _, rfl, rfl, ?_⟩
    refine ⟨_, rfl, x, C, dx, _, rfl, f7'.at_, cl, n.applied, by omega, ?_⟩
    have f8 := f7'.put ne (by omega) (putF "applied" (.int ((((ownS st).length : Nat) : Int) + is7.sum)) g7)
    refine q _ ⟨q4, q5, 1 + is6.sum, ((((ownS st).length : Nat) : Int) + is7.sum), ys, bs, ?_, k4, k5, f8.tr (q4, ys.map V.str) (List.mem_cons_of_mem _ List.mem_cons_self), f8.tr (q5, bs) List.mem_cons_self, len4, len5, fun b hb => f8.st b (List.mem_append_left _ hb)⟩ f8.kp
    refine f8.at_.trans ?_
    rw [← e7, ← e6, ← e5, ← e4, ← e3, ← e2, ← e1]
    rfl
end
end LK

namespace LK
open PySem PySem.Spec PyProof.Rows L2 LR
/-! ### expressions, with just the names and steps that are in them -/
def kdM : Md → Str
  | .nm _ => "name"
  | .ap .le _ => "lesser"
  | .ap .gr _ => "greater"
  | .ap (.st _ _ _) _ => "step"
def wdM : Md → Str
  | .nm z => z
  | .ap _ _ => ""
def stM : Md → V
  | .ap (.st a _ _) _ => .ref a
  | _ => .non
def prM : Md → List Md
  | .nm _ => []
  | .ap _ ms => ms
def okM : Md → List (Str × Str)
  | .nm _ => []
  | .ap h _ => hdK h
def HdS (cS : Addr) (H : Hp) : Hd → Prop
  | .st a z y => StepAt cS H a z y ∧ NameOk z ∧ WaysOk y
  | _ => True
def OkM (cS : Addr) (H : Hp) : Md → Prop
  | .nm z => NameOk z
  | .ap h ms => ms.length = arity h ∧ HdS cS H h
def FldX (K : PySem.W.Frag) (C cS : Addr) (H : Hp) (m : Md) (e : V) (es : List V) : Prop := ∃ (a dx p q1 q2 : Addr) (j : Int) (ys : List Str) (bs : List V) (ks : List (Str × Str)), e = .ref a ∧ H a = some (.ins C dx (exFs (kdM m) (wdM m) (stM m) p q1 q2 (sz m) j)) ∧
  H p = some (.tup es) ∧ H q1 = some (.tup (ys.map V.str)) ∧ NmsOf (lvs m) ys ∧ H q2 = some (.tup bs) ∧ KeyL cS H bs ks ∧ KysOf (sts m) ks
/-- e is the expression of m, less than n deep -/
def ExR (K : PySem.W.Frag) (C cS : Addr) : Nat → Hp → Md → V → Prop
  | 0, _, _, _ => False
  | n + 1, H, m, e => ∃ es, FldX K C cS H m e es ∧ es.length = (prM m).length ∧ OkM cS H m ∧ ∀ (i : Nat) m' x, (prM m)[i]? = some m' → es[i]? = some x → ExR K C cS n H m' x
/-- instances and tuples stand -/
structure Tr (H H' : Hp) : Prop where
  ins : ∀ b C dx fs, H b = some (.ins C dx fs) → H' b = some (.ins C dx fs)
  tup : ∀ b xs, H b = some (.tup xs) → H' b = some (.tup xs)
  frz : ∀ b o xs, H b = some (.frz o (.tup xs)) → H' b = some (.frz o (.tup xs))
theorem Tr.trans {H H1 H2 : Hp} (a : Tr H H1) (b : Tr H1 H2) : Tr H H2 := ⟨fun c C dx fs e => b.ins c C dx fs (a.ins c C dx fs e), fun c xs e => b.tup c xs (a.tup c xs e), fun c o xs e => b.frz c o xs (a.frz c o xs e)⟩
theorem Tr.same {H H' : Hp} (s : Same H H') : Tr H H' := ⟨fun _ _ _ _ e => s _ _ e, fun _ _ e => s _ _ e, fun _ _ _ e => s _ _ e⟩
theorem Tr.keep {H H' : Hp} {l : Addr} (f : Feed H l) (k : Keep l H H') : Tr H H' := by
  obtain ⟨a, c, e, _⟩ := f
  exact ⟨fun b C dx fs h => k _ _ (ne_of h e (by intro z; cases z)) h, fun b xs h => k _ _ (ne_of h e (by intro z; cases z)) h, fun b o xs h => k _ _ (ne_of h e (by intro z; cases z)) h⟩
theorem Tr.lst {H : Hp} {D : Addr} {ys zs : List V} (e : H D = some (.lst ys)) : Tr H (upd H D (.lst zs)) :=
  ⟨fun b C dx fs h => by rw [upd_ne (ne_of h e (by intro z; cases z))]; exact h, fun b xs h => by rw [upd_ne (ne_of h e (by intro z; cases z))]; exact h, fun b o xs h => by rw [upd_ne (ne_of h e (by intro z; cases z))]; exact h⟩
section
variable {K : PySem.W.Frag} {C cS : Addr} {H H' : Hp} (t : Tr H H')
include t
theorem sqT_tr {p : Addr} {xs : List V} (h : SqT K H p xs) : SqT K H' p xs := by
  rcases h with (h | ⟨o, h⟩) | h
  · exact .inl (.inl (t.tup _ _ h))
  · exact .inl (.inr ⟨o, t.frz _ _ _ h⟩)
  · exact .inr h
theorem keyL_tr {bs : List V} {ks : List (Str × Str)} (h : KeyL cS H bs ks) : KeyL cS H' bs ks := ⟨h.1, fun i b k h1 h2 => by
  obtain ⟨a, e, dx, st⟩ := h.2 i b k h1 h2
  exact ⟨a, e, dx, t.ins _ _ _ _ st⟩⟩
theorem hdS_tr : ∀ {h : Hd}, HdS cS H h → HdS cS H' h
  | .le, _ => trivial
  | .gr, _ => trivial
  | .st _ _ _, ⟨⟨dx, e⟩, a, b⟩ => ⟨⟨dx, t.ins _ _ _ _ e⟩, a, b⟩
theorem okM_tr : ∀ {m : Md}, OkM cS H m → OkM cS H' m
  | .nm _, h => h
  | .ap _ _, ⟨l, h⟩ => ⟨l, hdS_tr t h⟩
theorem fldX_tr {m : Md} {e : V} {es : List V} (h : FldX K C cS H m e es) : FldX K C cS H' m e es := by
  obtain ⟨a, dx, p, q1, q2, j, ys, bs, ks, e, ha, hp, h1, n, h2, kl, ky⟩ := h
  exact ⟨a, dx, p, q1, q2, j, ys, bs, ks, e, t.ins _ _ _ _ ha, t.tup _ _ hp, t.tup _ _ h1, n, t.tup _ _ h2, keyL_tr t kl, ky⟩
theorem exR_tr : ∀ {n : Nat} {m : Md} {e : V}, ExR K C cS n H m e → ExR K C cS n H' m e
  | 0, _, _, h => h.elim
  | n + 1, m, e, ⟨es, f, l, ok, g⟩ => ⟨es, fldX_tr t f, l, okM_tr t ok, fun i m' x h1 h2 => exR_tr (g i m' x h1 h2)⟩
end
theorem ExR.up {K : PySem.W.Frag} {C cS : Addr} {H : Hp} : ∀ {n n' : Nat} {m : Md} {e : V}, n ≤ n' → ExR K C cS n H m e → ExR K C cS n' H m e
  | 0, _, _, _, _, h => h.elim
  | n + 1, 0, _, _, l, _ => by omega
  | n + 1, n' + 1, m, e, l, ⟨es, f, l1, ok, g⟩ => ⟨es, f, l1, ok, fun i m' x h1 h2 => ExR.up (by omega) (g i m' x h1 h2)⟩
theorem FldX.hasNm {K : PySem.W.Frag} {C cS : Addr} {H : Hp} {m : Md} {e : V} {es : List V} (cl : Cls K C) (n : ExN K C) (h : FldX K C cS H m e es) : HasNmX K H (e, lvs m) := by
  obtain ⟨a, dx, p, q1, q2, j, ys, bs, ks, e, ha, hp, h1, no, h2, kl, ky⟩ := h
  exact ⟨ys, ⟨a, C, dx, _, q1, e, ha, cl, n.names, rfl, SqT.of h1⟩, no⟩
theorem FldX.hasSt {K : PySem.W.Frag} {C cS : Addr} {H : Hp} {m : Md} {e : V} {es : List V} (cl : Cls K C) (n : ExN K C) (h : FldX K C cS H m e es) : HasStX K cS H (e, sts m) := by
  obtain ⟨a, dx, p, q1, q2, j, ys, bs, ks, e, ha, hp, h1, no, h2, kl, ky⟩ := h
  exact ⟨bs, ks, ⟨a, C, dx, _, q2, e, ha, cl, n.steps, rfl, SqT.of h2⟩, kl, ky⟩
theorem own_lvs (m : Md) : ownN (kdM m) (wdM m) ++ ((prM m).map lvs).flatten = lvs m := by
  cases m with
  | nm z => simp [kdM, wdM, prM, ownN, lvs]
  | ap h ms =>
    have e : ownN (kdM (.ap h ms)) (wdM (.ap h ms)) = [] := by
      unfold ownN
      rw [if_neg]
      cases h with
      | le => show ¬ ("lesser" : Str) = "name"; decide +kernel
      | gr => show ¬ ("greater" : Str) = "name"; decide +kernel
      | st _ _ _ => show ¬ ("step" : Str) = "name"; decide +kernel
    rw [e, lvs, lvsL_flat]
    rfl
theorem own_sts (m : Md) : okM m ++ ((prM m).map sts).flatten = sts m := by
  cases m with
  | nm z => simp [okM, prM, sts]
  | ap h ms =>
    rw [sts, stsL_flat]
    rfl
theorem own_sz (m : Md) : 1 + ((prM m).map sz).sum = sz m := by
  cases m with
  | nm z => simp [prM, sz]
  | ap h ms =>
    rw [sz, szL_sum]
    rfl
theorem own_key {cS : Addr} {H : Hp} {m : Md} (h : OkM cS H m) : KeyL cS H (ownS (stM m)) (okM m) := by
  cases m with
  | nm z =>
    have e : ownS (stM (.nm z)) = [] := if_pos rfl
    rw [e]
    exact KeyL.nil
  | ap hd ms =>
    cases hd with
    | le =>
      have e : ownS (stM (.ap .le ms)) = [] := if_pos rfl
      rw [e]
      exact KeyL.nil
    | gr =>
      have e : ownS (stM (.ap .gr ms)) = [] := if_pos rfl
      rw [e]
      exact KeyL.nil
    | st a z y =>
      have e : ownS (stM (.ap (.st a z y) ms)) = [.ref a] := if_neg (by intro q; cases q)
      rw [e]
      exact KeyL.one h.2.1
/-- putting a field keeps what is no such object -/
theorem tr_put {C cS x dx : Addr} {H : Hp} {fs gs : List (Str × V)} (ne : cS ≠ C) (e : H x = some (.ins C dx fs)) (fl : fs.length < 8) {K : PySem.W.Frag} {m : Md} {v : V} {es : List V} (h : FldX K C cS H m v es) : FldX K C cS (upd H x (.ins C dx gs)) m v es := by
  obtain ⟨a, d, p, q1, q2, j, ys, bs, ks, ev, ha, hp, h1, n, h2, kl, ky⟩ := h
  refine ⟨a, d, p, q1, q2, j, ys, bs, ks, ev, ?_, by rw [upd_ne (ne_of hp e (by intro z; cases z))]; exact hp, ?_, n, ?_, ⟨kl.1, fun i b k i1 i2 => ?_⟩, ky⟩
  · rw [upd_ne (ne_of ha e (by intro z; injection z with _ _ z3; rw [← z3] at fl; simp at fl))]
    exact ha
  · rw [upd_ne (ne_of h1 e (by intro z; cases z))]
    exact h1
  · rw [upd_ne (ne_of h2 e (by intro z; cases z))]
    exact h2
  · obtain ⟨a', e', d', st⟩ := kl.2 i b k i1 i2
    refine ⟨a', e', d', ?_⟩
    rw [upd_ne (ne_of st e (by intro z; injection z with z1; exact ne z1))]
    exact st
theorem keyL_put {C cS x dx : Addr} {H : Hp} {fs gs : List (Str × V)} {bs : List V} {ks : List (Str × Str)} (ne : cS ≠ C) (e : H x = some (.ins C dx fs)) (h : KeyL cS H bs ks) : KeyL cS (upd H x (.ins C dx gs)) bs ks := ⟨h.1, fun i b k i1 i2 => by
  obtain ⟨a', e', d', st⟩ := h.2 i b k i1 i2
  refine ⟨a', e', d', ?_⟩
  rw [upd_ne (ne_of st e (by intro z; injection z with z1; exact ne z1))]
  exact st⟩
/-- while it is filled -/
structure FillX (K : PySem.W.Frag) (C cS x dx l l2 p : Addr) (own : List Str) (own2 : List V) (ok : List (Str × Str)) (ks : List (V × Md)) (tr : List (Addr × List V)) (kk : List (List V × List (Str × Str))) (H0 H : Hp) (fs : List (Str × V)) : Prop where
  at_ : H x = some (.ins C dx fs)
  l1 : H l = some (.lst (own.map V.str))
  l2 : H l2 = some (.lst own2)
  ts : H p = some (.tup (ks.map (·.1)))
  tr : ∀ t ∈ tr, H t.1 = some (.tup t.2)
  st : KeyL cS H own2 ok
  sk : ∀ k ∈ kk, KeyL cS H k.1 k.2
  pk : ∀ e ∈ ks, ∃ es, FldX K C cS H e.2 e.1 es
  kp : Keep x H0 H
section
variable {K : PySem.W.Frag} {C cS x dx l l2 p : Addr} {own : List Str} {own2 : List V} {ok : List (Str × Str)} {ks : List (V × Md)} {tr : List (Addr × List V)} {kk : List (List V × List (Str × Str))} {H0 H H' : Hp} {fs : List (Str × V)}
theorem FillX.same (h : FillX K C cS x dx l l2 p own own2 ok ks tr kk H0 H fs) (s : Same H H') : FillX K C cS x dx l l2 p own own2 ok ks tr kk H0 H' fs :=
  ⟨s _ _ h.at_, s _ _ h.l1, s _ _ h.l2, s _ _ h.ts, fun t ht => s _ _ (h.tr t ht), h.st.same s, fun k hk => (h.sk k hk).same s, fun e he => (h.pk e he).imp fun _ f => fldX_tr (Tr.same s) f, h.kp.trans (Keep.same s)⟩
theorem FillX.put (h : FillX K C cS x dx l l2 p own own2 ok ks tr kk H0 H fs) (ne : cS ≠ C) (fl : fs.length < 8) (gs : List (Str × V)) : FillX K C cS x dx l l2 p own own2 ok ks tr kk H0 (upd H x (.ins C dx gs)) gs :=
  ⟨upd_same, by rw [upd_ne (ne_of h.l1 h.at_ (by intro z; cases z))]; exact h.l1, by rw [upd_ne (ne_of h.l2 h.at_ (by intro z; cases z))]; exact h.l2, by rw [upd_ne (ne_of h.ts h.at_ (by intro z; cases z))]; exact h.ts, fun t ht => by rw [upd_ne (ne_of (h.tr t ht) h.at_ (by intro z; cases z))]; exact h.tr t ht, keyL_put ne h.at_ h.st, fun k hk => keyL_put ne h.at_ (h.sk k hk), fun e he => (h.pk e he).imp fun _ f => tr_put ne h.at_ fl f, h.kp.trans Keep.put⟩
theorem FillX.tup (h : FillX K C cS x dx l l2 p own own2 ok ks tr kk H0 H fs) {q : Addr} {ys : List V} (t : H q = some (.tup ys)) : FillX K C cS x dx l l2 p own own2 ok ks ((q, ys) :: tr) kk H0 H fs :=
  ⟨h.at_, h.l1, h.l2, h.ts, fun u hu => (List.mem_cons.mp hu).elim (fun e => by rw [e]; exact t) (h.tr u), h.st, h.sk, h.pk, h.kp⟩
theorem FillX.key (h : FillX K C cS x dx l l2 p own own2 ok ks tr kk H0 H fs) {bs : List V} {js : List (Str × Str)} (t : KeyL cS H bs js) : FillX K C cS x dx l l2 p own own2 ok ks tr ((bs, js) :: kk) H0 H fs :=
  ⟨h.at_, h.l1, h.l2, h.ts, h.tr, h.st, fun u hu => (List.mem_cons.mp hu).elim (fun e => by rw [e]; exact t) (h.sk u), h.pk, h.kp⟩
end
theorem sum_cast : ∀ (ns : List Nat), (ns.map fun n : Nat => (n : Int)).sum = ((ns.sum : Nat) : Int)
  | [] => rfl
  | n :: r => by
    rw [List.map_cons, List.sum_cons, List.sum_cons, sum_cast r, Int.natCast_add]
def spExInitX (K : PySem.W.Frag) (C cS : Addr) : Sp := fun vs H Q _ => ∃ (x dx p : Addr) (m : Md) (ks : List (V × Md)), vs = [.ref x, .str (kdM m), .str (wdM m), stM m, .ref p] ∧ H x = some (.ins C dx []) ∧ H p = some (.tup (ks.map (·.1))) ∧ ks.map (·.2) = prM m ∧ (∀ e ∈ ks, ∃ es, FldX K C cS H e.2 e.1 es) ∧
  OkM cS H m ∧ sz m < 64 ∧ ∀ H', FldX K C cS H' m (.ref x) (ks.map (·.1)) → Keep x H H' → Q .non H'
section
variable {P : Program} {w : World} {K : PySem.W.Frag} {mg : Str → Option Value} {base : Heap}
theorem ok_exInitX {C cS f fN fS : Addr} {fd fdN fdS : FuncData} (S : Std mg) (cl : Cls K C) (n : ExN K C) (ne : cS ≠ C) (clS : Cls K cS) (s1 : NoAttr K cS "name") (s2 : NoAttr K cS "ways") (F : Fun K "__init__" "Expr.__init__" sExprInit f fd) (N : Dd K mg "all_names" sAllNames fN fdN ["holders", "more"]) (T : Dd K mg "all_steps" sAllSteps fS fdS ["holders", "more"]) :
    FnOk P w K mg base CX0 2 f fd ["self", "kind", "word", "step", "parts"] (spExInitX K C cS) := by
  have GN : FnOk P w K mg base CX0 1 fN fdN ["holders", "more"] (spNamesX K) := ok_allNamesX S N
  have GS : FnOk P w K mg base CX0 1 fS fdS ["holders", "more"] (spStepsX K cS) := ok_allStepsX S clS s1 s2 T
  refine F.ok scEx (fun vs H Q E h => ?_) (fun cdv A outer s H vs Q E hr h => ?_)
  · obtain ⟨x, dx, p, m, ks, rfl, _⟩ := h
    rfl
  · obtain ⟨x, dx, p, m, ks, rfl, hx, hp, em, hk, ok, short, q⟩ := h
    refine ⟨_, pss_cons (ps_set (i := 5) scEx.nd rfl (Or.inl rfl) (pe_ifExp (pt_cmpR op_eq (pv 1) pe_str (nomark _)) (pe_lst (pa_cons (pv 2) pa_nil)) (pe_lst pa_nil)))
      (pss_cons (ps_set (i := 6) scEx.nd rfl (Or.inl rfl) (pe_ifExp (pt_cmp (pc_isN (pv 3))) (pe_lst pa_nil) (pe_lst (pa_cons (pv 3) pa_nil))))
      (pss_cons (ps_fld (pv 0) (pv 1) rfl) (pss_cons (ps_fld (pv 0) (pv 2) rfl) (pss_cons (ps_fld (pv 0) (pv 3) rfl) (pss_cons (ps_fld (pv 0) (pv 4) rfl)
      (pss_cons (ps_fld (pv 0) (pe_call GN hr rfl N.g N.kp N.b .nil pass0 (pa_cons (pv 4) (pa_cons (pv 5) pa_nil))) rfl)
      (pss_cons (ps_fld (pv 0) (pe_call GS hr rfl T.g T.kp T.b .nil pass0 (pa_cons (pv 4) (pa_cons (pv 6) pa_nil))) rfl)
      (pss_cons (ps_fld (pv 0) (pe_op op_add pe_int (pe_callB (cr_sum rfl) (by rfl) S.sum (by decide +kernel) (pa_cons (pe_lc (own := [("part", 7)]) (g := gName 7) (tt := tYes) (te := tFld K (tVar 7) "size") rfl scEx.nd
          (pi_tup (pv 4)) (blkOk_by (N := nEx) (sc := defScope sExprInit) (by decide +kernel)) (fun _ _ _ _ _ => pg_name (i := 7) scEx.nd rfl (Or.inl rfl)) (fun _ _ _ _ _ => pts_nil) (fun _ _ _ _ _ => pe_fld (pv 7) rfl)) pa_nil))) rfl)
      (pss_one (ps_fld (pv 0) (pe_op op_add (pe_callB call_len_seq (by rfl) S.len PySem.boot_len (pa_cons (pv 6) pa_nil)) (pe_callB (cr_sum rfl) (by rfl) S.sum (by decide +kernel) (pa_cons (pe_lc (own := [("part", 7)]) (g := gName 7) (tt := tYes) (te := tFld K (tVar 7) "applied") rfl scEx.nd
          (pi_tup (pv 4)) (blkOk_by (N := nEx) (sc := defScope sExprInit) (by decide +kernel)) (fun _ _ _ _ _ => pg_name (i := 7) scEx.nd rfl (Or.inl rfl)) (fun _ _ _ _ _ => pts_nil) (fun _ _ _ _ _ => pe_fld (pv 7) rfl)) pa_nil))) rfl)))))))))), ?_⟩
    have fl1 : ((ks.map fun e => (e.1, lvs e.2)).map (·.2)).flatten = ((prM m).map lvs).flatten := by
      rw [← em, List.map_map, List.map_map]
      rfl
    have fl2 : ((ks.map fun e => (e.1, sts e.2)).map (·.2)).flatten = ((prM m).map sts).flatten := by
      rw [← em, List.map_map, List.map_map]
      rfl
    have p1 : (ks.map fun e => (e.1, lvs e.2)).map (·.1) = ks.map (·.1) := by
      rw [List.map_map]
      rfl
    have p2 : (ks.map fun e => (e.1, sts e.2)).map (·.1) = ks.map (·.1) := by
      rw [List.map_map]
      rfl
    have bnd := lvs_sz m
    refine ⟨_, rfl, rfl, _, rfl, ite_te (fun y H' => ∃ l, y = .ref l ∧ H' l = some (.lst ((ownN (kdM m) (wdM m)).map V.str)) ∧ Same H H') (fun key c => ?_) (fun key c => ?_) (fun y Hl hl => ?_)⟩
    · refine ⟨_, rfl, (by show 1 ≤ sizeLine; decide), fun l hl => key _ _ ⟨l, rfl, ?_, same_new hl⟩⟩
      have e : kdM m = "name" := by simpa using c
      rw [upd_same, ownN, if_pos e]
      rfl
    · refine ⟨(by show 0 ≤ sizeLine; decide), fun l hl => key _ _ ⟨l, rfl, ?_, same_new hl⟩⟩
      have e : ¬ kdM m = "name" := by simpa using c
      rw [upd_same, ownN, if_neg e]
      rfl
    obtain ⟨l, rfl, hl1, sl⟩ := hl
    refine ⟨_, rfl, _, rfl, ite_te (fun y H' => ∃ l2, y = .ref l2 ∧ H' l2 = some (.lst (ownS (stM m))) ∧ Same Hl H') (fun key c => ?_) (fun key c => ?_) (fun y Ha hl => ?_)⟩
    · refine ⟨(by show 0 ≤ sizeLine; decide), fun l hl => key _ _ ⟨l, rfl, ?_, same_new hl⟩⟩
      have e : stM m = .non := by simpa using c
      rw [upd_same, ownS, if_pos e]
    · refine ⟨_, rfl, (by show 1 ≤ sizeLine; decide), fun l hl => key _ _ ⟨l, rfl, ?_, same_new hl⟩⟩
      have e : ¬ stM m = .non := by simpa using c
      rw [upd_same, ownS, if_neg e]
    obtain ⟨l2, rfl, hl2, sl2⟩ := hl
    have s2 : Same H Ha := sl.trans sl2
    have f0 : FillX K C cS x dx l l2 p (ownN (kdM m) (wdM m)) (ownS (stM m)) (okM m) ks [] [] H Ha [] :=
      ⟨s2 _ _ hx, sl2 _ _ hl1, hl2, s2 _ _ hp, (fun _ h => nomatch h), own_key (okM_tr (Tr.same s2) ok), (fun _ h => nomatch h), fun e he => (hk e he).imp fun _ f => fldX_tr (Tr.same s2) f, Keep.same s2⟩
    refine ⟨_, rfl, _, rfl, x, C, dx, _, rfl, f0.at_, cl, n.kind, by decide, ?_⟩
    have f1 := f0.put ne (by decide) (putF "kind" (.str (kdM m)) [])
    generalize e1 : putF "kind" (.str (kdM m)) [] = g1 at f1 ⊢
    have m1 : g1.length = 1 := by rw [← e1]; rfl
    generalize upd Ha x (.ins C dx g1) = Hb at f1 ⊢
    refine ⟨_, rfl, _, rfl, x, C, dx, _, rfl, f1.at_, cl, n.word, by omega, ?_⟩
    have f2 := f1.put ne (by omega) (putF "word" (.str (wdM m)) g1)
    generalize e2 : putF "word" (.str (wdM m)) g1 = g2 at f2 ⊢
    have m2 : g2.length = 2 := by rw [← e2, ← e1]; rfl
    generalize upd Hb x (.ins C dx g2) = Hc at f2 ⊢
    refine ⟨_, rfl, _, rfl, x, C, dx, _, rfl, f2.at_, cl, n.step, by omega, ?_⟩
    have f3 := f2.put ne (by omega) (putF "step" (stM m) g2)
    generalize e3 : putF "step" (stM m) g2 = g3 at f3 ⊢
    have m3 : g3.length = 3 := by rw [← e3, ← e2, ← e1]; rfl
    generalize upd Hc x (.ins C dx g3) = Hd' at f3 ⊢
    refine ⟨_, rfl, _, rfl, x, C, dx, _, rfl, f3.at_, cl, n.parts, by omega, ?_⟩
    have f4 := f3.put ne (by omega) (putF "parts" (.ref p) g3)
    generalize e4 : putF "parts" (.ref p) g3 = g4 at f4 ⊢
    have m4 : g4.length = 4 := by rw [← e4, ← e3, ← e2, ← e1]; rfl
    generalize upd Hd' x (.ins C dx g4) = He at f4 ⊢
    refine ⟨_, rfl, _, rfl, p, l, ownN (kdM m) (wdM m), ks.map (fun e => (e.1, lvs e.2)), rfl, SqT.of (p1 ▸ f4.ts), f4.l1, fun e he => ?_, ?_, fun q4 ys J4 s4 n4 t4 no => ?_⟩
    · obtain ⟨e', he', rfl⟩ := List.mem_map.mp he
      obtain ⟨es, f⟩ := f4.pk e' he'
      exact f.hasNm cl n
    · rw [fl1, ← List.length_append, own_lvs]
      omega
    rw [fl1, own_lvs] at no
    have f4' := (f4.same s4).tup t4
    refine ⟨_, rfl, x, C, dx, _, rfl, f4'.at_, cl, n.names, by omega, ?_⟩
    have f5 := f4'.put ne (by omega) (putF "names" (.ref q4) g4)
    generalize e5 : putF "names" (.ref q4) g4 = g5 at f5 ⊢
    have m5 : g5.length = 5 := by rw [← e5, ← e4, ← e3, ← e2, ← e1]; rfl
    generalize upd J4 x (.ins C dx g5) = Hf at f5 ⊢
    refine ⟨_, rfl, _, rfl, p, l2, ownS (stM m), okM m, ks.map (fun e => (e.1, sts e.2)), rfl, SqT.of (p2 ▸ f5.ts), f5.l2, f5.st, fun e he => ?_, ?_, fun q5 bs js J5 s5 n5 t5 kl ky => ?_⟩
    · obtain ⟨e', he', rfl⟩ := List.mem_map.mp he
      obtain ⟨es, f⟩ := f5.pk e' he'
      exact f.hasSt cl n
    · rw [fl2, ← List.length_append, own_sts]
      omega
    rw [fl2, own_sts] at ky
    have f5' := ((f5.same s5).tup t5).key kl
    refine ⟨_, rfl, x, C, dx, _, rfl, f5'.at_, cl, n.steps, by omega, ?_⟩
    have f6 := f5'.put ne (by omega) (putF "steps" (.ref q5) g5)
    generalize e6 : putF "steps" (.ref q5) g5 = g6 at f6 ⊢
    have m6 : g6.length = 6 := by rw [← e6, ← e5, ← e4, ← e3, ← e2, ← e1]; rfl
    generalize upd J5 x (.ins C dx g6) = Hg at f6 ⊢
    refine ⟨_, rfl, p, rfl, ⟨_, SqT.of f6.ts⟩, fun D6 hD6 => lc_tup (xs := ks.map fun e : V × Md => e.1) (fun i H4 => Same Hg H4 ∧ H4 D6 = some (.lst (((((ks.take i).map fun e => sz e.2)).map fun n : Nat => (n : Int)).map V.int)))
      ⟨same_new hD6, upd_same⟩ (fun i H4 _ h => SqT.of (h.1 _ _ f6.ts)) (fun i v H4 hv h => ?_) (fun J6 h6 => ?_)⟩
    · obtain ⟨sm, d6⟩ := h
      rw [List.getElem?_map] at hv
      obtain ⟨e, he, rfl⟩ := Option.map_eq_some_iff.mp hv
      have lt : i < ks.length := (List.getElem?_eq_some_iff.mp he).1
      obtain ⟨es, a, d', p', q1, q2, j, ys', bs', ks', ea, ha, _⟩ := f6.pk e (List.mem_of_getElem? he)
      refine ⟨rfl, _, rfl, a, C, d', _, .int (sz e.2), ea, sm _ _ ha, cl, n.size, rfl, _, d6, ?_, same_put hD6 sm, ?_⟩
      · rw [List.length_map, List.length_map, List.length_map, List.length_take, sizeLine_eq]
        have l1 : ks.length = (prM m).length := by rw [← em, List.length_map]
        have l2 : (prM m).length ≤ ((prM m).map sz).sum := by
          have one : ∀ ms : List Md, ms.length ≤ (ms.map sz).sum := fun ms => by
            induction ms with
            | nil => exact Nat.le_refl _
            | cons m' r ih =>
              rw [List.map_cons, List.sum_cons, List.length_cons]
              have : 1 ≤ sz m' := by cases m' <;> (rw [sz] <;> omega)
              omega
          exact one _
        have := own_sz m
        omega
      · rw [upd_same, List.take_add_one, he, List.map_append, List.map_append, List.map_append]
        rfl
    obtain ⟨sm, d6⟩ := h6
    rw [List.length_map, List.take_length] at d6
    have f6' := f6.same sm
    have size_eq : (1 : Int) + ((ks.map fun e => sz e.2).map fun n : Nat => (n : Int)).sum = ((sz m : Nat) : Int) := by
      rw [sum_cast, ← own_sz m, ← em, List.map_map, Int.natCast_add]
      rfl
    generalize (ks.map fun e => sz e.2).map (fun n : Nat => (n : Int)) = is6 at d6 size_eq
    refine ⟨D6, is6, rfl, SqL.of d6, _, _, rfl, rfl, ?_⟩
    refine ⟨_, rfl, x, C, dx, _, rfl, f6'.at_, cl, n.size, by omega, ?_⟩
    have f7 := f6'.put ne (by omega) (putF "size" (.int (1 + is6.sum)) g6)
    generalize e7 : putF "size" (.int (1 + is6.sum)) g6 = g7 at f7 ⊢
    have m7 : g7.length = 7 := by rw [← e7, ← e6, ← e5, ← e4, ← e3, ← e2, ← e1]; rfl
    generalize upd J6 x (.ins C dx g7) = Hh at f7 ⊢
    refine ⟨_, rfl, l2, _, rfl, .inl (SqL.of f7.l2), _, rfl, p, rfl, ⟨_, SqT.of f7.ts⟩, fun D7 hD7 => lc_tup (xs := ks.map fun e : V × Md => e.1) (fun i H4 => Same Hh H4 ∧ ∃ is : List Int, H4 D7 = some (.lst (is.map V.int)) ∧ is.length = i)
      ⟨same_new hD7, [], upd_same, rfl⟩ (fun i H4 _ h => SqT.of (h.1 _ _ f7.ts)) (fun i v H4 hv h => ?_) (fun J7 h7 => ?_)⟩
    · obtain ⟨sm, is, d7, li⟩ := h
      rw [List.getElem?_map] at hv
      obtain ⟨e, he, rfl⟩ := Option.map_eq_some_iff.mp hv
      have lt : i < ks.length := (List.getElem?_eq_some_iff.mp he).1
      obtain ⟨es, a, d', p', q1, q2, j, ys', bs', ks', ea, ha, _⟩ := f7.pk e (List.mem_of_getElem? he)
      refine ⟨rfl, _, rfl, a, C, d', _, .int j, ea, sm _ _ ha, cl, n.applied, rfl, _, d7, ?_, same_put hD7 sm, is ++ [j], by rw [upd_same, List.map_append]; rfl, by rw [List.length_append, li]; rfl⟩
      rw [List.length_map, li, sizeLine_eq]
      have l1 : ks.length = (prM m).length := by rw [← em, List.length_map]
      have l2 : (prM m).length ≤ ((prM m).map sz).sum := by
        have one : ∀ ms : List Md, ms.length ≤ (ms.map sz).sum := fun ms => by
          induction ms with
          | nil => exact Nat.le_refl _
          | cons m' r ih =>
            rw [List.map_cons, List.sum_cons, List.length_cons]
            have : 1 ≤ sz m' := by cases m' <;> (rw [sz] <;> omega)
            omega
        exact one _
      have := own_sz m
      omega
    obtain ⟨sm, is7, d7, li7⟩ := h7
    have f7' := f7.same sm
    refine ⟨D7, is7, rfl, SqL.of d7, _, _, rfl, rfl, ?_⟩
    refine ⟨_, rfl, x, C, dx, _, rfl, f7'.at_, cl, n.applied, by omega, ?_⟩
    have f8 := f7'.put ne (by omega) (putF "applied" (.int ((((ownS (stM m)).length : Nat) : Int) + is7.sum)) g7)
    refine q _ ⟨x, dx, p, q4, q5, ((((ownS (stM m)).length : Nat) : Int) + is7.sum), ys, bs, js, rfl, ?_, f8.ts, f8.tr (q4, ys.map V.str) (List.mem_cons_of_mem _ List.mem_cons_self), no, f8.tr (q5, bs) List.mem_cons_self, f8.sk (bs, js) List.mem_cons_self, ky⟩ f8.kp
    refine f8.at_.trans ?_
    rw [← size_eq, ← e7, ← e6, ← e5, ← e4, ← e3, ← e2, ← e1]
    rfl
end
end LK

namespace LK
open PySem PySem.Spec PyProof.Rows L2
/-! ### named, steps -/
theorem same_of_keep {H H1 H' : Hp} {x dx : Addr} {o u : HO} (hx : H x = none) (hd : H dx = none) (k : Keep x (upd (upd H dx o) x u) H') : Same H H' := fun b v e => k b v (ne_of_none e hx) (by rw [upd_ne (ne_of_none e hx), upd_ne (ne_of_none e hd)]; exact e)
/-- what is new in a later heap -/
def nw (H H' : Hp) : Hp := fun b => match H b with | none => H' b | some _ => none
theorem nw_at {H H' : Hp} {b : Addr} (h : H b = none) : nw H H' b = H' b := by
  unfold nw
  rw [h]
theorem nw_some {H H' : Hp} {b : Addr} {o : HO} (h : nw H H' b = some o) : H b = none ∧ H' b = some o := by
  unfold nw at h
  cases e : H b with
  | none =>
    rw [e] at h
    exact ⟨rfl, h⟩
  | some u =>
    rw [e] at h
    cases h
def spNamed (K : PySem.W.Frag) (C : Addr) : Sp := fun vs H Q _ => ∃ z, vs = [.str z] ∧ NameOk z ∧ ∀ a H', ExprAt K C (nw H H') a → (∀ cS, ExP K C cS H' (.ref a) "name" z .non [] 1) → Same H H' → Q (.ref a) H'
def spWaysOk : Sp := fun vs H Q _ => ∃ y, vs = [.str y] ∧ WaysOk y ∧ ∀ H', Same H H' → Q (.bl true) H'
def spStInit (C : Addr) : Sp := fun vs H Q _ => ∃ (x dx : Addr) (z y : Str), vs = [.ref x, .str z, .str y] ∧ H x = some (.ins C dx []) ∧ NameOk z ∧ WaysOk y ∧ ∀ H', StepAt C H' x z y → Keep x H H' → Q .non H'
def spStLen (C : Addr) : Sp := fun vs H Q _ => ∃ (x : Addr) (z y : Str), vs = [.ref x] ∧ StepAt C H x z y ∧ y.length ≤ 3 ∧ Q (.int y.length) H
section
variable {P : Program} {w : World} {K : PySem.W.Frag} {mg : Str → Option Value} {base : Heap}
theorem scNamed : FnScope ["word"] ["word"] (defScope sNamed) := ⟨rfl, rfl, rfl, by decide +kernel, rfl, by decide +kernel, by decide +kernel⟩
theorem ok_named {C fI f fe fN fS kw : Addr} {fdI fd fde fdN fdS : FuncData} (S : Std mg) (W : Words K mg kw) (I : Df K mg "is_name" sIsName fI fdI ["value"]) (cl : Cls K C) (n : ExN K C) (gC : mg "Expr" = some (.ref C))
    (M : Mk K C fe) (Fe : Fun K "__init__" "Expr.__init__" sExprInit fe fde) (be : Binds K fde ["self", "kind", "word", "step", "parts"] []) (N : Dd K mg "all_names" sAllNames fN fdN ["holders", "more"]) (T : Dd K mg "all_steps" sAllSteps fS fdS ["holders", "more"])
    (F : Fun K "named" "named" sNamed f fd) : FnOk P w K mg base CX0 4 f fd ["word"] (spNamed K C) := by
  have GI : FnOk P w K mg base CX0 1 fI fdI ["value"] spName := ok_isName S W I.F
  obtain ⟨cS, ne, clS, a1, a2⟩ := n.other
  have GE : FnOk P w K mg base CX0 2 fe fde ["self", "kind", "word", "step", "parts"] (spExInit K C cS) := ok_exInit S cl n ne clS a1 a2 Fe N T
  refine F.ok scNamed (fun vs H Q E h => ?_) (fun cdv A outer s H vs Q E hr h => ?_)
  · obtain ⟨z, rfl, _⟩ := h
    rfl
  · obtain ⟨z, rfl, hz, q⟩ := h
    refine ⟨_, pss_cons (ps_if (pt_not (pt_val (pe_call GI (hr.mono (by decide)) rfl I.g I.F.kp I.b .nil pass0 (pa_cons (pv 0) pa_nil)))) (pss_one ps_never) pss_nil)
      (pss_one (ps_ret (pe_make M GE hr rfl gC be .nil pass0 (pa_cons pe_str (pa_cons (pv 0) (pa_cons pe_non (pa_cons (pe_tup pa_nil) pa_nil))))))), ?_⟩
    refine ⟨_, rfl, z, rfl, hz, fun H1 s1 => ⟨_, rfl, iteF ?_⟩⟩
    refine ⟨_, rfl, by show 0 ≤ sizeLine; decide, fun p hp => fun x dx nx nd ne => ?_⟩
    have h0 : H1 p = none := hp
    have px : p ≠ x := ne_of_none upd_same nx
    have pd : p ≠ dx := ne_of_none upd_same nd
    have hp2 : (upd (upd (upd H1 p (.tup [])) dx (.own x)) x (.ins C dx [])) p = some (.tup []) := by
      rw [upd_ne px, upd_ne pd]
      exact upd_same
    have old : ∀ {b : Addr}, H1 b = none → H b = none := fun {b} h => by
      cases e : H b with
      | none => rfl
      | some o =>
        rw [s1 _ _ e] at h
        cases h
    have nx1 : H1 x = none := by
      rw [upd_ne px.symm] at nx
      exact nx
    refine ⟨x, dx, p, "name", z, .non, [], rfl, upd_same, SqT.of hp2, (fun _ h => nomatch h), .inl rfl, (by decide), (by decide), fun H' hx k => ?_⟩
    obtain ⟨q1, q2, i, j, zs, bs, he, k1, k2, t1, t2, l1, l2, _⟩ := hx
    have all : Same H H' := (s1.trans (same_new hp)).trans (same_of_keep (H1 := upd H1 p (.tup [])) nx nd k)
    have older : ∀ {b : Addr}, (upd (upd (upd H1 p (.tup [])) dx (.own x)) x (.ins C dx [])) b = none → H b = none := fun {b} h => by
      cases e : H b with
      | none => rfl
      | some o =>
        have e2 := same_new (o := .tup []) hp _ _ (s1 _ _ e)
        have e3 : (upd (upd H1 p (.tup [])) dx (.own x)) b = some o := same_new (o := .own x) nd _ _ e2
        rw [upd_ne (ne_of_none e2 nx), e3] at h
        cases h
    obtain rfl : bs = [] := List.length_eq_zero_iff.mp (Nat.le_zero.mp l2)
    refine ⟨rfl, q x H' ⟨dx, z, p, .ref q1, .ref q2, .int i, .int j, ?_, SqT.of ?_, q1, q2, i, j, zs, rfl, rfl, rfl, rfl, ?_, l1, ?_, hz⟩ (fun cS => ⟨x, p, rfl, ⟨dx, q1, q2, i, j, zs, [], he, t1, t2, l1, Nat.zero_le _, fun _ h => nomatch h⟩, SqT.of (k _ _ px hp2)⟩) all⟩
    · rw [nw_at (old nx1)]
      exact he
    · rw [nw_at (old h0)]
      exact k _ _ px hp2
    · rw [nw_at (older k1)]
      exact t1
    · rw [nw_at (older k2)]
      exact t2
theorem scWaysOk : FnScope ["value", "way"] ["value"] (defScope sAreWays) := ⟨rfl, rfl, rfl, by decide +kernel, rfl, by decide +kernel, by decide +kernel⟩
theorem ok_areWays {f : Addr} {fd : FuncData} {t1 t2 : Tok} (S : Std mg) (m1 : mg "MOST_ARGUMENTS" = some (.int 3 t1)) (m2 : mg "WAYS" = some (.str "+-?" t2)) (F : Fun K "_are_ways" "_are_ways" sAreWays f fd) : FnOk P w K mg base CX0 1 f fd ["value"] spWaysOk := by
  refine F.ok scWaysOk (fun vs H Q E h => ?_) (fun cdv A outer s H vs Q E hr h => ?_)
  · obtain ⟨z, rfl, _⟩ := h
    rfl
  · obtain ⟨z, rfl, hz, q⟩ := h
    refine ⟨_, pss_cons (ps_if (PW.pt (pw_or (pt_not (pt_val (pe_callB call_isi (by rfl) S.isi (by decide +kernel) (pa_cons (pv 0) (pa_cons (pe_bltn (v := .ty "str") (by rfl) S.str (by decide +kernel) rfl) pa_nil)))))
          (pw_or1 (pt_not (pt_chain op_le op_le pe_int (pe_callB call_len (by rfl) S.len PySem.boot_len (pa_cons (pv 0) pa_nil)) (pe_glob (v := .int 3) rfl m1 ⟨_, rfl⟩))))))
        (pss_one (ps_ret pe_bl)) pss_nil)
      (pss_one (ps_ret (pe_callB (cr_all rfl) (by rfl) S.all (by decide +kernel) (pa_cons (pe_lc (own := [("way", 1)]) (g := gName 1) (tt := tYes) rfl scWaysOk.nd
            (pi_str (pv 0)) (blkOk_by (N := ["value", "way"]) (sc := defScope sAreWays) (by decide +kernel)) (fun _ _ _ _ _ => pg_name (i := 1) scWaysOk.nd rfl (Or.inl rfl)) (fun _ _ _ _ _ => pts_nil)
            (fun _ _ _ _ _ => pe_cmpR op_in_sign (pv 1) (pe_glob (v := .str "+-?") rfl m2 ⟨_, rfl⟩) (by rfl))) pa_nil)))), ?_⟩
    have zl : z.length = z.cps.size := rfl
    have h4 := hz.len
    have h1 := hz.pos
    refine ⟨_, rfl, _, _, _, _, true, rfl, .ty "str", .base (.str z), kit_ty (by decide +kernel), true, rfl, iteF ?_⟩
    refine ⟨_, rfl, _, z.length, rfl, ⟨by rw [sizeLine_eq]; omega, rfl⟩, _, _, rfl, rfl, _, rfl, ?_⟩
    rw [decide_eq_true (show (1 : Int) ≤ (z.length : Int) by omega)]
    refine iteT ⟨_, _, rfl, rfl, _, rfl, ?_⟩
    rw [decide_eq_true (show (z.length : Int) ≤ 3 by omega)]
    refine iteF ⟨_, rfl, z, rfl, fun D hD => lc_str (fun i H4 => Keep D H H4 ∧ H4 D = some (.lst (List.replicate i (V.bl true)))) ⟨Keep.new hD, upd_same⟩ (fun i c H4 hc ⟨k4, d4⟩ => ?_) (fun H4 ⟨k4, d4⟩ => ?_)⟩
    · have lt : i < z.cps.size := (Array.getElem?_eq_some_iff.mp hc).1
      have mem : c ∈ TL.tl ("+-?" : Str) := hz.sg c (Array.mem_toList_iff.mpr (Array.mem_of_getElem? hc))
      refine ⟨rfl, _, rfl, c, "+-?", rfl, rfl, _, d4, by rw [List.length_replicate]; exact small1000 (by omega), fun b o n e => ?_, ?_⟩
      · rw [upd_ne n]
        exact k4 b o n e
      · rw [upd_same, decide_eq_true (show c ∈ ("+-?" : Str).cps.toList from mem), List.replicate_succ']
    · refine ⟨D, List.replicate z.cps.size true, rfl, SqL.of (by rw [List.map_replicate]; exact d4), ?_⟩
      rw [show (List.replicate z.cps.size true).all id = true from by rw [List.all_eq_true]; intro b hb; exact (List.mem_replicate.mp hb).2]
      exact q _ fun b o e => k4 b o (ne_of_none e hD) e
theorem scStInit : FnScope ["self", "name", "ways"] ["self", "name", "ways"] (defScope sStepInit) := ⟨rfl, rfl, rfl, by decide +kernel, rfl, by decide +kernel, by decide +kernel⟩
theorem ok_stInit {C fI fW f kw : Addr} {fdI fdW fd : FuncData} {t1 t2 : Tok} (S : Std mg) (Wd : Words K mg kw) (I : Df K mg "is_name" sIsName fI fdI ["value"]) (m1 : mg "MOST_ARGUMENTS" = some (.int 3 t1)) (m2 : mg "WAYS" = some (.str "+-?" t2)) (W : Df K mg "_are_ways" sAreWays fW fdW ["value"])
    (cl : Cls K C) (n1 : NoAttr K C "name") (n2 : NoAttr K C "ways") (F : Fun K "__init__" "Step.__init__" sStepInit f fd) : FnOk P w K mg base CX0 2 f fd ["self", "name", "ways"] (spStInit C) := by
  have GI : FnOk P w K mg base CX0 1 fI fdI ["value"] spName := ok_isName S Wd I.F
  have GW : FnOk P w K mg base CX0 1 fW fdW ["value"] spWaysOk := ok_areWays S m1 m2 W.F
  refine F.ok scStInit (fun vs H Q E h => ?_) (fun cdv A outer s H vs Q E hr h => ?_)
  · obtain ⟨x, dx, z, y, rfl, _⟩ := h
    rfl
  · obtain ⟨x, dx, z, y, rfl, hx, hz, hy, q⟩ := h
    refine ⟨_, pss_cons (ps_if (pt_not (pt_val (pe_call GI hr rfl I.g I.F.kp I.b .nil pass0 (pa_cons (pv 1) pa_nil)))) (pss_one ps_never) pss_nil)
      (pss_cons (ps_if (pt_not (pt_val (pe_call GW hr rfl W.g W.F.kp W.b .nil pass0 (pa_cons (pv 2) pa_nil)))) (pss_one ps_never) pss_nil)
      (pss_cons (ps_fld (pv 0) (pv 1) rfl) (pss_one (ps_fld (pv 0) (pv 2) rfl)))), ?_⟩
    refine ⟨_, rfl, z, rfl, hz, fun H1 s1 => ⟨_, rfl, iteF ?_⟩⟩
    refine ⟨_, rfl, y, rfl, hy, fun H2 s2 => ⟨_, rfl, iteF ?_⟩⟩
    refine ⟨_, rfl, _, rfl, x, C, dx, _, rfl, s2 _ _ (s1 _ _ hx), cl, n1, by decide, ?_⟩
    refine ⟨_, rfl, _, rfl, x, C, dx, _, rfl, upd_same, cl, n2, by show 1 < 1000; decide, ?_⟩
    exact q _ ⟨dx, upd_same⟩ (((Keep.same (s1.trans s2)).trans Keep.put).trans Keep.put)
theorem scStLen : FnScope ["self"] ["self"] (defScope sStepLen) := ⟨rfl, rfl, rfl, by decide +kernel, rfl, by decide +kernel, by decide +kernel⟩
theorem ok_stLen {C f : Addr} {fd : FuncData} (S : Std mg) (cl : Cls K C) (n2 : NoAttr K C "ways") (F : Fun K "__len__" "Step.__len__" sStepLen f fd) : FnOk P w K mg base CX0 1 f fd ["self"] (spStLen C) := by
  refine F.ok scStLen (fun vs H Q E h => ?_) (fun cdv A outer s H vs Q E hr h => ?_)
  · obtain ⟨x, z, y, rfl, _⟩ := h
    rfl
  · obtain ⟨x, z, y, rfl, ⟨dx, hx⟩, hy, q⟩ := h
    refine ⟨_, pss_one (ps_ret (pe_callB call_len (by rfl) S.len PySem.boot_len (pa_cons (pe_fld (pv 0) rfl) pa_nil))), ?_⟩
    exact ⟨_, rfl, _, _, _, _, _, rfl, hx, cl, n2, rfl, _, _, rfl, ⟨by rw [sizeLine_eq]; omega, rfl⟩, q⟩
end
end LK

namespace LK
open PySem PySem.Spec PyProof.Rows L2
/-! ### chains -/
/-- a def with a star parameter -/
theorem okStar {P : Program} {w : World} {K : PySem.W.Frag} {mg : Str → Option Value} {base : Heap} {x qual pv : Str} {st : Stmt} {f : Addr} {fd : FuncData} {N ps : List Str} {k : Nat} {sp : Sp} (F : Fun K x qual st f fd) (S : FnScope N (ps ++ [pv]) (defScope st))
    (hb : ∀ (kV doc pm : Value) (an : Option Addr) (cdv ct : Value) (us rest : List Value), us.length = ps.length → bindArgs (PySem.W.fnOf x qual (defArgs st) (defBody st) (defScope st) .none kV doc pm an cdv ct) ⟨us ++ rest, []⟩ = (newTuple rest >>= fun t => pure (ps.zip us ++ [(pv, t)])))
    (walk : ∀ (cdv : Value) (A : Around) (outer : List Env) (s : Shared) (H : Hp) (vs : List V) (Q : VK) (E : XK), Room k (A.deeper (envOfC qual (defScope st) s.heap.objs.size f cdv)) → sp vs H Q E →
      ∃ t, PSs (cxOf CX0 P w K mg base N qual (defScope st) f cdv A outer s H E).nox (defBody st) t ∧ t { nx := fun _ H' => Q .non H', rt := Q } (start N vs) H) :
    FnR P w K mg base CX0 (k + 1) f (fun vs H Q E => ∃ ws rest, vs = ws ++ rest ∧ ws.length = ps.length ∧ rest.length ≤ sizeLine ∧ ∀ p, H p = Option.none → sp (ws ++ [V.ref p]) (upd H p (.tup rest)) Q E) := by
  obtain ⟨oc, od, kV, doc, pm, an, cdv, ct, osl, rfl, lk, hcd⟩ := F.ex
  refine StX.fn_star lk hcd S StX.cxUp_none (hb kV doc pm an cdv ct) fun A outer s H vs Q E hr h => ?_
  obtain ⟨t, p, q⟩ := walk cdv A outer s H vs Q E hr h
  exact ⟨t, p.nox, q⟩
/-- a class with its own __len__ -/
structure LenM (K : PySem.W.Frag) (C f : Addr) (fd : FuncData) (st : Stmt) (q : Str) : Prop where
  F : Fun K "__len__" q st f fd
  b : Binds K fd ["self"] []
  at_ : PySem.W.findIn K (.ref C) "__len__" = some (some (.ref f))
  fn : PySem.W.isFn K (.ref f) = true
end LK

namespace LK
open PySem PySem.Spec PyProof.Rows L2
theorem StepAt.same {C : Addr} {H H' : Hp} {a : Addr} {z y : Str} (s : Same H H') (h : StepAt C H a z y) : StepAt C H' a z y := by
  obtain ⟨dx, h⟩ := h
  exact ⟨dx, s _ _ h⟩
end LK

namespace LK
open PySem PySem.Spec PyProof.Rows L2
/-! ### texts that are drawn -/
def spSign : Sp := fun vs H Q _ => ∃ (l : Addr), vs = [.ref l] ∧ Feed H l ∧ ∀ c H', Feed H' l → Keep l H H' → Q (.str ⟨#[c]⟩) H'
def spBent : Sp := fun vs H Q _ => ∃ (l : Addr) (z : Str), vs = [.ref l, .str z] ∧ z.length ≤ 4 ∧ Feed H l ∧ ∀ y H', y.length ≤ 9 → Feed H' l → Keep l H H' → Q (.str y) H'
def spNear0 : Sp := fun vs H Q _ => ∃ (l : Addr), vs = [.ref l] ∧ Feed H l ∧ ∀ y H', y.length ≤ 9 → Feed H' l → Keep l H H' → Q (.str y) H'
def spWays : Sp := fun vs H Q _ => ∃ (l : Addr), vs = [.ref l] ∧ Feed H l ∧ ∀ y H', WaysOk y → Feed H' l → Keep l H H' → Q (.str y) H'
theorem len_app (x y : Str) : (x ++ y).length = x.length + y.length := by
  rw [TL.len_tl, TL.tl_append, List.length_append, ← TL.len_tl, ← TL.len_tl]
theorem fit {x y : Str} {m n : Nat} (a : x.length ≤ m) (b : y.length ≤ n) (c : m + n ≤ 1000) : x.length + y.length ≤ sizeLine := Nat.le_of_lt (small1000 (by omega))
theorem cut4 {z : Str} (h : z.length ≤ 4) (a b : Option Int) : (cutS z a b).length ≤ 4 := Nat.le_trans (cutS_length z a b) h
section
variable {P : Program} {w : World} {K : PySem.W.Frag} {mg : Str → Option Value} {base : Heap}
end
end LK

namespace LK
open PySem PySem.Spec PyProof.Rows L2
/-! ### any value -/
theorem old_none {H H1 : Hp} {l b : Addr} (k : Keep l H H1) (f : Feed H1 l) (h : H1 b = none) : H b = none := by
  cases e : H b with
  | none => rfl
  | some o =>
    by_cases hb : b = l
    · obtain ⟨x, y, q, _⟩ := f
      rw [hb, q] at h
      cases h
    · rw [k _ _ hb e] at h
      cases h
/-- an object just made, seen later -/
theorem made {H H1 H' : Hp} {l x dx : Addr} {o u : HO} (k : Keep l H H1) (f : Feed H1 l) (nx : H1 x = none) (nd : H1 dx = none) (k2 : Keep x (upd (upd H1 dx o) x u) H') : Feed H' l ∧ Keep l H H' ∧ H x = none := by
  have s := same_of_keep (H1 := H1) nx nd k2
  exact ⟨f.same s, k.trans (Keep.same s), old_none k f nx⟩
theorem nw_mono {H H1 H' : Hp} {l : Addr} (k : Keep l H H1) (f : Feed H1 l) : Same (nw H1 H') (nw H H') := fun b o e => by
  obtain ⟨e1, e2⟩ := nw_some e
  rw [nw_at (old_none k f e1)]
  exact e2
theorem StepAt.nw {C : Addr} {H H' : Hp} {x : Addr} {z y : Str} (hx : H x = none) (h : StepAt C H' x z y) : StepAt C (nw H H') x z y := by
  obtain ⟨dx, h⟩ := h
  exact ⟨dx, by rw [nw_at hx]; exact h⟩
theorem plusOk : WaysOk "+" := ⟨by decide +kernel, by decide +kernel, by decide +kernel⟩
end LK

namespace LK
open PySem PySem.Spec PyProof.Rows L2 LR
/-! ### expressions put together -/
theorem same_ins {H1 : Hp} {x dx : Addr} {o u : HO} (nx : H1 x = none) (nd : H1 dx = none) : Same H1 (upd (upd H1 dx o) x u) := fun b v e => by
  rw [upd_ne (ne_of_none e nx), upd_ne (ne_of_none e nd)]
  exact e
/-- what makes an expression -/
structure ExMk (K : PySem.W.Frag) (mg : Str → Option Value) (C cS fe fN fS : Addr) (fde fdN fdS : FuncData) : Prop where
  cl : Cls K C
  n : ExN K C
  ne : cS ≠ C
  clS : Cls K cS
  s1 : NoAttr K cS "name"
  s2 : NoAttr K cS "ways"
  g : mg "Expr" = some (.ref C)
  M : Mk K C fe
  F : Fun K "__init__" "Expr.__init__" sExprInit fe fde
  b : Binds K fde ["self", "kind", "word", "step", "parts"] []
  N : Dd K mg "all_names" sAllNames fN fdN ["holders", "more"]
  T : Dd K mg "all_steps" sAllSteps fS fdS ["holders", "more"]
/-- the made object's fields, seen from the heap it was made in -/
theorem ex_made {K : PySem.W.Frag} {C cS x dx p : Addr} {H1 H' : Hp} {kd z : Str} {st : V} {ps : List V} {m n : Nat} (nx : H1 x = none) (nd : H1 dx = none) (hp : SqT K H1 p ps) (le1 : (ownN kd z).length + m ≤ n) (le2 : (ownS st).length + m ≤ n)
    (h : ∃ q1 q2 i j, ∃ (zs : List Str) (bs : List V), H' x = some (.ins C dx (exFs kd z st p q1 q2 i j)) ∧ (upd (upd H1 dx (.own x)) x (.ins C dx [])) q1 = none ∧ (upd (upd H1 dx (.own x)) x (.ins C dx [])) q2 = none ∧ H' q1 = some (.tup (zs.map V.str)) ∧ H' q2 = some (.tup bs) ∧
      zs.length ≤ (ownN kd z).length + m ∧ bs.length ≤ (ownS st).length + m ∧ ∀ b ∈ bs, IsSt cS H' b) (k : Keep x (upd (upd H1 dx (.own x)) x (.ins C dx [])) H') :
    Same H1 H' ∧ ExP K C cS H' (.ref x) kd z st ps n := by
  obtain ⟨q1, q2, i, j, zs, bs, he, _, _, t1, t2, l1, l2, g⟩ := h
  have s := same_of_keep (H1 := H1) nx nd k
  exact ⟨s, x, p, rfl, ⟨dx, q1, q2, i, j, zs, bs, he, t1, t2, by omega, by omega, g⟩, SqT.same s hp⟩
def spApplied (K : PySem.W.Frag) (C cS : Addr) : Sp := fun vs H Q _ => ∃ (st : V) (l : Addr) (ks : List (V × Nat)), vs = [st, .ref l] ∧ IsSt cS H st ∧ SqL K H l (ks.map fun e => e.1) ∧ (∀ e ∈ ks, IsEx C cS H e) ∧ 1 + tot ks < 64 ∧ ks.length < 64 ∧
  ∀ v H', Same H H' → ExP K C cS H' v "step" "" st (ks.map fun e => e.1) (1 + tot ks) → Q v H'
def spTwo (K : PySem.W.Frag) (C cS : Addr) (kd : Str) : Sp := fun vs H Q _ => ∃ (x y : V) (m n : Nat), vs = [x, y] ∧ IsEx C cS H (x, m) ∧ IsEx C cS H (y, n) ∧ 1 + (m + n) < 64 ∧ ∀ v H', Same H H' → ExP K C cS H' v kd "" .non [x, y] (1 + (m + n)) → Q v H'
section
variable {P : Program} {w : World} {K : PySem.W.Frag} {mg : Str → Option Value} {base : Heap}
theorem scApplied : FnScope ["step", "parts"] ["step", "parts"] (defScope sApplied) := ⟨rfl, rfl, rfl, by decide +kernel, rfl, by decide +kernel, by decide +kernel⟩
theorem ok_applied {C cS fe fN fS f : Addr} {fde fdN fdS fd : FuncData} (S : Std mg) (X1 : ExMk K mg C cS fe fN fS fde fdN fdS) (F : Fun K "applied" "applied" sApplied f fd) : FnOk P w K mg base CX0 4 f fd ["step", "parts"] (spApplied K C cS) := by
  have GE : FnOk P w K mg base CX0 2 fe fde ["self", "kind", "word", "step", "parts"] (spExInit K C cS) := ok_exInit S X1.cl X1.n X1.ne X1.clS X1.s1 X1.s2 X1.F X1.N X1.T
  refine F.ok scApplied (fun vs H Q E h => ?_) (fun cdv A outer s H vs Q E hr h => ?_)
  · obtain ⟨st, l, ks, rfl, _⟩ := h
    rfl
  · obtain ⟨st, l, ks, rfl, hs, hl, hk, few, short, q⟩ := h
    refine ⟨_, pss_one (ps_ret (pe_make X1.M GE hr rfl X1.g X1.b .nil pass0 (pa_cons pe_str (pa_cons pe_str (pa_cons (pv 0) (pa_cons (pe_callTy call_tuple_of (by rfl) S.tuple (by decide +kernel) (pa_cons (pv 1) pa_nil)) pa_nil)))))), ?_⟩
    refine ⟨_, rfl, _, rfl, l, _, rfl, .inl ⟨hl, fun p hp => ?_⟩⟩
    have sp := same_new (o := .tup (ks.map fun e => e.1)) hp
    intro x dx nx nd ne
    have s2 := sp.trans (same_ins (o := .own x) (u := .ins C dx []) nx nd)
    refine ⟨x, dx, p, "step", "", st, ks, rfl, upd_same, SqT.same (same_ins nx nd) (SqT.of upd_same), fun e he => (hk e he).same s2, .inr (hs.same s2), few, short, fun H' h k => ⟨rfl, ?_⟩⟩
    obtain ⟨s3, ex⟩ := ex_made nx nd (SqT.of (K := K) upd_same) (n := 1 + tot ks) (by show 0 + tot ks ≤ _; omega) (by have := ownS_le st; omega) h k
    exact q _ H' (sp.trans s3) ex
theorem two_tot (x y : V) (m n : Nat) : tot [(x, m), (y, n)] = m + n := by
  simp [tot]
theorem scLesser : FnScope ["left", "right"] ["left", "right"] (defScope sLesser) := ⟨rfl, rfl, rfl, by decide +kernel, rfl, by decide +kernel, by decide +kernel⟩
theorem ok_lesser {C cS fe fN fS f : Addr} {fde fdN fdS fd : FuncData} (S : Std mg) (X1 : ExMk K mg C cS fe fN fS fde fdN fdS) (F : Fun K "_lesser" "_lesser" sLesser f fd) : FnOk P w K mg base CX0 4 f fd ["left", "right"] (spTwo K C cS "lesser") := by
  have GE : FnOk P w K mg base CX0 2 fe fde ["self", "kind", "word", "step", "parts"] (spExInit K C cS) := ok_exInit S X1.cl X1.n X1.ne X1.clS X1.s1 X1.s2 X1.F X1.N X1.T
  refine F.ok scLesser (fun vs H Q E h => ?_) (fun cdv A outer s H vs Q E hr h => ?_)
  · obtain ⟨x, y, m, n, rfl, _⟩ := h
    rfl
  · obtain ⟨x0, y0, m, n, rfl, hx, hy, few, q⟩ := h
    refine ⟨_, pss_one (ps_ret (pe_make X1.M GE hr rfl X1.g X1.b .nil pass0 (pa_cons pe_str (pa_cons pe_str (pa_cons pe_non (pa_cons (pe_tup (pa_cons (pv 0) (pa_cons (pv 1) pa_nil))) pa_nil)))))), ?_⟩
    refine ⟨_, rfl, _, rfl, (by show 2 ≤ sizeLine; decide), fun p hp => ?_⟩
    have sp := same_new (o := .tup [x0, y0]) hp
    intro x dx nx nd ne
    have s2 := sp.trans (same_ins (o := .own x) (u := .ins C dx []) nx nd)
    refine ⟨x, dx, p, "lesser", "", .non, [(x0, m), (y0, n)], rfl, upd_same, SqT.same (same_ins nx nd) (SqT.of upd_same), fun e he => ?_, .inl rfl, by rw [two_tot]; exact few, (by show 2 < 64; decide), fun H' h k => ⟨rfl, ?_⟩⟩
    · rcases List.mem_cons.mp he with rfl | he
      · exact hx.same s2
      · rw [List.mem_singleton.mp he]
        exact hy.same s2
    obtain ⟨s3, ex⟩ := ex_made nx nd (SqT.of (K := K) upd_same) (n := 1 + (m + n)) (by rw [two_tot]; show 0 + (m + n) ≤ _; omega) (by rw [two_tot]; show 0 + (m + n) ≤ _; omega) h k
    exact q _ H' (sp.trans s3) ex
theorem scGreater : FnScope ["left", "right"] ["left", "right"] (defScope sGreater) := ⟨rfl, rfl, rfl, by decide +kernel, rfl, by decide +kernel, by decide +kernel⟩
theorem ok_greater {C cS fe fN fS f : Addr} {fde fdN fdS fd : FuncData} (S : Std mg) (X1 : ExMk K mg C cS fe fN fS fde fdN fdS) (F : Fun K "_greater" "_greater" sGreater f fd) : FnOk P w K mg base CX0 4 f fd ["left", "right"] (spTwo K C cS "greater") := by
  have GE : FnOk P w K mg base CX0 2 fe fde ["self", "kind", "word", "step", "parts"] (spExInit K C cS) := ok_exInit S X1.cl X1.n X1.ne X1.clS X1.s1 X1.s2 X1.F X1.N X1.T
  refine F.ok scGreater (fun vs H Q E h => ?_) (fun cdv A outer s H vs Q E hr h => ?_)
  · obtain ⟨x, y, m, n, rfl, _⟩ := h
    rfl
  · obtain ⟨x0, y0, m, n, rfl, hx, hy, few, q⟩ := h
    refine ⟨_, pss_one (ps_ret (pe_make X1.M GE hr rfl X1.g X1.b .nil pass0 (pa_cons pe_str (pa_cons pe_str (pa_cons pe_non (pa_cons (pe_tup (pa_cons (pv 0) (pa_cons (pv 1) pa_nil))) pa_nil)))))), ?_⟩
    refine ⟨_, rfl, _, rfl, (by show 2 ≤ sizeLine; decide), fun p hp => ?_⟩
    have sp := same_new (o := .tup [x0, y0]) hp
    intro x dx nx nd ne
    have s2 := sp.trans (same_ins (o := .own x) (u := .ins C dx []) nx nd)
    refine ⟨x, dx, p, "greater", "", .non, [(x0, m), (y0, n)], rfl, upd_same, SqT.same (same_ins nx nd) (SqT.of upd_same), fun e he => ?_, .inl rfl, by rw [two_tot]; exact few, (by show 2 < 64; decide), fun H' h k => ⟨rfl, ?_⟩⟩
    · rcases List.mem_cons.mp he with rfl | he
      · exact hx.same s2
      · rw [List.mem_singleton.mp he]
        exact hy.same s2
    obtain ⟨s3, ex⟩ := ex_made nx nd (SqT.of (K := K) upd_same) (n := 1 + (m + n)) (by rw [two_tot]; show 0 + (m + n) ≤ _; omega) (by rw [two_tot]; show 0 + (m + n) ≤ _; omega) h k
    exact q _ H' (sp.trans s3) ex
end
end LK

namespace LK
open PySem PySem.Spec PyProof.Rows L2 LR
/-! ### expressions made -/
/-- y stands for the expression of m -/
def PartR (K : PySem.W.Frag) (C cS : Addr) (n : Nat) (H : Hp) (y : V) (m : Md) : Prop := ExR K C cS n H m y ∨ ∃ z, y = .str z ∧ m = .nm z ∧ NameOk z ∧ 1 ≤ n
theorem partR_tr {K : PySem.W.Frag} {C cS : Addr} {n : Nat} {H H' : Hp} {y : V} {m : Md} (t : Tr H H') (h : PartR K C cS n H y m) : PartR K C cS n H' y m := h.imp (exR_tr t) id
theorem ExR.same {K : PySem.W.Frag} {C cS : Addr} {n : Nat} {H H' : Hp} {m : Md} {e : V} (s : Same H H') (h : ExR K C cS n H m e) : ExR K C cS n H' m e := exR_tr (Tr.same s) h
theorem PartR.same {K : PySem.W.Frag} {C cS : Addr} {n : Nat} {H H' : Hp} {y : V} {m : Md} (s : Same H H') (h : PartR K C cS n H y m) : PartR K C cS n H' y m := partR_tr (Tr.same s) h
theorem ExR.fld {K : PySem.W.Frag} {C cS : Addr} {H : Hp} {m : Md} {e : V} : ∀ {n : Nat}, ExR K C cS n H m e → ∃ es, FldX K C cS H m e es
  | 0, h => h.elim
  | _ + 1, ⟨es, f, _⟩ => ⟨es, f⟩
theorem ExR.ins {K : PySem.W.Frag} {C cS : Addr} {H : Hp} {m : Md} {e : V} {n : Nat} (h : ExR K C cS n H m e) : ∃ a dx fs, e = .ref a ∧ H a = some (.ins C dx fs) := by
  obtain ⟨es, a, dx, p, q1, q2, j, ys, bs, ks, e, ha, _⟩ := h.fld
  exact ⟨a, dx, _, e, ha⟩
theorem ExR.pos {K : PySem.W.Frag} {C cS : Addr} {H : Hp} {m : Md} {e : V} : ∀ {n : Nat}, ExR K C cS n H m e → 1 ≤ n
  | 0, h => h.elim
  | _ + 1, _ => by omega
def spNamedX (K : PySem.W.Frag) (C cS : Addr) : Sp := fun vs H Q _ => ∃ z, vs = [.str z] ∧ NameOk z ∧ ∀ v H', Same H H' → ExR K C cS 1 H' (.nm z) v → Q v H'
def spAsX (K : PySem.W.Frag) (C cS : Addr) : Sp := fun vs H Q _ => ∃ (v : V) (n : Nat) (m : Md), vs = [v] ∧ PartR K C cS n H v m ∧ ∀ v' H', Same H H' → ExR K C cS n H' m v' → Q v' H'
def spTwoX (K : PySem.W.Frag) (C cS : Addr) (hd : Hd) : Sp := fun vs H Q _ => ∃ (x y : V) (n : Nat) (m m' : Md), vs = [x, y] ∧ ExR K C cS n H m x ∧ ExR K C cS n H m' y ∧ 1 + (sz m + sz m') < 64 ∧ ∀ v H', Same H H' → ExR K C cS (n + 1) H' (.ap hd [m, m']) v → Q v H'
def spAppliedX (K : PySem.W.Frag) (C cS : Addr) : Sp := fun vs H Q _ => ∃ (a l : Addr) (z y : Str) (n : Nat) (ks : List (V × Md)), vs = [.ref a, .ref l] ∧ HdS cS H (.st a z y) ∧ ks.length = y.length ∧ SqL K H l (ks.map (·.1)) ∧ (∀ e ∈ ks, ExR K C cS n H e.2 e.1) ∧ sz (.ap (.st a z y) (ks.map (·.2))) < 64 ∧
  ∀ v H', Same H H' → ExR K C cS (n + 1) H' (.ap (.st a z y) (ks.map (·.2))) v → Q v H'
def spBinX (K : PySem.W.Frag) (C cS : Addr) (hd : Hd) (rev : Bool) : Sp := fun vs H Q _ => ∃ (x y : V) (n : Nat) (m m' : Md), vs = [x, y] ∧ ExR K C cS n H m x ∧ PartR K C cS n H y m' ∧ 1 + (sz m + sz m') < 64 ∧
  ∀ v H', Same H H' → ExR K C cS (n + 1) H' (.ap hd (if rev = true then [m', m] else [m, m'])) v → Q v H'
/-- it is made -/
theorem exR_made {K : PySem.W.Frag} {C cS x dx : Addr} {H1 H' : Hp} {m : Md} {n : Nat} {ks : List (V × Md)} (nx : H1 x = none) (nd : H1 dx = none) (em : ks.map (·.2) = prM m) (hk : ∀ e ∈ ks, ExR K C cS n H1 e.2 e.1) (ok : OkM cS H1 m)
    (f : FldX K C cS H' m (.ref x) (ks.map (·.1))) (k : Keep x (upd (upd H1 dx (.own x)) x (.ins C dx [])) H') : Same H1 H' ∧ ExR K C cS (n + 1) H' m (.ref x) := by
  have s := same_of_keep (H1 := H1) nx nd k
  refine ⟨s, _, f, by rw [← em, List.length_map, List.length_map], okM_tr (Tr.same s) ok, fun i m' v h1 h2 => ?_⟩
  rw [← em, List.getElem?_map] at h1
  rw [List.getElem?_map] at h2
  obtain ⟨e, he, rfl⟩ := Option.map_eq_some_iff.mp h1
  obtain ⟨e', he', rfl⟩ := Option.map_eq_some_iff.mp h2
  rw [he] at he'
  cases he'
  exact (hk e (List.mem_of_getElem? he)).same s
section
variable {P : Program} {w : World} {K : PySem.W.Frag} {mg : Str → Option Value} {base : Heap}
theorem ok_namedX {C cS fI f fe fN fS kw : Addr} {fdI fd fde fdN fdS : FuncData} (S : Std mg) (W : Words K mg kw) (I : Df K mg "is_name" sIsName fI fdI ["value"]) (X1 : ExMk K mg C cS fe fN fS fde fdN fdS) (F : Fun K "named" "named" sNamed f fd) : FnOk P w K mg base CX0 4 f fd ["word"] (spNamedX K C cS) := by
  have GI : FnOk P w K mg base CX0 1 fI fdI ["value"] spName := ok_isName S W I.F
  have GE : FnOk P w K mg base CX0 2 fe fde ["self", "kind", "word", "step", "parts"] (spExInitX K C cS) := ok_exInitX S X1.cl X1.n X1.ne X1.clS X1.s1 X1.s2 X1.F X1.N X1.T
  refine F.ok scNamed (fun vs H Q E h => ?_) (fun cdv A outer s H vs Q E hr h => ?_)
  · obtain ⟨z, rfl, _⟩ := h
    rfl
  · obtain ⟨z, rfl, hz, q⟩ := h
    refine ⟨_, pss_cons (ps_if (pt_not (pt_val (pe_call GI (hr.mono (by decide)) rfl I.g I.F.kp I.b .nil pass0 (pa_cons (pv 0) pa_nil)))) (pss_one ps_never) pss_nil)
      (pss_one (ps_ret (pe_make X1.M GE hr rfl X1.g X1.b .nil pass0 (pa_cons pe_str (pa_cons (pv 0) (pa_cons pe_non (pa_cons (pe_tup pa_nil) pa_nil))))))), ?_⟩
    refine ⟨_, rfl, z, rfl, hz, fun H1 s1 => ⟨_, rfl, iteF ?_⟩⟩
    refine ⟨_, rfl, by show 0 ≤ sizeLine; decide, fun p hp => fun x dx nx nd ne => ?_⟩
    have sp := same_new (o := .tup []) hp
    refine ⟨x, dx, p, .nm z, [], rfl, upd_same, same_ins nx nd _ _ upd_same, rfl, (fun e he => absurd he List.not_mem_nil), hz, (by rw [sz]; decide), fun H' f k => ⟨rfl, ?_⟩⟩
    obtain ⟨s3, ex⟩ := exR_made (n := 0) (ks := []) nx nd rfl (fun e he => absurd he List.not_mem_nil) (show OkM cS _ (.nm z) from hz) f k
    exact q _ H' ((s1.trans sp).trans s3) ex
theorem scAs1 : FnScope ["value"] ["value"] (defScope sAsExpr) := ⟨rfl, rfl, rfl, by decide +kernel, rfl, by decide +kernel, by decide +kernel⟩
theorem ok_asExprX {C cS fI fM f kw : Addr} {fdI fdM fd : FuncData} (S : Std mg) (Wd : Words K mg kw) (c : OwnCl K mg "Expr" C) (kS : PySem.W.kitOne K (.type "str") (.ref C) = some false) (I : Df K mg "is_name" sIsName fI fdI ["value"]) (M : Df K mg "named" sNamed fM fdM ["word"]) (GM : FnOk P w K mg base CX0 4 fM fdM ["word"] (spNamedX K C cS))
    (F : Fun K "as_expr" "as_expr" sAsExpr f fd) : FnOk P w K mg base CX0 5 f fd ["value"] (spAsX K C cS) := by
  have GI : FnOk P w K mg base CX0 1 fI fdI ["value"] spName := ok_isName S Wd I.F
  refine F.ok scAs1 (fun vs H Q E h => ?_) (fun cdv A outer s H vs Q E hr h => ?_)
  · obtain ⟨v, n, m, rfl, _⟩ := h
    rfl
  · obtain ⟨v, n, m, rfl, h, q⟩ := h
    refine ⟨_, pss_cons (ps_if (pt_val (pe_callB call_isi (by rfl) S.isi (by decide +kernel) (pa_cons (pv 0) (pa_cons (pe_glob (v := .ref C) rfl c.g rfl) pa_nil)))) (pss_one (ps_ret (pv 0))) pss_nil)
      (pss_one (ps_ret (pe_ifExp (pt_val (pe_call GI (hr.mono (by decide)) rfl I.g I.F.kp I.b .nil pass0 (pa_cons (pv 0) pa_nil))) (pe_call GM hr rfl M.g M.F.kp M.b .nil pass0 (pa_cons (pv 0) pa_nil)) pe_non))), ?_⟩
    rcases h with h | ⟨z, rfl, rfl, ok, le⟩
    · obtain ⟨a, dx, fs, rfl, ha⟩ := h.ins
      exact ⟨_, rfl, _, _, _, _, true, rfl, .own C, c.ty ha, kit_self, true, rfl, iteT ⟨_, rfl, q _ H (Same.refl H) h⟩⟩
    · refine ⟨_, rfl, _, _, _, _, false, rfl, .own C, .base (.str z), kS, false, rfl, iteF ?_⟩
      exact ⟨_, rfl, z, rfl, ok, fun H1 s1 => ⟨_, rfl, iteT ⟨_, rfl, z, rfl, ok, fun v' H' s' ex => q v' H' (s1.trans s') (ex.up le)⟩⟩⟩
theorem scPart : FnScope ["value", "expr"] ["value"] (defScope sPartExpr) := ⟨rfl, rfl, rfl, by decide +kernel, rfl, by decide +kernel, by decide +kernel⟩
theorem ok_partExX {C cS fA f : Addr} {fdA fd : FuncData} (A1 : Df K mg "as_expr" sAsExpr fA fdA ["value"]) (GA : FnOk P w K mg base CX0 5 fA fdA ["value"] (spAsX K C cS)) (F : Fun K "part_expr" "part_expr" sPartExpr f fd) : FnOk P w K mg base CX0 6 f fd ["value"] (spAsX K C cS) := by
  refine F.ok scPart (fun vs H Q E h => ?_) (fun cdv A outer s H vs Q E hr h => ?_)
  · obtain ⟨v, n, m, rfl, _⟩ := h
    rfl
  · obtain ⟨v, n, m, rfl, h, q⟩ := h
    refine ⟨_, pss_cons (ps_set (i := 1) scPart.nd rfl (Or.inl rfl) (pe_call GA hr rfl A1.g A1.F.kp A1.b .nil pass0 (pa_cons (pv 0) pa_nil)))
      (pss_cons (ps_if (pt_cmp (pc_isN (pv 1))) (pss_one ps_never) pss_nil) (pss_one (ps_ret (pv 1)))), ?_⟩
    refine ⟨_, rfl, v, n, m, rfl, h, fun v' H' s' ex => ?_⟩
    obtain ⟨a, dx, fs, rfl, ha⟩ := ex.ins
    exact ⟨_, rfl, _, rfl, ite2 (fun e => absurd (of_decide_eq_true e) (by intro h; cases h)) (fun _ => ⟨_, rfl, q _ H' s' ex⟩)⟩
theorem ok_appliedX {C cS fe fN fS f : Addr} {fde fdN fdS fd : FuncData} (S : Std mg) (X1 : ExMk K mg C cS fe fN fS fde fdN fdS) (F : Fun K "applied" "applied" sApplied f fd) : FnOk P w K mg base CX0 4 f fd ["step", "parts"] (spAppliedX K C cS) := by
  have GE : FnOk P w K mg base CX0 2 fe fde ["self", "kind", "word", "step", "parts"] (spExInitX K C cS) := ok_exInitX S X1.cl X1.n X1.ne X1.clS X1.s1 X1.s2 X1.F X1.N X1.T
  refine F.ok scApplied (fun vs H Q E h => ?_) (fun cdv A outer s H vs Q E hr h => ?_)
  · obtain ⟨a, l, z, y, n, ks, rfl, _⟩ := h
    rfl
  · obtain ⟨a, l, z, y, n, ks, rfl, hs, len, hl, hk, short, q⟩ := h
    refine ⟨_, pss_one (ps_ret (pe_make X1.M GE hr rfl X1.g X1.b .nil pass0 (pa_cons pe_str (pa_cons pe_str (pa_cons (pv 0) (pa_cons (pe_callTy call_tuple_of (by rfl) S.tuple (by decide +kernel) (pa_cons (pv 1) pa_nil)) pa_nil)))))), ?_⟩
    refine ⟨_, rfl, _, rfl, l, _, rfl, .inl ⟨hl, fun p hp => ?_⟩⟩
    have sp := same_new (o := .tup (ks.map (·.1))) hp
    intro x dx nx nd ne
    have s2 := sp.trans (same_ins (o := .own x) (u := .ins C dx []) nx nd)
    have ok : OkM cS H (.ap (.st a z y) (ks.map (·.2))) := ⟨by rw [List.length_map]; exact len, hs⟩
    refine ⟨x, dx, p, .ap (.st a z y) (ks.map (·.2)), ks, rfl, upd_same, same_ins nx nd _ _ upd_same, rfl, fun e he => ((hk e he).same s2).fld, okM_tr (Tr.same s2) ok, short, fun H' f k => ⟨rfl, ?_⟩⟩
    obtain ⟨s3, ex⟩ := exR_made (n := n) nx nd rfl (fun e he => (hk e he).same sp) (okM_tr (Tr.same sp) ok) f k
    exact q _ H' (sp.trans s3) ex
theorem two_sz {hd : Hd} {m m' : Md} (h : 1 + (sz m + sz m') < 64) : sz (.ap hd [m, m']) < 64 := by
  simp only [sz, szL]
  omega
theorem ok_lesserX {C cS fe fN fS f : Addr} {fde fdN fdS fd : FuncData} (S : Std mg) (X1 : ExMk K mg C cS fe fN fS fde fdN fdS) (F : Fun K "_lesser" "_lesser" sLesser f fd) : FnOk P w K mg base CX0 4 f fd ["left", "right"] (spTwoX K C cS .le) := by
  have GE : FnOk P w K mg base CX0 2 fe fde ["self", "kind", "word", "step", "parts"] (spExInitX K C cS) := ok_exInitX S X1.cl X1.n X1.ne X1.clS X1.s1 X1.s2 X1.F X1.N X1.T
  refine F.ok scLesser (fun vs H Q E h => ?_) (fun cdv A outer s H vs Q E hr h => ?_)
  · obtain ⟨x, y, n, m, m', rfl, _⟩ := h
    rfl
  · obtain ⟨x0, y0, n, m, m', rfl, hx, hy, few, q⟩ := h
    refine ⟨_, pss_one (ps_ret (pe_make X1.M GE hr rfl X1.g X1.b .nil pass0 (pa_cons pe_str (pa_cons pe_str (pa_cons pe_non (pa_cons (pe_tup (pa_cons (pv 0) (pa_cons (pv 1) pa_nil))) pa_nil)))))), ?_⟩
    refine ⟨_, rfl, _, rfl, (by show 2 ≤ sizeLine; decide), fun p hp => ?_⟩
    have sp := same_new (o := .tup [x0, y0]) hp
    intro x dx nx nd ne
    have s2 := sp.trans (same_ins (o := .own x) (u := .ins C dx []) nx nd)
    have hk : ∀ e ∈ [(x0, m), (y0, m')], ExR K C cS n H e.2 e.1 := fun e he => by
      rcases List.mem_cons.mp he with rfl | he
      · exact hx
      · rw [List.mem_singleton.mp he]
        exact hy
    refine ⟨x, dx, p, .ap .le [m, m'], [(x0, m), (y0, m')], rfl, upd_same, same_ins nx nd _ _ upd_same, rfl, fun e he => ((hk e he).same s2).fld, ⟨rfl, trivial⟩, two_sz few, fun H' f k => ⟨rfl, ?_⟩⟩
    obtain ⟨s3, ex⟩ := exR_made (n := n) nx nd rfl (fun e he => (hk e he).same sp) (show OkM cS _ (.ap .le [m, m']) from ⟨rfl, trivial⟩) f k
    exact q _ H' (sp.trans s3) ex
theorem ok_greaterX {C cS fe fN fS f : Addr} {fde fdN fdS fd : FuncData} (S : Std mg) (X1 : ExMk K mg C cS fe fN fS fde fdN fdS) (F : Fun K "_greater" "_greater" sGreater f fd) : FnOk P w K mg base CX0 4 f fd ["left", "right"] (spTwoX K C cS .gr) := by
  have GE : FnOk P w K mg base CX0 2 fe fde ["self", "kind", "word", "step", "parts"] (spExInitX K C cS) := ok_exInitX S X1.cl X1.n X1.ne X1.clS X1.s1 X1.s2 X1.F X1.N X1.T
  refine F.ok scGreater (fun vs H Q E h => ?_) (fun cdv A outer s H vs Q E hr h => ?_)
  · obtain ⟨x, y, n, m, m', rfl, _⟩ := h
    rfl
  · obtain ⟨x0, y0, n, m, m', rfl, hx, hy, few, q⟩ := h
    refine ⟨_, pss_one (ps_ret (pe_make X1.M GE hr rfl X1.g X1.b .nil pass0 (pa_cons pe_str (pa_cons pe_str (pa_cons pe_non (pa_cons (pe_tup (pa_cons (pv 0) (pa_cons (pv 1) pa_nil))) pa_nil)))))), ?_⟩
    refine ⟨_, rfl, _, rfl, (by show 2 ≤ sizeLine; decide), fun p hp => ?_⟩
    have sp := same_new (o := .tup [x0, y0]) hp
    intro x dx nx nd ne
    have s2 := sp.trans (same_ins (o := .own x) (u := .ins C dx []) nx nd)
    have hk : ∀ e ∈ [(x0, m), (y0, m')], ExR K C cS n H e.2 e.1 := fun e he => by
      rcases List.mem_cons.mp he with rfl | he
      · exact hx
      · rw [List.mem_singleton.mp he]
        exact hy
    refine ⟨x, dx, p, .ap .gr [m, m'], [(x0, m), (y0, m')], rfl, upd_same, same_ins nx nd _ _ upd_same, rfl, fun e he => ((hk e he).same s2).fld, ⟨rfl, trivial⟩, two_sz few, fun H' f k => ⟨rfl, ?_⟩⟩
    obtain ⟨s3, ex⟩ := exR_made (n := n) nx nd rfl (fun e he => (hk e he).same sp) (show OkM cS _ (.ap .gr [m, m']) from ⟨rfl, trivial⟩) f k
    exact q _ H' (sp.trans s3) ex
/-! the four operators -/
theorem scAnd : FnScope ["self", "other"] ["self", "other"] (defScope sExprAnd) := ⟨rfl, rfl, rfl, by decide +kernel, rfl, by decide +kernel, by decide +kernel⟩
theorem scOr : FnScope ["self", "other"] ["self", "other"] (defScope sExprOr) := ⟨rfl, rfl, rfl, by decide +kernel, rfl, by decide +kernel, by decide +kernel⟩
theorem scRand : FnScope ["self", "other"] ["self", "other"] (defScope sExprRand) := ⟨rfl, rfl, rfl, by decide +kernel, rfl, by decide +kernel, by decide +kernel⟩
theorem scRor : FnScope ["self", "other"] ["self", "other"] (defScope sExprRor) := ⟨rfl, rfl, rfl, by decide +kernel, rfl, by decide +kernel, by decide +kernel⟩
variable {C cS fP fL f : Addr} {fdP fdL fd : FuncData} (P1 : Df K mg "part_expr" sPartExpr fP fdP ["value"]) (GP : FnOk P w K mg base CX0 6 fP fdP ["value"] (spAsX K C cS))
include P1 GP
theorem ok_andX (L1 : Df K mg "_lesser" sLesser fL fdL ["left", "right"]) (GL : FnOk P w K mg base CX0 4 fL fdL ["left", "right"] (spTwoX K C cS .le)) (F : Fun K "__and__" "Expr.__and__" sExprAnd f fd) : FnOk P w K mg base CX0 7 f fd ["self", "other"] (spBinX K C cS .le false) := by
  refine F.ok scAnd (fun vs H Q E h => ?_) (fun cdv A outer s H vs Q E hr h => ?_)
  · obtain ⟨x, y, n, m, m', rfl, _⟩ := h
    rfl
  · obtain ⟨x, y, n, m, m', rfl, hx, hy, few, q⟩ := h
    refine ⟨_, pss_one (ps_ret (pe_call GL (hr.mono (by decide)) rfl L1.g L1.F.kp L1.b .nil pass0 (pa_cons (pv 0) (pa_cons (pe_call GP hr rfl P1.g P1.F.kp P1.b .nil pass0 (pa_cons (pv 1) pa_nil)) pa_nil)))), ?_⟩
    exact ⟨_, rfl, _, rfl, y, n, m', rfl, hy, fun v H1 s1 ex => ⟨x, v, n, m, m', rfl, hx.same s1, ex, few, fun u H' s' r => q u H' (s1.trans s') r⟩⟩
theorem ok_randX (L1 : Df K mg "_lesser" sLesser fL fdL ["left", "right"]) (GL : FnOk P w K mg base CX0 4 fL fdL ["left", "right"] (spTwoX K C cS .le)) (F : Fun K "__rand__" "Expr.__rand__" sExprRand f fd) : FnOk P w K mg base CX0 7 f fd ["self", "other"] (spBinX K C cS .le true) := by
  refine F.ok scRand (fun vs H Q E h => ?_) (fun cdv A outer s H vs Q E hr h => ?_)
  · obtain ⟨x, y, n, m, m', rfl, _⟩ := h
    rfl
  · obtain ⟨x, y, n, m, m', rfl, hx, hy, few, q⟩ := h
    refine ⟨_, pss_one (ps_ret (pe_call GL (hr.mono (by decide)) rfl L1.g L1.F.kp L1.b .nil pass0 (pa_cons (pe_call GP hr rfl P1.g P1.F.kp P1.b .nil pass0 (pa_cons (pv 1) pa_nil)) (pa_cons (pv 0) pa_nil)))), ?_⟩
    exact ⟨_, rfl, y, n, m', rfl, hy, fun v H1 s1 ex => ⟨_, rfl, v, x, n, m', m, rfl, ex, hx.same s1, by omega, fun u H' s' r => q u H' (s1.trans s') r⟩⟩
theorem ok_orX (L1 : Df K mg "_greater" sGreater fL fdL ["left", "right"]) (GL : FnOk P w K mg base CX0 4 fL fdL ["left", "right"] (spTwoX K C cS .gr)) (F : Fun K "__or__" "Expr.__or__" sExprOr f fd) : FnOk P w K mg base CX0 7 f fd ["self", "other"] (spBinX K C cS .gr false) := by
  refine F.ok scOr (fun vs H Q E h => ?_) (fun cdv A outer s H vs Q E hr h => ?_)
  · obtain ⟨x, y, n, m, m', rfl, _⟩ := h
    rfl
  · obtain ⟨x, y, n, m, m', rfl, hx, hy, few, q⟩ := h
    refine ⟨_, pss_one (ps_ret (pe_call GL (hr.mono (by decide)) rfl L1.g L1.F.kp L1.b .nil pass0 (pa_cons (pv 0) (pa_cons (pe_call GP hr rfl P1.g P1.F.kp P1.b .nil pass0 (pa_cons (pv 1) pa_nil)) pa_nil)))), ?_⟩
    exact ⟨_, rfl, _, rfl, y, n, m', rfl, hy, fun v H1 s1 ex => ⟨x, v, n, m, m', rfl, hx.same s1, ex, few, fun u H' s' r => q u H' (s1.trans s') r⟩⟩
theorem ok_rorX (L1 : Df K mg "_greater" sGreater fL fdL ["left", "right"]) (GL : FnOk P w K mg base CX0 4 fL fdL ["left", "right"] (spTwoX K C cS .gr)) (F : Fun K "__ror__" "Expr.__ror__" sExprRor f fd) : FnOk P w K mg base CX0 7 f fd ["self", "other"] (spBinX K C cS .gr true) := by
  refine F.ok scRor (fun vs H Q E h => ?_) (fun cdv A outer s H vs Q E hr h => ?_)
  · obtain ⟨x, y, n, m, m', rfl, _⟩ := h
    rfl
  · obtain ⟨x, y, n, m, m', rfl, hx, hy, few, q⟩ := h
    refine ⟨_, pss_one (ps_ret (pe_call GL (hr.mono (by decide)) rfl L1.g L1.F.kp L1.b .nil pass0 (pa_cons (pe_call GP hr rfl P1.g P1.F.kp P1.b .nil pass0 (pa_cons (pv 1) pa_nil)) (pa_cons (pv 0) pa_nil)))), ?_⟩
    exact ⟨_, rfl, y, n, m', rfl, hy, fun v H1 s1 ex => ⟨_, rfl, v, x, n, m', m, rfl, ex, hx.same s1, by omega, fun u H' s' r => q u H' (s1.trans s') r⟩⟩
end
end LK

namespace LK
open PySem PySem.Spec PyProof.Rows L2 LR
/-! ### names and steps of many holders, out of few -/
def spNamesP (K : PySem.W.Frag) : Sp := fun vs H Q _ => ∃ (p a : Addr) (own : List Str) (ks : List (V × List Str)), vs = [.ref p, .ref a] ∧ SqT K H p (ks.map (·.1)) ∧ SqT K H a (own.map V.str) ∧ (∀ e ∈ ks, HasNmX K H e) ∧
  (∃ N : List Str, (∀ k ∈ own ++ (ks.map (·.2)).flatten, k ∈ N) ∧ own.length + ks.length * N.length < 64) ∧
  ∀ (q : Addr) (ys : List Str) (H' : Hp), Same H H' → H q = none → H' q = some (.tup (ys.map V.str)) → NmsOf (own ++ (ks.map (·.2)).flatten) ys → Q (.ref q) H'
def spStepsP (K : PySem.W.Frag) (cS : Addr) : Sp := fun vs H Q _ => ∃ (p a : Addr) (own : List V) (ok : List (Str × Str)) (ks : List (V × List (Str × Str))), vs = [.ref p, .ref a] ∧ SqT K H p (ks.map (·.1)) ∧ SqT K H a own ∧ KeyL cS H own ok ∧ (∀ e ∈ ks, HasStX K cS H e) ∧
  (∃ N : List (Str × Str), (∀ k ∈ ok ++ (ks.map (·.2)).flatten, k ∈ N) ∧ ok.length + ks.length * N.length < 1000) ∧
  ∀ (q : Addr) (bs : List V) (js : List (Str × Str)) (H' : Hp), Same H H' → H q = none → H' q = some (.tup bs) → KeyL cS H' bs js → KysOf (ok ++ (ks.map (·.2)).flatten) js → Q (.ref q) H'
section
variable {P : Program} {w : World} {K : PySem.W.Frag} {mg : Str → Option Value} {base : Heap}
theorem ok_allNamesP {f : Addr} {fd : FuncData} (S : Std mg) (D : Dd K mg "all_names" sAllNames f fd ["holders", "more"]) : FnOk P w K mg base CX0 1 f fd ["holders", "more"] (spNamesP K) := by
  refine D.ok scAn (fun vs H Q E h => ?_) (fun cdv A outer s H vs Q E hr h => ?_)
  · obtain ⟨p, a, own, ks, rfl, _⟩ := h
    rfl
  · obtain ⟨p, a, own, ks, rfl, hp, ha, hk, ⟨N, inN, few⟩, q⟩ := h
    refine ⟨_, pss_cons (ps_set (i := 2) scAn.nd rfl (Or.inl rfl) (pe_callTy call_list_of (by rfl) S.list (by decide +kernel) (pa_cons (pv 1) pa_nil)))
      (pss_cons (ps_for PassesOwn.never rfl (pi_tup (pv 0)) (pg_name (i := 3) scAn.nd rfl (Or.inl rfl))
        (pss_one (ps_expr (pe_bm PySem.F.plainAttrs_list PySem.F.slot_list_extend PySem.F.type_list_extend mt_extT (pv 2) (pa_cons (pe_fld (pv 3) rfl) pa_nil)))))
      (pss_one (ps_ret (pe_callTy call_tuple_of (by rfl) S.tuple (by decide +kernel) (pa_cons (pe_callB (LR.cr_sortedSetS rfl) (by rfl) S.sorted (by decide +kernel)
        (pa_cons (pe_callTy (LR.cr_setL rfl) (by rfl) S.set (by decide +kernel) (pa_cons (pv 2) pa_nil)) pa_nil)) pa_nil))))), ?_⟩
    refine ⟨_, rfl, a, _, rfl, .inr ha, fun l hl => ?_⟩
    refine ⟨_, rfl, p, rfl, ⟨_, SqT.same (same_new hl) hp⟩, for_tup (xs := ks.map fun e : V × List Str => e.1) (fun i σ' H' => ∃ h zs, σ' = [some (.ref p), some (.ref a), some (.ref l), h] ∧ Same H H' ∧ H' l = some (.lst (zs.map V.str)) ∧ zs.length ≤ own.length + i * N.length ∧ ∀ k, k ∈ zs ↔ k ∈ own ++ ((ks.take i).map (·.2)).flatten)
      ⟨_, own, rfl, same_new hl, upd_same, Nat.le_add_right _ _, fun k => by simp⟩ (fun i σ' H' _ h => ?_) (fun i x σ' H' hx h => ?_) (fun σ' H' h => ?_)⟩
    · obtain ⟨_, _, _, s1, _⟩ := h
      exact SqT.same s1 hp
    · obtain ⟨h0, zs, rfl, s1, hz, len, mem⟩ := h
      rw [List.getElem?_map] at hx
      obtain ⟨e, he, rfl⟩ := Option.map_eq_some_iff.mp hx
      obtain ⟨ys, ⟨b, C, dx, fs, q1, e1, hb, c, n, lk, t⟩, no⟩ := hk e (List.mem_of_getElem? he)
      have e2 := flT he
      have few1 : ys.length ≤ N.length := nodup_le (up_nodup ltS_irr no.up) fun k hk => inN k (List.mem_append_right _ (List.mem_flatten.mpr ⟨e.2, List.mem_map_of_mem (List.mem_of_getElem? he), (no.mem k).mp hk⟩))
      have li : i < ks.length := (List.getElem?_eq_some_iff.mp he).1
      have e3 : (i + 1) * N.length ≤ ks.length * N.length := Nat.mul_le_mul_right _ (by omega)
      have e4 : (i + 1) * N.length = i * N.length + N.length := Nat.succ_mul _ _
      refine ⟨_, rfl, .inl ⟨rfl, _, SqL.of hz⟩, _, rfl, b, C, dx, fs, .ref q1, e1, s1 _ _ hb, c, n, lk, l, q1, zs.map V.str, ys.map V.str, rfl, rfl, hz, SqT.same s1 t, ?_, ?_⟩
      · rw [List.length_map, List.length_map, sizeLine_eq]
        omega
      · refine ⟨_, zs ++ ys, rfl, same_put hl s1, by rw [upd_same, List.map_append], ?_, fun k => ?_⟩
        · rw [List.length_append, e4]
          omega
        · rw [e2, List.mem_append, mem k, no.mem k, ← List.append_assoc, List.mem_append (s := own ++ _)]
    · obtain ⟨h0, zs, rfl, s1, hz, len, mem⟩ := h
      rw [List.take_of_length_le (by rw [List.length_map]; exact Nat.le_refl _)] at mem
      rw [List.length_map] at len
      refine ⟨_, rfl, l, zs, rfl, SqL.of hz, by omega, fun p2 c hp2 hc => ?_⟩
      refine ⟨p2, _, c, rfl, upd_same, by omega, fun ys p3 o1 o2 o3 o4 hp3 => ⟨p3, _, rfl, .inl ⟨SqL.of upd_same, fun l4 hl4 => q _ ys _ (((s1.trans (same_new hp2)).trans (same_new hp3)).trans (same_new hl4)) (Same.free ((s1.trans (same_new hp2)).trans (same_new hp3)) hl4) upd_same (nms_of o1 o2 fun k => ?_)⟩⟩⟩
      rw [o3 k, ← mem k]
      exact decide_eq_true_iff
theorem ok_allStepsP {cS f : Addr} {fd : FuncData} (S : Std mg) (cl : Cls K cS) (n1 : NoAttr K cS "name") (n2 : NoAttr K cS "ways") (D : Dd K mg "all_steps" sAllSteps f fd ["holders", "more"]) : FnOk P w K mg base CX0 1 f fd ["holders", "more"] (spStepsP K cS) := by
  refine D.ok scAs (fun vs H Q E h => ?_) (fun cdv A outer s H vs Q E hr h => ?_)
  · obtain ⟨p, a, own, ok, ks, rfl, _⟩ := h
    rfl
  · obtain ⟨p, a, own, ok, ks, rfl, hp, ha, ho, hk, ⟨N, inN, few⟩, q⟩ := h
    refine ⟨_, pss_cons (ps_set (i := 2) scAs.nd rfl (Or.inl rfl) (pe_callTy call_list_of (by rfl) S.list (by decide +kernel) (pa_cons (pv 1) pa_nil)))
      (pss_cons (ps_for PassesOwn.never rfl (pi_tup (pv 0)) (pg_name (i := 4) scAs.nd rfl (Or.inl rfl))
        (pss_one (ps_expr (pe_bm PySem.F.plainAttrs_list PySem.F.slot_list_extend PySem.F.type_list_extend mt_extT (pv 2) (pa_cons (pe_fld (pv 4) rfl) pa_nil)))))
      (pss_cons (ps_set (i := 3) scAs.nd rfl (Or.inr rfl) (pe_dcT (own := [("step", 5)]) (g := gName 5) (tt := tYes) (tk := tTup (tCons (tFld K (tVar 5) "name") (tCons (tFld K (tVar 5) "ways") tNil))) (tv := tVar 5) rfl hr.units0 scAs.nd (pi_list (pv 2)) (blkOk_by (N := nAs) (sc := defScope sAllSteps) (by decide +kernel))
          (fun _ _ _ _ _ => pg_name (i := 5) scAs.nd rfl (Or.inl rfl)) (fun _ _ _ _ _ => pts_nil) (fun _ _ _ _ _ => pe_tup (pa_cons (pe_fld (pv 5) rfl) (pa_cons (pe_fld (pv 5) rfl) pa_nil))) (fun _ _ _ _ _ => pv 5)))
      (pss_one (ps_ret (pe_callTy call_tuple_of (by rfl) S.tuple (by decide +kernel) (pa_cons (pe_lc (own := [("key", 6)]) (g := gName 6) (tt := tYes) rfl scAs.nd
          (pi_list (pe_callB (cr_sortedDT rfl) (by rfl) S.sorted (by decide +kernel) (pa_cons (pv 3) pa_nil))) (blkOk_by (N := nAs) (sc := defScope sAllSteps) (by decide +kernel))
          (fun _ _ _ _ _ => pg_name (i := 6) scAs.nd rfl (Or.inl rfl)) (fun _ _ _ _ _ => pts_nil) (fun _ _ _ _ _ => pe_dget (by show (A.deeper (envOfC "all_steps" (defScope sAllSteps) s.heap.objs.size f cdv)).units + 1 < cLine; have := hr.units; omega) (pv 3) (pv 6) (fun _ _ => rfl))) pa_nil)))))), ?_⟩
    refine ⟨_, rfl, a, _, rfl, .inr ha, fun l hl => ?_⟩
    refine ⟨_, rfl, p, rfl, ⟨_, SqT.same (same_new hl) hp⟩, for_tup (xs := ks.map fun e : V × List (Str × Str) => e.1) (fun i σ' H' => ∃ h zs js, σ' = [some (.ref p), some (.ref a), some (.ref l), none, h, none, none] ∧ Same H H' ∧ H' l = some (.lst zs) ∧ KeyL cS H' zs js ∧ js.length ≤ ok.length + i * N.length ∧ ∀ k, k ∈ js ↔ k ∈ ok ++ ((ks.take i).map (·.2)).flatten)
      ⟨_, own, ok, rfl, same_new hl, upd_same, ho.same (same_new hl), Nat.le_add_right _ _, fun k => by simp⟩ (fun i σ' H' _ h => ?_) (fun i x σ' H' hx h => ?_) (fun σ' H' h => ?_)⟩
    · obtain ⟨_, _, _, _, s1, _⟩ := h
      exact SqT.same s1 hp
    · obtain ⟨h0, zs, js, rfl, s1, hz, gz, len, mem⟩ := h
      rw [List.getElem?_map] at hx
      obtain ⟨e, he, rfl⟩ := Option.map_eq_some_iff.mp hx
      obtain ⟨ys, is, ⟨b, C, dx, fs, q1, e1, hb, c, n, lk, t⟩, gy, no⟩ := hk e (List.mem_of_getElem? he)
      have e2 := flT he
      have few1 : is.length ≤ N.length := nodup_le (up_nodup ltK_irr no.up) fun k hk => inN k (List.mem_append_right _ (List.mem_flatten.mpr ⟨e.2, List.mem_map_of_mem (List.mem_of_getElem? he), (no.mem k).mp hk⟩))
      have li : i < ks.length := (List.getElem?_eq_some_iff.mp he).1
      have e3 : (i + 1) * N.length ≤ ks.length * N.length := Nat.mul_le_mul_right _ (by omega)
      have e4 : (i + 1) * N.length = i * N.length + N.length := Nat.succ_mul _ _
      have l1 := gz.1
      have l2 := gy.1
      refine ⟨_, rfl, .inl ⟨rfl, _, SqL.of hz⟩, _, rfl, b, C, dx, fs, .ref q1, e1, s1 _ _ hb, c, n, lk, l, q1, zs, ys, rfl, rfl, hz, SqT.same s1 t, ?_, ?_⟩
      · rw [sizeLine_eq]
        omega
      · refine ⟨_, zs ++ ys, js ++ is, rfl, same_put hl s1, upd_same, (gz.app (gy.same s1)).lst hz, ?_, fun k => ?_⟩
        · rw [List.length_append, e4]
          omega
        · rw [e2, List.mem_append, mem k, no.mem k, ← List.append_assoc, List.mem_append (s := ok ++ _)]
    · obtain ⟨h0, zs, js, rfl, s1, hz, gz, len, mem⟩ := h
      rw [List.take_of_length_le (by rw [List.length_map]; exact Nat.le_refl _)] at mem
      rw [List.length_map] at len
      have l1 := gz.1
      refine ⟨_, rfl, l, rfl, ⟨_, SqL.of hz⟩, fun d hd => dcT_list (xs := zs) (fun i H4 => Same H' H4 ∧ ∃ es : Dn, H4 d = some (.dT (es.map ent2)) ∧ es.length ≤ i ∧ (∀ x ∈ es, StE cS H' x) ∧ (es.map (·.1)).Nodup ∧ ∀ k, k ∈ es.map (·.1) ↔ k ∈ js.take i) ⟨same_new hd, [], upd_same, Nat.le_refl _, (fun _ h => nomatch h), .nil, fun k => by simp⟩
        (fun i H4 h => SqL.of (h.1 _ _ hz)) (fun i v H4 hv h => ?_) (fun H4 h => ?_)⟩
      · obtain ⟨s4, es, hd4, le, ge, nd, me⟩ := h
        have le2 : i < zs.length := (List.getElem?_eq_some_iff.mp hv).1
        have hj : js[i]? = some (js[i]'(by omega)) := List.getElem?_eq_getElem _
        obtain ⟨b, rfl, dx, hb⟩ := gz.2 i v _ hv hj
        generalize js[i]'(by omega) = zy at hj hb
        obtain ⟨z, y⟩ := zy
        refine ⟨rfl, ?_⟩
        refine ⟨_, rfl, b, cS, dx, _, _, rfl, s4 _ _ hb, cl, n1, rfl, _, rfl, b, cS, dx, _, _, rfl, s4 _ _ hb, cl, n2, rfl, (by show 2 ≤ sizeLine; decide), fun t ht => ?_⟩
        refine ⟨_, rfl, es.map ent2, kT (z, y), t, rfl, upd_same, ?_, ?_, ?_⟩
        · rw [upd_ne (ne_of_none hd4 ht)]
          exact hd4
        · rw [List.length_map, sizeLine_eq]
          omega
        · rw [putK_ent]
          refine ⟨same_put hd (s4.trans (same_new ht)), putP es (z, y) (.ref b), upd_same, Nat.le_trans (putP_len _ _ _) (by omega), putP_all ge ⟨b, rfl, dx, hb⟩, putP_nodup nd, fun k => ?_⟩
          rw [putP_mem, me k, List.take_add_one, hj, List.mem_append]
          simp
      · obtain ⟨s4, es, hd4, le, ge, nd, me⟩ := h
        rw [l1, List.take_length] at me
        refine ⟨_, rfl, d, es, rfl, hd4, fun kz p3 pm up hk hp3 => ?_⟩
        have s5 : Same H' (upd H4 p3 (.lst (kz.map fun z => V.ref z.2))) := s4.trans (same_new hp3)
        have kl : kz.length = es.length := by
          have := pm.length_eq
          rwa [List.length_map, List.length_map] at this
        have kys : KysOf (ok ++ (ks.map (·.2)).flatten) (kz.map (·.1)) := by
          refine ⟨?_, fun k => by rw [pm.mem_iff, me k, mem k]⟩
          have n2 : (kz.map (·.1)).Nodup := pm.nodup_iff.mpr nd
          rw [List.pairwise_map]
          have n3 := List.pairwise_map.mp n2
          exact (up.and n3).imp fun h => ⟨h.1, h.2⟩
        refine ⟨p3, rfl, ⟨_, SqL.of upd_same⟩, fun D5 hD5 => lc_list (xs := kz.map fun z => V.ref z.2) (fun i H6 => Same (upd H4 p3 (.lst (kz.map fun z => V.ref z.2))) H6 ∧ ∃ bs, H6 D5 = some (.lst bs) ∧ bs.length = i ∧ KeyL cS H' bs ((kz.map (·.1)).take i))
          ⟨same_new hD5, [], upd_same, rfl, by rw [List.take_zero]; exact KeyL.nil⟩ (fun i H6 _ h => SqL.of (h.1 _ _ upd_same)) (fun i v H6 hv h => ?_) (fun H6 h => ?_)⟩
        · obtain ⟨s6, bs, hb6, lb, gb⟩ := h
          rw [List.getElem?_map] at hv
          obtain ⟨z, hz2, rfl⟩ := Option.map_eq_some_iff.mp hv
          have mz := List.mem_of_getElem? hz2
          obtain ⟨v, v1, v2⟩ := valV_ent es z.1 (pm.mem_iff.mp (List.mem_map_of_mem mz))
          obtain ⟨b, rfl, hb⟩ := ge _ v2
          have il : i < kz.length := (List.getElem?_eq_some_iff.mp hz2).1
          have pz : H6 z.2 = some (.tup ((kT z.1).map kV)) := s6 _ _ (same_new hp3 _ _ (hk z mz))
          have dz : H6 d = some (.dT (es.map ent2)) := s6 _ _ (same_new hp3 _ _ hd4)
          refine ⟨rfl, _, rfl, _, rfl, d, .ref b, rfl, v1 ▸ DGet.t dz pz, bs, hb6, by rw [lb, sizeLine_eq]; omega, same_put hD5 s6, bs ++ [.ref b], upd_same, by rw [List.length_append, lb]; rfl, ?_⟩
          rw [List.take_add_one, List.getElem?_map, hz2]
          exact gb.app (KeyL.one hb)
        · obtain ⟨s6, bs, hb6, lb, gb⟩ := h
          have s7 : Same H' H6 := s5.trans s6
          rw [List.take_of_length_le (by rw [List.length_map, List.length_map]; exact Nat.le_refl _)] at gb
          exact ⟨D5, _, rfl, .inl ⟨SqL.of hb6, fun l5 hl5 => q _ bs _ _ ((s1.trans s7).trans (same_new hl5)) (Same.free (s1.trans s7) hl5) upd_same (gb.same (s7.trans (same_new hl5))) kys⟩⟩
end
end LK

/-! a def read off its class and called: C.m(x, ..) -/
namespace LR
open PySem PySem.Spec PyProof.Rows L2
/-- o.m(..), o the class at C, m a def of it -/
def tCFun (C : Addr) (sp : Sp) (E : XK) (ta : TE) (t : TA) : TE := fun σ H Q => ta σ H fun x H1 => x = .ref C ∧ t σ H1 fun vs H2 => sp vs H2 Q E
section
variable {X : Cx} {CX : CXT} {k : Nat} {C g : Addr} {mc : Value} {sp : Sp} {E : XK} {o e : Expr} {es : List Expr} {m : Str} {pos apos : Pos} {ta : TE} {t : TA} {pl : Sem Bool}
theorem pe_cfun (he : PE X o ta) (r : ClX.CRead X.K C mc) (c : ClX.CVal X.K C mc m (.ref g) (.ref g)) (kp : PySem.W.keepIn X.K (.ref g) = true) (F : FnR X.prog X.w X.K X.mg X.base CX k g sp) (hr : Room k X.A) (hx : Passes CX X E) (ha : PA X (e :: es) t)
    (hst : starEach (e :: es) X.env = (false, eval e X.env) :: starEach es X.env := by rfl) (hpl : (backTo pos (starEach es X.env)).any (·.1) = false := by rfl)
    (ht : eval (.Call (.Attribute o m apos) (e :: es) [] pos) X.env = (do
      let ov ← eval o X.env
      standAt apos.atName
      let (f, first) ← holding [ov] (getMethod ov m pl)
      callWith pos f first (backTo pos (starEach (e :: es) X.env)) (backToKw pos (keywordEach [] X.env))) := by rfl) :
    PE X (.Call (.Attribute o m apos) (e :: es) [] pos) (tCFun C sp E ta t) := by
  refine ⟨fun pins s σ H Q I h => ?_⟩
  refine PySem.W.methodCall_KW (pl := pl) (thn (he.run pins s σ H _ I h) fun u s1 ⟨x, H1, I1, rx, ex, q⟩ => ?_) ht
  subst ex
  obtain rfl : u = Value.ref C := rx
  refine PySem.W.method_cls I1.kIn r.ga (ClX.getcval_ok I1 r c fun s2 I2 => ?_)
  refine PySem.W.callWith_K (h₀ := X.base) (first := []) I2.ok.mod.kin kp (thn (ha.run pos pins s2 σ H1 _ I2 q) fun us s3 ⟨vs, H2, I3, rv, q2⟩ => ⟨I3.kIn, ?_⟩) hst hpl
  exact wpAny_call (run_fnR F hr hx I3 rv q2)
end
end LR

namespace LK
open PySem PySem.Spec PyProof.Rows L2 LR
/-! ### rows, in plain words -/
inductive Rw where
  | set (k : Nat) (x : Str) (m : Md)
  | rfs (w : Str)
  | iff (l r : Md) (a b : List Rw)
  | sti (rs : List Rw)
/-- which of the six -/
def kiR : Rw → Nat
  | .set 0 _ _ => 0
  | .set 1 _ _ => 1
  | .set _ _ _ => 2
  | .rfs _ => 3
  | .iff _ _ _ _ => 4
  | .sti _ => 5
def kdN : Nat → Str
  | 0 => "put"
  | 1 => "raise"
  | 2 => "lower"
  | 3 => "refuse"
  | 4 => "if"
  | _ => "still"
def esR : Rw → List Md
  | .set _ _ m => [m]
  | .rfs _ => []
  | .iff l r _ _ => [l, r]
  | .sti _ => []
def inR : Rw → List Rw
  | .set _ _ _ => []
  | .rfs _ => []
  | .iff _ _ a b => a ++ b
  | .sti rs => rs
def owR : Rw → List Str
  | .set _ x _ => [x]
  | _ => []
mutual
/-- the names in a row, as they stand -/
def lvsR : Rw → List Str
  | .set _ x m => x :: lvs m
  | .rfs _ => []
  | .iff l r a b => lvs l ++ (lvs r ++ (lvsRs a ++ lvsRs b))
  | .sti rs => lvsRs rs
def lvsRs : List Rw → List Str
  | [] => []
  | r :: s => lvsR r ++ lvsRs s
end
mutual
/-- the steps in a row, as they stand -/
def stsR : Rw → List (Str × Str)
  | .set _ _ m => sts m
  | .rfs _ => []
  | .iff l r a b => sts l ++ (sts r ++ (stsRs a ++ stsRs b))
  | .sti rs => stsRs rs
def stsRs : List Rw → List (Str × Str)
  | [] => []
  | r :: s => stsR r ++ stsRs s
end
mutual
/-- how many rows, itself too -/
def lcR : Rw → Nat
  | .set _ _ _ => 1
  | .rfs _ => 1
  | .iff _ _ a b => 1 + (lcRs a + lcRs b)
  | .sti rs => 1 + lcRs rs
def lcRs : List Rw → Nat
  | [] => 0
  | r :: s => lcR r + lcRs s
end
theorem lvsRs_flat (rs : List Rw) : lvsRs rs = (rs.map lvsR).flatten := by
  induction rs with
  | nil => simp [lvsRs]
  | cons r s ih => rw [lvsRs, ih]; simp
theorem stsRs_flat (rs : List Rw) : stsRs rs = (rs.map stsR).flatten := by
  induction rs with
  | nil => simp [stsRs]
  | cons r s ih => rw [stsRs, ih]; simp
theorem lcRs_sum (rs : List Rw) : lcRs rs = (rs.map lcR).sum := by
  induction rs with
  | nil => simp [lcRs]
  | cons r s ih => rw [lcRs, ih]; simp
theorem lvsR_parts (r : Rw) : lvsR r = owR r ++ (((esR r).map lvs).flatten ++ ((inR r).map lvsR).flatten) := by
  cases r with
  | set k x m => simp [lvsR, owR, esR, inR]
  | rfs w => simp [lvsR, owR, esR, inR]
  | iff l r a b => simp [lvsR, owR, esR, inR, lvsRs_flat]
  | sti rs => simp [lvsR, owR, esR, inR, lvsRs_flat]
theorem stsR_parts (r : Rw) : stsR r = ((esR r).map sts).flatten ++ ((inR r).map stsR).flatten := by
  cases r with
  | set k x m => simp [stsR, esR, inR]
  | rfs w => simp [stsR, esR, inR]
  | iff l r a b => simp [stsR, esR, inR, stsRs_flat]
  | sti rs => simp [stsR, esR, inR, stsRs_flat]
theorem lcR_parts (r : Rw) : lcR r = 1 + ((inR r).map lcR).sum := by
  cases r with
  | set k x m => simp [lcR, inR]
  | rfs w => simp [lcR, inR]
  | iff l r a b => simp [lcR, inR, lcRs_sum]
  | sti rs => simp [lcR, inR, lcRs_sum]
/-! ### what stands when an object of another class is filled -/
structure TrX (C cS : Addr) (H H' : Hp) : Prop where
  ins : ∀ b D dx fs, (D = C ∨ D = cS) → H b = some (.ins D dx fs) → H' b = some (.ins D dx fs)
  tup : ∀ b xs, H b = some (.tup xs) → H' b = some (.tup xs)
  frz : ∀ b o xs, H b = some (.frz o (.tup xs)) → H' b = some (.frz o (.tup xs))
theorem Tr.x {C cS : Addr} {H H' : Hp} (t : Tr H H') : TrX C cS H H' := ⟨fun b D dx fs _ e => t.ins b D dx fs e, t.tup, t.frz⟩
theorem TrX.trans {C cS : Addr} {H H1 H2 : Hp} (a : TrX C cS H H1) (b : TrX C cS H1 H2) : TrX C cS H H2 := ⟨fun c D dx fs n e => b.ins c D dx fs n (a.ins c D dx fs n e), fun c xs e => b.tup c xs (a.tup c xs e), fun c o xs e => b.frz c o xs (a.frz c o xs e)⟩
theorem TrX.put {C cS CR x dx : Addr} {H : Hp} {fs gs : List (Str × V)} (n1 : CR ≠ C) (n2 : CR ≠ cS) (e : H x = some (.ins CR dx fs)) : TrX C cS H (upd H x (.ins CR dx gs)) :=
  ⟨fun b D d fs' n h => by
    rw [upd_ne (ne_of h e (by intro z; injection z with z1 _ _; rcases n with n | n <;> rw [n] at z1 <;> first | exact n1 z1.symm | exact n2 z1.symm))]
    exact h, fun b xs h => by rw [upd_ne (ne_of h e (by intro z; cases z))]; exact h, fun b o xs h => by rw [upd_ne (ne_of h e (by intro z; cases z))]; exact h⟩
section
variable {K : PySem.W.Frag} {C cS : Addr} {H H' : Hp} (t : TrX C cS H H')
include t
theorem sqT_trX {p : Addr} {xs : List V} (h : SqT K H p xs) : SqT K H' p xs := by
  rcases h with (h | ⟨o, h⟩) | h
  · exact .inl (.inl (t.tup _ _ h))
  · exact .inl (.inr ⟨o, t.frz _ _ _ h⟩)
  · exact .inr h
theorem keyL_trX {bs : List V} {ks : List (Str × Str)} (h : KeyL cS H bs ks) : KeyL cS H' bs ks := ⟨h.1, fun i b k h1 h2 => by
  obtain ⟨a, e, dx, st⟩ := h.2 i b k h1 h2
  exact ⟨a, e, dx, t.ins _ _ _ _ (.inr rfl) st⟩⟩
theorem hdS_trX : ∀ {h : Hd}, HdS cS H h → HdS cS H' h
  | .le, _ => trivial
  | .gr, _ => trivial
  | .st _ _ _, ⟨⟨dx, e⟩, a, b⟩ => ⟨⟨dx, t.ins _ _ _ _ (.inr rfl) e⟩, a, b⟩
theorem okM_trX : ∀ {m : Md}, OkM cS H m → OkM cS H' m
  | .nm _, h => h
  | .ap _ _, ⟨l, h⟩ => ⟨l, hdS_trX t h⟩
theorem fldX_trX {m : Md} {e : V} {es : List V} (h : FldX K C cS H m e es) : FldX K C cS H' m e es := by
  obtain ⟨a, dx, p, q1, q2, j, ys, bs, ks, e, ha, hp, h1, n, h2, kl, ky⟩ := h
  exact ⟨a, dx, p, q1, q2, j, ys, bs, ks, e, t.ins _ _ _ _ (.inl rfl) ha, t.tup _ _ hp, t.tup _ _ h1, n, t.tup _ _ h2, keyL_trX t kl, ky⟩
theorem exR_trX : ∀ {n : Nat} {m : Md} {e : V}, ExR K C cS n H m e → ExR K C cS n H' m e
  | 0, _, _, h => h.elim
  | n + 1, m, e, ⟨es, f, l, ok, g⟩ => ⟨es, fldX_trX t f, l, okM_trX t ok, fun i m' x h1 h2 => exR_trX (g i m' x h1 h2)⟩
end
/-! ### the objects -/
abbrev rowT (kd : Str) (T : V) (I : Addr) (n : Int) (q1 q2 : Addr) : List (Str × V) := [("kind", .str kd), ("told", T), ("inner", .ref I), ("size", .int n), ("names", .ref q1), ("steps", .ref q2)]
/-- the fields that a row has by itself, and what it tells -/
def OwnOk (K : PySem.W.Frag) (C cS : Addr) (H : Hp) (own : List (Str × V)) (T : Addr) (I : Addr) (xs : List V) : Rw → Prop
  | .set _ x m => ∃ e n, own = ([("name", .str x), ("expr", e)] : List (Str × V)) ∧ NameOk x ∧ ExR K C cS n H m e ∧ SqT K H T [.str x, e]
  | .rfs w => own = ([("word", .str w)] : List (Str × V)) ∧ NameOk w ∧ SqT K H T [.str w]
  | .iff l r a b => ∃ el er Ra Rb ya yb n, own = ([("left", el), ("right", er), ("rows", .ref Ra), ("others", .ref Rb)] : List (Str × V)) ∧ ExR K C cS n H l el ∧ ExR K C cS n H r er ∧ SqT K H Ra ya ∧ SqT K H Rb yb ∧ ya.length = a.length ∧ yb.length = b.length ∧ xs = ya ++ yb ∧ SqT K H T [el, er, .ref Ra, .ref Rb]
  | .sti rs => ∃ R, own = ([("rows", .ref R)] : List (Str × V)) ∧ SqT K H R xs ∧ T = R ∧ 1 ≤ rs.length ∧ rs.length ≤ 3
/-- the object of r, all but the rows within -/
def RwF (K : PySem.W.Frag) (C cS : Addr) (cR : Nat → Addr) (H : Hp) (r : Rw) (v : V) (xs : List V) : Prop := ∃ (a dx T I q1 q2 : Addr) (own : List (Str × V)) (ys : List Str) (bs : List V) (ks : List (Str × Str)), v = .ref a ∧
  H a = some (.ins (cR (kiR r)) dx (own ++ rowT (kdN (kiR r)) (.ref T) I (lcR r) q1 q2)) ∧ H q1 = some (.tup (ys.map V.str)) ∧ NmsOf (lvsR r) ys ∧ H q2 = some (.tup bs) ∧ KeyL cS H bs ks ∧ KysOf (stsR r) ks ∧ SqT K H I xs ∧ OwnOk K C cS H own T I xs r
/-- v is the row r, less than n deep -/
def RwO (K : PySem.W.Frag) (C cS : Addr) (cR : Nat → Addr) : Nat → Hp → Rw → V → Prop
  | 0, _, _, _ => False
  | n + 1, H, r, v => ∃ xs, RwF K C cS cR H r v xs ∧ xs.length = (inR r).length ∧ ∀ (i : Nat) r' x, (inR r)[i]? = some r' → xs[i]? = some x → RwO K C cS cR n H r' x
section
variable {K : PySem.W.Frag} {C cS : Addr} {cR : Nat → Addr} {H H' : Hp}
theorem ownOk_tr (t : Tr H H') {own : List (Str × V)} {T I : Addr} {xs : List V} : ∀ {r : Rw}, OwnOk K C cS H own T I xs r → OwnOk K C cS H' own T I xs r
  | .set _ _ _, ⟨e, n, h1, o, h2, h3⟩ => ⟨e, n, h1, o, exR_tr t h2, sqT_tr t h3⟩
  | .rfs _, ⟨h1, o, h2⟩ => ⟨h1, o, sqT_tr t h2⟩
  | .iff _ _ _ _, ⟨el, er, Ra, Rb, ya, yb, n, h1, h2, h3, h4, h5, h6, h7, h8, h9⟩ => ⟨el, er, Ra, Rb, ya, yb, n, h1, exR_tr t h2, exR_tr t h3, sqT_tr t h4, sqT_tr t h5, h6, h7, h8, sqT_tr t h9⟩
  | .sti _, ⟨R, h1, h2, h3⟩ => ⟨R, h1, sqT_tr t h2, h3⟩
theorem rwF_tr (t : Tr H H') {r : Rw} {v : V} {xs : List V} (h : RwF K C cS cR H r v xs) : RwF K C cS cR H' r v xs := by
  obtain ⟨a, dx, T, I, q1, q2, own, ys, bs, ks, e, ha, h1, no, h2, kl, ky, hI, o⟩ := h
  exact ⟨a, dx, T, I, q1, q2, own, ys, bs, ks, e, t.ins _ _ _ _ ha, t.tup _ _ h1, no, t.tup _ _ h2, keyL_tr t kl, ky, sqT_tr t hI, ownOk_tr t o⟩
theorem rwO_tr (t : Tr H H') : ∀ {n : Nat} {r : Rw} {v : V}, RwO K C cS cR n H r v → RwO K C cS cR n H' r v
  | 0, _, _, h => h.elim
  | n + 1, r, v, ⟨xs, f, l, g⟩ => ⟨xs, rwF_tr t f, l, fun i r' x h1 h2 => rwO_tr t (g i r' x h1 h2)⟩
theorem RwO.same (s : Same H H') {n : Nat} {r : Rw} {v : V} (h : RwO K C cS cR n H r v) : RwO K C cS cR n H' r v := rwO_tr (Tr.same s) h
theorem RwO.up : ∀ {n n' : Nat} {r : Rw} {v : V}, n ≤ n' → RwO K C cS cR n H r v → RwO K C cS cR n' H r v
  | 0, _, _, _, _, h => h.elim
  | n + 1, 0, _, _, l, _ => by omega
  | n + 1, n' + 1, r, v, l, ⟨xs, f, l1, g⟩ => ⟨xs, f, l1, fun i r' x h1 h2 => RwO.up (by omega) (g i r' x h1 h2)⟩
theorem RwO.fld : ∀ {n : Nat} {r : Rw} {v : V}, RwO K C cS cR n H r v → ∃ xs, RwF K C cS cR H r v xs
  | 0, _, _, h => h.elim
  | n + 1, _, _, ⟨xs, f, _⟩ => ⟨xs, f⟩
theorem RwF.ins {r : Rw} {v : V} {xs : List V} (h : RwF K C cS cR H r v xs) : ∃ a dx fs, v = .ref a ∧ H a = some (.ins (cR (kiR r)) dx fs) := by
  obtain ⟨a, dx, T, I, q1, q2, own, ys, bs, ks, e, ha, _⟩ := h
  exact ⟨a, dx, _, e, ha⟩
end
theorem kiR_lt : ∀ r : Rw, kiR r < 6
  | .set 0 _ _ => by show (0 : Nat) < 6; decide
  | .set 1 _ _ => by show (1 : Nat) < 6; decide
  | .set (_ + 2) _ _ => by show (2 : Nat) < 6; decide
  | .rfs _ => by show (3 : Nat) < 6; decide
  | .iff _ _ _ _ => by show (4 : Nat) < 6; decide
  | .sti _ => by show (5 : Nat) < 6; decide
/-! ### the class of a row -/
structure RwC (K : PySem.W.Frag) (C cS CR : Addr) : Prop where
  cl : Cls K CR
  kind : NoAttr K CR "kind"
  told : NoAttr K CR "told"
  inner : NoAttr K CR "inner"
  size : NoAttr K CR "size"
  names : NoAttr K CR "names"
  steps : NoAttr K CR "steps"
  nC : CR ≠ C
  nS : CR ≠ cS
theorem own_keys {K : PySem.W.Frag} {C cS : Addr} {H : Hp} {own : List (Str × V)} {T I : Addr} {xs : List V} : ∀ {r : Rw}, OwnOk K C cS H own T I xs r → ∀ f ∈ (["kind", "told", "inner", "size", "names", "steps"] : List Str), own.lookup f = none
  | .set _ _ _, ⟨e, n, h1, _⟩ => by rw [h1]; intro f hf; simp only [List.mem_cons, List.not_mem_nil, or_false] at hf; rcases hf with rfl | rfl | rfl | rfl | rfl | rfl <;> rfl
  | .rfs _, ⟨h1, _⟩ => by rw [h1]; intro f hf; simp only [List.mem_cons, List.not_mem_nil, or_false] at hf; rcases hf with rfl | rfl | rfl | rfl | rfl | rfl <;> rfl
  | .iff _ _ _ _, ⟨el, er, Ra, Rb, ya, yb, n, h1, _⟩ => by rw [h1]; intro f hf; simp only [List.mem_cons, List.not_mem_nil, or_false] at hf; rcases hf with rfl | rfl | rfl | rfl | rfl | rfl <;> rfl
  | .sti _, ⟨R, h1, _⟩ => by rw [h1]; intro f hf; simp only [List.mem_cons, List.not_mem_nil, or_false] at hf; rcases hf with rfl | rfl | rfl | rfl | rfl | rfl <;> rfl
theorem lookup_app {f : Str} {own fs : List (Str × V)} (h : own.lookup f = none) : (own ++ fs).lookup f = fs.lookup f := by
  rw [List.lookup_append, h]
  rfl
section
variable {K : PySem.W.Frag} {C cS : Addr} {cR : Nat → Addr} {H : Hp} {r : Rw} {v : V} {xs : List V}
/-- what every row has -/
theorem RwF.common (h : RwF K C cS cR H r v xs) : ∃ (a dx T I q1 q2 : Addr) (fs : List (Str × V)) (ys : List Str) (bs : List V) (ks : List (Str × Str)), v = .ref a ∧ H a = some (.ins (cR (kiR r)) dx fs) ∧ fs.lookup ("kind" : Str) = some (.str (kdN (kiR r))) ∧ fs.lookup ("told" : Str) = some (.ref T) ∧
    fs.lookup ("inner" : Str) = some (.ref I) ∧ fs.lookup ("size" : Str) = some (.int (lcR r)) ∧ fs.lookup ("names" : Str) = some (.ref q1) ∧ fs.lookup ("steps" : Str) = some (.ref q2) ∧ H q1 = some (.tup (ys.map V.str)) ∧ NmsOf (lvsR r) ys ∧ H q2 = some (.tup bs) ∧ KeyL cS H bs ks ∧ KysOf (stsR r) ks ∧ SqT K H I xs := by
  obtain ⟨a, dx, T, I, q1, q2, own, ys, bs, ks, e, ha, h1, no, h2, kl, ky, hI, o⟩ := h
  have k := own_keys o
  exact ⟨a, dx, T, I, q1, q2, _, ys, bs, ks, e, ha, by rw [lookup_app (k _ (by simp))]; rfl, by rw [lookup_app (k _ (by simp))]; rfl, by rw [lookup_app (k _ (by simp))]; rfl, by rw [lookup_app (k _ (by simp))]; rfl, by rw [lookup_app (k _ (by simp))]; rfl, by rw [lookup_app (k _ (by simp))]; rfl, h1, no, h2, kl, ky, hI⟩
theorem RwF.hasNm (c : ∀ i, i < 6 → RwC K C cS (cR i)) (h : RwF K C cS cR H r v xs) : HasNmX K H (v, lvsR r) := by
  obtain ⟨a, dx, T, I, q1, q2, fs, ys, bs, ks, e, ha, _, _, _, _, l5, l6, h1, no, h2, kl, ky, hI⟩ := h.common
  have cc := c _ (kiR_lt r)
  exact ⟨ys, ⟨a, _, dx, _, q1, e, ha, cc.cl, cc.names, l5, SqT.of h1⟩, no⟩
theorem RwF.hasSt (c : ∀ i, i < 6 → RwC K C cS (cR i)) (h : RwF K C cS cR H r v xs) : HasStX K cS H (v, stsR r) := by
  obtain ⟨a, dx, T, I, q1, q2, fs, ys, bs, ks, e, ha, _, _, _, _, l5, l6, h1, no, h2, kl, ky, hI⟩ := h.common
  have cc := c _ (kiR_lt r)
  exact ⟨bs, ks, ⟨a, _, dx, _, q2, e, ha, cc.cl, cc.steps, l6, SqT.of h2⟩, kl, ky⟩
end
theorem catA_read {K : PySem.W.Frag} {H : Hp} {a b : Addr} {xs ys : List V} {Q : VK} (ha : SqT K H a xs) (hb : SqT K H b ys) (l : xs.length + ys.length ≤ sizeLine) (key : ∀ r H', Same H H' → SqT K H' r (xs ++ ys) → Q (.ref r) H') : rCatA K (.ref a) (.ref b) H Q := by
  refine ⟨a, b, xs, ys, rfl, rfl, ha, hb, l, fun e => key b H (Same.refl H) ?_, fun _ e => key a H (Same.refl H) ?_, fun _ _ p hp => key p _ (same_new hp) (SqT.of upd_same)⟩
  · rw [e]
    exact hb
  · rw [e, List.append_nil]
    exact ha
theorem putF_new {f : Str} {v : V} : ∀ {fs : List (Str × V)}, fs.lookup f = none → putF f v fs = fs ++ [(f, v)]
  | [], _ => rfl
  | (g, x) :: r, h => by
    have ne : ¬ g = f := by
      intro e
      rw [e] at h
      simp [List.lookup] at h
    have h' : r.lookup f = none := by
      have : (f == g) = false := beq_eq_false_iff_ne.mpr (Ne.symm ne)
      simpa [List.lookup, this] using h
    show (if g = f then (g, v) :: r else (g, x) :: putF f v r) = _
    rw [if_neg ne, putF_new h']
    rfl
end LK

/-! a comprehension over an enumerated list while an exception is handled -/
namespace LR
open PySem PySem.Spec PyProof.Rows L2 HotX
section
variable {prog : Program} {w : World} {A : Around} {E : Value → Shared → Prop} {s : Shared} {it l x1 : Addr} {i : Nat} {items : Array Value}
/-- a list's iterator that is at its end, asked by enumerate -/
theorem listEnd_hot {Q : Value → Shared → Prop} (hot : HotAt A x1 s.heap) (ne : x1 ≠ it) (hit : s.heap.IsListIter it l i) (hl : s.heap.IsList l items) (hx : items[i]? = none)
    (stop : ∀ h' e, Heap.ExtBut it s.heap h' → (∃ o, h'.get? e = some o ∧ o.cls = .type "StopIteration") → E (.ref e) { s with heap := h' }) : wpAny (model prog w) A (Builtin.SmallTypes.nextOf (.ref it)) Q E s := by
  obtain ⟨oi, get_i, _, data_i⟩ := id hit
  obtain ⟨os, get_l, _, k, data_l⟩ := hl
  obtain ⟨hh, o1, f1, get_1, data_1, none_1⟩ := hot
  unfold Builtin.SmallTypes.nextOf
  refine wpAny_bind (wpAny_callSpecial?_slot (name := Str.ofString "__next__") hit.typeIs slot_listiter_next (wpAny_call_entry slot_listiter_next hit.typeIs entry_listiter_next ?_ (args_listiter_next _)))
  change wpAny _ _ (field (.ref it) 0 >>= _) _ _ _
  apply wpAny_bind
  apply wpAny_field get_i data_i (x := .ref l) rfl
  change wpAny _ _ (if (Value.ref l == Value.none) = true then _ else _) _ _ _
  have ll : ¬ ((Value.ref l == Value.none) = true) := Bool.false_ne_true
  rw [if_neg ll]
  change wpAny _ _ (field (.ref it) 1 >>= _) _ _ _
  apply wpAny_bind
  apply wpAny_field get_i data_i (x := .int i 0) rfl
  change wpAny _ _ (seqItems? (.ref l) >>= _) _ _ _
  apply wpAny_bind
  apply wpAny_seqItems get_l data_l
  simp only [Int.toNat_natCast, hx]
  refine wpAny_bind (wpAny_rule (wpAny_bind (wpAny_setField get_i data_i (by simp) ?_)))
  change wpAny _ _ (newExc (.type "StopIteration") [] >>= _) _ _ _
  apply wpAny_bind
  simp only [newExc, newTuple]
  apply wpAny_bind
  refine wpAny_newObj_type ?_ (by size_fits)
  refine wpAny_bind (m := firstArgMember _ _) (wpAny_of_eq (a := Value.none) (by simp only [firstArgMember]; rfl) ?_)
  refine wpAny_newObj_type ?_ (by size_fits)
  have old : ∀ {h : Heap} {u v : Obj}, h.get? x1 = some o1 → ((h.push u).push v).get? x1 = some o1 := fun q => Heap.get?_push_of_some _ (Heap.get?_push_of_some _ q)
  refine raiseNew_hot ⟨hh, o1, f1, old ((Heap.get?_update_other _ _ (Ne.symm ne)).trans get_1), data_1, none_1⟩ ?_ (Heap.get?_push_size _ rfl) rfl (by simp; omega) ?_
  · exact Nat.ne_of_lt (Heap.lt_size (Heap.get?_push_of_some _ ((Heap.get?_update_other _ _ (Ne.symm ne)).trans get_1)))
  · refine stop _ _ ?_ ⟨_, Heap.get?_update_self _ (Heap.get?_push_size _ rfl) rfl, rfl⟩
    intro b o nb e
    have e1 := (Heap.get?_update_other s.heap (Obj.mapFields (·.setIfInBounds 0 .none)) (Ne.symm nb)).trans e
    exact (Heap.get?_update_other _ _ (Nat.ne_of_gt (Heap.lt_size (Heap.get?_push_of_some _ e1)))).trans (Heap.get?_push_of_some _ (Heap.get?_push_of_some _ e1))
/-- enumerate at its end -/
theorem enumEnd_hot {e : Addr} {old : Value} {Q : Option Value → Shared → Prop} (hot : HotAt A x1 s.heap) (ne : x1 ≠ it) (he : IsEnum s.heap e it i old) (hit : s.heap.IsListIter it l i) (hl : s.heap.IsList l items) (hx : items[i]? = none)
    (hQ : ∀ h', Heap.ExtBut it s.heap h' → Q none { s with heap := h' }) : wpAny (model prog w) A (pyNext (.ref e)) Q E s := by
  have ty : s.TypeIs (.ref e) "enumerate" := ⟨_, he, rfl⟩
  unfold pyNext
  apply wpAny_bind
  apply wpAny_attempt
  refine wpAny_callSpecial?_slot (name := Str.ofString "__next__") ty F.slot_enumerate_next (wpAny_call_entry F.slot_enumerate_next ty F.entry_enumerate_next ?_ (F.args_enumerate_next_1 _))
  change wpAny _ _ (field (.ref e) 2 >>= _) _ _ _
  apply wpAny_bind
  apply wpAny_field he rfl (x := .ref it) rfl
  apply wpAny_bind
  refine listEnd_hot hot ne hit hl hx fun h' x ext end_ => ?_
  obtain ⟨o, at_o, cls_o⟩ := end_
  apply wpAny_bind
  exact wpAny_isInstance (T := "StopIteration") (b := true) ⟨o, at_o, cls_o⟩ isSubtype_stop (wpAny_pure (hQ _ ext))
/-- a tuple's iterator at its end -/
theorem tupEnd_hot {t : Addr} {Q : Option Value → Shared → Prop} (hot : HotAt A x1 s.heap) (ne : x1 ≠ it) (hit : IsTupIter s.heap it t i) (ht : IsTup s.heap t items) (hx : items[i]? = none)
    (stop : ∀ h', Heap.ExtBut it s.heap h' → Q none { s with heap := h' }) : wpAny (model prog w) A (pyNext (.ref it)) Q E s := by
  obtain ⟨oi, get_i, _, data_i⟩ := id hit
  obtain ⟨os, get_l, _, k, data_l⟩ := ht
  obtain ⟨hh, o1, f1, get_1, data_1, none_1⟩ := hot
  unfold pyNext
  apply wpAny_bind
  apply wpAny_attempt
  refine wpAny_callSpecial?_slot (name := Str.ofString "__next__") hit.typeIs slot_tupleiter_next (wpAny_call_entry slot_tupleiter_next hit.typeIs entry_tupleiter_next ?_ (args_tupleiter_next _))
  change wpAny _ _ (field (.ref it) 0 >>= _) _ _ _
  apply wpAny_bind
  apply wpAny_field get_i data_i (x := .ref t) rfl
  change wpAny _ _ (if (Value.ref t == Value.none) = true then _ else _) _ _ _
  have ll : ¬ ((Value.ref t == Value.none) = true) := Bool.false_ne_true
  rw [if_neg ll]
  change wpAny _ _ (field (.ref it) 1 >>= _) _ _ _
  apply wpAny_bind
  apply wpAny_field get_i data_i (x := .int i 0) rfl
  change wpAny _ _ (seqItems? (.ref t) >>= _) _ _ _
  apply wpAny_bind
  apply wpAny_seqItems get_l data_l
  simp only [Int.toNat_natCast, hx]
  refine wpAny_bind (wpAny_rule (wpAny_bind (wpAny_setField get_i data_i (by simp) ?_)))
  change wpAny _ _ (newExc (.type "StopIteration") [] >>= _) _ _ _
  apply wpAny_bind
  simp only [newExc, newTuple]
  apply wpAny_bind
  refine wpAny_newObj_type ?_ (by size_fits)
  refine wpAny_bind (m := firstArgMember _ _) (wpAny_of_eq (a := Value.none) (by simp only [firstArgMember]; rfl) ?_)
  refine wpAny_newObj_type ?_ (by size_fits)
  have old : ∀ {h : Heap} {u v : Obj}, h.get? x1 = some o1 → ((h.push u).push v).get? x1 = some o1 := fun q => Heap.get?_push_of_some _ (Heap.get?_push_of_some _ q)
  refine raiseNew_hot ⟨hh, o1, f1, old ((Heap.get?_update_other _ _ (Ne.symm ne)).trans get_1), data_1, none_1⟩ ?_ (Heap.get?_push_size _ rfl) rfl (by simp; omega) ?_
  · exact Nat.ne_of_lt (Heap.lt_size (Heap.get?_push_of_some _ ((Heap.get?_update_other _ _ (Ne.symm ne)).trans get_1)))
  · apply wpAny_bind
    refine wpAny_isInstance (T := "StopIteration") (b := true) ⟨_, Heap.get?_update_self _ (Heap.get?_push_size _ rfl) rfl, rfl⟩ isSubtype_stop (wpAny_pure (stop _ ?_))
    intro b o nb e
    have e1 := (Heap.get?_update_other s.heap (Obj.mapFields (·.setIfInBounds 0 .none)) (Ne.symm nb)).trans e
    exact (Heap.get?_update_other _ _ (Nat.ne_of_gt (Heap.lt_size (Heap.get?_push_of_some _ e1)))).trans (Heap.get?_push_of_some _ (Heap.get?_push_of_some _ e1))
/-- a tuple taken apart -/
theorem unpack_hot {t : Addr} {Q : List Value → Shared → Prop} (hot : HotAt A x1 s.heap) (ht : IsTup s.heap t items) (hQ : ∀ h', Heap.ExtBut s.heap.objs.size s.heap h' → Q items.toList { s with heap := h' }) : wpAny (model prog w) A (unpackItems (.ref t) items.size none) Q E s := by
  have tlt : t ≠ s.heap.objs.size := by
    obtain ⟨o, z, _⟩ := ht
    exact Nat.ne_of_lt (Heap.lt_size z)
  obtain ⟨hh, o1, f1, get_1, data_1, none_1⟩ := hot
  have xlt : x1 ≠ s.heap.objs.size := Nat.ne_of_lt (Heap.lt_size get_1)
  unfold unpackItems notIterableAtAll
  refine wpAny_bind (wpAny_bind (wpAny_specialOf ht.typeIs slot_tuple_iter.lookup (wpAny_pure ?_)))
  simp only [Bool.false_eq_true, if_false]
  refine wpAny_bind (wpAny_holding (iter_tuple ht (wpAny_bind (wpAny_holding (draw_tuple tlt items.size 0 _ _ ⟨_, Heap.get?_push_size _ rfl, rfl, rfl⟩ (ht.push _) (by omega) fun h1 it1 same1 => ?_)))))
  rw [show List.take items.size (List.drop 0 items.toList) = items.toList by rw [List.drop_zero]; exact List.take_of_length_le (by simp), if_neg (by simp)]
  have here : h1.get? x1 = some o1 := same1.extBut x1 o1 xlt (Heap.get?_push_of_some _ get_1)
  refine wpAny_bind (wpAny_holding (tupEnd_hot ⟨hh, o1, f1, here, data_1, none_1⟩ xlt it1 ((ht.push _).extBut same1.extBut tlt) (by simp) fun h2 ext2 => ?_))
  simp only [Option.isSome_none, Bool.false_eq_true, if_false]
  exact wpAny_pure (hQ h2 fun b o nb e => ext2 b o nb (same1.extBut b o nb (Heap.get?_push_of_some _ e)))
end
end LR
namespace LR
open PySem PySem.Spec PyProof.Rows L2 HotX
/-- an enumerate object over the list at a, with i behind it -/
structure EnumAt (a en it : Addr) (i : Nat) (h : Heap) : Prop where
  enum : ∃ old, IsEnum h en it ((i : Nat) : Int) old
  iter : h.IsListIter it a i
  ne : en ≠ it
theorem EnumAt.keep {a en it : Addr} {i : Nat} {h h' : Heap} (t : EnumAt a en it i h) (k : ∀ b, b ∈ [en, it] → ∀ o, h.get? b = some o → h'.get? b = some o) : EnumAt a en it i h' := by
  obtain ⟨old, e⟩ := t.enum
  exact ⟨⟨old, k en (by simp) _ e⟩, t.iter.at fun o q => k it (by simp) o q, t.ne⟩
theorem EnumAt.obj {a en it : Addr} {i : Nat} {h : Heap} (t : EnumAt a en it i h) : ∀ b, b ∈ [en, it] → ∃ o, h.get? b = some o ∧ ∀ v, o.data ≠ .cell v := fun b hb => by
  rcases List.mem_cons.mp hb with z | z
  · obtain ⟨old, e⟩ := t.enum
    subst z
    refine ⟨_, e, fun v q => ?_⟩
    cases q
  · obtain ⟨o, q1, _, q3⟩ := t.iter
    exact ⟨o, by rw [List.mem_singleton.mp z]; exact q1, fun v q => by rw [q3] at q; cases q⟩
/-- what `enumerate(e)` has left, ready to be walked -/
def Begun (X : Cx) (pins : List (Addr × Obj)) (σ : L2.St) (R : It → Hp → Prop) (itv : Value) (s : Shared) : Prop :=
  ∃ en it a xs H, itv = .ref en ∧ Inv X pins σ H s ∧ EnumAt a en it 0 s.heap ∧ (∀ b, b ∈ [en, it] → FpOk X pins H b) ∧ SqL X.K H a xs ∧ R (Ite X.K a) H
theorem enum_begun {X : Cx} {e : Expr} {ta : TA} {p pos : Pos} {pins : List (Addr × Obj)} {s : Shared} {σ : L2.St} {H : Hp} {R : It → Hp → Prop} (hg : Gl X "enumerate") (hm : X.mg "enumerate" = none) (ha : PA X [e] ta) (I : Inv X pins σ H s) (h : iEnum X.K ta σ H R)
    (hs : starEach [e] X.env = [(false, eval e X.env)] := by rfl) : wpAny (model X.prog X.w) X.A (eval (.Call (.Name "enumerate" p) [e] [] pos) X.env) (fun v s1 => wpAny (model X.prog X.w) X.A (pyIter v) (Begun X pins σ R) X.xe s1) X.xe s := by
  refine Call_ (ld_blt I hg hm boot_enumerate (PyProof.Rows.callWith_type1 (thn (ha.run pos pins s σ H _ I h) fun us s1 got => ?_) hs rfl))
  obtain ⟨vs, H1, I1, r1, a, xs, rfl, sq, q⟩ := got
  obtain rfl := Vals.ref1 r1
  obtain ⟨its, _, pl, _⟩ := I1.list sq
  refine call_enumerate_list pl.isList fun h' en it _ old => wpAny_pyIter_enum en ?_
  have I2 : Inv X pins σ H1 { s1 with heap := h' } := I1.kept (t' := s1.toks) old
  refine ⟨s1.heap.objs.size + 1, s1.heap.objs.size, a, xs, H1, rfl, I2, ⟨⟨.none, en⟩, it, Nat.succ_ne_self _⟩, fun b hb => ?_, sq, q⟩
  have big : s1.heap.objs.size ≤ b := by
    rcases List.mem_cons.mp hb with z | z
    · rw [z]
      exact Nat.le_succ _
    · rw [List.mem_singleton.mp z]
      exact Nat.le_refl _
  exact I1.fpOk big (I1.hok.fresh big)
/-- the context began with a handled exception that it can't reach -/
def HotB (B : Cx) : Prop := ∃ r : Addr × Obj, L2H.Hot1 B.A r ∧ B.s_0.heap.get? r.1 = some r.2 ∧ B.H_0 r.1 = none ∧ r.1 ∉ B.fs ∧ r.1 ∉ B.ex
theorem HotB.at {B : Cx} {pins : List (Addr × Obj)} {σ : L2.St} {H : Hp} {s : Shared} (c : HotB B) (J : Inv B pins σ H s) : ∃ x1, HotAt B.A x1 s.heap ∧ ∀ b, b ∈ B.ex → x1 ≠ b := by
  obtain ⟨r, ⟨hh, v1, e1, c1⟩, get, free, nf, nx⟩ := c
  exact ⟨r.1, ⟨hh, r.2, v1, J.base.keep r.1 r.2 get free nf nx, e1, c1⟩, fun b hb z => nx (by rw [z]; exact hb)⟩
/-- so does a block of a context that bears one -/
theorem hotB_blk {X : Cx} {pins : List (Addr × Obj)} {σ : L2.St} {H : Hp} {s : Shared} {scope : Scope} {ce : Env} {fp : List Addr} (c : L2H.HotC X) (I : Inv X pins σ H s) (off : ∀ b, b ∈ fp → FpOk X pins H b) : HotB (X.blk s H scope ce fp) := by
  obtain ⟨r, hot, hr⟩ := c
  obtain ⟨get, free, nl, nf, _⟩ := I.pin r (List.mem_append_left _ hr)
  refine ⟨r, hot, get, free, fun m => ?_, fun m => (off _ m).2.2.2.2.2 r (List.mem_append_left _ hr) rfl⟩
  exact (List.mem_cons.mp (I.stkSub r.1 m)).elim nl nf
/-- a, b = t where an exception is handled -/
theorem pg_tupH {B : Cx} {es : List Expr} {k n : Nat} {t : TGs} {pos : Pos} (c : HotB B) (h : PGs B es t) (many : (assignEach es B.env).length = n := by rfl) (plain : (assignEach es B.env).findIdx? (·.1) = none := by rfl) : PG B (.Tuple es k pos) (gTup B.K n t) := by
  refine ⟨fun pins s σ H v u Q I r asked => ?_⟩
  obtain ⟨a, xs, rfl, sq, len, asked⟩ := asked
  obtain rfl : u = Value.ref a := r
  obtain ⟨its, rv, ht, _⟩ := I.tuple sq
  obtain ⟨x1, hot, _⟩ := c.at I
  have size : (assignEach es B.env).length = its.toArray.size := by rw [many, ← len, rv.length, List.size_toArray]
  rw [assign_Tuple]
  refine wpAny_bind (wpAny_standAt ?_)
  unfold unpack
  rw [size, plain]
  refine wpAny_bind (wpAny_holding (unpack_hot hot ht fun h' ext => ?_))
  have J : Inv B pins σ H { s with heap := h' } := I.kept (t' := s.toks) fun b o z => ext b o (Nat.ne_of_lt (Heap.lt_size z)) z
  exact h.run pins _ σ H xs _ Q J (by simpa using rv) asked
end LR
namespace LR
open PySem PySem.Spec PyProof.Rows L2 HotX
section
variable {X : Cx} {elt e : Expr} {elts ifs : List Expr} {kk : Nat} {scope : Scope} {own : List (Str × Nat)} {pos p ipos tpos : Pos} {ta : TA} {g : TG} {tt : TT} {te : TE}
/-- one turn's item: a new pair, in the block B -/
theorem enum_item {B : Cx} {σ : L2.St} {H : Hp} {s : Shared} {a en it : Addr} {i : Nat} {xs : List V} {x : V} {E : Value → Shared → Prop} {Q : Option Value → Shared → Prop} (I : Inv B [] σ H s) (t : EnumAt a en it i s.heap) (off : ∀ b, b ∈ [en, it] → FpOk B [] H b)
    (sq : SqL B.K H a xs) (hx : xs[i]? = some x)
    (q : ∀ u s1, (∀ E' Q', (∀ T s2, H T = none → Inv B [] σ (upd H T (.tup [.int (i : Nat), x])) s2 → u = .ref T → EnumAt a en it (i + 1) s2.heap → T ≠ en → T ≠ it → Q' () s2) → wpAny (model B.prog B.w) B.A (letOwnedTupleGo (.Tuple elts kk tpos) (.ref en) u) Q' E' s1) → Q (some u) s1) :
    wpAny (model B.prog B.w) B.A (pyNext (.ref en)) Q E s := by
  obtain ⟨old, he⟩ := t.enum
  obtain ⟨its, rv, pl, _⟩ := I.list sq
  obtain ⟨u, hu, ru⟩ := rv.get hx
  have le : en < s.heap.objs.size := Heap.lt_size he
  have li : it < s.heap.objs.size := by
    obtain ⟨_, z, _⟩ := t.iter
    exact Heap.lt_size z
  refine wpAny_pyNext_enum_item he t.iter pl.isList (x := u) (by simpa using hu) t.ne fun h1 ho hi hT _ old1 => q _ _ fun E' Q' k => ?_
  refine wpAny_letOwnedTupleGo_enum (s := { s with heap := h1, toks := s.toks + 1 }) ho fun h2 en2 but => ?_
  have pair : h2.get? s.heap.objs.size = some { cls := .type "tuple", data := .seq #[.int i s.toks, u] } := (but.2 _ (Nat.ne_of_gt le)).trans hT
  have fresh : H s.heap.objs.size = none := I.hok.fresh (Nat.le_refl _)
  have stay : ∀ b o, b ∉ [en, it] → s.heap.get? b = some o → h2.get? b = some o := fun b o nb z => by
    have n1 : b ≠ en := fun y => nb (by simp [y])
    have n2 : b ≠ it := fun y => nb (by simp [y])
    exact (but.2 b n1).trans (old1 b o n1 n2 z)
  have laid : ObjOk B.prog B.w (upd H s.heap.objs.size (.tup [.int (i : Nat), x])) h2 s.heap.objs.size (.tup [.int (i : Nat), x]) := ⟨by show 2 ≤ sizeLine; decide, [.int i s.toks, u], .cons ⟨_, rfl⟩ (.cons ru .nil), ⟨_, pair, rfl, _, rfl⟩⟩
  have J := I.turnedNew (ch := [en, it]) (t' := s.toks + 1) stay off (Nat.le_refl _) laid
  refine k s.heap.objs.size _ fresh J rfl ⟨⟨u, ?_⟩, hi.at fun o z => (but.2 it t.ne.symm).trans z, t.ne⟩ (Nat.ne_of_gt le) (Nat.ne_of_gt li)
  rw [show ((i + 1 : Nat) : Int) = (i : Int) + 1 by omega]
  exact en2
end
end LR
namespace LR
open PySem PySem.Spec PyProof.Rows L2 HotX
section
variable {X : Cx} {elt e : Expr} {elts ifs : List Expr} {kk : Nat} {scope : Scope} {own : List (Str × Nat)} {pos p ipos tpos : Pos} {ta : TA} {g : TG} {tt : TT} {te : TE}
/-- [elt for a, b in enumerate(e) if ..] where an exception is handled -/
theorem pe_lcEH (hot : L2H.HotC X) (nd : X.N.Nodup) (hg : Gl X "enumerate") (hm : X.mg "enumerate" = none) (ha : PA X [e] ta) (ok : BlkOk X.N X.env.scope scope own)
    (pg : ∀ (s : Shared) (H : Hp) (C : Addr) (cl : List (Str × Addr)) (fp : List Addr), HotB (X.blk s H scope (compEnvC scope cl C X.env) fp) → PG (X.blk s H scope (compEnvC scope cl C X.env) fp) (.Tuple elts kk tpos) g)
    (pt : ∀ (s : Shared) (H : Hp) (C : Addr) (cl : List (Str × Addr)) (fp : List Addr), PTs (X.blk s H scope (compEnvC scope cl C X.env) fp) ifs tt)
    (pe : ∀ (s : Shared) (H : Hp) (C : Addr) (cl : List (Str × Addr)) (fp : List Addr), PE (X.blk s H scope (compEnvC scope cl C X.env) fp) elt te)
    (st : starEach [e] X.env = [(false, eval e X.env)] := by rfl) (fold : ∀ x, foldedSetIterable (.Call (.Name "enumerate" p) [e] [] ipos) X.env x = pure x := by intro _; rfl) :
    PE X (.ListComp elt [⟨.Tuple elts kk tpos, .Call (.Name "enumerate" p) [e] [] ipos, ifs, 0⟩] scope pos) (tLc (iEnum X.K ta) g tt te (own.map (·.2))) := by
  refine ⟨fun pins s σ H Q I h => ?_⟩
  rw [eval_ListComp]
  have cells : ∀ y ∈ scope.names, y.2 = .free → ∃ c, X.env.cells.lookup y.1 = some c := fun y hy z => (ok.free y hy z).elim (fun k => I.ok.has _ (.inl k)) fun k => I.ok.has _ (.inr k)
  refine wpAny_comprehension_free (use := none) rfl fold (closure_ok cells) ok.kind (fun y hy z => by rw [ok.uniq y hy, z]) (thn (enum_begun hg hm ha I h st) fun v1 s1 b1 => thn b1 fun v2 s2 b2 => ?_)
  obtain ⟨en, it, a, xs0, H2, rfl, I2, at0, off, _, q⟩ := b2
  refine wpAny_newObj_type (newEnv_comp ?_) (by show 0 ≤ sizeLine; decide)
  have freshD : H2 s2.heap.objs.size = none := I2.hok.fresh (Nat.le_refl _)
  obtain ⟨W, ⟨m0, w0⟩, turn⟩ := q s2.heap.objs.size freshD
  generalize eD : s2.heap.objs.size = D at freshD w0 turn ⊢
  have offD : ∀ b, b ∈ [en, it] → b ≠ D := fun b hb => by
    obtain ⟨o, z, _⟩ := at0.obj b hb
    rw [← eD]
    exact Nat.ne_of_lt (Heap.lt_size z)
  generalize e3 : ({ s2 with heap := s2.heap.push { cls := .type "list", data := .seq ([] : List Value).toArray } } : Shared) = s3
  have push3 : ∀ {b : Addr} {o : Obj}, s2.heap.get? b = some o → s3.heap.get? b = some o := fun {b o} z => by
    rw [← e3]
    exact Heap.get?_push_of_some _ z
  have size3 : s3.heap.objs.size = s2.heap.objs.size + 1 := by
    rw [← e3]
    exact Heap.size_push _ _
  have I3 : Inv X pins σ (upd H2 D (.lst [])) s3 := by
    subst e3
    refine I2.laid (t' := s2.toks) (fun b o z => Heap.get?_push_of_some _ z) (Nat.le_of_eq eD) ⟨Nat.zero_le _, [], 0, .nil, ?_⟩
    subst eD
    exact Heap.get?_push_size _ rfl
  have off3 : ∀ b, b ∈ [en, it] → FpOk X pins (upd H2 D (.lst [])) b ∧ b < s3.heap.objs.size := fun b hb => by
    obtain ⟨f0, f1⟩ := off b hb
    obtain ⟨o, z, _⟩ := at0.obj b hb
    exact ⟨⟨by rw [upd_ne (offD b hb)]; exact f0, f1⟩, Heap.lt_size (push3 z)⟩
  have J0 := block_start I3 ok nd off3
  have hotB := hotB_blk (scope := scope) (ce := compEnvC scope (cellsFrom (s3.heap.objs.size + 1) scope.names (cloFrom X.env.cells scope.names [])) s3.heap.objs.size X.env) hot I3 fun b hb => (off3 b hb).1
  have pg' := pg s3 (upd H2 D (.lst [])) s3.heap.objs.size (cellsFrom (s3.heap.objs.size + 1) scope.names (cloFrom X.env.cells scope.names [])) [en, it] (hotB_blk hot I3 fun b hb => (off3 b hb).1)
  have pt' := pt s3 (upd H2 D (.lst [])) s3.heap.objs.size (cellsFrom (s3.heap.objs.size + 1) scope.names (cloFrom X.env.cells scope.names [])) [en, it]
  have pe' := pe s3 (upd H2 D (.lst [])) s3.heap.objs.size (cellsFrom (s3.heap.objs.size + 1) scope.names (cloFrom X.env.cells scope.names [])) [en, it]
  change codeAny _ _ (.compStart (.ListComp elt [⟨.Tuple elts kk tpos, .Call (.Name "enumerate" p) [e] [] ipos, ifs, 0⟩] scope pos) 0 (.ref en) (.ref D)
    (compEnvC scope (cellsFrom (s3.heap.objs.size + 1) scope.names (cloFrom X.env.cells scope.names [])) s3.heap.objs.size X.env))
    (compPost (model X.prog X.w) X.A X.xe none (EP X pins σ Q) (.ref D) s3.heap.objs.size)
    { s3 with heap := pushCells (s3.heap.push { cls := .type "dict", data := .dict #[] }) scope.names }
  have locs : (compEnvC scope (cellsFrom (s3.heap.objs.size + 1) scope.names (cloFrom X.env.cells scope.names [])) s3.heap.objs.size X.env).locals = s3.heap.objs.size := rfl
  generalize compEnvC scope (cellsFrom (s3.heap.objs.size + 1) scope.names (cloFrom X.env.cells scope.names [])) s3.heap.objs.size X.env = ce at J0 hotB pg' pt' pe' locs ⊢
  generalize e4 : ({ s3 with heap := pushCells (s3.heap.push { cls := .type "dict", data := .dict #[] }) scope.names } : Shared) = s4 at J0 ⊢
  have at4 : EnumAt a en it 0 s4.heap := at0.keep fun b _ o z => by
    rw [← e4]
    exact pushCells_keeps _ _ _ _ (Heap.get?_push_of_some _ (push3 z))
  generalize upd H2 D (.lst []) = H3 at I3 off3 J0 hotB pg' pt' pe' w0 ⊢
  -- seen from the block the walker's two objects are no one's
  have offB : ∀ {σ' : L2.St} {H' : Hp} {s' : Shared}, Inv (X.blk s3 H3 scope ce [en, it]) [] σ' H' s' → (∀ b, b ∈ [en, it] → H' b = none) → ∀ b, b ∈ [en, it] → FpOk (X.blk s3 H3 scope ce [en, it]) [] H' b := fun J free b hb => by
    obtain ⟨z1, z2⟩ := J.ok.exf b hb
    refine ⟨free b hb, z1, J.ok.exfs b hb, .inl hb, z2, fun r hr => ?_⟩
    simp at hr
  have loop : codeAny (model X.prog X.w) X.A (.compLoop (.ListComp elt [⟨.Tuple elts kk tpos, .Call (.Name "enumerate" p) [e] [] ipos, ifs, 0⟩] scope pos) 0 (.ref en) (.ref D) ce) (compPost (model X.prog X.w) X.A X.xe none (EP X pins σ Q) (.ref D) s3.heap.objs.size) s4 := by
    refine compLoop_any (fun n s' => ∃ i H', Inv (X.blk s3 H3 scope ce [en, it]) [] (wipe σ (own.map (·.2))) H' s' ∧ EnumAt a en it i s'.heap ∧ (∀ b, b ∈ [en, it] → H' b = none) ∧ W i n H') (fun n s5 inv => ?_) m0 ⟨0, H3, J0, at4, fun b hb => (off3 b hb).1.1, w0⟩
    obtain ⟨i, H5, J5, at5, free5, w5⟩ := inv
    rcases turn i n H5 w5 with ⟨stop, done⟩ | ⟨go, Nx, again, step⟩
    · obtain ⟨xs, sq, len⟩ := stop
      obtain ⟨its, rv, pl, _⟩ := J5.list sq
      obtain ⟨x1, hx1, ne1⟩ := hotB.at J5
      obtain ⟨old, he⟩ := at5.enum
      have few := rv.length
      refine enumEnd_hot hx1 (ne1 it (by simp)) he at5.iter pl.isList (by simp; omega) fun h' ext => ?_
      obtain ⟨f0, f1, f2, f3, f4, f5⟩ := offB J5 free5 it (by simp)
      have J6 := J5.turned (t' := s5.toks) (fun b o nb z => ext b o nb z) f0 f1 f3 f4 f5
      have I7 : Inv X pins σ H5 { s5 with heap := h' } := I3.call' (ch := [en, it]) J6.os J6.base J6.hok J6.bare fun b hb => by
        obtain ⟨_, o1, _, o3, o4, o5⟩ := (off3 b hb).1
        exact ⟨o3, o1, o4, o5⟩
      have noC : H5 s3.heap.objs.size = none := by
        have z : H5 ce.locals = none := J6.free
        rwa [locs] at z
      obtain ⟨m, ns, _⟩ := J6.loc
      have ns' : h'.Ns ce.locals m := ns
      rw [locs] at ns'
      obtain ⟨c0, c1, _, c3, c4, c5⟩ := I3.fpOk (Nat.le_refl _) noC
      exact ⟨m, ns', fun h2 but => ⟨.ref D, H5, I7.turned (t' := s5.toks) (fun b o nb z => (but.2 b nb).trans z) c0 c1 c3 c4 c5, rfl, done⟩⟩
    · obtain ⟨xs, x, sq, hx⟩ := go
      refine enum_item (elts := elts) (kk := kk) (tpos := tpos) (B := X.blk s3 H3 scope ce [en, it]) J5 at5 (offB J5 free5) sq hx fun u s6 own6 => ?_
      refine own6 _ _ fun T s7 fT J7 eu at7 nT1 nT2 => ?_
      subst eu
      have free7 : ∀ b, b ∈ [en, it] → upd H5 T (.tup [.int (i : Nat), x]) b = none := fun b hb => by
        have nb : b ≠ T := by
          rcases List.mem_cons.mp hb with z | z
          · rw [z]
            exact nT1.symm
          · rw [List.mem_singleton.mp z]
            exact nT2.symm
        rw [upd_ne nb]
        exact free5 b hb
      have now := step (.ref T) _ ⟨T, x, rfl, fT, rfl, fun ys hy => by rw [J5.list_inj hy sq]; exact hx⟩
      have P7 := J7.pinned (offB J7 free7) at7.obj
      refine thnF (pg'.run _ s7 _ _ (.ref T) (.ref T) _ P7 rfl now) fun _ s8 r8 => ?_
      obtain ⟨σ8, H8, J8, w8, q8⟩ := r8
      refine thnF (pt'.run _ s8 σ8 H8 _ J8 q8) fun b s9 r9 => ?_
      obtain ⟨H9, J9, q9⟩ := r9
      have close : ∀ {s' : Shared} {H' : Hp}, Inv (X.blk s3 H3 scope ce [en, it]) ([] ++ pinsAt [en, it] s7.heap) σ8 H' s' → Nx H' → ∃ m, m < n ∧ ∃ i H', Inv (X.blk s3 H3 scope ce [en, it]) [] (wipe σ (own.map (·.2))) H' s' ∧ EnumAt a en it i s'.heap ∧ (∀ b, b ∈ [en, it] → H' b = none) ∧ W i m H' := fun {s' H'} J' nx => by
        obtain ⟨m', lt, w'⟩ := again H' nx
        have kept : ∀ b, b ∈ [en, it] → ∀ o, s7.heap.get? b = some o → s'.heap.get? b = some o ∧ H' b = none := fun b hb o z => by
          have r := J'.pin (b, o) (List.mem_append_right _ (List.mem_append_right _ (mem_pinsAt hb z)))
          exact ⟨r.1, r.2.1⟩
        refine ⟨m', lt, i + 1, H', (J'.unpinned (pins := [])).weak (by rw [← w8, wipe_length]) (fun j v z => (wipe_some (by rwa [← w8] at z)).1), at7.keep fun b hb o z => (kept b hb o z).1, fun b hb => ?_, w'⟩
        obtain ⟨o, z, _⟩ := at7.obj b hb
        exact (kept b hb o z).2
      cases b with
      | false => exact close J9 (by simpa using q9)
      | true =>
        rw [if_pos rfl] at q9 ⊢
        refine thnF (pe'.run _ s9 σ8 H9 _ J9 q9) fun z s10 r10 => ?_
        obtain ⟨yv, H10, J10, ry, acc, hD, few, nx⟩ := r10
        exact app_ok (X := X.blk s3 H3 scope ce [en, it]) J10 hD few ry fun s11 J11 => close J11 nx
  exact codeAny_compStart_list loop (by
    obtain ⟨old, z⟩ := at4.enum
    exact wpAny_pyIter_enum z loop)
end
end LR

/-! a def that is handed the exception that is handled -/
namespace LR
open PySem PySem.Spec PyProof.Rows L2 HotX
/-- a promise that speaks of the handled exception: where it stands, how -/
structure FnE (P : Program) (w : World) (K : PySem.W.Frag) (mg : Str → Option Value) (base : Heap) (k : Nat) (f : Addr) (fd : FuncData) (ps : List Str) (sp : Addr → Obj → Sp) : Prop where
  len : ∀ a oe vs H Q E, sp a oe vs H Q E → vs.length = ps.length
  run : ∀ (A : Around) (outer : List Env) (s : Shared) (H : Hp) (args : Args) (us : List Value) (vs : List V) (Q : VK) (p : Addr × Obj), L2H.RoomH k A → L2H.Hot1 A p → L2H.PinOk outer H s p → Env0 P w K mg base A outer s H → BindsTo s fd args (ps.zip us) → Vals vs us → sp p.1 p.2 vs H Q E0 →
    codeAny (model P w) A (.call (.ref f) args) (CR CX0 outer P w H s Q E0) s
section
variable {P : Program} {w : World} {K : PySem.W.Frag} {mg : Str → Option Value} {base : Heap} {k : Nat} {f : Addr} {fd : FuncData} {x qual : Str} {st : Stmt} {N ps : List Str} {sp : Addr → Obj → Sp}
theorem okE (F : Fun K x qual st f fd) (S : FnScope N ps (defScope st)) (len : ∀ a oe vs H Q E, sp a oe vs H Q E → vs.length = ps.length)
    (walk : ∀ (cdv : Value) (A : Around) (outer : List Env) (s : Shared) (H : Hp) (vs : List V) (Q : VK) (p : Addr × Obj), L2H.Hot1 A p → L2H.RoomH k (A.deeper (envOfC qual (defScope st) s.heap.objs.size f cdv)) → sp p.1 p.2 vs H Q E0 →
      ∃ t, PSs (L2H.cxH CX0 P w K mg base N qual (defScope st) f cdv A outer s H E0 p) (defBody st) t ∧ t { nx := fun _ H' => Q .non H', rt := Q } (L2.start N vs) H) : FnE P w K mg base (k + 1) f fd ps sp := by
  obtain ⟨oc, od, kV, doc, pm, an, cdv, ct, osl, rfl, lk, code⟩ := F.ex
  refine ⟨len, fun A outer s H args us vs Q p room hot pin e0 bind rel asked => ?_⟩
  have inK : K.In s.heap := e0.mod.kin.keeps fun b o z => (e0.bs b o z).1
  have free : s.heap.NoLimit := e0.mod.nolimit.keeps fun b o z => (e0.bs b o z).1
  refine codeAny_call_function room.depth (inK _ _ lk) rfl S.co S.gen rfl (PySem.W.codeRec_of inK code) (bind _ _ _ _ ?_)
  refine wpAny_newFunctionEnv_cells S.kind (fun y hy => ?_) fun env he s1 made => ?_
  · rcases S.par y.1 (List.of_mem_zip hy).1 with z | z
    · exact .inl z
    · exact .inr ⟨z, PySem.W.cellsFrom_some _ _ _ (.inl z)⟩
  · subst he
    refine ⟨free.keeps made.toInCall.keep, codeAny_func ?_⟩
    obtain ⟨t, body, read⟩ := walk cdv A outer s H vs Q p hot (room.deeper _) asked
    have I := L2H.inv_startH (CX := CX0) (E := E0) (P := P) (w := w) S pin e0 (len _ _ _ _ _ _ asked) rel made
    refine wpAny_mono (body.run [] s1 _ H _ I read) (fun fl s' out => ?_) fun _ _ z => z
    cases fl with
    | ret u =>
      obtain ⟨v, σ', H', J, rv, q⟩ := out
      exact ⟨v, H', J.os, J.bare, J.base, J.hok, rv, q⟩
    | next =>
      obtain ⟨σ', H', J, q⟩ := out
      exact ⟨V.non, H', J.os, J.bare, J.base, J.hok, rfl, q⟩
    | brk =>
      obtain ⟨_, _, _, q⟩ := out
      exact q.elim
    | cont =>
      obtain ⟨_, _, _, q⟩ := out
      exact q.elim
end
section
variable {X : Cx} {k : Nat} {f a : Addr} {oe : Obj} {fd : FuncData} {ps : List Str} {sp : Addr → Obj → Sp} {x : Str} {q pos : Pos} {e : Expr} {es : List Expr} {t : TA}
/-- such a def called where p is handled -/
theorem pe_callE (F : FnE X.prog X.w X.K X.mg X.base k f fd ps sp) (room : L2H.RoomH k X.A) (hot : L2H.Hot1 X.A (a, oe)) (mem : (a, oe) ∈ X.pn) (hg : Gl X x) (hm : X.mg x = some (.ref f)) (kp : PySem.W.keepIn X.K (.ref f) = true) (bind : Binds X.K fd ps [])
    (ha : PA X (e :: es) t) (dbg : (x == ("__debug__" : Str)) = false := by decide) (he : starEach (e :: es) X.env = (false, eval e X.env) :: starEach es X.env := by rfl) (plain : (backTo pos (starEach es X.env)).any (·.1) = false := by rfl) :
    PE X (.Call (.Name x q) (e :: es) [] pos) (fun σ H Q => t σ H fun vs H1 => sp a oe vs H1 Q E0) := by
  refine ⟨fun pins s σ H Q I h => wpAny_Call_Name_kw (ld_glob I hg hm (PySem.W.callWith_K (h₀ := X.base) I.ok.mod.kin kp (thn (ha.run pos pins s σ H _ I h) fun us s1 got => ?_) he plain) dbg)⟩
  obtain ⟨vs, H1, I1, rel, asked⟩ := got
  refine ⟨I1.kIn, ?_⟩
  obtain ⟨g, fr, nl, nf, nc⟩ := I1.pin (a, oe) (List.mem_append_left _ mem)
  have pin : L2H.PinOk X.stack H1 s1 (a, oe) := ⟨g, fr, fun m => (List.mem_cons.mp (I1.stkSub a m)).elim nl nf, nc⟩
  have many : us.length = ps.length := by rw [← rel.length, F.len _ _ _ _ _ _ asked]
  have b := bind s1 us I1.kIn (by rw [List.append_nil]; exact many)
  rw [List.append_nil] at b
  refine wpAny_call (codeAny_mono (F.run X.A X.stack s1 H1 ⟨us, []⟩ us vs Q (a, oe) room hot pin I1.env0 b rel asked) fun r s' out => ?_)
  cases r with
  | error er => exact out.elim
  | ok fl =>
    cases fl with
    | ret u => exact I1.after out
    | next => exact False.elim out
    | brk => exact False.elim out
    | cont => exact False.elim out
/-- isinstance of a pinned exception -/
def rIsPin (K : PySem.W.Frag) (a D : Addr) (d : Option Addr) : List V → Hp → VK → Prop := fun xs H Q => ∃ (c : V) (cv : Value) (b : Bool), xs = [.ref a, c] ∧ (∀ dx, d = some dx → ∃ fs, H dx = some (.xd fs)) ∧ ClsV c cv ∧ PySem.W.kitOne K (.ref D) cv = some b ∧ Q (.bl b) H
theorem call_isPin {D : Addr} {d : Option Addr} (mem : (a, oe) ∈ X.pn) (z : Zc (.ref D) d oe) (fl : ∃ vs, oe.data = .fields vs) (T : ExcC X.K D) : CallR X (.builtin "isinstance") (rIsPin X.K a D d) := by
  intro pins s σ H xs us Q I r h
  obtain ⟨c, cv, b, rfl, hd, kc, ans, q⟩ := h
  obtain ⟨u1, u2, rfl, r1, r2⟩ := vals2 r
  obtain rfl := kc.eq r2
  obtain rfl : u1 = Value.ref a := r1
  obtain ⟨get, _⟩ := I.pin (a, oe) (List.mem_append_left _ mem)
  obtain ⟨vs, dv⟩ := fl
  have known : (PySem.W.clsIn X.K D).isSome = true := by
    obtain ⟨cd, hc, _⟩ := PySem.W.any_some T.hd
    rw [hc]
    rfl
  have J : ∃ od, PySem.W.InstAt s.heap a oe D od := by
    cases d with
    | none => exact ⟨none, get, z.1, by unfold PySem.W.notCls; rw [dv] <;> rfl, by rw [z.2]; trivial⟩
    | some dx =>
      obtain ⟨fs, hx⟩ := hd dx rfl
      obtain ⟨mA, hns, _⟩ := (show ObjOk X.prog X.w H s.heap dx (.xd fs) from I.hok dx _ hx)
      obtain ⟨o, ho, _⟩ := lookIn_ns hns
      exact ⟨some o, get, z.1, by unfold PySem.W.notCls; rw [dv] <;> rfl, by rw [z.2]; exact ho⟩
  obtain ⟨od, J⟩ := J
  exact PySem.W.kia_one (PySem.W.kitx_exc known T.hg T.hk T.hs T.ha T.hn T.ht T.hm) I.kIn J ans (fun z => nomatch z) fun tk => ⟨.bl b, H, I.tok tk, rfl, q⟩
end
end LR

/-! own errors with an __init__, raised and let out; instances whose __init__ may raise -/
namespace LR
open PySem PySem.Spec PyProof.Rows L2
/-- a def that may let an error out -/
theorem okN {P : Program} {w : World} {K : PySem.W.Frag} {mg : Str → Option Value} {base : Heap} {x qual : Str} {st : Stmt} {f : Addr} {fd : FuncData} {N ps : List Str} {k : Nat} {sp : Sp} (F : Fun K x qual st f fd) (S : FnScope N ps (defScope st)) (len : ∀ vs H Q E, sp vs H Q E → vs.length = ps.length)
    (walk : ∀ (cdv : Value) (A : Around) (outer : List Env) (s : Shared) (H : Hp) (vs : List V) (Q : VK) (E : XK), Room k (A.deeper (envOfC qual (defScope st) s.heap.objs.size f cdv)) → sp vs H Q E →
      ∃ t, PSs (cxOf (L2N.CX P w) P w K mg base N qual (defScope st) f cdv A outer s H E) (defBody st) t ∧ t { nx := fun _ H' => Q .non H', rt := Q } (start N vs) H) : FnOk P w K mg base (L2N.CX P w) (k + 1) f fd ps sp := by
  obtain ⟨oc, od, kV, doc, pm, an, cdv, ct, osl, rfl, lk, code⟩ := F.ex
  exact fn_of lk code S len fun A outer s H vs Q E room asked => walk cdv A outer s H vs Q E room asked
section
variable {X : Cx} {e : Expr} {es : List Expr} {ta : TA} {p pos : Pos} {x : Str} {C fI : Addr} {k : Nat} {fd : FuncData} {ps : List Str} {sp : Sp}
/-- raise Err(e, ..): the object is let go -/
theorem pmk_errN (T : OexC X.K C) (iC : PySem.W.findIn X.K (.ref C) "__init__" = some (some (.ref fI))) (tI : PySem.W.typeIn X.K (.ref fI) = some (.type "function")) (F1 : FnOk X.prog X.w X.K X.mg X.base CX0 k fI fd ps sp) (room : Room (k + 1) X.A) (bind : Binds X.K fd ps [])
    (hg : Gl X x) (hm : X.mg x = some (.ref C)) (ha : PA X (e :: es) ta) (dbg : (x == ("__debug__" : Str)) = false := by decide) (he : starEach (e :: es) X.env = (false, eval e X.env) :: starEach es X.env := by rfl) (plain : (backTo pos (starEach es X.env)).any (·.1) = false := by rfl) :
    L2N.PMk X (.Call (.Name x p) (e :: es) [] pos) (tMkO C sp [] ta) := by
  intro pins s σ H Q I h
  obtain ⟨nm, q, N, bs, bm, sn, sub, ab, col, dd, k0, k1, k2, k3, k5, hC, hbm⟩ := T.cls
  refine wpAny_Call_Name_kw (ld_glob I hg hm (PySem.W.callWith_K (h₀ := X.base) I.ok.mod.kin T.kC (thn (ha.run pos pins s σ H _ I h) fun us s1 got => ?_) he plain) dbg)
  obtain ⟨vs, H1, I1, r1, few1, q1⟩ := got
  refine ⟨I1.kIn, ?_⟩
  obtain ⟨hp, g, dr, tk, os⟩ := s1
  have new := q1 (hp.objs.size + 1) (I1.hok.fresh (Nat.le_succ _))
  rw [List.append_nil] at new
  have keep : ∀ b o, hp.get? b = some o → ((hp.push (PySem.W.kdv_tup us)).push (PySem.HandSPX.excO C hp.objs.size)).get? b = some o := fun b o z => Heap.get?_push_of_some _ (Heap.get?_push_of_some _ z)
  have J := I1.laid (t' := tk) keep (Nat.le_succ hp.objs.size) (exo_ok (C := C) (d := none) (t1 := hp.objs.size) (by heap_get))
  have rels : Vals (V.ref (hp.objs.size + 1) :: vs) (Value.ref (hp.objs.size + 1) :: us) := .cons rfl r1
  have many : (Value.ref (hp.objs.size + 1) :: us).length = ps.length := by rw [← rels.length, F1.len _ _ _ _ new]
  have few : us.length ≤ sizeLine := by rw [← Paired.length r1, sizeLine_eq]; omega
  have bound := bind _ (Value.ref (hp.objs.size + 1) :: us) J.kIn (by simpa using many)
  rw [List.append_nil] at bound
  refine wpAny_call (PySem.HandSPX.call_own F.excBase_ValueError (fun Y => PySem.HandSPX.refsVE_contains Y bm hbm) (I1.kIn _ _ hC) (PySem.W.looks_findIn I1.kIn iC) (fun self => PySem.W.bind_fn I1.kIn self tI) few
    (codeAny_mono (F1.run _ X.stack _ _ _ _ _ _ E0 (room.make C us []) (J.env0.make C us []) bound rels new) fun r s' out => ?_))
  cases r with
  | error er => exact out.elim
  | ok fl =>
    cases fl with
    | ret u =>
      obtain ⟨v, H2, os2, bare2, un2, hok2, rv, ev, d, fs, ea, ed, hd1, q2⟩ := out
      subst ev
      obtain ⟨h2, g2, d2, t2, os'⟩ := s'
      obtain ⟨t0, G, J2, kG, ge, hoe, na⟩ := mk_end0 (d2 := d2) (t2 := t2) I1 (Nat.le_succ hp.objs.size) keep un2 hok2 os2 bare2 ea ed hd1
      refine ⟨rv, hp.objs.size + 1, _, _, ⟨G, g2, d2, t2, os'⟩, _, .ref C, some d, rfl, J2, kG, ge, hoe, ⟨rfl, rfl, fun vs hv => ?_⟩, rfl, rfl, na, rfl, bare2, raises_own T.exC T.tyC, q2⟩
      cases hv
      rfl
    | next => exact False.elim out
    | brk => exact False.elim out
    | cont => exact False.elim out
end
/-- C(e, ..), whose __init__ may let an error out at the slots that stand -/
def tMakeS (C : Addr) (sp : Sp) (E : L2.St → XK) (t : TA) : TE := fun σ H Q => t σ H fun vs H1 => ∀ x dx, H1 x = none → H1 dx = none → dx ≠ x → sp (.ref x :: vs) (upd (upd H1 dx (.own x)) x (.ins C dx [])) (fun v H2 => v = .non ∧ Q (.ref x) H2) (E σ)
section
variable {X : Cx} {CX : CXT} {e : Expr} {es : List Expr} {t : TA} {p pos : Pos} {x : Str} {C f : Addr} {k : Nat} {fd : FuncData} {ps : List Str} {sp : Sp} {E : L2.St → XK}
theorem pe_makeS (M : Mk X.K C f) (F : FnOk X.prog X.w X.K X.mg X.base CX k f fd ps sp) (room : Room (k + 1) X.A) (hg : Gl X x) (hm : X.mg x = some (.ref C)) (bind : Binds X.K fd ps []) (out : ∀ σ, PassesAt CX X σ (E σ))
    (ha : PA X (e :: es) t) (dbg : (x == ("__debug__" : Str)) = false := by decide) (he : starEach (e :: es) X.env = (false, eval e X.env) :: starEach es X.env := by rfl) (plain : (backTo pos (starEach es X.env)).any (·.1) = false := by rfl) :
    PE X (.Call (.Name x p) (e :: es) [] pos) (tMakeS C sp E t) := by
  refine ⟨fun pins s σ H Q I h => wpAny_Call_Name_kw (ld_glob I hg hm (PySem.W.callWith_K (h₀ := X.base) I.ok.mod.kin M.kp (thn (ha.run pos pins s σ H _ I h) fun us s1 got => ?_) he plain) dbg)⟩
  obtain ⟨vs, H1, I1, r1, q1⟩ := got
  refine ⟨I1.kIn, ?_⟩
  have asked := q1 (s1.heap.objs.size + 1) s1.heap.objs.size (I1.hok.fresh (Nat.le_succ _)) (I1.hok.fresh (Nat.le_refl _)) (Nat.ne_of_lt (Nat.lt_succ_self _))
  have J := Inv.made (C := C) I1
  have rels : Vals (V.ref (s1.heap.objs.size + 1) :: vs) (Value.ref (s1.heap.objs.size + 1) :: us) := .cons rfl r1
  have many : (Value.ref (s1.heap.objs.size + 1) :: us).length = ps.length := by rw [← rels.length, F.len _ _ _ _ asked]
  have bound := bind _ (Value.ref (s1.heap.objs.size + 1) :: us) J.kIn (by simpa using many)
  rw [List.append_nil] at bound
  refine wpAny_call (make_map (f := f) I1.kIn M.makes M.init (beq_iff_eq.mp M.fn) (codeAny_mono (F.run _ X.stack _ _ ⟨Value.ref (s1.heap.objs.size + 1) :: us, []⟩ _ _ _ (E σ) (room.make C us []) (J.env0.make C us []) bound rels asked) fun r s' res => ?_))
  cases r with
  | error er => exact out σ pins _ _ er s' J res
  | ok fl =>
    cases fl with
    | ret u =>
      obtain ⟨v, H2, J2, rv, ev, q3⟩ := J.after res
      subst ev
      exact ⟨rv, ⟨V.ref (s1.heap.objs.size + 1), H2, J2, rfl, q3⟩⟩
    | next => exact False.elim res
    | brk => exact False.elim res
    | cont => exact False.elim res
end
end LR

namespace LK
open PySem PySem.Spec PyProof.Rows L2 LR
/-! ### Row.__init__ -/
/-- all_steps called with its holders alone -/
structure De (K : PySem.W.Frag) (mg : Str → Option Value) (x : Str) (st : Stmt) (f : Addr) (fd : FuncData) (ps : List Str) (t : Addr) : Prop where
  d : Dd K mg x st f fd ps
  b1 : Binds K fd ps [.ref t]
  emp : ∀ H, SqT K H t []
def pRow : List Str := ["self", "kind", "told", "exprs", "inner", "own_names"]
structure RowM (K : PySem.W.Frag) (mg : Str → Option Value) (C : Addr) (mc : Value) (f : Addr) (fd : FuncData) (t tU tV : Addr) : Prop where
  F : FunD K "__init__" "Row.__init__" (defArgs sRowInit) (defBody sRowInit) (defScope sRowInit) [V.ref t, V.ref tU, V.ref tV] [] f fd
  b0 : Binds K fd pRow []
  b1 : Binds K fd pRow [.ref tV]
  b3 : Binds K fd pRow [.ref t, .ref tU, .ref tV]
  emp : ∀ H, SqT K H t []
  empU : ∀ H, SqT K H tU []
  empV : ∀ H, SqT K H tV []
  rd : ClX.CRead K C mc
  cv : ClX.CVal K C mc "__init__" (.ref f) (.ref f)
  kp : PySem.W.keepIn K (.ref f) = true
  g : mg "Row" = some (.ref C)
def newF (fs : List (Str × V)) : Prop := ∀ f ∈ (["kind", "told", "inner", "size", "names", "steps"] : List Str), fs.lookup f = none
def spRowInit (K : PySem.W.Frag) (C cS : Addr) (cR : Nat → Addr) : Sp := fun vs H Q _ => ∃ (CR x dx : Addr) (fs : List (Str × V)) (kd : Str) (T : V) (p q o : Addr) (es : List (V × Md)) (is : List (V × Rw)) (ow : List Str) (H0 : Hp), vs = [.ref x, .str kd, T, .ref p, .ref q, .ref o] ∧ RwC K C cS CR ∧ H x = some (.ins CR dx fs) ∧ newF fs ∧ fs.length < 100 ∧
  SqT K H p (es.map (·.1)) ∧ SqT K H q (is.map (·.1)) ∧ SqT K H o (ow.map V.str) ∧ (∀ e ∈ es, ∃ es', FldX K C cS H e.2 e.1 es') ∧ H0 x = none ∧ Same H0 H ∧ (∀ e ∈ is, ∃ xs, RwF K C cS cR H0 e.2 e.1 xs) ∧
  (∃ N : List Str, (∀ k ∈ ow ++ ((es.map fun e => lvs e.2) ++ (is.map fun e => lvsR e.2)).flatten, k ∈ N) ∧ ow.length + (es.length + is.length) * N.length < 64) ∧
  (∃ M : List (Str × Str), (∀ k ∈ ((es.map fun e => sts e.2) ++ (is.map fun e => stsR e.2)).flatten, k ∈ M) ∧ (es.length + is.length) * M.length < 1000) ∧ es.length + is.length < 64 ∧
  ∀ (H' : Hp) (q1 q2 : Addr) (ys : List Str) (bs : List V) (ks : List (Str × Str)), H' x = some (.ins CR dx (fs ++ rowT kd T q (1 + ((is.map fun e => lcR e.2).sum : Nat)) q1 q2)) → H' q1 = some (.tup (ys.map V.str)) → NmsOf (ow ++ ((es.map fun e => lvs e.2) ++ (is.map fun e => lvsR e.2)).flatten) ys → H' q2 = some (.tup bs) → KeyL cS H' bs ks →
    KysOf ((es.map fun e => sts e.2) ++ (is.map fun e => stsR e.2)).flatten ks → Keep x H H' → Same H0 H' → Q .non H'
/-- while it is filled -/
structure FillR (K : PySem.W.Frag) (C cS CR x dx : Addr) (es : List (V × Md)) (sq : List (Addr × List V)) (tr : List (Addr × List V)) (kk : List (List V × List (Str × Str))) (H0 H1 H : Hp) (fs : List (Str × V)) : Prop where
  at_ : H x = some (.ins CR dx fs)
  sq : ∀ t ∈ sq, SqT K H t.1 t.2
  tr : ∀ t ∈ tr, H t.1 = some (.tup t.2)
  kk : ∀ k ∈ kk, KeyL cS H k.1 k.2
  pk : ∀ e ∈ es, ∃ es', FldX K C cS H e.2 e.1 es'
  s0 : Same H0 H
  kp : Keep x H1 H
section
variable {K : PySem.W.Frag} {C cS CR x dx : Addr} {es : List (V × Md)} {sq tr : List (Addr × List V)} {kk : List (List V × List (Str × Str))} {H0 H1 H H' : Hp} {fs : List (Str × V)}
theorem FillR.same (h : FillR K C cS CR x dx es sq tr kk H0 H1 H fs) (s : Same H H') : FillR K C cS CR x dx es sq tr kk H0 H1 H' fs :=
  ⟨s _ _ h.at_, fun t ht => SqT.same s (h.sq t ht), fun t ht => s _ _ (h.tr t ht), fun k hk => (h.kk k hk).same s, fun e he => (h.pk e he).imp fun _ f => fldX_tr (Tr.same s) f, h.s0.trans s, h.kp.trans (Keep.same s)⟩
theorem FillR.put (h : FillR K C cS CR x dx es sq tr kk H0 H1 H fs) (n1 : CR ≠ C) (n2 : CR ≠ cS) (z : H0 x = none) (gs : List (Str × V)) : FillR K C cS CR x dx es sq tr kk H0 H1 (upd H x (.ins CR dx gs)) gs := by
  have t : TrX C cS H (upd H x (.ins CR dx gs)) := TrX.put n1 n2 h.at_
  exact ⟨upd_same, fun u hu => sqT_trX t (h.sq u hu), fun u hu => t.tup _ _ (h.tr u hu), fun k hk => keyL_trX t (h.kk k hk), fun e he => (h.pk e he).imp fun _ f => fldX_trX t f, fun b o e => by rw [upd_ne (ne_of_none e z)]; exact h.s0 b o e, h.kp.trans Keep.put⟩
theorem FillR.tup (h : FillR K C cS CR x dx es sq tr kk H0 H1 H fs) {q : Addr} {ys : List V} (t : H q = some (.tup ys)) : FillR K C cS CR x dx es sq ((q, ys) :: tr) kk H0 H1 H fs :=
  ⟨h.at_, h.sq, fun u hu => (List.mem_cons.mp hu).elim (fun e => by rw [e]; exact t) (h.tr u), h.kk, h.pk, h.s0, h.kp⟩
theorem FillR.key (h : FillR K C cS CR x dx es sq tr kk H0 H1 H fs) {bs : List V} {js : List (Str × Str)} (t : KeyL cS H bs js) : FillR K C cS CR x dx es sq tr ((bs, js) :: kk) H0 H1 H fs :=
  ⟨h.at_, h.sq, h.tr, fun u hu => (List.mem_cons.mp hu).elim (fun e => by rw [e]; exact t) (h.kk u), h.pk, h.s0, h.kp⟩
end
section
variable {P : Program} {w : World} {K : PySem.W.Frag} {mg : Str → Option Value} {base : Heap}
def nRowI : List Str := ["self", "kind", "told", "exprs", "inner", "own_names", "row"]
theorem scRowI : FnScope nRowI pRow (defScope sRowInit) := ⟨rfl, rfl, rfl, by decide +kernel, rfl, by decide +kernel, by decide +kernel⟩
theorem ok_rowInit {C cS cRow f fN fS t tU tV tS : Addr} {mc : Value} {cR : Nat → Addr} {fd fdN fdS : FuncData} (S : Std mg) (cE : Cls K C) (nE : ExN K C) (clS : Cls K cS) (s1 : NoAttr K cS "name") (s2 : NoAttr K cS "ways") (RC : ∀ i, i < 6 → RwC K C cS (cR i)) (M : RowM K mg cRow mc f fd t tU tV)
    (N : Dd K mg "all_names" sAllNames fN fdN ["holders", "more"]) (T : De K mg "all_steps" sAllSteps fS fdS ["holders", "more"] tS) : FnOk P w K mg base CX0 2 f fd pRow (spRowInit K C cS cR) := by
  have GN : FnOk P w K mg base CX0 1 fN fdN ["holders", "more"] (spNamesP K) := ok_allNamesP S N
  have GS : FnOk P w K mg base CX0 1 fS fdS ["holders", "more"] (spStepsP K cS) := ok_allStepsP S clS s1 s2 T.d
  refine M.F.ok scRowI (fun vs H Q E h => ?_) (fun cdv A outer s H vs Q E hr h => ?_)
  · obtain ⟨CR, x, dx, fs, kd, T, p, q, o, es, is, ow, H0, rfl, _⟩ := h
    rfl
  · obtain ⟨CR, x, dx, fs, kd, T', p, q, o, es, is, ow, H0, rfl, rc, hx, nf, fl, hp, hq, ho, hk, z0, s0, hi, bN, bM, few, Qr⟩ := h
    refine ⟨_, PSs.nox (pss_cons (ps_fld (pv 0) (pv 1) rfl) (pss_cons (ps_fld (pv 0) (pv 2) rfl) (pss_cons (ps_fld (pv 0) (pv 4) rfl)
      (pss_cons (ps_fld (pv 0) (pe_op op_add pe_int (pe_callB (cr_sum rfl) (by rfl) S.sum (by decide +kernel) (pa_cons (pe_lc (own := [("row", 6)]) (g := gName 6) (tt := tYes) (te := tFld K (tVar 6) "size") rfl scRowI.nd
          (pi_tup (pv 4)) (blkOk_by (N := nRowI) (sc := defScope sRowInit) (by decide +kernel)) (fun _ _ _ _ _ => pg_name (i := 6) scRowI.nd rfl (Or.inl rfl)) (fun _ _ _ _ _ => pts_nil) (fun _ _ _ _ _ => pe_fld (pv 6) rfl)) pa_nil))) rfl)
      (pss_cons (ps_fld (pv 0) (pe_call GN hr rfl N.g N.kp N.b .nil pass0 (pa_cons (pe_op op_catA (pv 3) (pv 4)) (pa_cons (pv 5) pa_nil))) rfl)
      (pss_one (ps_fld (pv 0) (pe_call GS hr rfl T.d.g T.d.kp T.b1 (.cons (show RelV (V.ref tS) (Value.ref tS) from rfl) .nil) pass0 (pa_cons (pe_op op_catA (pv 3) (pv 4)) pa_nil)) rfl))))))), ?_⟩
    have f0 : FillR K C cS CR x dx es [(p, es.map (·.1)), (q, is.map (·.1)), (o, ow.map V.str)] [] [] H0 H H fs :=
      ⟨hx, fun t ht => by
        simp only [List.mem_cons, List.not_mem_nil, or_false] at ht
        rcases ht with rfl | rfl | rfl
        · exact hp
        · exact hq
        · exact ho, (fun _ h => nomatch h), (fun _ h => nomatch h), hk, s0, Keep.refl⟩
    have nfS : newF fs := nf
    refine ⟨_, rfl, _, rfl, x, CR, dx, _, rfl, f0.at_, rc.cl, rc.kind, by omega, ?_⟩
    have f1 := f0.put rc.nC rc.nS z0 (putF "kind" (.str kd) fs)
    rw [putF_new (nfS _ (by simp))] at f1 ⊢
    have l1 : (fs ++ [(("kind" : Str), V.str kd)]).length < 101 := by rw [List.length_append]; simp; omega
    have n1 : (fs ++ [(("kind" : Str), V.str kd)]).lookup ("told" : Str) = none := by rw [lookup_app (nfS _ (by simp))]; rfl
    have n1b : (fs ++ [(("kind" : Str), V.str kd)]).lookup ("inner" : Str) = none := by rw [lookup_app (nfS _ (by simp))]; rfl
    have n1c : (fs ++ [(("kind" : Str), V.str kd)]).lookup ("size" : Str) = none := by rw [lookup_app (nfS _ (by simp))]; rfl
    have n1d : (fs ++ [(("kind" : Str), V.str kd)]).lookup ("names" : Str) = none := by rw [lookup_app (nfS _ (by simp))]; rfl
    have n1e : (fs ++ [(("kind" : Str), V.str kd)]).lookup ("steps" : Str) = none := by rw [lookup_app (nfS _ (by simp))]; rfl
    generalize e1 : fs ++ [(("kind" : Str), V.str kd)] = g1 at f1 l1 n1 n1b n1c n1d n1e ⊢
    generalize upd H x (.ins CR dx g1) = Hb at f1 ⊢
    refine ⟨_, rfl, _, rfl, x, CR, dx, _, rfl, f1.at_, rc.cl, rc.told, by omega, ?_⟩
    have f2 := f1.put rc.nC rc.nS z0 (putF "told" T' g1)
    rw [putF_new n1] at f2 ⊢
    have l2 : (g1 ++ [(("told" : Str), T')]).length < 102 := by rw [List.length_append]; simp; omega
    have n2b : (g1 ++ [(("told" : Str), T')]).lookup ("inner" : Str) = none := by rw [lookup_app n1b]; rfl
    have n2c : (g1 ++ [(("told" : Str), T')]).lookup ("size" : Str) = none := by rw [lookup_app n1c]; rfl
    have n2d : (g1 ++ [(("told" : Str), T')]).lookup ("names" : Str) = none := by rw [lookup_app n1d]; rfl
    have n2e : (g1 ++ [(("told" : Str), T')]).lookup ("steps" : Str) = none := by rw [lookup_app n1e]; rfl
    generalize e2 : g1 ++ [(("told" : Str), T')] = g2 at f2 l2 n2b n2c n2d n2e ⊢
    generalize upd Hb x (.ins CR dx g2) = Hc at f2 ⊢
    refine ⟨_, rfl, _, rfl, x, CR, dx, _, rfl, f2.at_, rc.cl, rc.inner, by omega, ?_⟩
    have f3 := f2.put rc.nC rc.nS z0 (putF "inner" (.ref q) g2)
    rw [putF_new n2b] at f3 ⊢
    have l3 : (g2 ++ [(("inner" : Str), V.ref q)]).length < 103 := by rw [List.length_append]; simp; omega
    have n3c : (g2 ++ [(("inner" : Str), V.ref q)]).lookup ("size" : Str) = none := by rw [lookup_app n2c]; rfl
    have n3d : (g2 ++ [(("inner" : Str), V.ref q)]).lookup ("names" : Str) = none := by rw [lookup_app n2d]; rfl
    have n3e : (g2 ++ [(("inner" : Str), V.ref q)]).lookup ("steps" : Str) = none := by rw [lookup_app n2e]; rfl
    generalize e3 : g2 ++ [(("inner" : Str), V.ref q)] = g3 at f3 l3 n3c n3d n3e ⊢
    generalize upd Hc x (.ins CR dx g3) = Hg at f3 ⊢
    have sq : SqT K Hg q (is.map (·.1)) := f3.sq (q, is.map (·.1)) (by simp)
    refine ⟨_, rfl, q, rfl, ⟨_, sq⟩, fun D hD => lc_tup (xs := is.map fun e : V × Rw => e.1) (fun i H4 => Same Hg H4 ∧ H4 D = some (.lst (((((is.take i).map fun e => lcR e.2)).map fun n : Nat => (n : Int)).map V.int)))
      ⟨same_new hD, upd_same⟩ (fun i H4 _ h => SqT.same h.1 sq) (fun i v H4 hv h => ?_) (fun J h => ?_)⟩
    · obtain ⟨sm, d6⟩ := h
      rw [List.getElem?_map] at hv
      obtain ⟨e, he, rfl⟩ := Option.map_eq_some_iff.mp hv
      have lt : i < is.length := (List.getElem?_eq_some_iff.mp he).1
      obtain ⟨xs, rf⟩ := hi e (List.mem_of_getElem? he)
      obtain ⟨a, d', T, I, q1, q2, fs', ys', bs', ks', ea, ha, _, _, _, lz, _⟩ := rf.common
      refine ⟨rfl, _, rfl, a, _, d', _, _, ea, sm _ _ (f3.s0 _ _ ha), (RC _ (kiR_lt _)).cl, (RC _ (kiR_lt _)).size, lz, _, d6, ?_, same_put hD sm, ?_⟩
      · rw [List.length_map, List.length_map, List.length_map, List.length_take, sizeLine_eq]
        omega
      · rw [upd_same, List.take_add_one, he, List.map_append, List.map_append, List.map_append]
        rfl
    obtain ⟨sm, d6⟩ := h
    rw [List.length_map, List.take_length] at d6
    have f3' := f3.same sm
    refine ⟨D, _, rfl, SqL.of d6, _, _, rfl, rfl, ?_⟩
    refine ⟨_, rfl, x, CR, dx, _, rfl, f3'.at_, rc.cl, rc.size, by omega, ?_⟩
    rw [sum_cast] at *
    have f4 := f3'.put rc.nC rc.nS z0 (putF "size" (.int (1 + (((is.map fun e => lcR e.2).sum : Nat) : Int))) g3)
    rw [putF_new n3c] at f4 ⊢
    have l4 : (g3 ++ [(("size" : Str), V.int (1 + (((is.map fun e => lcR e.2).sum : Nat) : Int)))]).length < 104 := by rw [List.length_append]; simp; omega
    have n4d : (g3 ++ [(("size" : Str), V.int (1 + (((is.map fun e => lcR e.2).sum : Nat) : Int)))]).lookup ("names" : Str) = none := by rw [lookup_app n3d]; rfl
    have n4e : (g3 ++ [(("size" : Str), V.int (1 + (((is.map fun e => lcR e.2).sum : Nat) : Int)))]).lookup ("steps" : Str) = none := by rw [lookup_app n3e]; rfl
    generalize e4 : g3 ++ [(("size" : Str), V.int (1 + (((is.map fun e => lcR e.2).sum : Nat) : Int)))] = g4 at f4 l4 n4d n4e ⊢
    generalize upd J x (.ins CR dx g4) = He at f4 ⊢
    have sz : (es.map (·.1)).length + (is.map (·.1)).length ≤ sizeLine := by
      rw [List.length_map, List.length_map, sizeLine_eq]
      omega
    refine ⟨_, rfl, _, rfl, catA_read (f4.sq (p, es.map (·.1)) (by simp)) (f4.sq (q, is.map (·.1)) (by simp)) sz fun r H5 s5 t5 => ⟨_, rfl, ?_⟩⟩
    have f5 := f4.same s5
    refine ⟨r, o, ow, (es.map fun e => (e.1, lvs e.2)) ++ (is.map fun e => (e.1, lvsR e.2)), rfl, ?_, f5.sq (o, ow.map V.str) (by simp), fun e he => ?_, ?_, fun q4 ys J4 s4 n4 t4 no => ?_⟩
    · rw [List.map_append, List.map_map, List.map_map]
      exact t5
    · rcases List.mem_append.mp he with he | he
      · obtain ⟨e', he', rfl⟩ := List.mem_map.mp he
        obtain ⟨_, f⟩ := f5.pk e' he'
        exact f.hasNm cE nE
      · obtain ⟨e', he', rfl⟩ := List.mem_map.mp he
        obtain ⟨_, f⟩ := hi e' he'
        exact (rwF_tr (Tr.same f5.s0) f).hasNm RC
    · obtain ⟨N, h1, h2⟩ := bN
      refine ⟨N, fun k hk => h1 k ?_, by rw [List.length_append, List.length_map, List.length_map]; exact h2⟩
      rwa [List.map_append, List.map_map, List.map_map] at hk
    rw [List.map_append, List.map_map, List.map_map] at no
    have f6 := (f5.same s4).tup t4
    refine ⟨_, rfl, x, CR, dx, _, rfl, f6.at_, rc.cl, rc.names, by omega, ?_⟩
    have f7 := f6.put rc.nC rc.nS z0 (putF "names" (.ref q4) g4)
    rw [putF_new n4d] at f7 ⊢
    have l5 : (g4 ++ [(("names" : Str), V.ref q4)]).length < 105 := by rw [List.length_append]; simp; omega
    have n5e : (g4 ++ [(("names" : Str), V.ref q4)]).lookup ("steps" : Str) = none := by rw [lookup_app n4e]; rfl
    generalize e5 : g4 ++ [(("names" : Str), V.ref q4)] = g5 at f7 l5 n5e ⊢
    generalize upd J4 x (.ins CR dx g5) = Hf at f7 ⊢
    refine ⟨_, rfl, _, rfl, catA_read (f7.sq (p, es.map (·.1)) (by simp)) (f7.sq (q, is.map (·.1)) (by simp)) sz fun r2 H8 s8 t8 => ?_⟩
    have f8 := f7.same s8
    refine ⟨r2, tS, [], [], (es.map fun e => (e.1, sts e.2)) ++ (is.map fun e => (e.1, stsR e.2)), rfl, ?_, T.emp _, KeyL.nil, fun e he => ?_, ?_, fun q5 bs js J5 s9 n9 t9 kl ky => ?_⟩
    · rw [List.map_append, List.map_map, List.map_map]
      exact t8
    · rcases List.mem_append.mp he with he | he
      · obtain ⟨e', he', rfl⟩ := List.mem_map.mp he
        obtain ⟨_, f⟩ := f8.pk e' he'
        exact f.hasSt cE nE
      · obtain ⟨e', he', rfl⟩ := List.mem_map.mp he
        obtain ⟨_, f⟩ := hi e' he'
        exact (rwF_tr (Tr.same f8.s0) f).hasSt RC
    · obtain ⟨N, h1, h2⟩ := bM
      refine ⟨N, fun k hk => h1 k ?_, by rw [List.length_append, List.length_map, List.length_map]; simpa using h2⟩
      rwa [List.map_append, List.map_map, List.map_map, List.nil_append] at hk
    rw [List.map_append, List.map_map, List.map_map, List.nil_append] at ky
    have f9 := ((f8.same s9).tup t9).key kl
    refine ⟨_, rfl, x, CR, dx, _, rfl, f9.at_, rc.cl, rc.steps, by omega, ?_⟩
    have f10 := f9.put rc.nC rc.nS z0 (putF "steps" (.ref q5) g5)
    rw [putF_new n5e] at f10 ⊢
    refine Qr _ q4 q5 ys bs js ?_ (f10.tr (q4, ys.map V.str) (by simp)) no (f10.tr (q5, bs) (by simp)) (f10.kk (bs, js) (by simp)) ky f10.kp f10.s0
    refine f10.at_.trans ?_
    rw [← e5, ← e4, ← e3, ← e2, ← e1]
    simp
end
end LK

namespace LK
open PySem PySem.Spec PyProof.Rows L2
/-! ### the errors -/
def eN : Nat → Str
  | 0 => "InvalidStep"
  | 1 => "InvalidTrait"
  | 2 => "InvalidExpr"
  | 3 => "InvalidRow"
  | 4 => "InvalidText"
  | 5 => "InvalidWorld"
  | 6 => "InvalidStart"
  | 7 => "InvalidClaim"
  | 8 => "NoName"
  | 9 => "NoStep"
  | _ => "NoRow"
def eQ : Nat → Str
  | 0 => "InvalidStep.__init__"
  | 1 => "InvalidTrait.__init__"
  | 2 => "InvalidExpr.__init__"
  | 3 => "InvalidRow.__init__"
  | 4 => "InvalidText.__init__"
  | 5 => "InvalidWorld.__init__"
  | 6 => "InvalidStart.__init__"
  | 7 => "InvalidClaim.__init__"
  | 8 => "NoName.__init__"
  | 9 => "NoStep.__init__"
  | _ => "NoRow.__init__"
def eF : Nat → Str
  | 4 => "at"
  | 10 => "at"
  | 6 => "name"
  | 8 => "name"
  | 9 => "name"
  | _ => "word"
def eS (i : Nat) : Stmt := inClass (top (i + 2)) 0
/-- one of the errors that keep an argument -/
structure Er (K : PySem.W.Frag) (mg : Str → Option Value) (i : Nat) (C f : Addr) (fd : FuncData) : Prop where
  g : mg (eN i) = some (.ref C)
  T : OexC K C
  X : XfC K C
  E : ExcC K C
  ini : PySem.W.findIn K (.ref C) "__init__" = some (some (.ref f))
  ti : PySem.W.typeIn K (.ref f) = some (.type "function")
  F : Fun K "__init__" (eQ i) (eS i) f fd
  b : Binds K fd ["self", eF i] []
  no : PySem.W.findIn K (.ref C) (eF i) = some none
/-- one of the two that keep none -/
structure Er0 (K : PySem.W.Frag) (mg : Str → Option Value) (x : Str) (C : Addr) : Prop where
  g : mg x = some (.ref C)
  T : OexC K C
  E : ExcC K C
  ini : PySem.W.findIn K (.ref C) "__init__" = some (some (.builtin "ValueError.__init__"))
/-- an error of the class C at a, that keeps v -/
def ErrAt (C : Addr) (x : Str) (H : Hp) (a : Addr) (v : V) : Prop := ∃ dx, H a = some (exo a C (some dx)) ∧ H dx = some (exd dx [(x, v)])
theorem ErrAt.same {C a : Addr} {x : Str} {H H' : Hp} {v : V} (s : Same H H') (h : ErrAt C x H a v) : ErrAt C x H' a v := by
  obtain ⟨dx, h1, h2⟩ := h
  exact ⟨dx, s _ _ h1, s _ _ h2⟩
def spErr (C : Addr) (x : Str) : Sp := fun vs H Q _ => ∃ (a : Addr) (v : V), vs = [.ref a, v] ∧ H a = some (exo a C none) ∧ ∀ H2, ErrAt C x H2 a v → Keep a H H2 → Q .non H2
theorem spErr_ret {C : Addr} {x : Str} : ∀ vs H Q, spErr C x vs H Q E0 → spErr C x vs H (fun v H' => v = .non ∧ Q v H') E0 := fun vs H Q h => by
  obtain ⟨a, v, e, ha, q⟩ := h
  exact ⟨a, v, e, ha, fun H2 h2 k => ⟨rfl, q H2 h2 k⟩⟩
theorem errV {C : Addr} {x : Str} {H : Hp} {v : V} {Q : Addr → Hp → Prop} (q : ∀ a H2, H a = none → ErrAt C x H2 a v → Same H H2 → Q a H2) : ([v] : List V).length ≤ 1000 ∧ ∀ a, H a = none → spErr C x (.ref a :: [v]) (upd H a (exo a C none)) (fun _ H2 => Q a H2) E0 :=
  ⟨by show 1 ≤ 1000; decide, fun a ha => ⟨a, v, rfl, upd_same, fun H2 e k => q a H2 ha e fun b o z => k b o (ne_of_none z ha) (by rw [upd_ne (ne_of_none z ha)]; exact z)⟩⟩
/-- a list by a comprehension over an enumerated list -/
theorem lc_enum {K : PySem.W.Frag} {a : Addr} {xs : List V} {g : TG} {tt : TT} {te : TE} {vs : List Nat} {σ : L2.St} {H1 : Hp} {D : Addr} {Qd : Hp → Prop} (Pv : Nat → Hp → Prop) (h0 : Pv 0 (upd H1 D (.lst []))) (hq : ∀ i H, Pv i H → SqL K H a xs)
    (hs : ∀ (i : Nat) (x : V) (T : Addr) (H : Hp), xs[i]? = some x → Pv i H → H T = none → g (.ref T) (wipe σ vs) (upd H T (.tup [.int (i : Nat), x])) fun σ2 H2 => wipe σ2 vs = wipe σ vs ∧ tt σ2 H2 fun b H3 =>
      if b = true then te σ2 H3 fun y H4 => ∃ acc, H4 D = some (.lst acc) ∧ acc.length < sizeLine ∧ Pv (i + 1) (upd H4 D (.lst (acc ++ [y]))) else Pv (i + 1) H3) (hd : ∀ H, Pv xs.length H → Qd H) :
    ∃ W : Nat → Nat → Hp → Prop, (∃ m, W 0 m (upd H1 D (.lst []))) ∧ ∀ i m H, W i m H →
      ((Ite K a).stop i H ∧ Qd H) ∨ ((Ite K a).go i H ∧ ∃ Nx : Hp → Prop, (∀ H', Nx H' → ∃ m', m' < m ∧ W (i + 1) m' H') ∧ ∀ x H', (Ite K a).yld i H x H' → g x (wipe σ vs) H' fun σ2 H2 => wipe σ2 vs = wipe σ vs ∧ tt σ2 H2 fun b H3 =>
        if b = true then te σ2 H3 fun y H4 => ∃ acc, H4 D = some (.lst acc) ∧ acc.length < sizeLine ∧ Nx (upd H4 D (.lst (acc ++ [y]))) else Nx H3) := by
  refine ⟨fun i m H => m + i = xs.length ∧ Pv i H, ⟨xs.length, rfl, h0⟩, fun i m H w => ?_⟩
  obtain ⟨e, p⟩ := w
  have q := hq i H p
  by_cases lt : i < xs.length
  · refine .inr ⟨⟨xs, xs[i], q, by simp [lt]⟩, Pv (i + 1), fun H' p' => ⟨m - 1, by omega, by omega, p'⟩, fun v H' y => ?_⟩
    obtain ⟨T, x, rfl, hT, rfl, hx⟩ := y
    exact hs i x T H (hx xs q) p hT
  · refine .inl ⟨⟨xs, q, by omega⟩, hd H ?_⟩
    rw [show xs.length = i by omega]
    exact p
/-- where the trues stand -/
def ix : List Bool → Nat → List Int
  | [], _ => []
  | b :: r, i => (if b = true then [(i : Int)] else []) ++ ix r (i + 1)
theorem ix_add : ∀ (bs : List Bool) (b : Bool) (i : Nat), ix (bs ++ [b]) i = ix bs i ++ (if b = true then [((i + bs.length : Nat) : Int)] else [])
  | [], b, i => by
    show (if b = true then [(i : Int)] else []) ++ [] = [] ++ _
    rw [List.append_nil, List.nil_append]
    rfl
  | c :: r, b, i => by
    show (if c = true then [(i : Int)] else []) ++ ix (r ++ [b]) (i + 1) = ((if c = true then [(i : Int)] else []) ++ ix r (i + 1)) ++ _
    rw [ix_add r b (i + 1), List.append_assoc, List.length_cons, show i + 1 + r.length = i + (r.length + 1) by omega]
theorem ix_len : ∀ (bs : List Bool) (i : Nat), (ix bs i).length ≤ bs.length
  | [], _ => Nat.le_refl _
  | c :: r, i => by
    show ((if c = true then [(i : Int)] else []) ++ ix r (i + 1)).length ≤ r.length + 1
    rw [List.length_append]
    have := ix_len r (i + 1)
    cases c <;> simp <;> omega
def spRef (K : PySem.W.Frag) (C : Nat → Addr) : Sp := fun vs H Q _ => ∃ (a D : Addr) (d : Option Addr) (b : Nat → Bool), vs = [.ref a] ∧ H a = some (exo a D d) ∧ (∀ dx, d = some dx → ∃ fs, H dx = some (exd dx fs)) ∧ ExcC K D ∧ (∀ j, j < 12 → PySem.W.kitOne K (.ref D) (.ref (C j)) = some (b j)) ∧
  ∀ p H', Same H H' → H' p = some (.lst ((ix ((List.range 12).map b) 0).map V.int)) → Q (.ref p) H'
section
variable {P : Program} {w : World} {K : PySem.W.Frag} {mg : Str → Option Value} {base : Heap}
theorem scErr3 : FnScope ["self", "word"] ["self", "word"] (defScope (eS 3)) := ⟨rfl, rfl, rfl, by decide +kernel, rfl, by decide +kernel, by decide +kernel⟩
theorem err_put {C a : Addr} {x : Str} {H : Hp} {v : V} {Q : VK} (ha : H a = some (exo a C none)) (q : ∀ H2, ErrAt C x H2 a v → Keep a H H2 → Q .non H2) (dx : Addr) (hdx : H dx = none) (ne : dx ≠ a) : Q .non (upd (upd H dx (exd dx [(x, v)])) a (exo a C (some dx))) := by
  refine q _ ⟨dx, upd_same, ?_⟩ fun b o n e => ?_
  · rw [upd_ne ne]
    exact upd_same
  · rw [upd_ne n, upd_ne (ne_of_none e hdx)]
    exact e
theorem ok_err3 {C f : Addr} {fd : FuncData} (e : Er K mg 3 C f fd) : FnOk P w K mg base CX0 1 f fd ["self", "word"] (spErr C "word") := by
  refine e.F.ok scErr3 (fun vs H Q E h => ?_) (fun cdv A outer s H vs Q E hr h => ?_)
  · obtain ⟨_, _, rfl, _⟩ := h
    rfl
  · obtain ⟨a, v, rfl, ha, q⟩ := h
    exact ⟨_, pss_one (ps_ost (pv 0) (pv 1)), _, rfl, _, rfl, a, C, rfl, e.T, e.no, .inl ⟨ha, err_put ha q⟩⟩
end
end LK

namespace LK
open PySem PySem.Spec PyProof.Rows L2
/-! ### which values are names, which ways -/
def lowB (z : Str) : Bool := z.cps.toList.all fun c => decide (c ∈ letters.cps.toList)
def keptW : List V := [.str "if", .str "else", .str "end"]
def nameB : V → Bool
  | .str z => decide ((1 : Int) ≤ z.length) && (decide ((z.length : Int) ≤ 4) && (!inV (.str z) keptW && lowB z))
  | _ => false
def signB (z : Str) : Bool := z.cps.toList.all fun c => decide (c ∈ ("+-?" : Str).cps.toList)
def waysB : V → Bool
  | .str z => decide ((1 : Int) ≤ z.length) && (decide ((z.length : Int) ≤ 3) && signB z)
  | _ => false
/-- whether a value is a text is known -/
def Seen (K : PySem.W.Frag) (H : Hp) (v : V) : Prop := (∃ z : Str, v = .str z ∧ z.length ≤ 1000) ∨ ((∀ z, v ≠ .str z) ∧ ∃ t, TyX K H v t ∧ PySem.W.kitOne K t (.type "str") = some false)
theorem nameB_not {v : V} (h : ∀ z, v ≠ .str z) : nameB v = false := by
  cases v <;> first | rfl | exact absurd rfl (h _)
theorem waysB_not {v : V} (h : ∀ z, v ≠ .str z) : waysB v = false := by
  cases v <;> first | rfl | exact absurd rfl (h _)
def spIsB (K : PySem.W.Frag) (b : V → Bool) : Sp := fun vs H Q _ => ∃ v, vs = [v] ∧ Seen K H v ∧ ∀ H', Same H H' → Q (.bl (b v)) H'
section
variable {P : Program} {w : World} {K : PySem.W.Frag} {mg : Str → Option Value} {base : Heap}
theorem take_bl {z : Str} {f : Nat → Bool} {i c : Nat} (hc : z.cps[i]? = some c) : ((z.cps.toList.take (i + 1)).map fun c => V.bl (f c)) = ((z.cps.toList.take i).map fun c => V.bl (f c)) ++ [V.bl (f c)] := by
  have e : z.cps.toList[i]? = some c := by simpa using hc
  rw [List.take_add_one, e, List.map_append]
  rfl
theorem ok_isNameV {f kw : Addr} {fd : FuncData} (S : Std mg) (W : Words K mg kw) (F : Fun K "is_name" "is_name" sIsName f fd) : FnOk P w K mg base CX0 1 f fd ["value"] (spIsB K nameB) := by
  refine F.ok scIs (fun vs H Q E h => ?_) (fun cdv A outer s H vs Q E hr h => ?_)
  · obtain ⟨v, rfl, _⟩ := h
    rfl
  · obtain ⟨v, rfl, seen, q⟩ := h
    obtain ⟨t1, m1⟩ := W.longest
    obtain ⟨t2, m2⟩ := W.letters
    refine ⟨_, pss_cons (ps_if (PW.pt (pw_or (pt_not (pt_val (pe_callB call_isi (by rfl) S.isi (by decide +kernel) (pa_cons (pv 0) (pa_cons (pe_bltn (v := .ty "str") (by rfl) S.str (by decide +kernel) rfl) pa_nil)))))
          (pw_or1 (pt_not (pt_chain op_le op_le pe_int (pe_callB call_len (by rfl) S.len PySem.boot_len (pa_cons (pv 0) pa_nil)) (pe_glob (v := .int 4) rfl m1 ⟨_, rfl⟩))))))
        (pss_one (ps_ret pe_bl)) pss_nil)
      (pss_one (ps_ret (pe_and (pe_cmpR op_notIn_seq (pv 0) (pe_glob (v := .ref kw) rfl W.kept rfl) (by rfl))
        (pe_one (pe_callB (cr_all rfl) (by rfl) S.all (by decide +kernel) (pa_cons (pe_lc (own := [("letter", 1)]) (g := gName 1) (tt := tYes) rfl scIs.nd
            (pi_str (pv 0)) (blkOk_by (N := nIs) (sc := defScope sIsName) (by decide +kernel)) (fun _ _ _ _ _ => pg_name (i := 1) scIs.nd rfl (Or.inl rfl)) (fun _ _ _ _ _ => pts_nil)
            (fun _ _ _ _ _ => pe_cmpR op_in_sign (pv 1) (pe_glob (v := .str letters) rfl m2 ⟨_, rfl⟩) (by rfl))) pa_nil)))))), ?_⟩
    rcases seen with ⟨z, rfl, len⟩ | ⟨no, t, ty, kt⟩
    · have zl : z.length = z.cps.size := rfl
      refine ⟨_, rfl, _, _, _, _, true, rfl, .ty "str", .base (.str z), kit_ty (by decide +kernel), true, rfl, iteF ?_⟩
      refine ⟨_, rfl, _, z.length, rfl, ⟨by rw [sizeLine_eq]; omega, rfl⟩, _, _, rfl, rfl, _, rfl, ?_⟩
      have ans : ∀ {b : Bool} {H'}, nameB (.str z) = b → Same H H' → Q (.bl b) H' := fun e s => by rw [← e]; exact q _ s
      by_cases h1 : (1 : Int) ≤ z.length
      · rw [decide_eq_true h1]
        refine iteT ⟨_, _, rfl, rfl, _, rfl, ?_⟩
        by_cases h4 : (z.length : Int) ≤ 4
        · rw [decide_eq_true h4]
          refine iteF ⟨_, rfl, kw, _, rfl, .inr (W.tup H), rfl, by decide +kernel, ?_⟩
          rw [if_pos rfl]
          refine ⟨_, rfl, ite2 (fun hk => ?_) (fun hk => ?_)⟩
          · refine ⟨_, rfl, z, rfl, fun D hD => lc_str (fun i H4 => Keep D H H4 ∧ H4 D = some (.lst ((z.cps.toList.take i).map fun c => V.bl (decide (c ∈ letters.cps.toList))))) ⟨Keep.new hD, upd_same⟩ (fun i c H4 hc ⟨k4, d4⟩ => ?_) (fun H4 ⟨k4, d4⟩ => ?_)⟩
            · have lt : i < z.cps.size := (Array.getElem?_eq_some_iff.mp hc).1
              refine ⟨rfl, _, rfl, c, letters, rfl, rfl, _, d4, ?_, fun b o n e => ?_, ?_⟩
              · rw [List.length_map, List.length_take]
                exact small1000 (by omega)
              · rw [upd_ne n]
                exact k4 b o n e
              · rw [upd_same, take_bl hc]
            · refine ⟨D, (z.cps.toList.map fun c => decide (c ∈ letters.cps.toList)), rfl, SqL.of ?_, ?_⟩
              · rw [d4, List.map_map, show z.cps.size = z.cps.toList.length by simp, List.take_length]
                rfl
              · refine ans ?_ fun b o e => k4 b o (ne_of_none e hD) e
                have hk' : inV (.str z) keptW = false := by unfold keptW; simpa using hk
                show (decide ((1 : Int) ≤ z.length) && (decide ((z.length : Int) ≤ 4) && (!inV (.str z) keptW && lowB z))) = _
                rw [decide_eq_true h1, decide_eq_true h4, hk']
                simp [lowB, List.all_map, Function.comp_def]
          · refine ans ?_ fun _ _ e => e
            have hk' : inV (.str z) keptW = true := by unfold keptW; simpa using hk
            show (decide ((1 : Int) ≤ z.length) && (decide ((z.length : Int) ≤ 4) && (!inV (.str z) keptW && lowB z))) = _
            rw [hk']
            simp
        · rw [decide_eq_false h4]
          refine iteT (ans ?_ fun _ _ e => e)
          show (decide ((1 : Int) ≤ z.length) && (decide ((z.length : Int) ≤ 4) && (!inV (.str z) keptW && lowB z))) = _
          rw [decide_eq_false h4]
          simp
      · rw [decide_eq_false h1]
        refine iteF ⟨_, rfl, iteT (ans ?_ fun _ _ e => e)⟩
        show (decide ((1 : Int) ≤ z.length) && (decide ((z.length : Int) ≤ 4) && (!inV (.str z) keptW && lowB z))) = _
        rw [decide_eq_false h1]
        rfl
    · refine ⟨_, rfl, _, _, _, _, false, rfl, .ty "str", ty, kt, false, rfl, iteT ?_⟩
      have e := nameB_not no
      have z := q H fun _ _ e => e
      rw [e] at z
      exact z
theorem ok_areWaysV {f : Addr} {fd : FuncData} {t1 t2 : Tok} (S : Std mg) (m1 : mg "MOST_ARGUMENTS" = some (.int 3 t1)) (m2 : mg "WAYS" = some (.str "+-?" t2)) (F : Fun K "_are_ways" "_are_ways" sAreWays f fd) : FnOk P w K mg base CX0 1 f fd ["value"] (spIsB K waysB) := by
  refine F.ok scWaysOk (fun vs H Q E h => ?_) (fun cdv A outer s H vs Q E hr h => ?_)
  · obtain ⟨v, rfl, _⟩ := h
    rfl
  · obtain ⟨v, rfl, seen, q⟩ := h
    refine ⟨_, pss_cons (ps_if (PW.pt (pw_or (pt_not (pt_val (pe_callB call_isi (by rfl) S.isi (by decide +kernel) (pa_cons (pv 0) (pa_cons (pe_bltn (v := .ty "str") (by rfl) S.str (by decide +kernel) rfl) pa_nil)))))
          (pw_or1 (pt_not (pt_chain op_le op_le pe_int (pe_callB call_len (by rfl) S.len PySem.boot_len (pa_cons (pv 0) pa_nil)) (pe_glob (v := .int 3) rfl m1 ⟨_, rfl⟩))))))
        (pss_one (ps_ret pe_bl)) pss_nil)
      (pss_one (ps_ret (pe_callB (cr_all rfl) (by rfl) S.all (by decide +kernel) (pa_cons (pe_lc (own := [("way", 1)]) (g := gName 1) (tt := tYes) rfl scWaysOk.nd
            (pi_str (pv 0)) (blkOk_by (N := ["value", "way"]) (sc := defScope sAreWays) (by decide +kernel)) (fun _ _ _ _ _ => pg_name (i := 1) scWaysOk.nd rfl (Or.inl rfl)) (fun _ _ _ _ _ => pts_nil)
            (fun _ _ _ _ _ => pe_cmpR op_in_sign (pv 1) (pe_glob (v := .str "+-?") rfl m2 ⟨_, rfl⟩) (by rfl))) pa_nil)))), ?_⟩
    rcases seen with ⟨z, rfl, len⟩ | ⟨no, t, ty, kt⟩
    · have zl : z.length = z.cps.size := rfl
      refine ⟨_, rfl, _, _, _, _, true, rfl, .ty "str", .base (.str z), kit_ty (by decide +kernel), true, rfl, iteF ?_⟩
      refine ⟨_, rfl, _, z.length, rfl, ⟨by rw [sizeLine_eq]; omega, rfl⟩, _, _, rfl, rfl, _, rfl, ?_⟩
      have ans : ∀ {b : Bool} {H'}, waysB (.str z) = b → Same H H' → Q (.bl b) H' := fun e s => by rw [← e]; exact q _ s
      by_cases h1 : (1 : Int) ≤ z.length
      · rw [decide_eq_true h1]
        refine iteT ⟨_, _, rfl, rfl, _, rfl, ?_⟩
        by_cases h4 : (z.length : Int) ≤ 3
        · rw [decide_eq_true h4]
          refine iteF ⟨_, rfl, z, rfl, fun D hD => lc_str (fun i H4 => Keep D H H4 ∧ H4 D = some (.lst ((z.cps.toList.take i).map fun c => V.bl (decide (c ∈ ("+-?" : Str).cps.toList))))) ⟨Keep.new hD, upd_same⟩ (fun i c H4 hc ⟨k4, d4⟩ => ?_) (fun H4 ⟨k4, d4⟩ => ?_)⟩
          · have lt : i < z.cps.size := (Array.getElem?_eq_some_iff.mp hc).1
            refine ⟨rfl, _, rfl, c, "+-?", rfl, rfl, _, d4, ?_, fun b o n e => ?_, ?_⟩
            · rw [List.length_map, List.length_take]
              exact small1000 (by omega)
            · rw [upd_ne n]
              exact k4 b o n e
            · rw [upd_same, take_bl hc]
          · refine ⟨D, (z.cps.toList.map fun c => decide (c ∈ ("+-?" : Str).cps.toList)), rfl, SqL.of ?_, ?_⟩
            · rw [d4, List.map_map, show z.cps.size = z.cps.toList.length by simp, List.take_length]
              rfl
            · refine ans ?_ fun b o e => k4 b o (ne_of_none e hD) e
              show (decide ((1 : Int) ≤ z.length) && (decide ((z.length : Int) ≤ 3) && signB z)) = _
              rw [decide_eq_true h1, decide_eq_true h4]
              simp [signB, List.all_map, Function.comp_def]
        · rw [decide_eq_false h4]
          refine iteT (ans ?_ fun _ _ e => e)
          show (decide ((1 : Int) ≤ z.length) && (decide ((z.length : Int) ≤ 3) && signB z)) = _
          rw [decide_eq_false h4]
          simp
      · rw [decide_eq_false h1]
        refine iteF ⟨_, rfl, iteT (ans ?_ fun _ _ e => e)⟩
        show (decide ((1 : Int) ≤ z.length) && (decide ((z.length : Int) ≤ 3) && signB z)) = _
        rw [decide_eq_false h1]
        rfl
    · refine ⟨_, rfl, _, _, _, _, false, rfl, .ty "str", ty, kt, false, rfl, iteT ?_⟩
      have z := q H fun _ _ e => e
      rw [waysB_not no] at z
      exact z
end
end LK

namespace LK
open PySem PySem.Spec PyProof.Rows L2 LR
/-! ### a step applied -/
/-- the method __call__ -/
structure CallM (K : PySem.W.Frag) (C f : Addr) (fd : FuncData) : Prop where
  F : FunD K "__call__" "Step.__call__" (defArgs sStepCall) (defBody sStepCall) (defScope sStepCall) [V.non, V.non] [] f fd
  b0 : Binds K fd ["self", "first", "second", "third"] []
  b1 : Binds K fd ["self", "first", "second", "third"] [.none]
  b2 : Binds K fd ["self", "first", "second", "third"] [.none, .none]
  o : StX.CallO K C f
def thereB (xs : List V) : List Bool := xs.map fun v => !decide (v = .non)
def wantB (n : Nat) : List Bool := (List.range 3).map fun i => decide (i < n)
def spCallX (K : PySem.W.Frag) (C cS : Addr) : Sp := fun vs H Q _ => ∃ (a : Addr) (v0 v1 v2 : V) (z y : Str) (n : Nat) (xs : List (V × Md)), vs = [.ref a, v0, v1, v2] ∧ HdS cS H (.st a z y) ∧ thereB [v0, v1, v2] = wantB y.length ∧
  [v0, v1, v2].take y.length = xs.map (fun e => e.1) ∧ (∀ x ∈ xs, PartR K C cS n H x.1 x.2) ∧ sz (.ap (.st a z y) (xs.map (·.2))) < 64 ∧ ∀ v H', Same H H' → ExR K C cS (n + 1) H' (.ap (.st a z y) (xs.map (·.2))) v → Q v H'
theorem slA_read {K : PySem.W.Frag} {G : Addr} {H : Hp} {xs : List V} {n : Nat} {Q : VK} (t : SqT K H G xs) (hn : n ≤ xs.length) (key : ∀ p H', Same H H' → SqT K H' p (xs.take n) → Q (.ref p) H') : rSlA K (.ref G) none (some (n : Int)) H Q := by
  have e0 : HT.sIx xs.length 0 none = 0 := rfl
  have e1 : HT.sIx xs.length xs.length (some (n : Int)) = n := by
    rw [HT.sIx_nat]
    exact Nat.min_eq_left hn
  refine ⟨G, xs, rfl, t, fun h => ?_, fun _ p hp => ?_⟩
  · rw [e1] at h
    refine key G H (Same.refl H) ?_
    rw [h.2, List.take_length]
    exact t
  · refine key p _ (same_new hp) ?_
    have c : cutV xs none (some (n : Int)) = xs.take n := by
      unfold cutV
      rw [e0, e1]
      rfl
    rw [c]
    exact SqT.of upd_same
theorem want_fit : ∀ n, n < 4 → SeqAt.shaped (.list ((wantB n).map PyData.bool)) = true ∧ PyData.eqv (.list ((wantB n).map PyData.bool)) (.list ((wantB n).map PyData.bool)) = true := by decide +kernel
theorem dp_bools {K : PySem.W.Frag} {H : Hp} : ∀ bs : List Bool, DpAll K H (bs.map V.bl) (bs.map PyData.bool)
  | [] => .nil
  | b :: bs => .cons (.bl b) (dp_bools bs)
section
variable {P : Program} {w : World} {K : PySem.W.Frag} {mg : Str → Option Value} {base : Heap}
def nCall : List Str := ["self", "first", "second", "third", "given", "wanted", "at", "part"]
theorem scCall : FnScope nCall ["self", "first", "second", "third"] (defScope sStepCall) := ⟨rfl, rfl, rfl, by decide +kernel, rfl, by decide +kernel, by decide +kernel⟩
theorem ok_callX {C cS fL fP fA f : Addr} {fdL fdP fdA fd : FuncData} {t3 : Tok} (S : Std mg) (c : OwnCl K mg "Step" cS) (n2 : NoAttr K cS "ways") (L : LenM K cS fL fdL sStepLen "Step.__len__") (m3 : mg "MOST_ARGUMENTS" = some (.int 3 t3))
    (P1 : Df K mg "part_expr" sPartExpr fP fdP ["value"]) (GP : FnOk P w K mg base CX0 6 fP fdP ["value"] (spAsX K C cS)) (A1 : Df K mg "applied" sApplied fA fdA ["step", "parts"]) (GA : FnOk P w K mg base CX0 4 fA fdA ["step", "parts"] (spAppliedX K C cS))
    (M : CallM K cS f fd) : FnOk P w K mg base CX0 7 f fd ["self", "first", "second", "third"] (spCallX K C cS) := by
  have GL : FnOk P w K mg base CX0 1 fL fdL ["self"] (spStLen cS) := ok_stLen S c.cl n2 L.F
  refine M.F.ok scCall (fun vs H Q E h => ?_) (fun cdv A outer s H vs Q E hr h => ?_)
  · obtain ⟨a, v0, v1, v2, z, y, n, xs, rfl, _⟩ := h
    rfl
  · obtain ⟨a, v0, v1, v2, z, y, n, xs, rfl, hs, ht, hxs, hp, few, q⟩ := h
    have body : ∃ t, PSs (cxOf CX0 P w K mg base nCall "Step.__call__" (defScope sStepCall) f cdv A outer s H E).nox (defBody sStepCall) t ∧ t { nx := fun _ H' => Q .non H', rt := Q } (start nCall [.ref a, v0, v1, v2]) H := by
      refine ⟨_, pss_cons (ps_set (i := 4) scCall.nd rfl (Or.inl rfl) (pe_tup (pa_cons (pv 1) (pa_cons (pv 2) (pa_cons (pv 3) pa_nil)))))
        (pss_cons (ps_setLc (i := 5) (own := [("at", 6)]) (g := gName 6) (tt := tYes) rfl scCall.nd rfl rfl rfl (pi_range1 (by rfl) S.range (pa_cons (pe_glob (v := .int 3) rfl m3 ⟨_, rfl⟩) pa_nil)) (blkOk_by (N := nCall) (sc := defScope sStepCall) (by decide +kernel))
            (fun _ _ _ _ _ => pg_name (i := 6) scCall.nd rfl (Or.inl rfl)) (fun _ _ _ _ _ => pts_nil) (fun _ _ _ _ _ => pe_cmpR op_lt (pv 6) (pe_callB (LR.call_lenOwn (C := cS) (E := fun _ _ _ => False) GL L.at_ L.fn L.b pass0 (hr.mono (by decide))) (by rfl) S.len PySem.boot_len (pa_cons (pv 0) pa_nil)) (nomark _)))
        (pss_cons (ps_if (pt_cmpR (op_neD (by have := hr.units; exact this)) (pe_lc (own := [("part", 7)]) (g := gName 7) (tt := tYes) rfl scCall.nd (pi_tup (pv 4)) (blkOk_by (N := nCall) (sc := defScope sStepCall) (by decide +kernel))
            (fun _ _ _ _ _ => pg_name (i := 7) scCall.nd rfl (Or.inl rfl)) (fun _ _ _ _ _ => pts_nil) (fun _ _ _ _ _ => pe_cmp (pc_notN (pv 7)))) (pv 5) (nomark _)) (pss_one ps_never) pss_nil)
        (pss_one (ps_ret (pe_call GA (hr.mono (by decide)) rfl A1.g A1.F.kp A1.b .nil pass0 (pa_cons (pv 0) (pa_cons (pe_lc (own := [("part", 7)]) (g := gName 7) (tt := tYes) rfl scCall.nd
            (pi_tup (pe_slice sl_tupA (pv 4) po_none (po_some (pe_callB (LR.call_lenOwn (C := cS) (E := fun _ _ _ => False) GL L.at_ L.fn L.b pass0 (hr.mono (by decide))) (by rfl) S.len PySem.boot_len (pa_cons (pv 0) pa_nil))))) (blkOk_by (N := nCall) (sc := defScope sStepCall) (by decide +kernel))
            (fun _ _ _ _ _ => pg_name (i := 7) scCall.nd rfl (Or.inl rfl)) (fun _ _ _ _ _ => pts_nil) (fun _ _ _ _ _ => pe_call GP hr rfl P1.g P1.F.kp P1.b .nil pass0 (pa_cons (pv 7) pa_nil))) pa_nil))))))), ?_⟩
      have hy := hs.2.2.len
      obtain ⟨dx, ha⟩ := id hs.1
      refine ⟨_, rfl, _, rfl, _, rfl, (by show 3 ≤ sizeLine; decide), fun G hG => ?_⟩
      have s1 := same_new (o := .tup [v0, v1, v2]) hG
      have tG : SqT K (upd H G (.tup [v0, v1, v2])) G [v0, v1, v2] := SqT.of upd_same
      generalize upd H G (.tup [v0, v1, v2]) = H1 at s1 tG ⊢
      refine ⟨3, rfl, by decide, by decide, fun D hD => lc_range (lo := 0) (n := 3) (fun i H4 => Same H1 H4 ∧ H4 D = some (.lst (((List.range 3).take i).map fun k => V.bl (decide (k < y.length))))) ⟨same_new hD, upd_same⟩ (fun i H4 lt h => ?_) (fun H4 h => ?_)⟩
      · obtain ⟨s4, d4⟩ := h
        refine ⟨rfl, _, rfl, _, rfl, a, dx, _, rfl, s4 _ _ (s1 _ _ ha), a, z, y, rfl, ⟨dx, s4 _ _ (s1 _ _ ha)⟩, hy, y.length, rfl, by omega, _, _, rfl, rfl, _, d4, ?_, same_put hD s4, ?_⟩
        · rw [List.length_map, List.length_take, sizeLine_eq]
          omega
        · rw [upd_same, List.take_add_one, List.map_append]
          have e : (List.range 3)[i]? = some i := by rw [List.getElem?_range lt]
          rw [e]
          have z : decide ((0 : Int) + (i : Int) < (y.length : Int)) = decide (i < y.length) := by
            by_cases h : i < y.length
            · rw [decide_eq_true h, decide_eq_true (by omega)]
            · rw [decide_eq_false h, decide_eq_false (by omega)]
          show some (HO.lst (_ ++ [V.bl (decide ((0 : Int) + (i : Int) < (y.length : Int)))])) = _
          rw [z]
          rfl
      obtain ⟨s4, d4⟩ := h
      have dW : H4 D = some (.lst ((wantB y.length).map V.bl)) := by
        rw [d4, wantB, List.map_map]
        rfl
      clear d4
      refine ⟨_, rfl, G, rfl, ⟨_, SqT.same s4 tG⟩, fun D2 hD2 => lc_tup (xs := [v0, v1, v2]) (fun i H5 => Same H4 H5 ∧ H5 D2 = some (.lst (([v0, v1, v2].take i).map fun v => V.bl (!decide (v = .non))))) ⟨same_new hD2, upd_same⟩ (fun i H5 _ h => SqT.same (s4.trans h.1) tG) (fun i v H5 hv h => ?_) (fun H5 h => ?_)⟩
      · obtain ⟨s5, d5⟩ := h
        refine ⟨rfl, _, rfl, _, d5, ?_, same_put hD2 s5, ?_⟩
        · rw [List.length_map, List.length_take, sizeLine_eq]
          exact Nat.lt_of_le_of_lt (Nat.min_le_right _ _) (by show 3 < 16777216; decide)
        · rw [upd_same, List.take_add_one, List.map_append, hv]
          rfl
      obtain ⟨s5, d5⟩ := h
      have d5' : H5 D2 = some (.lst ((thereB [v0, v1, v2]).map V.bl)) := by
        rw [d5, thereB, List.map_map]
        rfl
      rw [ht] at d5'
      refine ⟨_, rfl, _, _, .lst (SqL.of d5') (dp_bools _), .lst (SqL.of (s5 _ _ dW)) (dp_bools _), ?_, ?_, ?_⟩
      · exact (want_fit y.length (by omega)).1
      · exact (want_fit y.length (by omega)).1
      have same : (!PyData.eqv (.list ((wantB y.length).map PyData.bool)) (.list ((wantB y.length).map PyData.bool))) = false := by
        rw [(want_fit y.length (by omega)).2]
        rfl
      rw [same]
      refine ⟨false, rfl, iteF ?_⟩
      have s6 := s4.trans s5
      refine ⟨_, rfl, _, rfl, _, rfl, a, dx, _, rfl, s6 _ _ (s1 _ _ ha), a, z, y, rfl, ⟨dx, s6 _ _ (s1 _ _ ha)⟩, hy, y.length, rfl, by omega, _, rfl, slA_read (SqT.same s6 tG) hy fun p H6 s7 tp => ?_⟩
      rw [hxs] at tp
      have s8 : Same H H6 := (s1.trans s6).trans s7
      have len : xs.length = y.length := by
        have e := congrArg List.length hxs
        rw [List.length_map, List.length_take] at e
        show xs.length = _
        rw [← e]
        exact Nat.min_eq_left hy
      refine ⟨p, rfl, ⟨_, tp⟩, fun D5 hD5 => lc_tup (xs := xs.map fun e : V × Md => e.1) (fun i H7 => Same H6 H7 ∧ ∃ ps : List (V × Md), H7 D5 = some (.lst (ps.map (·.1))) ∧ ps.map (·.2) = (xs.take i).map (·.2) ∧ ∀ e ∈ ps, ExR K C cS n H7 e.2 e.1)
        ⟨same_new hD5, [], upd_same, rfl, fun _ h => nomatch h⟩ (fun i H7 _ h => SqT.same h.1 tp) (fun i v H7 hv h => ?_) (fun H7 h => ?_)⟩
      · obtain ⟨s9, ps, d9, lp, gp⟩ := h
        rw [List.getElem?_map] at hv
        obtain ⟨x, hx, rfl⟩ := Option.map_eq_some_iff.mp hv
        have lt : i < xs.length := (List.getElem?_eq_some_iff.mp hx).1
        have lp2 : ps.length = i := by
          have e := congrArg List.length lp
          rw [List.length_map, List.length_map, List.length_take] at e
          omega
        have px := hp x (List.mem_of_getElem? hx)
        refine ⟨rfl, _, rfl, x.1, n, x.2, rfl, px.same (s8.trans s9), fun y' H8 s' ex => ?_⟩
        have d8 := s' _ _ d9
        refine ⟨ps.map (·.1), d8, by rw [List.length_map, lp2, sizeLine_eq]; omega, same_put hD5 (s9.trans s'), ps ++ [(y', x.2)], by rw [upd_same, List.map_append]; rfl, by rw [List.map_append, lp, List.take_add_one, hx, List.map_append]; rfl, fun e he => ?_⟩
        rcases List.mem_append.mp he with he | he
        · exact exR_tr (Tr.lst d8) ((gp e he).same s')
        · rw [List.mem_singleton.mp he]
          exact exR_tr (Tr.lst d8) ex
      · obtain ⟨s9, ps, d9, lp, gp⟩ := h
        rw [List.length_map, List.take_length] at lp
        have lp2 : ps.length = xs.length := by
          have e := congrArg List.length lp
          rwa [List.length_map, List.length_map] at e
        refine ⟨a, D5, z, y, n, ps, rfl, hdS_tr (Tr.same (s8.trans s9)) hs, by omega, SqL.of d9, gp, by rw [lp]; exact few, fun v H' s' ex => ?_⟩
        rw [lp] at ex
        exact q v H' ((s8.trans s9).trans s') ex
    obtain ⟨t, p, h⟩ := body
    exact ⟨t, p.nox, h⟩
end
end LK

/-! a list and an empty list compared: == says whether the first is empty, whatever it holds -/
namespace PySem.SeqAt
open AutoSeq1 (wpAny_loadPart')
open MeetsSeq MeetsSeq2 MeetsSeq3 SeqRoads2
section
variable {prog : Program} {w : World} {dd dd2 : Option Addr}
theorem lr_list_lenIn (l b : Addr) (items items2 : Array Value) (n n2 : Nat) (sl sl2 : Array (Option Value)) (hsz : items.size ≠ items2.size) :
    MeetsIn prog w (Builtin.«list.__eq__» ⟨[.ref l, .ref b], []⟩)
      (fun A R s => s.heap.get? l = some { cls := .type "list", dict := dd, data := .seq items n, slots := sl } ∧ s.heap.get? b = some { cls := .type "list", dict := dd2, data := .seq items2 n2, slots := sl2 } ∧
        R (.ok (.ret (.bool false))) s) := by
  intro A R s h
  obtain ⟨hp, g, d, tk, os⟩ := s; obtain ⟨hl, hb, h⟩ := h
  have f3 := AutoSeq1.sub_list_list
  have hne : (items.size != items2.size) = true := by simpa using hsz
  wp_walk using wpAny_loadPart' hl, wpAny_loadPart' hb
  exact h
theorem lr_rcP_len {A : Around} {s : Shared} {l b : Addr} {items items2 : Array Value} (hl : s.heap.IsList l items) (hb : s.heap.IsList b items2) (hsz : items.size ≠ items2.size) (hu : A.units < cLine)
    (E Q : Value → Shared → Prop) (h : Q (.bool false) s) : wpAny (model prog w) A (richCompare .Eq (.ref l) (.ref b)) Q E s := by
  obtain ⟨⟨cls, dd, data, sl⟩, ho, hc, n, hd⟩ := id hl
  obtain ⟨⟨cls2, dd2, data2, sl2⟩, ho2, hc2, n2, hd2⟩ := id hb
  simp only at hc hd hc2 hd2
  subst hc hd hc2 hd2
  have ta : s.TypeIs (.ref l) "list" := ⟨_, ho, rfl⟩
  have tb : s.TypeIs (.ref b) "list" := ⟨_, ho2, rfl⟩
  exact wpAny_richCompare_same_room (op := .Eq) ta tb F.slot_list_eq (call_meetsIn F.slot_list_eq ta F.entry_list_eq (F.args_list_eq_2 _ _) (lr_list_lenIn l b items items2 n n2 sl sl2 hsz)
    ⟨ho, ho2, show Value.bool false ≠ Value.notImplemented ∧ Q (.bool false) s from ⟨(fun x => nomatch x), h⟩⟩) hu
end
end PySem.SeqAt
namespace LR
open PySem PySem.Spec PyProof.Rows L2
section
variable {X : Cx}
def rEqEnd : R2 := fun x y H Q => ∃ a b xs, x = .ref a ∧ y = .ref b ∧ H a = some (.lst xs) ∧ H b = some (.lst []) ∧ Q (.bl xs.isEmpty) H
theorem op_eqEnd (hu : X.A.units < cLine) : OpR X (compareOp .Eq) rEqEnd := by
  intro pins s σ H x y v u Q I rx ry h
  obtain ⟨a, b, xs, rfl, rfl, ha, hb, q⟩ := h
  cases (show v = Value.ref a from rx)
  cases (show u = Value.ref b from ry)
  obtain ⟨us, r1, p1, _⟩ := I.list (SqL.of ha)
  obtain ⟨ws, r2, p2, _⟩ := I.list (SqL.of hb)
  cases r2
  cases xs with
  | nil =>
    cases r1
    refine SeqAt.rcP_lists (e := fun _ => true) p1.isList p2.isList rfl hu (fun j h1 h2 => absurd h1 (by simp)) _ _ ⟨.bl true, H, I, rfl, q⟩
  | cons x r =>
    cases r1 with
    | cons r0 r1 => exact SeqAt.lr_rcP_len p1.isList p2.isList (by simp) hu _ _ ⟨.bl false, H, I, rfl, q⟩
end
end LR

/-! defs with a star parameter that may let an error out; a list beside an empty one -/
namespace PySem.SeqAt
open AutoSeq1 (wpAny_loadPart')
open MeetsSeq MeetsSeq2 MeetsSeq3 SeqRoads2
section
variable {prog : Program} {w : World} {dd dd2 : Option Addr}
theorem lr_ne_lenIn (l b : Addr) (items items2 : Array Value) (n n2 : Nat) (sl sl2 : Array (Option Value)) (hsz : items.size ≠ items2.size) :
    MeetsIn prog w (Builtin.«list.__ne__» ⟨[.ref l, .ref b], []⟩)
      (fun A R s => s.heap.get? l = some { cls := .type "list", dict := dd, data := .seq items n, slots := sl } ∧ s.heap.get? b = some { cls := .type "list", dict := dd2, data := .seq items2 n2, slots := sl2 } ∧
        R (.ok (.ret (.bool true))) s) := by
  intro A R s h
  obtain ⟨hp, g, d, tk, os⟩ := s; obtain ⟨hl, hb, h⟩ := h
  have f3 := AutoSeq1.sub_list_list
  have hne : (items.size != items2.size) = true := by simpa using hsz
  wp_walk using wpAny_loadPart' hl, wpAny_loadPart' hb
  exact h
theorem lr_ne_end (l b : Addr) (n n2 : Nat) (sl sl2 : Array (Option Value)) :
    MeetsIn prog w (Builtin.«list.__ne__» ⟨[.ref l, .ref b], []⟩)
      (fun A R s => s.heap.get? l = some { cls := .type "list", dict := dd, data := .seq #[] n, slots := sl } ∧ s.heap.get? b = some { cls := .type "list", dict := dd2, data := .seq #[] n2, slots := sl2 } ∧
        R (.ok (.ret (.bool false))) s) := by
  intro A R s h
  obtain ⟨hp, g, d, tk, os⟩ := s; obtain ⟨hl, hb, h⟩ := h
  have f3 := AutoSeq1.sub_list_list
  wp_walk using wpAny_loadPart' hl, wpAny_loadPart' hb
  exact ⟨plainId_quiet plain_eq_loop _, codeAny_builtin entry_eq_loop (by
    rw [Around.under_plainId plain_eq_loop _]
    wp_walk using wpAny_loadPart' hl, wpAny_loadPart' hb
    exact h)⟩
theorem lr_rcN_len {A : Around} {s : Shared} {l b : Addr} {items items2 : Array Value} (hl : s.heap.IsList l items) (hb : s.heap.IsList b items2) (hsz : items.size ≠ items2.size) (hu : A.units < cLine)
    (E Q : Value → Shared → Prop) (h : Q (.bool true) s) : wpAny (model prog w) A (richCompare .NotEq (.ref l) (.ref b)) Q E s := by
  obtain ⟨⟨cls, dd, data, sl⟩, ho, hc, n, hd⟩ := id hl
  obtain ⟨⟨cls2, dd2, data2, sl2⟩, ho2, hc2, n2, hd2⟩ := id hb
  simp only at hc hd hc2 hd2
  subst hc hd hc2 hd2
  have ta : s.TypeIs (.ref l) "list" := ⟨_, ho, rfl⟩
  have tb : s.TypeIs (.ref b) "list" := ⟨_, ho2, rfl⟩
  exact wpAny_richCompare_same_room (op := .NotEq) ta tb F.slot_list_ne (call_meetsIn F.slot_list_ne ta F.entry_list_ne (F.args_list_ne_2 _ _) (lr_ne_lenIn l b items items2 n n2 sl sl2 hsz)
    ⟨ho, ho2, show Value.bool true ≠ Value.notImplemented ∧ Q (.bool true) s from ⟨(fun x => nomatch x), h⟩⟩) hu
theorem lr_rcN_end {A : Around} {s : Shared} {l b : Addr} (hl : s.heap.IsList l #[]) (hb : s.heap.IsList b #[]) (hu : A.units < cLine)
    (E Q : Value → Shared → Prop) (h : Q (.bool false) s) : wpAny (model prog w) A (richCompare .NotEq (.ref l) (.ref b)) Q E s := by
  obtain ⟨⟨cls, dd, data, sl⟩, ho, hc, n, hd⟩ := id hl
  obtain ⟨⟨cls2, dd2, data2, sl2⟩, ho2, hc2, n2, hd2⟩ := id hb
  simp only at hc hd hc2 hd2
  subst hc hd hc2 hd2
  have ta : s.TypeIs (.ref l) "list" := ⟨_, ho, rfl⟩
  have tb : s.TypeIs (.ref b) "list" := ⟨_, ho2, rfl⟩
  exact wpAny_richCompare_same_room (op := .NotEq) ta tb F.slot_list_ne (call_meetsIn F.slot_list_ne ta F.entry_list_ne (F.args_list_ne_2 _ _) (lr_ne_end l b n n2 sl sl2)
    ⟨ho, ho2, show Value.bool false ≠ Value.notImplemented ∧ Q (.bool false) s from ⟨(fun x => nomatch x), h⟩⟩) hu
end
end PySem.SeqAt
namespace LR
open PySem PySem.Spec PyProof.Rows L2
/-- xs != [] -/
def rNeEnd : R2 := fun x y H Q => ∃ a b xs, x = .ref a ∧ y = .ref b ∧ H a = some (.lst xs) ∧ H b = some (.lst []) ∧ Q (.bl (!xs.isEmpty)) H
theorem op_neEnd {X : Cx} (hu : X.A.units < cLine) : OpR X (compareOp .NotEq) rNeEnd := by
  intro pins s σ H x y v u Q I rx ry h
  obtain ⟨a, b, xs, rfl, rfl, ha, hb, q⟩ := h
  cases (show v = Value.ref a from rx)
  cases (show u = Value.ref b from ry)
  obtain ⟨us, r1, p1, _⟩ := I.list (SqL.of ha)
  obtain ⟨ws, r2, p2, _⟩ := I.list (SqL.of hb)
  cases r2
  cases xs with
  | nil =>
    cases r1
    exact SeqAt.lr_rcN_end p1.isList p2.isList hu _ _ ⟨.bl false, H, I, rfl, q⟩
  | cons x r =>
    cases r1 with
    | cons r0 r1 => exact SeqAt.lr_rcN_len p1.isList p2.isList (by simp) hu _ _ ⟨.bl true, H, I, rfl, q⟩
theorem cxUpN {P : Program} {w : World} : StX.CXUp (L2N.CX P w) := by
  rintro outer s H s2 H2 E e s' un kp ho ⟨a, B, H', cls, d, ea, fl, hok, ub, na, os, ag, he⟩
  refine ⟨a, B, H', cls, d, ea, fl, hok, ⟨fun b o q n hb => ub.keep b o (kp b o q) (un.free b o q n (by simp)) hb, fun b o q hb => ub.slot b o (kp b o q) hb, fun b o q n => ub.free b o (kp b o q) (un.free b o q n (by simp)),
    fun b o q hb => ub.there b o (kp b o q) hb, fun b xs q => ub.tups b xs (un.tups b xs q), fun b o xs q => ub.frzs b o xs (un.frzs b o xs q), fun b ps q => ?_⟩, na, os.trans ho, ag, he⟩
  obtain ⟨m1, e1⟩ := un.tbls b ps q
  obtain ⟨m2, e2⟩ := ub.tbls b _ e1
  exact ⟨m1 ++ m2, by rw [e2, Array.append_assoc]⟩
/-- a def with a star parameter that may let an error out -/
theorem okStarN {P : Program} {w : World} {K : PySem.W.Frag} {mg : Str → Option Value} {base : Heap} {x qual pv : Str} {st : Stmt} {f : Addr} {fd : FuncData} {N ps : List Str} {k : Nat} {sp : Sp} (F : Fun K x qual st f fd) (S : FnScope N (ps ++ [pv]) (defScope st))
    (hb : ∀ (kV doc pm : Value) (an : Option Addr) (cdv ct : Value) (us rest : List Value), us.length = ps.length → bindArgs (PySem.W.fnOf x qual (defArgs st) (defBody st) (defScope st) .none kV doc pm an cdv ct) ⟨us ++ rest, []⟩ = (newTuple rest >>= fun t => pure (ps.zip us ++ [(pv, t)])))
    (walk : ∀ (cdv : Value) (A : Around) (outer : List Env) (s : Shared) (H : Hp) (vs : List V) (Q : VK) (E : XK), Room k (A.deeper (envOfC qual (defScope st) s.heap.objs.size f cdv)) → sp vs H Q E →
      ∃ t, PSs (cxOf (L2N.CX P w) P w K mg base N qual (defScope st) f cdv A outer s H E) (defBody st) t ∧ t { nx := fun _ H' => Q .non H', rt := Q } (start N vs) H) :
    FnR P w K mg base (L2N.CX P w) (k + 1) f (fun vs H Q E => ∃ ws rest, vs = ws ++ rest ∧ ws.length = ps.length ∧ rest.length ≤ sizeLine ∧ ∀ p, H p = Option.none → sp (ws ++ [V.ref p]) (upd H p (.tup rest)) Q E) := by
  obtain ⟨oc, od, kV, doc, pm, an, cdv, ct, osl, rfl, lk, hcd⟩ := F.ex
  exact StX.fn_star lk hcd S cxUpN (hb kV doc pm an cdv ct) fun A outer s H vs Q E hr h => walk cdv A outer s H vs Q E hr h
/-- C(e, ..), whose __init__ has a star parameter and may let an error out -/
def tMakeRS (C : Addr) (sp : Sp) (E : L2.St → XK) (t : TA) : TE := fun σ H Q => t σ H fun vs H1 => ∀ x dx, H1 x = Option.none → H1 dx = Option.none → dx ≠ x →
  sp (V.ref x :: vs) (upd (upd H1 dx (.own x)) x (.ins C dx [])) (fun v H2 => v = .non ∧ Q (.ref x) H2) (E σ)
section
variable {X : Cx} {CX : CXT} {k : Nat} {f C : Addr} {sp : Sp} {E : L2.St → XK} {x : Str} {e : Expr} {es : List Expr} {t : TA} {p pos : Pos}
theorem pe_makeRS (M : Mk X.K C f) (F : FnR X.prog X.w X.K X.mg X.base CX k f sp) (hr : Room (k + 1) X.A) (hg : Gl X x) (hm : X.mg x = some (.ref C)) (out : ∀ σ, PassesAt CX X σ (E σ)) (ha : PA X (e :: es) t) (hdb : (x == ("__debug__" : Str)) = false := by decide)
    (he : starEach (e :: es) X.env = (false, eval e X.env) :: starEach es X.env := by rfl) (hpl : (backTo pos (starEach es X.env)).any (·.1) = false := by rfl) : PE X (.Call (.Name x p) (e :: es) [] pos) (tMakeRS C sp E t) := by
  refine ⟨fun pins s σ H Q I h => ?_⟩
  refine wpAny_Call_Name_kw (ld_glob I hg hm ?_ hdb)
  refine PySem.W.callWith_K (h₀ := X.base) I.ok.mod.kin M.kp (thn (ha.run pos pins s σ H _ I h) fun us s1 ⟨vs, H1, I1, r, q⟩ => ⟨I1.kIn, ?_⟩) he hpl
  have hq := q (s1.heap.objs.size + 1) s1.heap.objs.size (I1.hok.fresh (Nat.le_succ _)) (I1.hok.fresh (Nat.le_refl _)) (Nat.ne_of_lt (Nat.lt_succ_self _))
  have I2 := Inv.made (C := C) I1
  have r2 : Vals (V.ref (s1.heap.objs.size + 1) :: vs) (Value.ref (s1.heap.objs.size + 1) :: us) := .cons rfl r
  refine wpAny_call (make_map (f := f) I1.kIn M.makes M.init (beq_iff_eq.mp M.fn) (codeAny_mono (F _ X.stack _ _ (Value.ref (s1.heap.objs.size + 1) :: us) _ _ (E σ) (hr.make C us []) (I2.env0.make C us []) r2 hq) fun r s' hq' => ?_))
  cases r with
  | error e => exact out σ pins _ _ e s' I2 hq'
  | ok fl =>
    cases fl with
    | ret u =>
      obtain ⟨v, H', I3, rv, ev, q3⟩ := I2.after hq'
      subst ev
      exact ⟨rv, ⟨V.ref (s1.heap.objs.size + 1), H', I3, rfl, q3⟩⟩
    | next => exact False.elim hq'
    | brk => exact False.elim hq'
    | cont => exact False.elim hq'
end
end LR

/-! a tuple times a number, whatever they are; xs[::-1] of a tuple; C(*xs); C() -/
namespace LR
open PySem PySem.Spec PyProof.Rows L2
theorem mul_empty (l : Addr) (items : Array Value) (n : Nat) (dd : Option Addr) (sl : Array (Option Value)) (x : Int) (u : Tok) (c0 : (decide (x < -(2 ^ 63)) || decide (x ≥ 2 ^ 63)) = false) (c1 : (items.isEmpty || x == 1) = true) :
    Meets (Builtin.«tuple.__mul__» ⟨[.ref l, .int x u], []⟩) (fun _ R s => s.heap.get? l = some { cls := .type "tuple", dict := dd, data := .seq items n, slots := sl } ∧ R (.ok (.ret (Value.ref l))) s) :=
  .of_wp fun prog w A R s h => by
    obtain ⟨hp, g, d, tk, os⟩ := s
    obtain ⟨hl, h⟩ := h
    have f1 := AutoSeq1.idx_int
    wp_walk using wpAny_loadPart' hl
    repeat (first
      | (refine wpAny_ite_false (decide_eq_false (by rw [c0]; exact Bool.false_ne_true)) ?_; wp_walk using wpAny_loadPart' hl)
      | (refine wpAny_ite_true (decide_eq_true (by rw [c1])) ?_; wp_walk using wpAny_loadPart' hl))
    exact ⟨_, rfl, h⟩
theorem mul_none (l : Addr) (items : Array Value) (n : Nat) (dd : Option Addr) (sl : Array (Option Value)) (x : Int) (u : Tok) (c0 : (decide (x < -(2 ^ 63)) || decide (x ≥ 2 ^ 63)) = false) (c1 : (items.isEmpty || x == 1) = false) (c2 : (decide (x ≤ 0) || items.isEmpty) = true) :
    Meets (Builtin.«tuple.__mul__» ⟨[.ref l, .int x u], []⟩) (fun _ R s => s.heap.get? l = some { cls := .type "tuple", dict := dd, data := .seq items n, slots := sl } ∧
      R (.ok (.ret (Value.ref s.heap.objs.size))) { s with heap := s.heap.push { cls := Value.type "tuple", data := Data.seq #[] } }) :=
  .of_wp fun prog w A R s h => by
    obtain ⟨hp, g, d, tk, os⟩ := s
    obtain ⟨hl, h⟩ := h
    have f1 := AutoSeq1.idx_int
    wp_walk using wpAny_loadPart' hl
    repeat (first
      | (refine wpAny_ite_false (decide_eq_false (by rw [c0]; exact Bool.false_ne_true)) ?_; wp_walk using wpAny_loadPart' hl)
      | (refine wpAny_ite_false (decide_eq_false (by rw [c1]; exact Bool.false_ne_true)) ?_; wp_walk using wpAny_loadPart' hl)
      | (refine wpAny_ite_true (decide_eq_true (by rw [c2])) ?_; wp_walk using wpAny_loadPart' hl))
    exact ⟨_, rfl, h⟩
/-- from nought on: the same tuple, none of it, or so many of it -/
def rRepU (K : PySem.W.Frag) : R2 := fun x y H Q => ∃ l k xs, x = .ref l ∧ y = .int k ∧ SqT K H l xs ∧ 0 ≤ k ∧ k ≤ 1000 ∧ xs.length ≤ 1000 ∧ (∀ p, H p = none → Q (.ref p) (upd H p (.tup (List.replicate k.toNat xs).flatten))) ∧ ((xs = [] ∨ k = 1) → Q (.ref l) H)
section
variable {X : Cx}
theorem op_repU : OpR X (binaryOp .Mult) (rRepU X.K) := by
  intro pins s σ H x y v u Q I rx ry h
  obtain ⟨l, k, xs, rfl, rfl, hT, k0, k1, hz, q, q1⟩ := h
  by_cases many : xs ≠ [] ∧ 2 ≤ k
  · exact op_repT pins s σ H _ _ v u Q I rx ry ⟨l, k, xs, rfl, rfl, hT, many.1, many.2, k1, hz, q⟩
  cases rx
  obtain ⟨t, rfl⟩ := ry
  obtain ⟨its, r, ⟨⟨cls, dd, data, sl⟩, ho, hc, n, hd⟩, hs⟩ := I.tuple hT
  simp only at hc hd
  subst hc hd
  have hle : its.length = xs.length := r.length.symm
  have c0 : (decide (k < -(2 ^ 63)) || decide (k ≥ 2 ^ 63)) = false := by
    rw [decide_eq_false (by omega), decide_eq_false (by omega)] <;> rfl
  have way : ∀ {S : PySem.Spec}, Meets (Builtin.«tuple.__mul__» ⟨[.ref l, .int k t], []⟩) S → S X.A (wants (EP X pins σ Q) X.xe) s → wpAny (model X.prog X.w) X.A (binaryOp .Mult (.ref l) (.int k t)) (EP X pins σ Q) X.xe s := fun m h =>
    wpAny_binaryOp_repeat_ref (T := "tuple") (U := "int") (by decide) ⟨_, ho, rfl⟩ (fun s' => typeIs_int s' k t) noFill_tuple_mul F.fills_int_mul F.slot_int_rmul repeat_tuple F.slot_int_index.lookup
      (call_meets F.slot_int_rmul (typeIs_int s k t) F.entry_int_rmul (F.args_int_rmul_2 _ _) (int_rmul_tuple k t l its.toArray n dd sl) ⟨ho, rfl, ⟨_, ho, rfl⟩, call_meets F.slot_tuple_mul ⟨_, ho, rfl⟩ F.entry_tuple_mul (F.args_tuple_mul_2 _ _) m h⟩)
  by_cases e : xs = [] ∨ k = 1
  · have c1 : (its.toArray.isEmpty || k == 1) = true := by
      rcases e with e | e
      · have : its = [] := List.eq_nil_of_length_eq_zero (by rw [hle, e]; rfl)
        rw [this]
        rfl
      · rw [e, beq_self_eq_true, Bool.or_true]
    exact way (mul_empty l its.toArray n dd sl k t c0 c1) ⟨ho, .ref l, H, I, rfl, q1 e⟩
  · have k00 : k = 0 := by
      by_cases h2 : 2 ≤ k
      · exact absurd ⟨fun z => e (.inl z), h2⟩ many
      · have : k ≠ 1 := fun z => e (.inr z)
        omega
    have ne : its ≠ [] := fun z => e (.inl (List.eq_nil_of_length_eq_zero (by rw [← hle, z]; rfl)))
    have hi : its.toArray.isEmpty = false := by
      cases its with
      | nil => exact absurd rfl ne
      | cons a b => rfl
    subst k00
    refine way (mul_none l its.toArray n dd sl 0 t c0 (by rw [hi]; rfl) rfl) ⟨ho, ?_⟩
    refine ⟨.ref s.heap.objs.size, _, I.laid (t' := s.toks) (o := .tup []) (fun b ob q => Heap.get?_push_of_some _ q) (Nat.le_refl _) ?_, rfl, q _ (I.hok.fresh (Nat.le_refl _))⟩
    exact ⟨Nat.zero_le _, _, .nil, IsTup.new _ _⟩
/-- xs[::-1] of a tuple -/
def tRevT (K : PySem.W.Frag) (te : TE) : TE := fun σ H Q => te σ H fun x H1 => ∃ a xs, x = .ref a ∧ SqT K H1 a xs ∧ ∀ p, H1 p = none → Q (.ref p) (upd H1 p (.tup xs.reverse))
/-- C(*xs) -/
def tMakeS1 (K : PySem.W.Frag) (C : Addr) (sp : Sp) (E : XK) (te : TE) : TE := fun σ H Q => te σ H fun y H1 => ∃ a xs, y = V.ref a ∧ (SqT K H1 a xs ∨ SqL K H1 a xs) ∧ ∀ x dx, H1 x = Option.none → H1 dx = Option.none → dx ≠ x →
  sp (V.ref x :: xs) (upd (upd H1 dx (.own x)) x (.ins C dx [])) (fun v H2 => v = .non ∧ Q (.ref x) H2) E
variable {CX : CXT} {k : Nat} {f C : Addr} {sp : Sp} {E : XK} {x : Str} {e : Expr} {te : TE} {p sp_ pos : Pos}
theorem pe_makeS1 (M : Mk X.K C f) (F : FnR X.prog X.w X.K X.mg X.base CX k f sp) (hr : Room (k + 1) X.A) (hg : Gl X x) (hm : X.mg x = some (.ref C)) (hx : Passes CX X E) (he : PE X e te) (hd : (x == ("__debug__" : Str)) = false := by decide)
    (hst : starEach [.Starred e sp_] X.env = [(true, eval e X.env)] := by rfl) : PE X (.Call (.Name x p) [.Starred e sp_] [] pos) (tMakeS1 X.K C sp E te) := by
  refine ⟨fun pins s σ H Q I h => ?_⟩
  refine wpAny_Call_Name_kw (ld_glob I hg hm ?_ hd)
  refine PySem.W.callWith_S (h₀ := X.base) I.ok.mod.kin M.kp (thn (he.run pins s σ H _ I h) fun v s1 ⟨y, H1, I1, ry, a, xs, ey, hxs, q⟩ => ?_) hst
  subst ey
  obtain rfl : v = Value.ref a := ry
  exact StX.star_any I1 hxs fun us s2 I2 rv => ⟨I2.kIn, StX.run_makeR M F hr hx I2 rv q⟩
/-- C() -/
theorem pe_make0 (M : Mk X.K C f) (F : FnR X.prog X.w X.K X.mg X.base CX k f sp) (hr : Room (k + 1) X.A) (hg : Gl X x) (hm : X.mg x = some (.ref C)) (hx : Passes CX X E) (hd : (x == ("__debug__" : Str)) = false := by decide) :
    PE X (.Call (.Name x p) [] [] pos) (fun σ H Q => ∀ x dx, H x = Option.none → H dx = Option.none → dx ≠ x → sp [V.ref x] (upd (upd H dx (.own x)) x (.ins C dx [])) (fun v H2 => v = .non ∧ Q (.ref x) H2) E) := by
  refine ⟨fun pins s σ H Q I h => ?_⟩
  refine wpAny_Call_Name_kw (ld_glob I hg hm ?_ hd)
  exact PySem.W.callWith_K0 I.kIn M.kp (StX.run_makeR M F hr hx I .nil h)
end
end LR

/-! xs[::-1] of a tuple -/
namespace LR
open PySem PySem.Spec PyProof.Rows HT
section
variable {prog : Program} {w : World} {A : Around} {E : Value → Shared → Prop} {s : Shared}
theorem places_back (n : Nat) : Builtin.Slice.slicePlaces ((n : Int) - 1) (-1) (-1) = n := by
  unfold Builtin.Slice.slicePlaces
  rw [if_neg (by decide)]
  by_cases h : ((n : Int) - 1) > -1
  · rw [if_pos h]
    show (((n : Int) - 1 - (-1) - 1) / 1 + 1).toNat = n
    rw [Int.ediv_one]
    omega
  · rw [if_neg h]
    omega
theorem back_applied {sl : Addr} {t : Tok} {n : Nat} {Q : Int × Int × Nat → Shared → Prop} (hs : s.heap.IsSliceOf sl .none .none (.int (-1) t)) (h : Q ((n : Int) - 1, -1, n) s) : wpAny (model prog w) A (Builtin.Slice.sliceApplied (.ref sl) (pure (n : Int))) Q E s := by
  obtain ⟨os, hos, hcs, hds⟩ := id hs
  unfold Builtin.Slice.sliceApplied Builtin.Slice.sliceFields
  refine wpAny_bind (wpAny_bind (wpAny_field hos hds (x := .none) rfl (wpAny_bind (wpAny_field hos hds (x := .none) rfl (wpAny_bind (wpAny_field hos hds (x := .int (-1) t) rfl (wpAny_pure ?_)))))))
  refine wpAny_bind (slicePart_int ?_)
  show wpAny _ _ (if ((-1 : Int) == 0) = true then _ else _) _ _ s
  rw [if_neg (by decide)]
  refine wpAny_bind (slicePart_none (wpAny_bind (slicePart_none (wpAny_bind (wpAny_pure ?_)))))
  show wpAny _ _ (pure ((n : Int) - 1, (-1 : Int), Builtin.Slice.slicePlaces ((n : Int) - 1) (-1) (-1))) _ _ s
  rw [places_back]
  exact wpAny_pure h
theorem fm_congr {α β : Type} {f g : α → Option β} : ∀ {l : List α}, (∀ m ∈ l, f m = g m) → l.filterMap f = l.filterMap g
  | [], _ => rfl
  | a :: r, h => by
    rw [List.filterMap_cons, List.filterMap_cons, h a List.mem_cons_self, fm_congr fun m hm => h m (List.mem_cons_of_mem _ hm)]
theorem pick_back (xs : Array Value) : ((List.range xs.size).filterMap fun (m : Nat) => xs[(((xs.size : Int) - 1) + (m : Int) * (-1)).toNat]?).toArray = xs.toList.reverse.toArray := by
  congr 1
  have e : ∀ m ∈ List.range xs.size, (fun (m : Nat) => xs[(((xs.size : Int) - 1) + (m : Int) * (-1)).toNat]?) m = (fun (m : Nat) => xs.toList.reverse[m]?) m := fun m hm => by
    have lt := List.mem_range.mp hm
    show xs[(((xs.size : Int) - 1) + (m : Int) * (-1)).toNat]? = xs.toList.reverse[m]?
    rw [List.getElem?_reverse (by rw [Array.length_toList]; exact lt), Array.getElem?_toList]
    congr 1
    rw [Array.length_toList]
    omega
  rw [fm_congr e]
  have l : xs.size = xs.toList.reverse.length := by rw [List.length_reverse, Array.length_toList]
  rw [l]
  generalize xs.toList.reverse = ys
  induction ys with
  | nil => rfl
  | cons a r ih =>
    rw [List.length_cons, List.range_succ_eq_map, List.filterMap_cons]
    show a :: _ = _
    rw [List.filterMap_map]
    congr 1
theorem item_back {t sl : Addr} {items : Array Value} {tk : Tok} {Q : Value → Shared → Prop} (ht : IsTup s.heap t items) (hs : s.heap.IsSliceOf sl .none .none (.int (-1) tk)) (h : Q (.ref s.heap.objs.size) { s with heap := s.heap.push { cls := .type "tuple", data := .seq items.toList.reverse.toArray } })
    (hsz : items.size ≤ sizeLine) : wpAny (model prog w) A (getItem (.ref t) (.ref sl)) Q E s := by
  have fits : sizeOk (.seq items.toList.reverse.toArray) := by
    show items.toList.reverse.toArray.size ≤ sizeLine
    rw [List.size_toArray, List.length_reverse, Array.length_toList]
    exact hsz
  obtain ⟨os, hos, hcs, hds⟩ := id hs
  have hT : s.TypeIs (.ref sl) "slice" := ⟨os, hos, hcs⟩
  unfold getItem
  try with_reducible refine wpAny_holding ?_
  first | refine wpAny_bind (wpAny_pure ?_) | skip
  refine wpAny_bind (wpAny_sequenceKey ht.typeIs (by decide) ?_)
  refine wpAny_bind (wpAny_callSpecial?_slot (name := Str.ofString "__getitem__") ht.typeIs PyProof.Rows.slot_tuple_getitem
    (wpAny_call_entry PyProof.Rows.slot_tuple_getitem ht.typeIs entry_tuple_getitem ?_ (args_tuple_getitem _ _)))
  show wpAny _ _ (Builtin.Tuple.tupleItemsOf (.ref t) >>= _) _ _ s
  refine wpAny_bind (tupleItemsOf_ ht (wpAny_bind (wpAny_typeOf hT ?_)))
  rw [if_pos (by decide)]
  refine wpAny_bind (back_applied hs ?_)
  show wpAny _ _ (if ((((items.size : Int) - 1) == 0 && (-1 : Int) == 1) && items.size == items.size) = true then _ else _) _ _ s
  rw [if_neg (by rw [show ((-1 : Int) == 1) = false from rfl, Bool.and_false, Bool.false_and]; exact Bool.false_ne_true), pick_back]
  first
    | exact wpAny_bind (m := Builtin.Tuple.tupleExact _) (wpAny_newObj_type (wpAny_pure ⟨_, rfl, wpAny_pure h⟩) fits)
    | exact wpAny_bind (m := Builtin.Tuple.tupleExact _) (wpAny_newObj_type (wpAny_bind (wpAny_pure (wpAny_pure ⟨_, rfl, wpAny_pure h⟩))) fits)
    | exact wpAny_bind (wpAny_bind (m := Builtin.Tuple.tupleExact _) (wpAny_newObj_type (wpAny_pure (wpAny_pure ⟨_, rfl, wpAny_pure h⟩)) fits))
    | exact wpAny_bind (wpAny_bind (m := Builtin.Tuple.tupleExact _) (wpAny_newObj_type (wpAny_pure ⟨_, rfl, wpAny_pure h⟩) fits))
end
end LR
namespace LR
open PySem PySem.Spec PyProof.Rows L2
variable {X : Cx}
theorem pe_revT {e : Expr} {te : TE} {k : Nat} {p1 p2 p3 pos : Pos} (he : PE X e te) : PE X (.Subscript e (.Slice none none (some (.UnaryOp .USub (.Constant (.int 1) k p1) p2)) p3) pos) (tRevT X.K te) := by
  refine ⟨fun pins s σ H Q I h => Subscript_ (thn (he.run pins s σ H _ I h) fun v s1 got => ?_)⟩
  obtain ⟨x, H1, I1, r1, a, xs, rfl, hx, q⟩ := got
  cases r1
  have st : PO X (some (.UnaryOp .USub (.Constant (.int 1) k p1) p2)) (tPart (tUn (rU fun i => .int (-i)) (tC (.int 1)))) := po_some (pe_un un_neg pe_int)
  refine wpAny_Slice (thn (po_none.run pins s1 σ H1 (fun o G => o = none ∧ G = H1) I1 ⟨rfl, rfl⟩) fun vl s2 g2 => ?_)
  obtain ⟨_, _, I2, pl, rfl, rfl⟩ := g2
  refine thn (po_none.run pins s2 σ _ (fun o G => o = none ∧ G = _) I2 ⟨rfl, rfl⟩) fun vu s3 g3 => ?_
  obtain ⟨_, _, I3, pu, rfl, rfl⟩ := g3
  refine thn (st.run pins s3 σ _ (fun o G => o = some (-1) ∧ G = _) I3 ⟨1, rfl, -1, rfl, rfl, rfl⟩) fun vs s4 g4 => ?_
  obtain ⟨_, _, I4, pt, rfl, rfl⟩ := g4
  cases pl
  cases pu
  cases pt
  rename_i tk
  have I5 : Inv X pins σ _ { s4 with heap := s4.heap.push { cls := .type "slice", data := .fields #[.none, .none, .int (-1) tk] } } := I4.kept (t' := s4.toks) fun b ob z => Heap.get?_push_of_some _ z
  obtain ⟨its, r, ht, hz⟩ := I5.tuple hx
  show wpAny (model X.prog X.w) X.A (subscriptTail e (.Slice none none (some (.UnaryOp .USub (.Constant (.int 1) k p1) p2)) p3) (.ref a) (.ref s4.heap.objs.size)) (EP X pins σ Q) X.xe { s4 with heap := s4.heap.push { cls := .type "slice", data := .fields #[.none, .none, .int (-1) tk] } }
  refine tail_any (ops := [.ref a, .ref s4.heap.objs.size]) ht.typeIs PyProof.Rows.slot_tuple_getitem.lookup ?_ (by with_unfolding_all rfl)
  refine item_back ht (Heap.IsSliceOf.new _ _ _ _) ?_ (by rw [List.size_toArray, ← r.length]; exact hz)
  exact ⟨.ref _, _, I5.laid (t' := s4.toks) (o := .tup xs.reverse) (fun b ob z => Heap.get?_push_of_some _ z) (Nat.le_refl _) ⟨by rw [List.length_reverse]; exact hz, _, r.reverse, IsTup.new _ _⟩, rfl, q _ (I5.hok.fresh (Nat.le_refl _))⟩
end LR

namespace LK
open PySem PySem.Spec PyProof.Rows L2 LR
/-! ### chains applied -/
abbrev St3 := Addr × Str × Str
def nestM : List St3 → Md → Md
  | [], m => m
  | s :: r, m => .ap (.st s.1 s.2.1 s.2.2) [nestM r m]
def OneS (cS : Addr) (H : Hp) (s : St3) : Prop := HdS cS H (.st s.1 s.2.1 s.2.2) ∧ s.2.2.length = 1
theorem OneS.same {cS : Addr} {H H' : Hp} {s : St3} (t : Same H H') (h : OneS cS H s) : OneS cS H' s := ⟨hdS_tr (Tr.same t) h.1, h.2⟩
def refS (ss : List St3) : List V := ss.map fun s => .ref s.1
def spChainI (K : PySem.W.Frag) (cS C : Addr) : Sp := fun vs H Q _ => ∃ (x dx p : Addr) (ss : List St3), vs = [.ref x, .ref p] ∧ H x = some (.ins C dx []) ∧ H p = some (.tup (refS ss)) ∧ (∀ s ∈ ss, OneS cS H s) ∧ ∀ H', H' x = some (.ins C dx [("steps", .ref p)]) → Keep x H H' → Q .non H'
def spChCallX (K : PySem.W.Frag) (E C cS : Addr) : Sp := fun vs H Q _ => ∃ (a dx p : Addr) (v : V) (ss : List St3) (n : Nat) (m : Md), vs = [.ref a, v] ∧ H a = some (.ins C dx [("steps", .ref p)]) ∧ H p = some (.tup (refS ss)) ∧ (∀ s ∈ ss, OneS cS H s) ∧ PartR K E cS n H v m ∧ sz (nestM ss m) < 64 ∧
  ∀ e H', Same H H' → ExR K E cS (n + ss.length) H' (nestM ss m) e → Q e H'
theorem nest_sz : ∀ (ss : List St3) (i : Nat) (m : Md), sz (nestM (ss.drop i) m) ≤ sz (nestM ss m)
  | [], i, m => by rw [List.drop_nil]; exact Nat.le_refl _
  | s :: r, 0, m => Nat.le_refl _
  | s :: r, i + 1, m => by
    have := nest_sz r i m
    show sz (nestM (r.drop i) m) ≤ sz (.ap (.st s.1 s.2.1 s.2.2) [nestM r m])
    simp only [sz, szL]
    omega
section
variable {P : Program} {w : World} {K : PySem.W.Frag} {mg : Str → Option Value} {base : Heap}
theorem scChInit : FnScope ["self", "steps", "step"] ((["self"] : List Str) ++ (["steps"] : List Str)) (defScope sChainInit) := ⟨rfl, rfl, rfl, by decide +kernel, rfl, by decide +kernel, by decide +kernel⟩
theorem ok_chainI {cS C fL f : Addr} {fdL fd : FuncData} (S : Std mg) (c : OwnCl K mg "Step" cS) (n2 : NoAttr K cS "ways") (L : LenM K cS fL fdL sStepLen "Step.__len__") (cl : Cls K C) (m : NoAttr K C "steps") (F : Fun K "__init__" "Chain.__init__" sChainInit f fd) :
    FnR P w K mg base CX0 3 f (fun vs H Q E => ∃ ws rest, vs = ws ++ rest ∧ ws.length = ([("self" : Str)] : List Str).length ∧ rest.length ≤ sizeLine ∧ ∀ p, H p = Option.none → spChainI K cS C (ws ++ [V.ref p]) (upd H p (.tup rest)) Q E) := by
  refine okStar (ps := ["self"]) (pv := "steps") F scChInit (fun kV doc pm an cdv ct => StX.bind_star1 (B := fun us => bindArgs (PySem.W.fnOf "__init__" "Chain.__init__" (defArgs sChainInit) (defBody sChainInit) (defScope sChainInit) .none kV doc pm an cdv ct) ⟨us, []⟩) (p1 := "self") (pv := "steps") (fun a => rfl) (fun a r rs => rfl)) (fun cdv A outer s H vs Q E hr h => ?_)
  obtain ⟨x, dx, p, ss, rfl, hx, hp, hs, q⟩ := h
  have GL := fun (P : Program) (w : World) (base : Heap) => ok_stLen (P := P) (w := w) (base := base) S c.cl n2 L.F
  refine ⟨_, pss_cons (ps_for PassesOwn.never rfl (pi_tup (pv 1)) (pg_name (i := 2) scChInit.nd rfl (Or.inl rfl)) (pss_one (ps_if (PW.pt (pw_or (pt_not (pt_val (pe_callB call_isi (by rfl) S.isi (by decide +kernel) (pa_cons (pv 2) (pa_cons (pe_glob (v := .ref cS) rfl c.g rfl) pa_nil)))))
        (pw_or1 (pt_cmpR op_ne (pe_callB (LR.call_lenOwn (GL _ _ _) L.at_ L.fn L.b pass0 hr) (by rfl) S.len PySem.boot_len (pa_cons (pv 2) pa_nil)) pe_int (nomark _))))) (pss_one ps_never) pss_nil)))
    (pss_one (ps_fld (pv 0) (pv 1) rfl)), ?_⟩
  refine ⟨_, rfl, p, rfl, ⟨_, SqT.of hp⟩, for_tup (xs := refS ss) (fun i σ' H' => (∃ o, σ' = [some (.ref x), some (.ref p), o]) ∧ H' = H) ⟨⟨_, rfl⟩, rfl⟩ (fun i σ' H' _ h => ?_) (fun i v σ' H' hv h => ?_) (fun σ' H' h => ?_)⟩
  · rw [h.2]
    exact SqT.of hp
  · obtain ⟨⟨o, rfl⟩, rfl⟩ := h
    unfold refS at hv
    rw [List.getElem?_map] at hv
    obtain ⟨t, ht, rfl⟩ := Option.map_eq_some_iff.mp hv
    obtain ⟨⟨⟨db, hb⟩, no, wo⟩, hy⟩ := hs t (List.mem_of_getElem? ht)
    refine ⟨_, rfl, _, _, _, _, true, rfl, .own cS, c.ty hb, kit_self, true, rfl, iteF ?_⟩
    refine ⟨_, rfl, t.1, db, _, rfl, hb, t.1, t.2.1, t.2.2, rfl, ⟨db, hb⟩, by omega, t.2.2.length, rfl, by omega, rfl, _, rfl, ?_⟩
    rw [hy]
    exact iteF ⟨⟨_, rfl⟩, rfl⟩
  · obtain ⟨⟨o, rfl⟩, rfl⟩ := h
    refine ⟨_, rfl, _, rfl, x, C, dx, _, rfl, hx, cl, m, by decide, ?_⟩
    exact q _ upd_same Keep.put
def nCC : List Str := ["self", "part", "expr", "step"]
theorem scCC : FnScope nCC ["self", "part"] (defScope sChainCall) := ⟨rfl, rfl, rfl, by decide +kernel, rfl, by decide +kernel, by decide +kernel⟩
theorem ok_chCallX {cE C cS fP fA f : Addr} {fdP fdA fd : FuncData} (S : Std mg) (cl : Cls K C) (mA : NoAttr K C "steps") (P1 : Df K mg "part_expr" sPartExpr fP fdP ["value"]) (GP : FnOk P w K mg base CX0 6 fP fdP ["value"] (spAsX K cE cS)) (A1 : Df K mg "applied" sApplied fA fdA ["step", "parts"])
    (GA : FnOk P w K mg base CX0 4 fA fdA ["step", "parts"] (spAppliedX K cE cS)) (F : Fun K "__call__" "Chain.__call__" sChainCall f fd) : FnOk P w K mg base CX0 7 f fd ["self", "part"] (spChCallX K cE C cS) := by
  refine F.ok scCC (fun vs H Q E h => ?_) (fun cdv A outer s H vs Q E hr h => ?_)
  · obtain ⟨a, dx, p, v, ss, n, m, rfl, _⟩ := h
    rfl
  · obtain ⟨a, dx, p, v, ss, n, m, rfl, ha, hp, hs, hv, few, q⟩ := h
    have rm4 : Room 4 _ := hr.mono (by decide)
    refine ⟨_, pss_cons (ps_set (i := 2) scCC.nd rfl (Or.inl rfl) (pe_call GP hr rfl P1.g P1.F.kp P1.b .nil pass0 (pa_cons (pv 1) pa_nil)))
      (pss_cons (ps_for PassesOwn.never rfl (pi_tup (LR.pe_revT (pe_fld (pv 0) rfl))) (pg_name (i := 3) scCC.nd rfl (Or.inl rfl)) (pss_one (ps_set (i := 2) scCC.nd rfl (Or.inl rfl) (pe_call GA rm4 rfl A1.g A1.F.kp A1.b .nil pass0 (pa_cons (pv 3) (pa_cons (pe_lst (pa_cons (pv 2) pa_nil)) pa_nil))))))
      (pss_one (ps_ret (pv 2)))), ?_⟩
    refine ⟨_, rfl, v, n, m, rfl, hv, fun x H1 s1 hx => ?_⟩
    refine ⟨_, rfl, a, C, dx, _, .ref p, rfl, s1 _ _ ha, cl, mA, rfl, p, refS ss, rfl, SqT.of (s1 _ _ hp), fun r hr' => ?_⟩
    have s2 := same_new (o := .tup (refS ss).reverse) hr'
    have ll : (refS ss).length = ss.length := List.length_map ..
    refine ⟨r, rfl, ⟨_, SqT.of upd_same⟩, for_tup (xs := (refS ss).reverse) (fun i σ' H' => ∃ e o, σ' = [some (.ref a), some v, some e, o] ∧ Same (upd H1 r (.tup (refS ss).reverse)) H' ∧ ExR K cE cS (n + i) H' (nestM (ss.drop (ss.length - i)) m) e) ⟨x, none, rfl, Same.refl _, ?_⟩ (fun i σ' H' _ h => ?_) (fun i u σ' H' hu h => ?_) (fun σ' H' h => ?_)⟩
    · rw [Nat.sub_zero, List.drop_length]
      exact hx.same s2
    · obtain ⟨_, _, _, s3, _⟩ := h
      exact SqT.of (s3 _ _ upd_same)
    · obtain ⟨e, o, rfl, s3, he⟩ := h
      have lt := (List.getElem?_eq_some_iff.mp hu).1
      rw [List.length_reverse] at lt
      rw [List.getElem?_reverse lt] at hu
      unfold refS at hu
      rw [List.getElem?_map] at hu
      obtain ⟨t, ht, rfl⟩ := Option.map_eq_some_iff.mp hu
      have s13 := (s1.trans s2).trans s3
      have one := (hs t (List.mem_of_getElem? ht)).same s13
      have l2 : ss.length - (i + 1) < ss.length := by omega
      have dl : ss.drop (ss.length - (i + 1)) = t :: ss.drop (ss.length - i) := by
        rw [List.drop_eq_getElem_cons l2]
        have e1 : ss[ss.length - (i + 1)] = t := by
          have h1 := List.getElem?_eq_getElem l2
          rw [List.length_map] at ht
          rw [show ss.length - 1 - i = ss.length - (i + 1) by omega, h1] at ht
          exact Option.some.inj ht
        rw [e1, show ss.length - (i + 1) + 1 = ss.length - i by omega]
      refine ⟨_, rfl, _, rfl, (by show 1 ≤ sizeLine; decide), fun l hl => ?_⟩
      have s4 := same_new (o := .lst [e]) hl
      refine ⟨t.1, l, t.2.1, t.2.2, n + i, [(e, nestM (ss.drop (ss.length - i)) m)], rfl, hdS_tr (Tr.same s4) one.1, one.2.symm, SqL.of upd_same, fun u hu => ?_, ?_, fun e2 H2 s5 ex => ?_⟩
      · rw [List.mem_singleton.mp hu]
        exact he.same s4
      · have := nest_sz ss (ss.length - (i + 1)) m
        rw [dl] at this
        exact Nat.lt_of_le_of_lt this few
      · refine ⟨e2, _, rfl, (s3.trans s4).trans s5, ?_⟩
        rw [dl]
        exact ex
    · obtain ⟨e, o, rfl, s3, he⟩ := h
      rw [List.length_reverse, ll, Nat.sub_self, List.drop_zero] at he
      exact ⟨_, rfl, q e H' ((s1.trans s2).trans s3) he⟩
end
end LK

/-! == of tuples and lists of things with an own __eq__: either answer -/
namespace LR
open PySem PySem.SeqAt
open AutoSeq1 (wpAny_loadPart')
open MeetsSeq MeetsSeq2 MeetsSeq3 SeqRoads2
section
variable {prog : Program} {w : World} {A : Around} {R : Result → Shared → Prop}
theorem tuple_eqB (l b : Addr) (items items2 : Array Value) (n n2 : Nat) (dd dd2 : Option Addr) (sl sl2 : Array (Option Value)) (f : Nat → Bool) (I : Shared → Prop)
    (turn : ∀ i (h1 : i < items.size) (h2 : i < items2.size) s, I s → wpAny (model prog w) A.in1 (eqBool items[i] items2[i]) (fun r s' => r = f i ∧ I s') (fun e s' => R (.error e) s') s)
    (res : Bool) (no : ∀ i, i < items.size → i < items2.size → f i = false → res = false) (yes : (∀ i, i < items.size → i < items2.size → f i = true) → res = (items.size == items2.size))
    (fin : ∀ s, I s → R (.ok (.ret (.bool res))) s) {s : Shared} (hl1 : s.heap.get? l = some { cls := .type "tuple", dict := dd, data := .seq items n, slots := sl }) (hb1 : s.heap.get? b = some { cls := .type "tuple", dict := dd2, data := .seq items2 n2, slots := sl2 }) (h : I s) :
    wpAny (model prog w) A.in1 (Builtin.«tuple.__eq__» ⟨[.ref l, .ref b], []⟩) (GQ.FinOf prog w A R) (fun e s' => R (.error e) s') s := by
  have f2 := AutoSeq1.sub_tuple_tuple
  have h0 := h
  have hZ : (items.toList.zip items2.toList).length = min items.size items2.size := by simp
  obtain ⟨hp, g, d, tk, os⟩ := s
  wp_walk using wpAny_loadPart' hl1, wpAny_loadPart' hb1, wpAny_forIn_list _ (fun rest b s' => b.1 = none ∧ ∃ i, rest = (items.toList.zip items2.toList).drop i ∧ (∀ j, j < i → f j = true) ∧ I s') _
  case turn =>
    rintro ⟨y, x⟩ rest b s' ⟨hb', i, hz, hi, hI⟩
    have hlt : i < (items.toList.zip items2.toList).length := by
      rcases Nat.lt_or_ge i (items.toList.zip items2.toList).length with h' | h'
      · exact h'
      · rw [List.drop_of_length_le h'] at hz; cases hz
    have h1 : i < items.size := by rw [hZ] at hlt; omega
    have h2 : i < items2.size := by rw [hZ] at hlt; omega
    rw [List.drop_eq_getElem_cons hlt] at hz
    injection hz with hyx hrest
    have hy : y = items[i] := by have := congrArg Prod.fst hyx; simpa using this
    have hx : x = items2[i] := by have := congrArg Prod.snd hyx; simpa using this
    subst hy hx
    refine wpAny_bind (wpAny_mono (turn i h1 h2 s' hI) (fun r s2 q2 => ?_) fun _ _ x => x)
    obtain ⟨hr, q2⟩ := q2
    subst hr
    cases hf : f i with
    | true =>
      wp_walk
      exact ⟨rfl, i + 1, hrest, fun j hj => by
        rcases Nat.lt_or_ge j i with q | q
        · exact hi j q
        · rw [show j = i by omega]; exact hf, q2⟩
    | false =>
      have hR : R (.ok (.ret (.bool res))) s2 := fin s2 q2
      rw [no i h1 h2 hf] at hR
      wp_walk
      exact hR
  case fin =>
    rintro ⟨b1, b2⟩ s' ⟨hb', i, hz, hi, hI⟩
    simp only at hb'
    subst hb'
    have hge : min items.size items2.size ≤ i := by
      rcases Nat.lt_or_ge i (items.toList.zip items2.toList).length with h' | h'
      · rw [List.drop_eq_getElem_cons h'] at hz; cases hz
      · exact hZ ▸ h'
    have hR : R (.ok (.ret (.bool res))) s' := fin s' hI
    rw [yes fun j h1 h2 => hi j (by omega)] at hR
    wp_walk
    simpa [Builtin.Tuple.tupleCompareSizes] using hR
  case h =>
    exact ⟨rfl, 0, rfl, fun j hj => absurd hj (Nat.not_lt_zero _), h0⟩
/-- at each turn the two lists are read anew -/
def ListB (l b : Addr) (N : Nat) (I : Shared → Prop) : Prop :=
  ∀ s, I s → ∃ (items items2 : Array Value) (n n2 : Nat), s.heap.get? l = some { cls := .type "list", data := .seq items n } ∧ s.heap.get? b = some { cls := .type "list", data := .seq items2 n2 } ∧ items.size = N ∧ items2.size = N
def TurnB (prog : Program) (w : World) (A : Around) (E : Value → Shared → Prop) (l b : Addr) (f : Nat → Bool) (I : Shared → Prop) : Prop :=
  ∀ s (items items2 : Array Value) (n n2 : Nat), I s → s.heap.get? l = some { cls := .type "list", data := .seq items n } → s.heap.get? b = some { cls := .type "list", data := .seq items2 n2 } →
    ∀ i (h1 : i < items.size) (h2 : i < items2.size), wpAny (model prog w) A.in1 (eqBool items[i] items2[i]) (fun r s' => r = f i ∧ I s') E s
theorem eq_loopB (l b : Addr) (N : Nat) (f : Nat → Bool) (I : Shared → Prop) (hl : ListB l b N I) (turn : TurnB prog w A (fun e s' => R (.error e) s') l b f I)
    (res : Bool) (no : ∀ i, i < N → f i = false → res = false) (yes : (∀ i, i < N → f i = true) → res = true)
    (fin : ∀ s, I s → R (.ok (.ret (.bool res))) s) (k : Nat) :
    ∀ i : Nat, N - i = k → i ≤ N → (∀ j, j < i → f j = true) → ∀ s, I s →
      wpAny (model prog w) A.in1 (Builtin.«list.__eq__.loop» ⟨[.ref l, .ref b, rawInt i, rawInt 2], []⟩) (GQ.FinOf prog w A R) (fun e s' => R (.error e) s') s := by
  induction k with
  | zero =>
    intro i hk hi hj s h
    obtain ⟨items, items2, n, n2, hl1, hb1, hs1, hs2⟩ := hl _ h
    have hi' : i = N := by omega
    have hR : R (.ok (.ret (.bool res))) s := fin s h
    rw [yes fun j q => hj j (by omega)] at hR
    obtain ⟨hp, g, d, tk, os⟩ := s
    wp_walk using wpAny_loadPart' hl1, wpAny_loadPart' hb1
    have hi1 : items[((i : Nat) : Int).toNat]? = none := by simp; omega
    have hi2 : items2[((i : Nat) : Int).toNat]? = none := by simp; omega
    rw [hi1, hi2]
    wp_walk using wpAny_loadPart' hl1, wpAny_loadPart' hb1
    show R (.ok (.ret (.bool (items.size == items2.size)))) _
    rw [hs1, hs2]
    simpa using hR
  | succ k ih =>
    intro i hk hi hj s h
    obtain ⟨items, items2, n, n2, hl1, hb1, hs1, hs2⟩ := hl _ h
    have hlt : i < items.size := by omega
    have hlt2 : i < items2.size := by omega
    have ht := turn s items items2 n n2 h hl1 hb1 i hlt hlt2
    obtain ⟨hp, g, d, tk, os⟩ := s
    wp_walk using wpAny_loadPart' hl1, wpAny_loadPart' hb1
    have hi1 : items[((i : Nat) : Int).toNat]? = some items[i] := by simp [hlt]
    have hi2 : items2[((i : Nat) : Int).toNat]? = some items2[i] := by simp [hlt2]
    have hc : ((i : Int) + 1) = ((i + 1 : Nat) : Int) := by omega
    rw [hi1, hi2]
    refine wpAny_bind (wpAny_mono ht (fun r s2 h2 => ?_) fun _ _ x => x)
    obtain ⟨hr, h2⟩ := h2
    subst hr
    cases hf : f i with
    | true =>
      have hrec := ih (i + 1) (by omega) (by omega) (fun j q => by
        rcases Nat.lt_or_ge j i with q' | q'
        · exact hj j q'
        · rw [show j = i by omega]; exact hf) s2 h2
      obtain ⟨hp2, g2, d2, tk2, os2⟩ := s2
      wp_walk
      rw [hc]
      exact ⟨plainId_quiet plain_eq_loop _, codeAny_builtin entry_eq_loop (by
        rw [Around.under_plainId plain_eq_loop _]
        exact hrec)⟩
    | false =>
      have hR : R (.ok (.ret (.bool res))) s2 := fin s2 h2
      rw [no i (by omega) hf] at hR
      obtain ⟨items', items2', n', n2', hl1', hb1', hs1', hs2'⟩ := hl _ h2
      obtain ⟨hp2, g2, d2, tk2, os2⟩ := s2
      wp_walk using wpAny_loadPart' hl1', wpAny_loadPart' hb1'
      have hi1' : items'[((i : Nat) : Int).toNat]? = some (items'[i]'(by omega)) := by simp
      have hi2' : items2'[((i : Nat) : Int).toNat]? = some (items2'[i]'(by omega)) := by simp
      rw [hi1', hi2']
      wp_walk
      exact hR
theorem list_eqB (l b : Addr) (N : Nat) (f : Nat → Bool) (I : Shared → Prop) (hl : ListB l b N I) (turn : TurnB prog w A (fun e s' => R (.error e) s') l b f I)
    (res : Bool) (no : ∀ i, i < N → f i = false → res = false) (yes : (∀ i, i < N → f i = true) → res = true)
    (fin : ∀ s, I s → R (.ok (.ret (.bool res))) s) {s : Shared} (h : I s) :
    wpAny (model prog w) A.in1 (Builtin.«list.__eq__» ⟨[.ref l, .ref b], []⟩) (GQ.FinOf prog w A R) (fun e s' => R (.error e) s') s := by
  obtain ⟨items, items2, n, n2, hl1, hb1, hs1, hs2⟩ := hl _ h
  have hrec := eq_loopB (A := A) (R := R) l b N f I hl turn res no yes fin _ 0 rfl (Nat.zero_le _) (fun j q => absurd q (Nat.not_lt_zero _)) s h
  obtain ⟨hp, g, d, tk, os⟩ := s
  have f3 := AutoSeq1.sub_list_list
  have hne : ¬ (items.size != items2.size) = true := by simp [hs1, hs2]
  wp_walk using wpAny_loadPart' hl1, wpAny_loadPart' hb1
  exact ⟨plainId_quiet plain_eq_loop _, codeAny_builtin entry_eq_loop (by
    rw [Around.under_plainId plain_eq_loop _]
    exact hrec)⟩
theorem list_lenB (l b : Addr) (items items2 : Array Value) (n n2 : Nat) (hne : items.size ≠ items2.size) {s : Shared} (hl1 : s.heap.get? l = some { cls := .type "list", data := .seq items n }) (hb1 : s.heap.get? b = some { cls := .type "list", data := .seq items2 n2 })
    (fin : R (.ok (.ret (.bool false))) s) :
    wpAny (model prog w) A.in1 (Builtin.«list.__eq__» ⟨[.ref l, .ref b], []⟩) (GQ.FinOf prog w A R) (fun e s' => R (.error e) s') s := by
  obtain ⟨hp, g, d, tk, os⟩ := s
  have f3 := AutoSeq1.sub_list_list
  have hne' : (items.size != items2.size) = true := by simp [hne]
  wp_walk using wpAny_loadPart' hl1, wpAny_loadPart' hb1
  exact fin
end
section
variable {prog : Program} {w : World} {A : Around} {E : Value → Shared → Prop} {s : Shared}
theorem rc_tupB {l b : Addr} {items items2 : Array Value} {Q : Value → Shared → Prop} (hu : A.units < cLine) (f : Nat → Bool) (I : Shared → Prop)
    (hl : s.heap.IsTuple l items) (hb : s.heap.IsTuple b items2)
    (turn : ∀ i (h1 : i < items.size) (h2 : i < items2.size) s, I s → wpAny (model prog w) A.in1 (eqBool items[i] items2[i]) (fun r s' => r = f i ∧ I s') E s)
    (res : Bool) (no : ∀ i, i < items.size → i < items2.size → f i = false → res = false) (yes : (∀ i, i < items.size → i < items2.size → f i = true) → res = (items.size == items2.size))
    (fin : ∀ s, I s → Q (.bool res) s) (h : I s) : wpAny (model prog w) A (richCompare .Eq (.ref l) (.ref b)) Q E s := by
  obtain ⟨⟨cls, dd, data, sl⟩, ho, hc, n, hd⟩ := id hl
  obtain ⟨⟨cls2, dd2, data2, sl2⟩, ho2, hc2, n2, hd2⟩ := id hb
  simp only at hc hd hc2 hd2
  subst hc hd hc2 hd2
  refine wpAny_richCompare_same_room (op := .Eq) ⟨_, ho, rfl⟩ ⟨_, ho2, rfl⟩ F.slot_tuple_eq (GQ.call_here F.slot_tuple_eq ⟨_, ho, rfl⟩ F.entry_tuple_eq (F.args_tuple_eq_2 _ _) ?_) hu
  exact tuple_eqB (R := wants (fun v s' => v ≠ .notImplemented ∧ Q v s') E) l b items items2 n n2 dd dd2 sl sl2 f I turn res no yes (fun s' q => ⟨(fun x => nomatch x), fin s' q⟩) ho ho2 h
theorem rc_listB {l b : Addr} {N : Nat} {Q : Value → Shared → Prop} (hu : A.units < cLine) (f : Nat → Bool) (I : Shared → Prop) (hl : ListB l b N I) (turn : TurnB prog w A E l b f I)
    (res : Bool) (no : ∀ i, i < N → f i = false → res = false) (yes : (∀ i, i < N → f i = true) → res = true)
    (fin : ∀ s, I s → Q (.bool res) s) (h : I s) : wpAny (model prog w) A (richCompare .Eq (.ref l) (.ref b)) Q E s := by
  obtain ⟨items, items2, n, n2, hl1, hb1, _, _⟩ := hl _ h
  refine wpAny_richCompare_same_room (op := .Eq) ⟨_, hl1, rfl⟩ ⟨_, hb1, rfl⟩ F.slot_list_eq (GQ.call_here F.slot_list_eq ⟨_, hl1, rfl⟩ F.entry_list_eq (F.args_list_eq_2 _ _) ?_) hu
  exact list_eqB (R := wants (fun v s' => v ≠ .notImplemented ∧ Q v s') E) l b N f I hl turn res no yes (fun s' q => ⟨(fun x => nomatch x), fin s' q⟩) h
theorem rc_listL {l b : Addr} {items items2 : Array Value} {n n2 : Nat} {Q : Value → Shared → Prop} (hu : A.units < cLine) (hne : items.size ≠ items2.size) (hl1 : s.heap.get? l = some { cls := .type "list", data := .seq items n }) (hb1 : s.heap.get? b = some { cls := .type "list", data := .seq items2 n2 })
    (fin : Q (.bool false) s) : wpAny (model prog w) A (richCompare .Eq (.ref l) (.ref b)) Q E s := by
  refine wpAny_richCompare_same_room (op := .Eq) ⟨_, hl1, rfl⟩ ⟨_, hb1, rfl⟩ F.slot_list_eq (GQ.call_here F.slot_list_eq ⟨_, hl1, rfl⟩ F.entry_list_eq (F.args_list_eq_2 _ _) ?_) hu
  exact list_lenB (R := wants (fun v s' => v ≠ .notImplemented ∧ Q v s') E) l b items items2 n n2 hne hl1 hb1 ⟨(fun x => nomatch x), fin⟩
theorem eqBool_refB {l b : Addr} {Q : Bool → Shared → Prop} (hne : l ≠ b) (h : wpAny (model prog w) A (richCompare .Eq (.ref l) (.ref b)) (fun v s' => ∃ r, v = .bool r ∧ Q r s') E s) : wpAny (model prog w) A (eqBool (.ref l) (.ref b)) Q E s := GQ.eqBool_refG hne h
end
end LR
namespace LR
open PySem PySem.Spec PyProof.Rows L2
/-- how == of two values comes out, by the abstract heap -/
abbrev EqvB := V → V → Bool → Hp → Prop
def MonB (D : EqvB) : Prop := ∀ x y b H H', Ext H H' → D x y b H → D x y b H'
def EqGB (X : Cx) (n : Nat) (D : EqvB) : Prop :=
  ∀ (A : Around) (pins : List (Addr × Obj)) (s : Shared) (σ : L2.St) (H : Hp) (x y : V) (b : Bool) (u v : Value), Sub X n A → Inv X pins σ H s → RelV x u → RelV y v → D x y b H →
    wpAny (model X.prog X.w) A (eqBool u v) (fun r s' => r = b ∧ ∃ H', Inv X pins σ H' s' ∧ Ext H H') X.xe s
def RcGB (X : Cx) (n : Nat) (D : EqvB) : Prop :=
  ∀ (A : Around) (pins : List (Addr × Obj)) (s : Shared) (σ : L2.St) (H : Hp) (x y : V) (b : Bool) (u v : Value), Sub X n A → Inv X pins σ H s → RelV x u → RelV y v → D x y b H →
    wpAny (model X.prog X.w) A (richCompare .Eq u v) (fun r s' => r = .bool b ∧ ∃ H', Inv X pins σ H' s' ∧ Ext H H') X.xe s
section
variable {X : Cx} {n m : Nat} {D D' : EqvB}
theorem EqGB.mono (h : EqGB X n D) (hn : n ≤ m) : EqGB X m D := fun A pins s σ H x y b u v sb => h A pins s σ H x y b u v (sb.mono hn)
theorem RcGB.mono (h : RcGB X n D) (hn : n ≤ m) : RcGB X m D := fun A pins s σ H x y b u v sb => h A pins s σ H x y b u v (sb.mono hn)
theorem EqGB.or (h : EqGB X n D) (h' : EqGB X n D') : EqGB X n (fun x y b H => D x y b H ∨ D' x y b H) := fun A pins s σ H x y b u v sb I rx ry d => d.elim (fun d => h A pins s σ H x y b u v sb I rx ry d) fun d => h' A pins s σ H x y b u v sb I rx ry d
theorem RcGB.or (h : RcGB X n D) (h' : RcGB X n D') : RcGB X n (fun x y b H => D x y b H ∨ D' x y b H) := fun A pins s σ H x y b u v sb I rx ry d => d.elim (fun d => h A pins s σ H x y b u v sb I rx ry d) fun d => h' A pins s σ H x y b u v sb I rx ry d
/-- flat values -/
def DFlatB : EqvB := fun x y b _ => flatV x = true ∧ flatV y = true ∧ eqV x y = b
theorem mon_flatB : MonB DFlatB := fun _ _ _ _ _ _ d => d
theorem eqGB_flat : EqGB X 0 DFlatB := by
  intro A pins s σ H x y b u v sb I rx ry d
  obtain ⟨fx, fy, e⟩ := d
  have q := eqAt_V (A := A) (s := s) rx ry fx fy
  rw [e] at q
  exact q X.prog X.w X.xe _ ⟨rfl, H, I, Ext.rfl'⟩
/-- item by item -/
def PrsB (D : EqvB) (xs ys : List V) (f : Nat → Bool) (H : Hp) : Prop := ∀ (i : Nat) x y, xs[i]? = some x → ys[i]? = some y → D x y (f i) H
theorem PrsB.mon (hD : MonB D) {xs ys : List V} {f : Nat → Bool} {H H' : Hp} (e : Ext H H') (p : PrsB D xs ys f H) : PrsB D xs ys f H' := fun i x y h1 h2 => hD x y _ H H' e (p i x y h1 h2)
def ansB (xs ys : List V) (f : Nat → Bool) : Bool := (List.range (min xs.length ys.length)).all f && (xs.length == ys.length)
theorem ansB_no {xs ys : List V} {f : Nat → Bool} {i : Nat} (h1 : i < xs.length) (h2 : i < ys.length) (h : f i = false) : ansB xs ys f = false := by
  unfold ansB
  rw [Bool.and_eq_false_iff]
  left
  rw [List.all_eq_false]
  exact ⟨i, List.mem_range.mpr (by omega), by rw [h]; decide⟩
theorem ansB_yes {xs ys : List V} {f : Nat → Bool} (h : ∀ i, i < xs.length → i < ys.length → f i = true) : ansB xs ys f = (xs.length == ys.length) := by
  unfold ansB
  have : (List.range (min xs.length ys.length)).all f = true := by
    rw [List.all_eq_true]
    intro i hi
    have := List.mem_range.mp hi
    exact h i (by omega) (by omega)
  rw [this, Bool.true_and]
/-- what the loop over the items keeps -/
theorem turnB (hD : MonB D) (h : EqGB X n D) {A : Around} (sb : Sub X (n + 1) A) {pins : List (Addr × Obj)} {σ : L2.St} {H : Hp} {xs ys : List V} {f : Nat → Bool} {its its2 : List Value} (p : PrsB D xs ys f H) (r : Vals xs its) (r2 : Vals ys its2)
    (i : Nat) (h1 : i < its.toArray.size) (h2 : i < its2.toArray.size) (s' : Shared) (l : LoopI X pins σ H s') :
    wpAny (model X.prog X.w) A.in1 (eqBool its.toArray[i] its2.toArray[i]) (fun r s2 => r = f i ∧ LoopI X pins σ H s2) X.xe s' := by
  obtain ⟨H1, I1, e1⟩ := l
  have g1 : its[i]? = some its.toArray[i] := by
    have h1' : i < its.length := by simpa using h1
    rw [List.getElem?_eq_getElem h1'] <;> simp
  have g2 : its2[i]? = some its2.toArray[i] := by
    have h2' : i < its2.length := by simpa using h2
    rw [List.getElem?_eq_getElem h2'] <;> simp
  have k1 : i < xs.length := by rw [r.length]; simpa using h1
  have k2 : i < ys.length := by rw [r2.length]; simpa using h2
  obtain ⟨u, hu, ru⟩ := r.get (List.getElem?_eq_getElem k1)
  obtain ⟨v, hv, rv⟩ := r2.get (List.getElem?_eq_getElem k2)
  rw [g1] at hu
  rw [g2] at hv
  rw [Option.some.inj hu, Option.some.inj hv]
  refine wpAny_mono (h A.in1 pins s' σ H1 _ _ _ u v sb.in1 I1 ru rv (hD _ _ _ _ _ e1 (p i _ _ (List.getElem?_eq_getElem k1) (List.getElem?_eq_getElem k2)))) (fun r s2 q => ?_) fun _ _ x => x
  obtain ⟨hr, H2, I2, e2⟩ := q
  exact ⟨hr, H2, I2, e1.trans e2⟩
def DTupB (K : PySem.W.Frag) (D : EqvB) : EqvB := fun x y r H => ∃ a b xs ys f, x = .ref a ∧ y = .ref b ∧ SqT K H a xs ∧ SqT K H b ys ∧ PrsB D xs ys f H ∧ r = ansB xs ys f
def DListB (D : EqvB) : EqvB := fun x y r H => ∃ a b xs ys f, x = .ref a ∧ y = .ref b ∧ H a = some (.lst xs) ∧ H b = some (.lst ys) ∧ (xs.length = ys.length → PrsB D xs ys f H) ∧ r = ansB xs ys f
theorem mon_tupB {K : PySem.W.Frag} (hD : MonB D) : MonB (DTupB K D) := fun x y r H H' e d => by
  obtain ⟨a, b, xs, ys, f, hx, hy, h1, h2, p, hr⟩ := d
  exact ⟨a, b, xs, ys, f, hx, hy, h1.ext e, h2.ext e, p.mon hD e, hr⟩
theorem mon_listB (hD : MonB D) : MonB (DListB D) := fun x y r H H' e d => by
  obtain ⟨a, b, xs, ys, f, hx, hy, h1, h2, p, hr⟩ := d
  exact ⟨a, b, xs, ys, f, hx, hy, e _ _ h1, e _ _ h2, fun l => (p l).mon hD e, hr⟩
theorem rcGB_tup (hD : MonB D) (h : EqGB X n D) : RcGB X (n + 1) (DTupB X.K D) := by
  intro A pins s σ H x y r u v sb I rx ry d
  obtain ⟨a, b, xs, ys, f, rfl, rfl, ha, hb, p, rfl⟩ := d
  cases rx
  cases ry
  obtain ⟨its, r, e, z⟩ := I.tuple ha
  obtain ⟨its2, r2, e2, z2⟩ := I.tuple hb
  have l1 : its.toArray.size = xs.length := by rw [List.size_toArray, ← r.length]
  have l2 : its2.toArray.size = ys.length := by rw [List.size_toArray, ← r2.length]
  exact rc_tupB sb.room.units0 f (fun s' => LoopI X pins σ H s') e e2 (fun i h1 h2 s' q => turnB hD h sb p r r2 i h1 h2 s' q) (ansB xs ys f) (fun i h1 h2 q => ansB_no (by omega) (by omega) q) (fun q => by rw [l1, l2]; exact ansB_yes fun i h1 h2 => q i (by omega) (by omega)) (fun s' q => ⟨rfl, q⟩) ⟨H, I, Ext.rfl'⟩
theorem rcGB_list (hD : MonB D) (h : EqGB X n D) : RcGB X (n + 1) (DListB D) := by
  intro A pins s σ H x y r u v sb I rx ry d
  obtain ⟨a, b, xs, ys, f, rfl, rfl, ha, hb, p, rfl⟩ := d
  cases rx
  cases ry
  by_cases hl : xs.length = ys.length
  · have key : ∀ s', LoopI X pins σ H s' → ∃ (its its2 : List Value) (k k2 : Nat), Vals xs its ∧ Vals ys its2 ∧ s'.heap.get? a = some { cls := .type "list", data := .seq its.toArray k } ∧ s'.heap.get? b = some { cls := .type "list", data := .seq its2.toArray k2 } := by
      rintro s' ⟨H1, I1, e1⟩
      obtain ⟨z, its, k, r, e⟩ := I1.hok a _ (e1 _ _ ha)
      obtain ⟨z2, its2, k2, r2, e2⟩ := I1.hok b _ (e1 _ _ hb)
      exact ⟨its, its2, k, k2, r, r2, e, e2⟩
    refine rc_listB (N := xs.length) sb.room.units0 f (fun s' => LoopI X pins σ H s') (fun s' q => ?_) (fun s' items items2 n1 n2 q g1 g2 i h1 h2 => ?_) (ansB xs ys f) (fun i h1 q => ansB_no h1 (by omega) q) (fun q => by rw [ansB_yes fun i h1 h2 => q i h1, hl]; simp) (fun s' q => ⟨rfl, q⟩) ⟨H, I, Ext.rfl'⟩
    · obtain ⟨its, its2, k, k2, r, r2, e, e2⟩ := key s' q
      exact ⟨its.toArray, its2.toArray, k, k2, e, e2, by rw [List.size_toArray, ← r.length], by rw [List.size_toArray, ← r2.length, ← hl]⟩
    · obtain ⟨its, its2, k, k2, r, r2, e, e2⟩ := key s' q
      rw [g1] at e
      rw [g2] at e2
      obtain ⟨rfl⟩ : items = its.toArray := by injection e with e; injection e with _ _ e; injection e
      obtain ⟨rfl⟩ : items2 = its2.toArray := by injection e2 with e; injection e with _ _ e; injection e
      exact turnB hD h sb (p hl) r r2 i h1 h2 s' q
  · obtain ⟨z, its, k, r, e⟩ := I.hok a _ ha
    obtain ⟨z2, its2, k2, r2, e2⟩ := I.hok b _ hb
    have ans : ansB xs ys f = false := by
      unfold ansB
      rw [show (xs.length == ys.length) = false by simpa using hl, Bool.and_false]
    rw [ans]
    refine rc_listL sb.room.units0 ?_ e e2 ⟨rfl, H, I, Ext.rfl'⟩
    rw [List.size_toArray, List.size_toArray, ← r.length, ← r2.length]
    exact hl
/-- objects of an own class with an own == -/
def DInsB (C : Addr) (R : Addr → Addr → Bool → Hp → Prop) : EqvB := fun x y r H => ∃ a b dx dy fs gs, x = .ref a ∧ y = .ref b ∧ H a = some (.ins C dx fs) ∧ H b = some (.ins C dy gs) ∧ R a b r H
theorem mon_insB {C : Addr} {R : Addr → Addr → Bool → Hp → Prop} (hR : ∀ a b r H H', Ext H H' → R a b r H → R a b r H') : MonB (DInsB C R) := fun x y r H H' e d => by
  obtain ⟨a, b, dx, dy, fs, gs, hx, hy, h1, h2, q⟩ := d
  exact ⟨a, b, dx, dy, fs, gs, hx, hy, e _ _ h1, e _ _ h2, hR a b r H H' e q⟩
/-- what such an own == promises -/
def spEqR (R : Addr → Addr → Bool → Hp → Prop) : Sp := fun vs H Q _ => ∃ a b r, vs = [.ref a, .ref b] ∧ R a b r H ∧ ∀ H', Ext H H' → Q (.bl r) H'
theorem rcGB_ins {CX : CXT} {C f : Addr} {fd : FuncData} {ps : List Str} {R : Addr → Addr → Bool → Hp → Prop} {E : XK} (F : FnOk X.prog X.w X.K X.mg X.base CX n f fd ps (spEqR R))
    (hs : PySem.W.findIn X.K (.ref C) "__eq__" = some (some (.ref f))) (hf : PySem.W.isFn X.K (.ref f) = true) (hb : Binds X.K fd ps []) (hx : Passes CX X E) : RcGB X n (DInsB C R) := by
  intro A pins s σ H x y r u v sb I rx ry d
  obtain ⟨a, b, dx, dy, fs, gs, rfl, rfl, ha, hb', hr⟩ := d
  cases rx
  cases ry
  obtain ⟨mA, J, _⟩ := ins_get I.hok ha
  obtain ⟨mB, J', _⟩ := ins_get I.hok hb'
  obtain ⟨od, J, _⟩ := J.look
  obtain ⟨od', J', _⟩ := J'.look
  obtain ⟨m, hF⟩ := I.fr
  refine PySem.W.cmp_K (op := .Eq) (tb := .ref C) sb.room.units0 hF I.ok.mod.kin J J'.type (by simp [PySem.W.notFirst]) hs hf ?_
  have hsp : spEqR R [.ref a, .ref b] H (fun v H' => v = .bl r ∧ Ext H H') E := ⟨a, b, r, rfl, hr, fun H' e => ⟨rfl, e⟩⟩
  refine wpAny_mono (call_run (A := A) sb F hb hx I (.cons (show RelV (V.ref a) (Value.ref a) from rfl) (.cons (show RelV (V.ref b) (Value.ref b) from rfl) .nil)) hsp) (fun v s' q => ?_) fun _ _ z => z
  obtain ⟨y, H', I', ry, rfl, e⟩ := q
  cases ry
  exact ⟨rfl, H', I', e⟩
theorem RcGB.eqG (h : RcGB X n D) (hr : ∀ x y r H, D x y r H → ∃ a b, x = .ref a ∧ y = .ref b ∧ (a = b → r = true)) : EqGB X n D := by
  intro A pins s σ H x y r u v sb I rx ry d
  obtain ⟨a, b, rfl, rfl, ht⟩ := hr _ _ _ _ d
  cases rx
  cases ry
  by_cases hab : a = b
  · have rt := ht hab
    subst hab
    subst rt
    exact SeqAt.EqAt.same (A := A) (s := s) (.ref a) X.prog X.w X.xe _ ⟨rfl, H, I, Ext.rfl'⟩
  · refine GQ.eqBool_refG hab (wpAny_mono (h A pins s σ H (.ref a) (.ref b) _ _ _ sb I rfl rfl d) (fun r' s' q => ?_) fun _ _ x => x)
    obtain ⟨hr', q⟩ := q
    exact ⟨r, hr', rfl, q⟩
/-- x == y as an expression -/
def rEqGB (D : EqvB) : R2 := fun x y H Q => ∃ b, D x y b H ∧ ∀ H', Ext H H' → Q (.bl b) H'
theorem op_eqGB (h : RcGB X n D) (hr : Room n X.A) : OpR X (compareOp .Eq) (rEqGB D) := by
  intro pins s σ H x y v u Q I rx ry hq
  obtain ⟨b, d, q⟩ := hq
  show wpAny (model X.prog X.w) X.A (richCompare .Eq v u) (EP X pins σ Q) X.xe s
  refine wpAny_mono (h X.A pins s σ H x y b v u ⟨hr, rfl⟩ I rx ry d) (fun r s' z => ?_) fun _ _ x => x
  obtain ⟨hr', H', I', e⟩ := z
  subst hr'
  exact ⟨.bl b, H', I', rfl, q H' e⟩
end
end LR

namespace LK
open PySem PySem.Spec PyProof.Rows L2 LR
/-! ### steps compared -/
theorem TyX.same {K : PySem.W.Frag} {H H' : Hp} {v : V} {t : Value} (s : Same H H') (h : TyX K H v t) : TyX K H' v t := by
  cases h with
  | base h =>
    refine .base ?_
    cases h with
    | non => exact .non
    | bl b => exact .bl b
    | int i => exact .int i
    | str z => exact .str z
    | flt f => exact .flt f
    | lst e => exact .lst (s _ _ e)
    | frz e => exact .frz (s _ _ e)
    | tup e => exact .tup (s _ _ e)
    | dK e => exact .dK (s _ _ e)
    | dT e => exact .dT (s _ _ e)
    | ins e cl ha hn htk hm => exact .ins (s _ _ e) cl ha hn htk hm
  | byt b => exact .byt b
  | set e => exact .set (s _ _ e)
  | kList e c => exact .kList e c
  | kTuple e c => exact .kTuple e c
  | kDict e c => exact .kDict e c
  | fTuple e => exact .fTuple (s _ _ e)
  | fDict e => exact .fDict (s _ _ e)
def spEqB (K : PySem.W.Frag) (C : Addr) : Sp := fun vs H Q _ => ∃ a y z w, vs = [.ref a, y] ∧ StepAt C H a z w ∧ ((∃ b z' w', y = .ref b ∧ StepAt C H b z' w' ∧ Q (.bl (decide (z = z') && decide (w = w'))) H) ∨ (∃ t, TyX K H y t ∧ PySem.W.kitOne K t (.ref C) = some false ∧ Q (.bl false) H))
theorem nf_str {K : PySem.W.Frag} {C : Addr} : PySem.W.notFirst K C (.type "str") = true := by kernel_rfl
theorem nf_tup {K : PySem.W.Frag} {C : Addr} : PySem.W.notFirst K C (.type "tuple") = true := by kernel_rfl
theorem nf_non {K : PySem.W.Frag} {C : Addr} : PySem.W.notFirst K C (.type "NoneType") = true := by kernel_rfl
theorem nf_own {K : PySem.W.Frag} {C : Addr} : PySem.W.notFirst K C (.ref C) = true := by
  unfold PySem.W.notFirst
  rw [beq_self_eq_true]
  rfl
section
variable {P : Program} {w : World} {K : PySem.W.Frag} {mg : Str → Option Value} {base : Heap}
theorem ok_stepEqB {C f : Addr} {fd : FuncData} (S : Std mg) (c : OwnCl K mg "Step" C) (n1 : NoAttr K C "name") (n2 : NoAttr K C "ways") (F : Fun K "__eq__" "Step.__eq__" sStepEq f fd) :
    FnOk P w K mg base CX0 1 f fd ["self", "other"] (spEqB K C) := by
  refine F.ok scStepEq (fun vs H Q E h => ?_) (fun cdv A outer s H vs Q E hr h => ?_)
  · obtain ⟨a, y, z, w, rfl, _⟩ := h
    rfl
  · obtain ⟨a, u, z, y, rfl, ⟨dx, ha⟩, h⟩ := h
    refine ⟨_, pss_one (ps_ret (pe_and (pe_callB call_isi (by rfl) S.isi (by decide +kernel) (pa_cons (pv 1) (pa_cons (pe_glob (v := .ref C) rfl c.g rfl) pa_nil)))
      (pe_and (pe_cmpR op_eq (pe_fld (pv 0) rfl) (pe_fld (pv 1) rfl) (nomark _)) (pe_one (pe_cmpR op_eq (pe_fld (pv 0) rfl) (pe_fld (pv 1) rfl) (nomark _)))))), ?_⟩
    rcases h with ⟨b, z', y', rfl, ⟨dy, hb⟩, q⟩ | ⟨t, ty, kt, q⟩
    · refine ⟨_, rfl, _, _, _, _, true, rfl, .own C, c.ty hb, kit_self, true, rfl, iteT ?_⟩
      refine ⟨_, rfl, _, _, _, _, _, rfl, ha, c.cl, n1, rfl, _, rfl, _, _, _, _, _, rfl, hb, c.cl, n1, rfl, rfl, _, rfl, ?_⟩
      by_cases hz : z = z'
      · rw [decide_eq_true hz] at q
        rw [decide_eq_true (show V.str z = V.str z' from by rw [hz])]
        refine iteT ⟨_, rfl, _, _, _, _, _, rfl, ha, c.cl, n2, rfl, _, rfl, _, _, _, _, _, rfl, hb, c.cl, n2, rfl, rfl, ?_⟩
        by_cases hy : y = y'
        · rw [decide_eq_true hy] at q
          rw [decide_eq_true (show V.str y = V.str y' from by rw [hy])]
          exact q
        · rw [decide_eq_false hy] at q
          rw [decide_eq_false (show ¬ V.str y = V.str y' from fun e => hy (by injection e))]
          exact q
      · rw [decide_eq_false hz] at q
        rw [decide_eq_false (show ¬ V.str z = V.str z' from fun e => hz (by injection e))]
        exact iteF q
    · exact ⟨_, rfl, _, _, _, _, false, rfl, .own C, ty, kt, false, rfl, iteF q⟩
end
def stepR (cS : Addr) : Addr → Addr → Bool → Hp → Prop := fun a b r H => ∃ z y z' y', StepAt cS H a z y ∧ StepAt cS H b z' y' ∧ r = (decide (z = z') && decide (y = y'))
def DStep (cS : Addr) : EqvB := DInsB cS (stepR cS)
theorem mon_step {cS : Addr} : MonB (DStep cS) := mon_insB fun a b r H H' e h => by
  obtain ⟨z, y, z', y', h1, h2, e'⟩ := h
  exact ⟨z, y, z', y', h1.same e, h2.same e, e'⟩
theorem StepAt.inj {C : Addr} {H : Hp} {a : Addr} {z y z' y' : Str} (h : StepAt C H a z y) (h' : StepAt C H a z' y') : z = z' ∧ y = y' := by
  obtain ⟨d, h⟩ := h
  obtain ⟨d', h'⟩ := h'
  rw [h] at h'
  injection h' with h'
  injection h' with _ _ h'
  injection h' with h1 h2
  injection h2 with h2 _
  injection h1 with _ h1
  injection h2 with _ h2
  injection h1 with h1
  injection h2 with h2
  exact ⟨h1, h2⟩
theorem eqGB_step {X : Cx} {eS : Addr} {dS : FuncData} {cS : Addr} (S : Std X.mg) (c : OwnCl X.K X.mg "Step" cS) (n1 : NoAttr X.K cS "name") (n2 : NoAttr X.K cS "ways") (qS : EqM X.K cS sStepEq "Step.__eq__" eS dS) : EqGB X 1 (DStep cS) := by
  have G : FnOk X.prog X.w X.K X.mg X.base CX0 1 eS dS ["self", "other"] (spEqR (stepR cS)) := (ok_stepEqB S c n1 n2 qS.F).imp fun vs H Q E h => by
    obtain ⟨a, b, r, rfl, ⟨z, y, z', y', h1, h2, rfl⟩, q⟩ := h
    exact ⟨a, .ref b, z, y, rfl, h1, .inl ⟨b, z', y', rfl, h2, q H Ext.rfl'⟩⟩
  refine RcGB.eqG (rcGB_ins G qS.at_ qS.fn qS.b pass0) fun x y r H d => ?_
  obtain ⟨a, b, _, _, _, _, hx, hy, _, _, z, w, z', w', h1, h2, hr⟩ := d
  refine ⟨a, b, hx, hy, fun e => ?_⟩
  subst e
  obtain ⟨rfl, rfl⟩ := h1.inj h2
  rw [hr]
  simp

end LK

namespace LK
open PySem PySem.Spec PyProof.Rows L2 LR
/-! ### expressions compared, whatever the answer -/
def eqH : Hd → Hd → Bool
  | .le, .le => true
  | .gr, .gr => true
  | .st _ z y, .st _ z' y' => decide (z = z') && decide (y = y')
  | _, _ => false
mutual
def eqM : Md → Md → Bool
  | .nm z, .nm z' => decide (z = z')
  | .ap h ms, .ap h' ms' => eqH h h' && eqL ms ms'
  | .nm _, .ap _ _ => false
  | .ap _ _, .nm _ => false
def eqL : List Md → List Md → Bool
  | [], [] => true
  | m :: r, m' :: r' => eqM m m' && eqL r r'
  | [], _ :: _ => false
  | _ :: _, [] => false
end
theorem eqL_iff : ∀ (ms ms' : List Md), eqL ms ms' = true ↔ ms.length = ms'.length ∧ ∀ (i : Nat) m m', ms[i]? = some m → ms'[i]? = some m' → eqM m m' = true
  | [], [] => by simp [eqL]
  | [], _ :: _ => by simp [eqL]
  | _ :: _, [] => by simp [eqL]
  | m :: r, m' :: r' => by
    rw [eqL, Bool.and_eq_true, eqL_iff r r', List.length_cons, List.length_cons]
    refine ⟨fun ⟨h1, h2, h3⟩ => ⟨by omega, fun i a b e1 e2 => ?_⟩, fun ⟨h1, h2⟩ => ⟨h2 0 m m' rfl rfl, by omega, fun i a b e1 e2 => h2 (i + 1) a b e1 e2⟩⟩
    cases i with
    | zero =>
      cases e1
      cases e2
      exact h1
    | succ i => exact h3 i a b e1 e2
def eqAt (ms ms' : List Md) (i : Nat) : Bool := match ms[i]?, ms'[i]? with
  | some a, some b => eqM a b
  | _, _ => false
theorem eqAt_of {ms ms' : List Md} {i : Nat} {a b : Md} (h : ms[i]? = some a) (h' : ms'[i]? = some b) : eqAt ms ms' i = eqM a b := by
  unfold eqAt
  rw [h, h']
theorem ans_eqL {xs ys : List V} {ms ms' : List Md} (h1 : xs.length = ms.length) (h2 : ys.length = ms'.length) : ansB xs ys (eqAt ms ms') = eqL ms ms' := by
  cases e : eqL ms ms' with
  | true =>
    obtain ⟨l, g⟩ := (eqL_iff ms ms').mp e
    rw [ansB_yes, beq_iff_eq]
    · omega
    · intro i l1 l2
      have g1 : ms[i]? = some (ms[i]'(by omega)) := List.getElem?_eq_getElem _
      have g2 : ms'[i]? = some (ms'[i]'(by omega)) := List.getElem?_eq_getElem _
      rw [eqAt_of g1 g2]
      exact g i _ _ g1 g2
  | false =>
    by_cases l : ms.length = ms'.length
    · have : ∃ i, i < ms.length ∧ eqAt ms ms' i = false := by
        refine Classical.byContradiction fun no => ?_
        have : eqL ms ms' = true := (eqL_iff ms ms').mpr ⟨l, fun i a b e1 e2 => ?_⟩
        · rw [e] at this
          cases this
        · rw [← eqAt_of e1 e2]
          cases q : eqAt ms ms' i with
          | true => rfl
          | false => exact absurd ⟨i, (List.getElem?_eq_some_iff.mp e1).1, q⟩ no
      obtain ⟨i, hi, q⟩ := this
      exact ansB_no (i := i) (by omega) (by omega) q
    · unfold ansB
      rw [show (xs.length == ys.length) = false by simp [h1, h2, l], Bool.and_false]
theorem StepAt.key {cS : Addr} {H : Hp} {a : Addr} {z y z' y' : Str} (h : StepAt cS H a z y) (h' : StepAt cS H a z' y') : z = z' ∧ y = y' := h.inj h'
theorem kd_hd {h : Hd} {ms : List Md} : kdM (.ap h ms) = (match h with | .le => "lesser" | .gr => "greater" | .st _ _ _ => "step") := by
  cases h <;> rfl
theorem kd_name {m : Md} : kdM m = "name" ↔ ∃ z, m = .nm z := by
  cases m with
  | nm z => exact ⟨fun _ => ⟨z, rfl⟩, fun _ => rfl⟩
  | ap h ms =>
    refine ⟨fun e => ?_, fun ⟨z, e⟩ => nomatch e⟩
    cases h with
    | le => exact absurd (show ("lesser" : Str) = "name" from e) (by decide +kernel)
    | gr => exact absurd (show ("greater" : Str) = "name" from e) (by decide +kernel)
    | st _ _ _ => exact absurd (show ("step" : Str) = "name" from e) (by decide +kernel)
/-- the step keys of two heads of one kind -/
def keyEq : Md → Md → Bool
  | .ap (.st _ z y) _, .ap (.st _ z' y') _ => decide (z = z') && decide (y = y')
  | _, _ => true
theorem eqM_parts (m m' : Md) : eqM m m' = (decide (kdM m = kdM m') && (decide (wdM m = wdM m') && (keyEq m m' && eqL (prM m) (prM m')))) := by
  have b1 : ¬ ("name" : Str) = "lesser" := by decide +kernel
  have b2 : ¬ ("name" : Str) = "greater" := by decide +kernel
  have b3 : ¬ ("name" : Str) = "step" := by decide +kernel
  have b4 : ¬ ("lesser" : Str) = "greater" := by decide +kernel
  have b5 : ¬ ("lesser" : Str) = "step" := by decide +kernel
  have b6 : ¬ ("greater" : Str) = "step" := by decide +kernel
  cases m with
  | nm z =>
    cases m' with
    | nm z' =>
      show decide (z = z') = (decide (("name" : Str) = "name") && (decide (z = z') && (true && eqL [] [])))
      simp [eqL]
    | ap h' ms' =>
      have e : kdM (.nm z) ≠ kdM (.ap h' ms') := fun e => by
        obtain ⟨_, e⟩ := kd_name.mp e.symm
        cases e
      rw [decide_eq_false e, Bool.false_and]
      rfl
  | ap h ms =>
    cases m' with
    | nm z' =>
      have e : kdM (.ap h ms) ≠ kdM (.nm z') := fun e => by
        obtain ⟨_, e⟩ := kd_name.mp e
        cases e
      rw [decide_eq_false e, Bool.false_and]
      rfl
    | ap h' ms' =>
      show (eqH h h' && eqL ms ms') = (decide (kdM (.ap h ms) = kdM (.ap h' ms')) && (decide (("" : Str) = "") && (keyEq (.ap h ms) (.ap h' ms') && eqL ms ms')))
      cases h with
      | le =>
        cases h' with
        | le => simp [eqH, kdM, keyEq]
        | gr => simp [eqH, kdM, b4]
        | st _ _ _ => simp [eqH, kdM, b5]
      | gr =>
        cases h' with
        | le => simp [eqH, kdM, Ne.symm b4]
        | gr => simp [eqH, kdM, keyEq]
        | st _ _ _ => simp [eqH, kdM, b6]
      | st a z y =>
        cases h' with
        | le => simp [eqH, kdM, Ne.symm b5]
        | gr => simp [eqH, kdM, Ne.symm b6]
        | st a' z' y' => simp [eqH, kdM, keyEq]
/-- the fields tell the model -/
theorem fldX_inj {K : PySem.W.Frag} {C cS : Addr} {H : Hp} {m m' : Md} {e : V} {es es' : List V} (h : FldX K C cS H m e es) (h' : FldX K C cS H m' e es') : kdM m = kdM m' ∧ wdM m = wdM m' ∧ stM m = stM m' ∧ es = es' := by
  obtain ⟨a, dx, p, q1, q2, j, ys, bs, ks, rfl, ha, hp, _⟩ := h
  obtain ⟨a', dx', p', q1', q2', j', ys', bs', ks', e, ha', hp', _⟩ := h'
  cases e
  rw [ha] at ha'
  injection ha' with ha'
  injection ha' with _ _ hf
  unfold exFs at hf
  injection hf with h1 hf
  injection hf with h2 hf
  injection hf with h3 hf
  injection hf with h4 hf
  injection h1 with _ h1
  injection h2 with _ h2
  injection h3 with _ h3
  injection h4 with _ h4
  injection h1 with h1
  injection h2 with h2
  injection h4 with h4
  rw [h4, hp'] at hp
  injection hp with hp
  injection hp with hp
  exact ⟨h1, h2, h3, hp.symm⟩
theorem exR_det {K : PySem.W.Frag} {C cS : Addr} {H : Hp} : ∀ {n n' : Nat} {m m' : Md} {e : V}, ExR K C cS n H m e → ExR K C cS n' H m' e → eqM m m' = true
  | 0, _, _, _, _, h, _ => h.elim
  | _ + 1, 0, _, _, _, _, h => h.elim
  | n + 1, n' + 1, m, m', e, ⟨es, f, l, ok, g⟩, ⟨es', f', l', ok', g'⟩ => by
    obtain ⟨e1, e2, e3, rfl⟩ := fldX_inj f f'
    rw [eqM_parts, decide_eq_true e1, decide_eq_true e2, Bool.true_and, Bool.true_and, Bool.and_eq_true]
    refine ⟨?_, (eqL_iff _ _).mpr ⟨by rw [← l, ← l'], fun i a b h1 h2 => ?_⟩⟩
    · cases m with
      | nm _ => rfl
      | ap h ms =>
        cases m' with
        | nm _ => cases h <;> rfl
        | ap h' ms' =>
          cases h with
          | le => rfl
          | gr => rfl
          | st a z y =>
            cases h' with
            | le => rfl
            | gr => rfl
            | st a' z' y' =>
              cases (show V.ref a = V.ref a' from e3)
              obtain ⟨rfl, rfl⟩ := ok.2.1.inj ok'.2.1
              simp [keyEq]
    · have lt := (List.getElem?_eq_some_iff.mp h1).1
      have hx : es[i]? = some (es[i]'(by omega)) := List.getElem?_eq_getElem _
      exact exR_det (g i a _ h1 hx) (g' i b _ h2 hx)
def exEqR (K : PySem.W.Frag) (C cS : Addr) (k : Nat) : Addr → Addr → Bool → Hp → Prop := fun a b r H => ∃ m m', ExR K C cS k H m (.ref a) ∧ ExR K C cS k H m' (.ref b) ∧ r = eqM m m'
def DEx (K : PySem.W.Frag) (C cS : Addr) (k : Nat) : EqvB := DInsB C (exEqR K C cS k)
theorem mon_ex {K : PySem.W.Frag} {C cS : Addr} {k : Nat} : MonB (DEx K C cS k) := mon_insB fun a b r H H' e h => by
  obtain ⟨m, m', h1, h2, q⟩ := h
  exact ⟨m, m', h1.same e, h2.same e, q⟩
def spExEq (K : PySem.W.Frag) (C cS : Addr) (k : Nat) : Sp := fun vs H Q _ => ∃ (a : Addr) (y : V) (m : Md), vs = [.ref a, y] ∧ ExR K C cS k H m (.ref a) ∧
  ((∃ b m', y = .ref b ∧ ExR K C cS k H m' y ∧ ∀ H', Ext H H' → Q (.bl (eqM m m')) H') ∨ ∃ t, TyX K H y t ∧ PySem.W.kitOne K t (.ref C) = some false ∧ Q (.bl false) H)
/-- what a comparison of expressions asks -/
structure EqF (K : PySem.W.Frag) (mg : Str → Option Value) (C cS fE fS : Addr) (dE dS : FuncData) : Prop where
  c : OwnCl K mg "Expr" C
  cT : OwnCl K mg "Step" cS
  n : ExN K C
  q : EqM K C sExprEq "Expr.__eq__" fE dE
  qS : EqM K cS sStepEq "Step.__eq__" fS dS
  s1 : NoAttr K cS "name"
  s2 : NoAttr K cS "ways"
theorem eqGB_ex {X : Cx} {C cS fE fS : Addr} {dE dS : FuncData} {k L : Nat} (E : EqF X.K X.mg C cS fE fS dE dS) (G : FnOk X.prog X.w X.K X.mg X.base CX0 L fE dE ["self", "other"] (spExEq X.K C cS k)) : EqGB X L (DEx X.K C cS k) := by
  have G' : FnOk X.prog X.w X.K X.mg X.base CX0 L fE dE ["self", "other"] (spEqR (exEqR X.K C cS k)) := G.imp fun vs H Q _ h => by
    obtain ⟨a, b, r, rfl, ⟨m, m', h1, h2, rfl⟩, q⟩ := h
    exact ⟨a, .ref b, m, rfl, h1, .inl ⟨b, m', rfl, h2, q⟩⟩
  refine RcGB.eqG (rcGB_ins G' E.q.at_ E.q.fn E.q.b pass0) fun x y r H d => ?_
  obtain ⟨a, b, _, _, _, _, hx, hy, _, _, m, m', h1, h2, hr⟩ := d
  refine ⟨a, b, hx, hy, fun e => ?_⟩
  subst e
  rw [hr]
  exact exR_det h1 h2
section
variable {P : Program} {w : World} {K : PySem.W.Frag} {mg : Str → Option Value} {base : Heap}
theorem ok_exEq {C cS fE fS : Addr} {dE dS : FuncData} (S : Std mg) (I : EqF K mg C cS fE fS dE dS) : ∀ k, FnOk P w K mg base CX0 (2 * k + 3) fE dE ["self", "other"] (spExEq K C cS k)
  | 0 => I.q.F.ok scExprEq (fun vs H Q E h => by obtain ⟨a, y, m, _, h, _⟩ := h; exact h.elim) (fun cdv A outer s H vs Q E hr h => by obtain ⟨a, y, m, _, h, _⟩ := h; exact h.elim)
  | k + 1 => by
    have GQ : FnOk P w K mg base CX0 1 fS dS ["self", "other"] (spEqB K cS) := ok_stepEqB S I.cT I.s1 I.s2 I.qS.F
    refine I.q.F.ok scExprEq (fun vs H Q E h => ?_) (fun cdv A outer s H vs Q E hr h => ?_)
    · obtain ⟨a, y, m, rfl, _⟩ := h
      rfl
    · obtain ⟨a, y, m, rfl, hm, h⟩ := h
      have rm1 : Room 1 _ := hr.mono (by omega)
      refine ⟨_, pss_one (ps_ret (pe_and (pe_callB call_isi (by rfl) S.isi (by decide +kernel) (pa_cons (pv 1) (pa_cons (pe_glob (v := .ref C) rfl I.c.g rfl) pa_nil)))
        (pe_and (pe_cmpR op_eq (pe_fld (pv 0) rfl) (pe_fld (pv 1) rfl) (nomark _)) (pe_and (pe_cmpR op_eq (pe_fld (pv 0) rfl) (pe_fld (pv 1) rfl) (nomark _))
        (pe_and (pe_cmpR (op_or op_eq (op_eqOwn (C := cS) (E := E0) GQ I.qS.at_ I.qS.fn I.qS.b pass0 rm1)) (pe_fld (pv 0) rfl) (pe_fld (pv 1) rfl) (nomark _))
          (pe_one (pe_cmpR (op_eqGB (rcGB_tup mon_ex (eqGB_ex (X := (cxOf CX0 P w K mg base ["self", "other"] "Expr.__eq__" (defScope sExprEq) fE cdv A outer s H E).nox) I (ok_exEq S I k))) (hr.mono (by omega))) (pe_fld (pv 0) rfl) (pe_fld (pv 1) rfl) (nomark _)))))))), ?_⟩
      obtain ⟨es, f, l, ok, g⟩ := hm
      obtain ⟨a0, dx, p, q1, q2, j, ys, bs, ks, ea, ha, hp, _⟩ := f
      cases ea
      rcases h with ⟨b, m', rfl, ⟨es', f', l', ok', g'⟩, q⟩ | ⟨t, ty, kt, q⟩
      · obtain ⟨b0, dy, p', q1', q2', j', ys', bs', ks', eb, hb, hp', _⟩ := f'
        cases eb
        have q0 : ∀ {r : Bool}, eqM m m' = r → Q (.bl r) H := fun e => e ▸ q H Ext.rfl'
        have eq := eqM_parts m m'
        refine ⟨_, rfl, _, _, _, _, true, rfl, .own C, I.c.ty hb, kit_self, true, rfl, iteT ?_⟩
        refine ⟨_, rfl, a, C, dx, _, _, rfl, ha, I.c.cl, I.n.kind, rfl, _, rfl, b, C, dy, _, _, rfl, hb, I.c.cl, I.n.kind, rfl, rfl, _, rfl, ite2 (fun c1 => ?_) (fun c1 => ?_)⟩
        rotate_left
        · refine q0 ?_
          rw [eq, decide_eq_false (fun e => c1 (decide_eq_true (congrArg V.str e))), Bool.false_and]
        have k1 : kdM m = kdM m' := by
          have := of_decide_eq_true c1
          injection this
        refine ⟨_, rfl, a, C, dx, _, _, rfl, ha, I.c.cl, I.n.word, rfl, _, rfl, b, C, dy, _, _, rfl, hb, I.c.cl, I.n.word, rfl, rfl, _, rfl, ite2 (fun c2 => ?_) (fun c2 => ?_)⟩
        rotate_left
        · refine q0 ?_
          rw [eq, decide_eq_false (show ¬ wdM m = wdM m' from fun e => c2 (decide_eq_true (congrArg V.str e))), Bool.false_and, Bool.and_false]
        have k2 : wdM m = wdM m' := by
          have := of_decide_eq_true c2
          injection this
        rw [decide_eq_true k1, decide_eq_true k2, Bool.true_and, Bool.true_and] at eq
        have last : keyEq m m' = true → rEqGB (DTupB K (DEx K C cS k)) (.ref p) (.ref p') H Q := fun kk => by
          rw [kk, Bool.true_and] at eq
          refine ⟨_, ⟨p, p', es, es', eqAt (prM m) (prM m'), rfl, rfl, SqT.of hp, SqT.of hp', fun i x y h1 h2 => ?_, rfl⟩, fun H' e => ?_⟩
          · have i1 := (List.getElem?_eq_some_iff.mp h1).1
            have i2 := (List.getElem?_eq_some_iff.mp h2).1
            have g1 : (prM m)[i]? = some ((prM m)[i]'(by omega)) := List.getElem?_eq_getElem _
            have g2 : (prM m')[i]? = some ((prM m')[i]'(by omega)) := List.getElem?_eq_getElem _
            have x1 := g i _ x g1 h1
            have x2 := g' i _ y g2 h2
            obtain ⟨c, dc, fc, rfl, hc⟩ := x1.ins
            obtain ⟨d, dd, fd, rfl, hd⟩ := x2.ins
            exact ⟨c, d, dc, dd, fc, fd, rfl, rfl, hc, hd, _, _, x1, x2, eqAt_of g1 g2⟩
          · rw [ans_eqL l l', ← eq]
            exact q H' e
        refine ⟨_, rfl, a, C, dx, _, _, rfl, ha, I.c.cl, I.n.step, rfl, _, rfl, b, C, dy, _, _, rfl, hb, I.c.cl, I.n.step, rfl, ?_⟩
        have cont : ∀ r : Bool, keyEq m m' = r → ∃ c, V.bl r = .bl c ∧ (if c = true then (tOp (rEqGB (DTupB K (DEx K C cS k))) (tFld K (tVar 0) "parts") (tFld K (tVar 1) "parts")) [some (.ref a), some (.ref b)] H Q else Q (.bl false) H) := fun r e => by
          refine ⟨r, rfl, ?_⟩
          cases r with
          | true => exact iteT ⟨_, rfl, a, C, dx, _, .ref p, rfl, ha, I.c.cl, I.n.parts, rfl, _, rfl, b, C, dy, _, .ref p', rfl, hb, I.c.cl, I.n.parts, rfl, last e⟩
          | false =>
            refine iteF (q0 ?_)
            rw [eq, e, Bool.false_and]
        have two : (stM m = .non ∧ stM m' = .non ∧ keyEq m m' = true) ∨ ∃ c d z y z' y', stM m = .ref c ∧ stM m' = .ref d ∧ StepAt cS H c z y ∧ StepAt cS H d z' y' ∧ keyEq m m' = (decide (z = z') && decide (y = y')) := by
          cases m with
          | nm z =>
            cases m' with
            | nm _ => exact .inl ⟨rfl, rfl, rfl⟩
            | ap h ms =>
              obtain ⟨_, e⟩ := kd_name.mp k1.symm
              cases e
          | ap h ms =>
            cases m' with
            | nm _ =>
              obtain ⟨_, e⟩ := kd_name.mp k1
              cases e
            | ap h' ms' =>
              cases h with
              | le =>
                cases h' with
                | le => exact .inl ⟨rfl, rfl, rfl⟩
                | gr => exact .inl ⟨rfl, rfl, rfl⟩
                | st _ _ _ => exact absurd (show ("lesser" : Str) = "step" from k1) (by decide +kernel)
              | gr =>
                cases h' with
                | le => exact .inl ⟨rfl, rfl, rfl⟩
                | gr => exact .inl ⟨rfl, rfl, rfl⟩
                | st _ _ _ => exact absurd (show ("greater" : Str) = "step" from k1) (by decide +kernel)
              | st c z y =>
                cases h' with
                | le => exact absurd (show ("step" : Str) = "lesser" from k1) (by decide +kernel)
                | gr => exact absurd (show ("step" : Str) = "greater" from k1) (by decide +kernel)
                | st d z' y' => exact .inr ⟨c, d, z, y, z', y', rfl, rfl, ok.2.1, ok'.2.1, rfl⟩
        rcases two with ⟨e1, e2, e3⟩ | ⟨c, d, z, y, z', y', e1, e2, ⟨dc, hc⟩, ⟨dd, hd⟩, e3⟩
        · rw [e1, e2]
          refine .inl ⟨rfl, ?_⟩
          rw [decide_eq_true (show V.non = V.non from rfl)]
          exact cont true e3
        · rw [e1, e2]
          exact .inr ⟨c, dc, _, _, rfl, hc, I.cT.ty hd, nf_own, c, .ref d, z, y, rfl, ⟨dc, hc⟩, .inl ⟨d, z', y', rfl, ⟨dd, hd⟩, _, rfl, cont _ e3⟩⟩
      · exact ⟨_, rfl, _, _, _, _, false, rfl, .own C, ty, kt, false, rfl, iteF q⟩
end
end LK

/-! str(x) by an own __str__ -/
namespace LR
open PySem PySem.Spec PyProof.Rows L2
section
variable {X : Cx} {CX : CXT} {n : Nat} {f C : Addr} {fd : FuncData} {ps : List Str} {sp : Sp} {E : XK}
theorem call_strOwn (F : FnOk X.prog X.w X.K X.mg X.base CX n f fd ps sp) (hs : PySem.W.findIn X.K (.ref C) "__str__" = some (some (.ref f))) (hf : PySem.W.isFn X.K (.ref f) = true) (hb : Binds X.K fd ps []) (hx : Passes CX X E) (hr : Room (n + 2) X.A) :
    CallR X (.type "str") (fun xs H Q => ∃ a dx fs, xs = [V.ref a] ∧ H a = some (.ins C dx fs) ∧ sp [V.ref a] H (fun v H' => ∃ z : Str, v = .str z ∧ Q (.str z) H') E) := by
  intro pins s σ H xs us Q I r h
  obtain ⟨a, dx, fs, rfl, ha, h⟩ := h
  have e := vals1r r
  subst e
  obtain ⟨mA, J, _⟩ := ins_get I.hok ha
  obtain ⟨od, J, _⟩ := J.look
  refine PySem.W.kso_call hr.in1.in1.units0 I.kIn J hs hf ?_
  refine wpAny_mono (call_run (A := X.A.in1.in1) ⟨hr.in1.in1, rfl⟩ F hb hx I (.cons (show RelV (V.ref a) (Value.ref a) from rfl) .nil) h) (fun v s' q => ?_) fun _ _ z => z
  obtain ⟨y, H', I', ry, z, rfl, q⟩ := q
  obtain ⟨t, rfl⟩ := ry
  exact ⟨.str z, H', I', ⟨_, rfl⟩, q⟩
end
end LR

namespace LK
open PySem PySem.Spec PyProof.Rows L2 LR
/-! ### the text of an expression -/
theorem seq_key {s rest : TS} {D : Ends} {σ : L2.St} {H : Hp} (P : L2.St → Hp → Prop) (h : (∀ σ' H', P σ' H' → rest D σ' H') → tSeq s rest D σ H) (key : ∀ σ' H', P σ' H' → rest D σ' H') : tSeq s rest D σ H := h key
theorem te_key {te : TE} {σ : L2.St} {H : Hp} {G : VK} (P : V → Hp → Prop) (h : ∀ R : VK, (∀ y H', P y H' → R y H') → te σ H R) (key : ∀ y H', P y H' → G y H') : te σ H G := h G key
theorem tt_key {t : TT} {σ : L2.St} {H : Hp} {G : Bool → Hp → Prop} (P : Bool → Hp → Prop) (h : ∀ R : Bool → Hp → Prop, (∀ y H', P y H' → R y H') → t σ H R) (key : ∀ y H', P y H' → G y H') : t σ H G := h G key
theorem if_key {t : TT} {a b rest : TS} {D : Ends} {σ : L2.St} {H : Hp} (P : Bool → Hp → Prop) (h : ∀ R : Bool → Hp → Prop, (∀ y H', P y H' → R y H') → t σ H R) (k1 : ∀ H', P true H' → a { D with nx := rest D } σ H') (k0 : ∀ H', P false H' → b { D with nx := rest D } σ H') : tSeq (tIfS t a b) rest D σ H :=
  h _ fun y H' p => by
    cases y with
    | true => rw [if_pos rfl]; exact k1 H' p
    | false => rw [if_neg Bool.false_ne_true]; exact k0 H' p
theorem gN_key {i : Nat} {v : V} {σ : L2.St} {H : Hp} {Q : L2.St → Hp → Prop} (h : Q (σ.set i (some v)) H) : gName i v σ H Q := h
theorem asg_key {te : TE} {g : TG} {rest : TS} {D : Ends} {σ : L2.St} {H : Hp} (P : V → Hp → Prop) (h : ∀ R : VK, (∀ y H', P y H' → R y H') → te σ H R) (k : ∀ y H', P y H' → g y σ H' (rest D)) : tSeq (tAsg te g) rest D σ H := h _ k
structure StrO (K : PySem.W.Frag) (C : Addr) (st : Stmt) (q : Str) (f : Addr) (fd : FuncData) : Prop where
  F : Fun K "__str__" q st f fd
  b : Binds K fd ["self"] []
  at_ : PySem.W.findIn K (.ref C) "__str__" = some (some (.ref f))
  fn : PySem.W.isFn K (.ref f) = true
theorem sz_pos : ∀ m : Md, 1 ≤ sz m
  | .nm _ => by rw [sz]; exact Nat.le_refl _
  | .ap _ _ => by rw [sz]; omega
theorem szL_mem : ∀ {ms : List Md} {i : Nat} {m : Md}, ms[i]? = some m → sz m ≤ szL ms
  | [], i, m, h => by cases h
  | a :: r, 0, m, h => by
    cases h
    rw [szL]
    exact Nat.le_add_right _ _
  | a :: r, i + 1, m, h => by
    rw [szL]
    exact Nat.le_trans (szL_mem (ms := r) (i := i) h) (Nat.le_add_left _ _)
/-- no deeper than there are parts -/
theorem exR_low {K : PySem.W.Frag} {C cS : Addr} {H : Hp} : ∀ {n k : Nat} {m : Md} {e : V}, ExR K C cS n H m e → sz m ≤ k → ExR K C cS k H m e
  | 0, _, _, _, h, _ => h.elim
  | n + 1, 0, m, _, _, l => absurd l (by have := sz_pos m; omega)
  | n + 1, k + 1, m, e, ⟨es, f, l, ok, g⟩, le => ⟨es, f, l, ok, fun i m' x h1 h2 => exR_low (g i m' x h1 h2) (by
      have := own_sz m
      have q : sz m' ≤ ((prM m).map sz).sum := by
        rw [← szL_sum]
        exact szL_mem h1
      omega)⟩
theorem joinL_mem {S : List Nat} : ∀ {l : List (List Nat)} {i : Nat} {p : List Nat}, l[i]? = some p → p.length ≤ (TL.joinL S l).length
  | [], i, p, h => by cases h
  | [a], 0, p, h => by cases h; exact Nat.le_refl _
  | [a], i + 1, p, h => by cases h
  | a :: b :: r, 0, p, h => by
    cases h
    show a.length ≤ (a ++ (S ++ TL.joinL S (b :: r))).length
    rw [List.length_append]
    exact Nat.le_add_right _ _
  | a :: b :: r, i + 1, p, h => by
    have := joinL_mem (S := S) (l := b :: r) (i := i) h
    show _ ≤ (a ++ (S ++ TL.joinL S (b :: r))).length
    rw [List.length_append, List.length_append]
    omega
theorem joinL_len {S : List Nat} : ∀ l : List (List Nat), (l.map List.length).sum + l.length * S.length ≤ (TL.joinL S l).length + S.length
  | [] => by simp [TL.joinL]
  | [a] => by simp [TL.joinL]
  | a :: b :: r => by
    have := joinL_len (S := S) (b :: r)
    show a.length + ((b :: r).map List.length).sum + ((b :: r).length + 1) * S.length ≤ (a ++ (S ++ TL.joinL S (b :: r))).length + S.length
    rw [List.length_append, List.length_append, Nat.add_mul]
    omega
/-- an expression put together, its fields -/
theorem ap_fieldsR {K : PySem.W.Frag} {C cS : Addr} {H : Hp} {k : Nat} {h : Hd} {ms : List Md} {e : V} (x : ExR K C cS (k + 1) H (.ap h ms) e) : ∃ (a dx : Addr) (kd z0 : Str) (st : V) (p q1 q2 : Addr) (i j : Int) (es : List V), e = .ref a ∧ H a = some (.ins C dx (exFs kd z0 st p q1 q2 i j)) ∧ H p = some (.tup es) ∧ es.length = ms.length ∧
    (∀ (i : Nat) m x, ms[i]? = some m → es[i]? = some x → ExR K C cS k H m x) ∧ kd ≠ "name" ∧ (hdW h).length ≤ 8 ∧ ((st = .non ∧ kd = hdW h) ∨ ∃ s dx y, st = .ref s ∧ H s = some (.ins cS dx [("name", .str (hdW h)), ("ways", .str y)])) := by
  obtain ⟨es, ⟨a, dx, p, q1, q2, j, ys, bs, ks, e, ha, hp, _⟩, l, ok, g⟩ := x
  cases h with
  | le => exact ⟨a, dx, _, _, _, p, q1, q2, _, j, es, e, ha, hp, l, g, by show ¬ ("lesser" : Str) = "name"; decide +kernel, by decide +kernel, .inl ⟨rfl, rfl⟩⟩
  | gr => exact ⟨a, dx, _, _, _, p, q1, q2, _, j, es, e, ha, hp, l, g, by show ¬ ("greater" : Str) = "name"; decide +kernel, by decide +kernel, .inl ⟨rfl, rfl⟩⟩
  | st s z y =>
    obtain ⟨ar, ⟨ds, hb⟩, no, _⟩ := ok
    exact ⟨a, dx, _, _, _, p, q1, q2, _, j, es, e, ha, hp, l, g, by show ¬ ("step" : Str) = "name"; decide +kernel, by have := no.len; show z.length ≤ 8; omega, .inr ⟨s, ds, y, rfl, hb⟩⟩
def spTextR (K : PySem.W.Frag) (C cS : Addr) (k : Nat) : Sp := fun vs H Q _ => ∃ (m : Md) (e : V), vs = [e] ∧ ExR K C cS k H m e ∧ (cp m).length ≤ 1000 ∧ ∀ (y : Str) H', TL.tl y = cp m → Same H H' → Q (.str y) H'
/-- len of an expression: its parts -/
def spLenR (K : PySem.W.Frag) (C cS : Addr) : Sp := fun vs H Q _ => ∃ (m : Md) (e : V) (n : Nat), vs = [e] ∧ ExR K C cS n H m e ∧ sz m ≤ 1000 ∧ Q (.int (sz m)) H
section
variable {P : Program} {w : World} {K : PySem.W.Frag} {mg : Str → Option Value} {base : Heap}
def nTE : List Str := ["expr", "head", "inner", "part"]
theorem scTE : FnScope nTE ["expr"] (defScope sTextE) := ⟨rfl, rfl, rfl, by decide +kernel, rfl, by decide +kernel, by decide +kernel⟩
theorem scXS : FnScope ["self"] ["self"] (defScope sExprStr) := ⟨rfl, rfl, rfl, by decide +kernel, rfl, by decide +kernel, by decide +kernel⟩
theorem ok_exStrR {C cS fT f : Addr} {fdT fd : FuncData} {k n : Nat} (S : Std mg) (T1 : Df K mg "_text" sTextE fT fdT ["expr"]) (GT : FnOk P w K mg base CX0 n fT fdT ["expr"] (spTextR K C cS k)) (F : Fun K "__str__" "Expr.__str__" sExprStr f fd) : FnOk P w K mg base CX0 (n + 1) f fd ["self"] (spTextR K C cS k) := by
  refine F.ok scXS (fun vs H Q E h => ?_) (fun cdv A outer s H vs Q E hr h => ?_)
  · obtain ⟨m, e, rfl, _⟩ := h
    rfl
  · obtain ⟨m, e, rfl, hE, ln, q⟩ := h
    exact ⟨_, pss_one (ps_ret (pe_callTy SkE.call_str_str (by rfl) S.str (by decide +kernel) (pa_cons (pe_call GT hr rfl T1.g T1.F.kp T1.b .nil pass0 (pa_cons (pv 0) pa_nil)) pa_nil))), _, rfl, m, e, rfl, hE, ln, fun y H' hy s1 => ⟨y, rfl, q y H' hy s1⟩⟩
theorem ok_textR0 {C cS fS f : Addr} {fdS fd : FuncData} {k : Nat} (S : Std mg) (cl : Cls K C) (n : ExN K C) (clS : Cls K cS) (s1 : NoAttr K cS "name") (T : StrO K C sExprStr "Expr.__str__" fS fdS) (GS : FnOk P w K mg base CX0 (4 * k + 2) fS fdS ["self"] (spTextR K C cS k)) (F : Fun K "_text" "_text" sTextE f fd) :
    FnOk P w K mg base CX0 (4 * k + 5) f fd ["expr"] (spTextR K C cS (k + 1)) := by
  refine F.ok scTE (fun vs H Q E h => ?_) (fun cdv A outer s H vs Q E hr h => ?_)
  · obtain ⟨m, e, rfl, _⟩ := h
    rfl
  · obtain ⟨m, e, rfl, hE, ln, q⟩ := h
    have rmS : Room (4 * k + 2 + 2) _ := hr
    refine ⟨_, pss_cons (ps_if (pt_cmpR op_eq (pe_fld (pv 0) rfl) pe_str (nomark _)) (pss_one (ps_ret (pe_fld (pv 0) rfl))) pss_nil)
      (pss_cons (ps_set (i := 1) scTE.nd rfl (Or.inl rfl) (pe_ifExp (pt_cmp (pc_isN (pe_fld (pv 0) rfl))) (pe_fld (pv 0) rfl) (pe_fld (pe_fld (pv 0) rfl) rfl)))
      (pss_cons (ps_set (i := 2) scTE.nd rfl (Or.inl rfl) (pe_join pe_str (pe_lc (own := [("part", 3)]) (g := gName 3) (tt := tYes) (te := tCB (fun xs H Q => ∃ a dx fs, xs = [V.ref a] ∧ H a = some (.ins C dx fs) ∧ spTextR K C cS k [V.ref a] H (fun v H' => ∃ z : Str, v = .str z ∧ Q (.str z) H') (fun _ _ _ => False)) (tCons (tVar 3) tNil)) rfl scTE.nd
          (pi_tup (pe_fld (pv 0) rfl)) (blkOk_by (N := nTE) (sc := defScope sTextE) (by decide +kernel)) (fun _ _ _ _ _ => pg_name (i := 3) scTE.nd rfl (Or.inl rfl)) (fun _ _ _ _ _ => pts_nil)
          (fun _ _ _ _ _ => pe_callTy (LR.call_strOwn GS T.at_ T.fn T.b pass0 rmS) (by rfl) S.str (by decide +kernel) (pa_cons (pv 3) pa_nil)))))
      (pss_one (ps_ret (pe_joined (.cons (pe_fmt (pv 1)) (.cons pe_str (.cons (pe_fmt (pv 2)) (.cons pe_str .nil))))))))), ?_⟩
    cases m with
    | nm z =>
      obtain ⟨_, ⟨a, dx, p, q1, q2, j, ys, bs, ks, rfl, ha, _⟩, _⟩ := hE
      refine ⟨_, rfl, a, C, dx, _, .str "name", rfl, ha, cl, n.kind, rfl, rfl, _, rfl, ?_⟩
      exact iteT ⟨_, rfl, a, C, dx, _, .str z, rfl, ha, cl, n.word, rfl, q z H rfl (Same.refl H)⟩
    | ap h ms =>
      obtain ⟨a, dx, kd, z0, st, p, q1, q2, i, j, es, rfl, ha, hp', le, gE, nk, lh, hd⟩ := ap_fieldsR hE
      have hp : SqT K H p es := SqT.of hp'
      refine ⟨_, rfl, a, C, dx, _, .str kd, rfl, ha, cl, n.kind, rfl, rfl, _, rfl, ?_⟩
      rw [decide_eq_false (show ¬ V.str kd = V.str "name" by intro e; injection e with e; exact nk e)]
      refine iteF ?_
      dsimp only [tNext]
      refine (asg_key (fun y H' => y = .str (hdW h) ∧ H' = H) (fun R key => ?_) (fun y H' e => ?_))
      · rcases hd with ⟨rfl, rfl⟩ | ⟨s', dx', y', rfl, hb⟩
        · exact ⟨_, rfl, a, C, dx, _, .non, rfl, ha, cl, n.step, rfl, true, rfl, iteT ⟨_, rfl, a, C, dx, _, .str (hdW h), rfl, ha, cl, n.kind, rfl, key _ _ ⟨rfl, rfl⟩⟩⟩
        · exact ⟨_, rfl, a, C, dx, _, .ref s', rfl, ha, cl, n.step, rfl, false, rfl, iteF ⟨_, rfl, a, C, dx, _, .ref s', rfl, ha, cl, n.step, rfl, s', cS, dx', _, .str (hdW h), rfl, hb, clS, s1, rfl, key _ _ ⟨rfl, rfl⟩⟩⟩
      obtain ⟨rfl, eH⟩ := e
      rw [eH]
      clear eH H'
      refine gN_key ?_
      have lnc : (TL.tl (hdW h)).length + ((TL.joinL [44, 32] (cpL ms)).length + 2) = (cp (.ap h ms)).length := by
        rw [cp_ap, List.length_append, List.length_cons, List.length_append, List.length_singleton]
      have big : ∀ {x : Nat}, x ≤ 2000 → x ≤ sizeLine := fun h => by rw [sizeLine_eq]; omega
      refine ⟨⟨_, rfl⟩, _, rfl, a, C, dx, _, .ref p, rfl, ha, cl, n.parts, rfl, p, rfl, ⟨_, hp⟩, fun D hD => lc_tup (xs := es) (fun i H4 => Same H H4 ∧ ∃ ys : List Str, H4 D = some (.lst (ys.map V.str)) ∧ ys.length = i ∧ ∀ (j : Nat) y m, ys[j]? = some y → ms[j]? = some m → TL.tl y = cp m)
        ⟨same_new hD, [], upd_same, rfl, fun j y m h _ => nomatch h⟩ (fun i H4 _ h => SqT.same h.1 hp) (fun i v H4 hv h4 => ?_) (fun H4 h4 => ?_)⟩
      · obtain ⟨s4, ys, d4, ly, gy⟩ := h4
        have lt := (List.getElem?_eq_some_iff.mp hv).1
        have hm : ms[i]? = some (ms[i]'(by omega)) := List.getElem?_eq_getElem _
        generalize ms[i]'(by omega) = m at hm
        have hc : (cpL ms)[i]? = some (cp m) := by rw [cpL_map, List.getElem?_map, hm]; rfl
        have lm := joinL_mem (S := [44, 32]) hc
        have hv4 := exR_tr (.same s4) (gE i m v hm hv)
        obtain ⟨a', dx', fs', rfl, ha'⟩ := hv4.ins
        refine ⟨rfl, _, rfl, a', dx', _, rfl, ha', m, .ref a', rfl, hv4, by omega, fun y H5 hy s5 => ⟨y, rfl, _, s5 _ _ d4, by rw [List.length_map, ly, sizeLine_eq]; have e := joinL_len (S := [44, 32]) (cpL ms); rw [cpL_map, List.length_map] at e; rw [cpL_map] at lnc; simp only [List.length_cons, List.length_nil] at e; omega, same_put hD (s4.trans s5), ys ++ [y], by rw [upd_same, List.map_append]; rfl, by rw [List.length_append, ly]; rfl, fun j u m' hu hm' => ?_⟩⟩
        by_cases lj : j < ys.length
        · rw [List.getElem?_append_left lj] at hu
          exact gy j u m' hu hm'
        · have l2 := (List.getElem?_eq_some_iff.mp hu).1
          rw [List.length_append, List.length_singleton] at l2
          have ej : j = ys.length := by omega
          subst ej
          rw [List.getElem?_append_right (Nat.le_refl _), Nat.sub_self] at hu
          cases hu
          rw [ly, hm] at hm'
          cases hm'
          exact hy
      · obtain ⟨s4, ys, d4, ly, gy⟩ := h4
        have em : ys.map TL.tl = cpL ms := by
          rw [cpL_map]
          refine List.ext_getElem? fun j => ?_
          rw [List.getElem?_map, List.getElem?_map]
          by_cases lj : j < ys.length
          · have hy : ys[j]? = some ys[j] := List.getElem?_eq_getElem lj
            have hm : ms[j]? = some (ms[j]'(by omega)) := List.getElem?_eq_getElem _
            rw [hy, hm]
            exact congrArg some (gy j _ _ hy hm)
          · rw [List.getElem?_eq_none (by omega), List.getElem?_eq_none (by omega)]
            rfl
        have jl : TL.tl (Txt.join ", " ys) = TL.joinL [44, 32] (cpL ms) := by
          rw [TL.join_eq, TL.tl_join, em]
          rfl
        have sm := joinL_len (S := [44, 32]) (cpL ms)
        rw [← em, List.map_map, List.length_map] at sm
        have sm2 : (ys.map (fun x => x.length)).sum + ys.length * 2 ≤ (TL.joinL [44, 32] (cpL ms)).length + 2 := by
          rw [← em]
          refine Nat.le_trans (Nat.le_of_eq ?_) sm
          rfl
        have lJ : (Txt.join ", " ys).length = (TL.joinL [44, 32] (cpL ms)).length := by
          rw [← jl]
          rfl
        refine ⟨_, D, ys, rfl, rfl, .inl (SqL.of d4), by show _ + ys.length * 2 ≤ _; omega, ?_⟩
        generalize Txt.join ", " ys = J at jl lJ ⊢
        have e0 : (Str.empty ++ hdW h) = hdW h := by
          show Str.mk (#[] ++ (hdW h).cps) = hdW h
          rw [Array.empty_append]
        have o1 : ("(" : Str).length = 1 := by decide +kernel
        have o2 : (")" : Str).length = 1 := by decide +kernel
        refine ⟨_, rfl, .inl ⟨hdW h, rfl, big (by omega), hdW h, rfl, by rw [e0]; exact big (by omega), ?_⟩⟩
        rw [e0]
        refine ⟨_, rfl, big (by rw [len_app, o1]; omega), _, rfl, .inl ⟨J, rfl, big (by omega), J, rfl, big (by rw [len_app, len_app, o1]; omega), _, rfl, big (by rw [len_app, len_app, len_app, o1, o2]; omega), ?_⟩⟩
        refine q _ H4 ?_ s4
        rw [TL.tl_append, TL.tl_append, TL.tl_append, jl, cp_ap]
        show (TL.tl (hdW h) ++ [40]) ++ _ ++ [41] = _
        simp
theorem ok_textR {C cS fS f : Addr} {fdS fd : FuncData} (S : Std mg) (cl : Cls K C) (n : ExN K C) (clS : Cls K cS) (s1 : NoAttr K cS "name") (T : StrO K C sExprStr "Expr.__str__" fS fdS) (T1 : Df K mg "_text" sTextE f fd ["expr"]) : ∀ k, FnOk P w K mg base CX0 (4 * k + 1) f fd ["expr"] (spTextR K C cS k)
  | 0 => T1.F.ok scTE (fun vs H Q E h => by obtain ⟨m, e, _, h, _⟩ := h; exact h.elim) (fun cdv A outer s H vs Q E hr h => by obtain ⟨m, e, _, h, _⟩ := h; exact h.elim)
  | k + 1 => ok_textR0 S cl n clS s1 T (ok_exStrR S T1 (ok_textR S cl n clS s1 T T1 k) T.F) T1.F
end
end LK

namespace LK
open PySem PySem.Spec PyProof.Rows L2 LR
/-! ### values that fit a row, or do not -/
def spE0 (C : Addr) (x : Str) : Sp := fun vs H Q _ => ∃ (a : Addr) (v : V), vs = [.ref a, v] ∧ H a = some (exo a C none) ∧ ∀ dx, H dx = none → dx ≠ a → Q .non (upd (upd H dx (exd dx [(x, v)])) a (exo a C (some dx)))
theorem errX {C : Addr} {x : Str} {H : Hp} {v : V} {R : Addr → Hp → Prop} (q : ∀ d H', Same H H' → H' d = some (.xd [(x, v)]) → H d = none → R d H') : ([v] : List V).length ≤ 1000 ∧ ∀ a, H a = none → spE0 C x (.ref a :: ([v] ++ [])) (upd H a (exo a C none))
    (fun u H2 => u = .non ∧ ∃ (d : Addr) (fs : List (Str × V)), H2 a = some (exo a C (some d)) ∧ H2 d = some (exd d fs) ∧ H d = none ∧ R d (upd (L2.del H2 a) d (.xd fs))) (fun _ _ _ => False) := by
  refine ⟨by show 1 ≤ 1000; decide, fun a ha => ⟨a, v, rfl, upd_same, fun dx hdx ne => ?_⟩⟩
  have hd : H dx = none := by
    rw [upd_ne ne] at hdx
    exact hdx
  refine ⟨rfl, dx, [(x, v)], upd_same, by rw [upd_ne ne]; exact upd_same, hd, q dx _ (fun b o e => ?_) upd_same hd⟩
  have n1 : b ≠ a := ne_of_none e ha
  have n2 : b ≠ dx := ne_of_none e hd
  rw [upd_ne n2, del_ne n1, upd_ne n1, upd_ne n2, upd_ne n1]
  exact e
theorem Seen.same {K : PySem.W.Frag} {H H' : Hp} {v : V} (s : Same H H') (t : ∀ t, TyX K H v t → TyX K H' v t) (h : Seen K H v) : Seen K H' v := by
  rcases h with h | ⟨no, u, ty, k⟩
  · exact .inl h
  · exact .inr ⟨no, u, t u ty, k⟩
theorem seen_same {K : PySem.W.Frag} {H H' : Hp} {v : V} (s : Same H H') (h : Seen K H v) : Seen K H' v := Seen.same s (fun _ t => TyX.same s t) h
/-- an error of the class at C0 that keeps the word z is let out -/
def Raises (C0 : Addr) (E : XK) (H : Hp) (z : Str) : Prop := ∀ d H', Same H H' → H' d = some (.xd [("word", .str z)]) → H d = none → E (.ref C0) (some d) H'
theorem Raises.same {C0 : Addr} {E : XK} {H H' : Hp} {z : Str} (h : Raises C0 E H z) (s : Same H H') : Raises C0 E H' z := fun d H2 s2 hd nd => h d H2 (s.trans s2) hd (s.free nd)
/-- v is neither an expression nor a name -/
def EvBad (K : PySem.W.Frag) (C : Addr) (H : Hp) (v : V) : Prop := ∃ t, TyX K H v t ∧ PySem.W.kitOne K t (.ref C) = some false ∧ Seen K H v ∧ nameB v = false
theorem EvBad.same {K : PySem.W.Frag} {C : Addr} {H H' : Hp} {v : V} (s : Same H H') (h : EvBad K C H v) : EvBad K C H' v := by
  obtain ⟨t, a, b, c, d⟩ := h
  exact ⟨t, TyX.same s a, b, seen_same s c, d⟩
theorem nameB_ok {z : Str} (h : NameOk z) : nameB (.str z) = true := by
  have nb : nameB (.str z) = (decide ((1 : Int) ≤ z.length) && (decide ((z.length : Int) ≤ 4) && (!inV (.str z) keptW && lowB z))) := rfl
  have h4 := h.len
  have h1 := h.pos
  have no : inV (.str z) keptW = false := by
    have e1 : (("if" : Str) == z) = false := beq_eq_false_iff_ne.mpr (Ne.symm h.nif)
    have e2 : (("else" : Str) == z) = false := beq_eq_false_iff_ne.mpr (Ne.symm h.nelse)
    have e3 : (("end" : Str) == z) = false := beq_eq_false_iff_ne.mpr (Ne.symm h.nend)
    show (("if" : Str) == z || (("else" : Str) == z || (("end" : Str) == z || false))) = false
    rw [e1, e2, e3]
    rfl
  have low : lowB z = true := by
    unfold lowB
    rw [List.all_eq_true]
    intro c hc
    obtain ⟨c0, c1⟩ := h.low c hc
    exact decide_eq_true (letters_all c (by omega) c0)
  rw [nb, no, low, decide_eq_true (show (1 : Int) ≤ (z.length : Int) by omega), decide_eq_true (show (z.length : Int) ≤ 4 by omega)]
  rfl
theorem name_of {z : Str} (h : nameB (.str z) = true) : NameOk z := by
  have nb : nameB (.str z) = (decide ((1 : Int) ≤ z.length) && (decide ((z.length : Int) ≤ 4) && (!inV (.str z) keptW && lowB z))) := rfl
  rw [nb] at h
  simp only [Bool.and_eq_true, decide_eq_true_eq, Bool.not_eq_true'] at h
  obtain ⟨h1, h4, hk, hl⟩ := h
  refine ⟨by omega, by omega, fun c hc => ?_, ?_, ?_, ?_⟩
  · unfold lowB at hl
    rw [List.all_eq_true] at hl
    exact letters_low c (by simpa [TL.tl] using hl c hc)
  all_goals
    rintro rfl
    exact absurd hk (by decide +kernel)
theorem seen_str {K : PySem.W.Frag} {H : Hp} {z : Str} (h : z.length ≤ 1000) : Seen K H (.str z) := .inl ⟨z, rfl, h⟩
theorem sqT_ty {K : PySem.W.Frag} {H : Hp} {p : Addr} {xs : List V} (h : SqT K H p xs) : TyX K H (.ref p) (.type "tuple") := by
  rcases h with (h | ⟨o, h⟩) | h
  · exact .base (.tup h)
  · exact .fTuple h
  · obtain ⟨o, its, n, e, c, _⟩ := h
    exact .kTuple e c
theorem kitLT {K : PySem.W.Frag} {t : Value} {r1 r2 : Bool} (h1 : PySem.W.kitOne K t (.type "list") = some r1) (h2 : PySem.W.kitOne K t (.type "tuple") = some r2) : PySem.W.kitAny K t [.type "list", .type "tuple"] = some (r1 || r2) := by
  unfold PySem.W.kitAny
  rw [h1]
  cases r1 with
  | true => rfl
  | false =>
    show PySem.W.kitAny K t [.type "tuple"] = _
    unfold PySem.W.kitAny
    rw [h2]
    cases r2 <;> rfl
theorem pi_or {X : Cx} {tg it : Expr} {wi wi' : TI} (a : PI X tg it wi) (b : PI X tg it wi') : PI X tg it (fun σ H R => wi σ H R ∨ wi' σ H R) :=
  ⟨fun pins s σ H R I h => h.elim (a.run pins s σ H R I) (b.run pins s σ H R I)⟩
/-- whether x is a row is known -/
def RowIs (K : PySem.W.Frag) (CR : Addr) (H : Hp) (x : V) (b : Bool) : Prop := ∃ t, TyX K H x t ∧ PySem.W.kitOne K t (.ref CR) = some b
theorem RowIs.same {K : PySem.W.Frag} {CR : Addr} {H H' : Hp} {x : V} {b : Bool} (s : Same H H') (h : RowIs K CR H x b) : RowIs K CR H' x b := by
  obtain ⟨t, a, c⟩ := h
  exact ⟨t, TyX.same s a, c⟩
def SeqV (K : PySem.W.Frag) (H : Hp) (a : Addr) (xs : List V) : Prop := H a = some (.lst xs) ∨ SqT K H a xs
theorem SeqV.same {K : PySem.W.Frag} {H H' : Hp} {a : Addr} {xs : List V} (s : Same H H') (h : SeqV K H a xs) : SeqV K H' a xs := h.imp (s _ _) (SqT.same s)
def spAsB (K : PySem.W.Frag) (C cS : Addr) : Sp := fun vs H Q _ => ∃ v, vs = [v] ∧ ((EvBad K C H v ∧ ∀ H', Same H H' → Q .non H') ∨ ∃ n m, PartR K C cS n H v m ∧ ∀ v' H', Same H H' → ExR K C cS n H' m v' → Q v' H')
def spSetName (K : PySem.W.Frag) (C0 : Addr) : Sp := fun vs H Q E => ∃ v, vs = [v] ∧ Seen K H v ∧ (nameB v = true → ∀ H', Same H H' → Q v H') ∧ (nameB v = false → Raises C0 E H "name")
def spRowExpr (K : PySem.W.Frag) (C0 C cS : Addr) : Sp := fun vs H Q E => ∃ v, vs = [v] ∧ ((EvBad K C H v ∧ Raises C0 E H "expr") ∨ ∃ n m, PartR K C cS n H v m ∧ ∀ v' H', Same H H' → ExR K C cS n H' m v' → Q v' H')
def SeqBad (K : PySem.W.Frag) (H : Hp) (v : V) : Prop := ∃ t, TyX K H v t ∧ PySem.W.kitAny K t [.type "list", .type "tuple"] = some false
def spChecked (K : PySem.W.Frag) (C0 CR : Addr) : Sp := fun vs H Q E => ∃ v, vs = [v] ∧ ((SeqBad K H v ∧ Raises C0 E H "row") ∨ ∃ (a : Addr) (xs : List V) (bs : List Bool), v = .ref a ∧ SeqV K H a xs ∧ xs.length ≤ 1000 ∧ bs.length = xs.length ∧ (∀ (i : Nat) x b, xs[i]? = some x → bs[i]? = some b → RowIs K CR H x b) ∧
  ((bs.all id = false ∧ Raises C0 E H "row") ∨ (bs.all id = true ∧ ∀ p H', Same H H' → SqT K H' p xs → Q (.ref p) H')))
section
variable {P : Program} {w : World} {K : PySem.W.Frag} {mg : Str → Option Value} {base : Heap}
theorem ok_err3X {C f : Addr} {fd : FuncData} (e : Er K mg 3 C f fd) : FnOk P w K mg base CX0 1 f fd ["self", "word"] (spE0 C "word") := by
  refine e.F.ok scErr3 (fun vs H Q E h => ?_) (fun cdv A outer s H vs Q E hr h => ?_)
  · obtain ⟨_, _, rfl, _⟩ := h
    rfl
  · obtain ⟨a, v, rfl, ha, q⟩ := h
    exact ⟨_, pss_one (ps_ost (pv 0) (pv 1)), _, rfl, _, rfl, a, C, rfl, e.T, e.no, .inl ⟨ha, q⟩⟩
theorem ok_asB {C cS fI fM f kw : Addr} {fdI fdM fd : FuncData} (S : Std mg) (Wd : Words K mg kw) (c : OwnCl K mg "Expr" C) (kS : PySem.W.kitOne K (.type "str") (.ref C) = some false) (I : Df K mg "is_name" sIsName fI fdI ["value"]) (M : Df K mg "named" sNamed fM fdM ["word"]) (GM : FnOk P w K mg base CX0 4 fM fdM ["word"] (spNamedX K C cS))
    (F : Fun K "as_expr" "as_expr" sAsExpr f fd) : FnOk P w K mg base CX0 5 f fd ["value"] (spAsB K C cS) := by
  have GI : FnOk P w K mg base CX0 1 fI fdI ["value"] (spIsB K nameB) := ok_isNameV S Wd I.F
  refine F.ok scAs1 (fun vs H Q E h => ?_) (fun cdv A outer s H vs Q E hr h => ?_)
  · obtain ⟨v, rfl, _⟩ := h
    rfl
  · obtain ⟨v, rfl, h⟩ := h
    refine ⟨_, pss_cons (ps_if (pt_val (pe_callB call_isi (by rfl) S.isi (by decide +kernel) (pa_cons (pv 0) (pa_cons (pe_glob (v := .ref C) rfl c.g rfl) pa_nil)))) (pss_one (ps_ret (pv 0))) pss_nil)
      (pss_one (ps_ret (pe_ifExp (pt_val (pe_call GI (hr.mono (by decide)) rfl I.g I.F.kp I.b .nil pass0 (pa_cons (pv 0) pa_nil))) (pe_call GM hr rfl M.g M.F.kp M.b .nil pass0 (pa_cons (pv 0) pa_nil)) pe_non))), ?_⟩
    rcases h with ⟨⟨t, ty, kt, sn, nb⟩, q⟩ | ⟨n, m, h | ⟨z, rfl, rfl, ok, le⟩, q⟩
    · refine ⟨_, rfl, _, _, _, _, false, rfl, .own C, ty, kt, false, rfl, iteF ?_⟩
      refine ⟨_, rfl, v, rfl, sn, fun H1 s1 => ⟨_, rfl, ?_⟩⟩
      rw [nb]
      exact iteF (q H1 s1)
    · obtain ⟨a, dx, fs, rfl, ha⟩ := h.ins
      exact ⟨_, rfl, _, _, _, _, true, rfl, .own C, c.ty ha, kit_self, true, rfl, iteT ⟨_, rfl, q _ H (Same.refl H) h⟩⟩
    · refine ⟨_, rfl, _, _, _, _, false, rfl, .own C, .base (.str z), kS, false, rfl, iteF ?_⟩
      refine ⟨_, rfl, _, rfl, seen_str (by have := ok.len; omega), fun H1 s1 => ⟨_, rfl, ?_⟩⟩
      rw [nameB_ok ok]
      exact iteT ⟨_, rfl, z, rfl, ok, fun v' H' s' ex => q v' H' (s1.trans s') (ex.up le)⟩
theorem scSetName : FnScope ["value"] ["value"] (defScope sSetName) := ⟨rfl, rfl, rfl, by decide +kernel, rfl, by decide +kernel, by decide +kernel⟩
theorem ok_setName {C0 fI fE f kw : Addr} {fdI fdE fd : FuncData} (S : Std mg) (Wd : Words K mg kw) (e3 : Er K mg 3 C0 fE fdE) (I : Df K mg "is_name" sIsName fI fdI ["value"]) (F : Fun K "_set_name" "_set_name" sSetName f fd) : FnOk P w K mg base (L2N.CX P w) 3 f fd ["value"] (spSetName K C0) := by
  have GI : FnOk P w K mg base CX0 1 fI fdI ["value"] (spIsB K nameB) := ok_isNameV S Wd I.F
  have GE : FnOk P w K mg base CX0 1 fE fdE ["self", "word"] (spE0 C0 "word") := ok_err3X e3
  refine okN F scSetName (fun vs H Q E h => ?_) (fun cdv A outer s H vs Q E hr h => ?_)
  · obtain ⟨v, rfl, _⟩ := h
    rfl
  · obtain ⟨v, rfl, sn, q1, q2⟩ := h
    refine ⟨_, pss_cons (ps_if (pt_not (pt_val (pe_call GI (hr.mono (by decide)) rfl I.g I.F.kp I.b .nil pass0 (pa_cons (pv 0) pa_nil)))) (pss_one (L2N.ps_raise rfl (L2N.takes_of rfl rfl rfl rfl) (pmk_errN e3.T e3.ini e3.ti GE (hr.mono (by decide)) e3.b rfl e3.g (pa_cons pe_str pa_nil)))) pss_nil) (pss_one (ps_ret (pv 0))), ?_⟩
    refine ⟨_, rfl, v, rfl, sn, fun H1 s1 => ⟨_, rfl, ?_⟩⟩
    by_cases nb : nameB v = true
    · rw [nb]
      exact iteF ⟨_, rfl, q1 nb H1 s1⟩
    · rw [Bool.not_eq_true] at nb
      rw [nb]
      exact iteT (errX fun d H' s' hd nd => (q2 nb).same s1 d H' s' hd nd)
theorem scRowExpr : FnScope ["value", "expr"] ["value"] (defScope sRowExpr) := ⟨rfl, rfl, rfl, by decide +kernel, rfl, by decide +kernel, by decide +kernel⟩
theorem ok_rowExpr {C0 C cS fA fE f : Addr} {fdA fdE fd : FuncData} (e3 : Er K mg 3 C0 fE fdE) (A1 : Df K mg "as_expr" sAsExpr fA fdA ["value"]) (GA : FnOk P w K mg base CX0 5 fA fdA ["value"] (spAsB K C cS)) (F : Fun K "_row_expr" "_row_expr" sRowExpr f fd) : FnOk P w K mg base (L2N.CX P w) 6 f fd ["value"] (spRowExpr K C0 C cS) := by
  have GE : FnOk P w K mg base CX0 1 fE fdE ["self", "word"] (spE0 C0 "word") := ok_err3X e3
  refine okN F scRowExpr (fun vs H Q E h => ?_) (fun cdv A outer s H vs Q E hr h => ?_)
  · obtain ⟨v, rfl, _⟩ := h
    rfl
  · obtain ⟨v, rfl, h⟩ := h
    refine ⟨_, pss_cons (ps_set (i := 1) scRowExpr.nd rfl (Or.inl rfl) (pe_call GA hr rfl A1.g A1.F.kp A1.b .nil pass0 (pa_cons (pv 0) pa_nil)))
      (pss_cons (ps_if (pt_cmp (pc_isN (pv 1))) (pss_one (L2N.ps_raise rfl (L2N.takes_of rfl rfl rfl rfl) (pmk_errN e3.T e3.ini e3.ti GE (hr.mono (by decide)) e3.b rfl e3.g (pa_cons pe_str pa_nil)))) pss_nil) (pss_one (ps_ret (pv 1)))), ?_⟩
    rcases h with ⟨bad, q⟩ | ⟨n, m, h, q⟩
    · refine ⟨_, rfl, v, rfl, .inl ⟨bad, fun H1 s1 => ⟨_, rfl, _, rfl, iteT (errX fun d H' s' hd nd => q.same s1 d H' s' hd nd)⟩⟩⟩
    · refine ⟨_, rfl, v, rfl, .inr ⟨n, m, h, fun v' H1 s1 ex => ?_⟩⟩
      obtain ⟨a, dx, fs, rfl, ha⟩ := ex.ins
      exact ⟨_, rfl, _, rfl, iteF ⟨_, rfl, q _ H1 s1 ex⟩⟩
def nChk : List Str := ["value", "row"]
theorem scChk : FnScope nChk ["value"] (defScope sCheckedRows) := ⟨rfl, rfl, rfl, by decide +kernel, rfl, by decide +kernel, by decide +kernel⟩
theorem ok_checked {C0 CR fE f : Addr} {fdE fd : FuncData} (S : Std mg) (gR : mg "Row" = some (.ref CR)) (e3 : Er K mg 3 C0 fE fdE) (F : Fun K "checked_rows" "checked_rows" sCheckedRows f fd) : FnOk P w K mg base (L2N.CX P w) 3 f fd ["value"] (spChecked K C0 CR) := by
  have GE : FnOk P w K mg base CX0 1 fE fdE ["self", "word"] (spE0 C0 "word") := ok_err3X e3
  refine okN F scChk (fun vs H Q E h => ?_) (fun cdv A outer s H vs Q E hr h => ?_)
  · obtain ⟨v, rfl, _⟩ := h
    rfl
  · obtain ⟨v, rfl, h⟩ := h
    refine ⟨_, pss_cons (ps_if (pt_not (pt_val (pe_callB call_isiT (by rfl) S.isi (by decide +kernel) (pa_cons (pv 0) (pa_cons (pe_tup (pa_cons (pe_bltn (v := .ty "list") (by rfl) S.list (by decide +kernel) rfl) (pa_cons (pe_bltn (v := .ty "tuple") (by rfl) S.tuple (by decide +kernel) rfl) pa_nil))) pa_nil))))) (pss_one (L2N.ps_raise rfl (L2N.takes_of rfl rfl rfl rfl) (pmk_errN e3.T e3.ini e3.ti GE (hr.mono (by decide)) e3.b rfl e3.g (pa_cons pe_str pa_nil)))) pss_nil)
      (pss_cons (ps_if (pt_not (pt_val (pe_callB (cr_all rfl) (by rfl) S.all (by decide +kernel) (pa_cons (pe_lc (own := [("row", 1)]) (g := gName 1) (tt := tYes) (te := tCB (rIsi K) (tCons (tVar 1) (tCons (tC (.ref CR)) tNil))) rfl scChk.nd
            (pi_or (pi_list (pv 0)) (pi_tup (pv 0))) (blkOk_by (N := nChk) (sc := defScope sCheckedRows) (by decide +kernel)) (fun _ _ _ _ _ => pg_name (i := 1) scChk.nd rfl (Or.inl rfl)) (fun _ _ _ _ _ => pts_nil)
            (fun _ _ _ _ _ => pe_callB call_isi (by rfl) S.isi (by decide +kernel) (pa_cons (pv 1) (pa_cons (pe_glob (v := .ref CR) rfl gR rfl) pa_nil)))) pa_nil)))) (pss_one (L2N.ps_raise rfl (L2N.takes_of rfl rfl rfl rfl) (pmk_errN e3.T e3.ini e3.ti GE (hr.mono (by decide)) e3.b rfl e3.g (pa_cons pe_str pa_nil)))) pss_nil)
      (pss_one (ps_ret (pe_callTy call_tuple_of (by rfl) S.tuple (by decide +kernel) (pa_cons (pv 0) pa_nil))))), ?_⟩
    refine ⟨_, rfl, (by show 2 ≤ sizeLine; decide), fun T hT => ?_⟩
    have s1 := same_new (o := .tup [.ty "list", .ty "tuple"]) hT
    rcases h with ⟨⟨t, ty, kt⟩, q⟩ | ⟨a, xs, bs, rfl, hs, few, lb, hr1, h⟩
    · refine ⟨_, T, _, t, _, false, rfl, upd_same, .cons (.ty "list") (.cons (.ty "tuple") .nil), TyX.same s1 ty, kt, _, rfl, iteT (errX fun d H' s' hd nd => q.same s1 d H' s' hd nd)⟩
    have tyV : ∃ t, TyX K (upd H T (.tup [.ty "list", .ty "tuple"])) (.ref a) t ∧ PySem.W.kitAny K t [.type "list", .type "tuple"] = some true := by
      rcases hs with h | h
      · exact ⟨.type "list", .base (.lst (s1 _ _ h)), kitLT (r1 := true) (r2 := false) (kit_ty (by decide +kernel)) (kit_ty (by decide +kernel))⟩
      · exact ⟨.type "tuple", sqT_ty (SqT.same s1 h), kitLT (r1 := false) (r2 := true) (kit_ty (by decide +kernel)) (kit_ty (by decide +kernel))⟩
    obtain ⟨t, ty, kt⟩ := tyV
    refine ⟨_, T, _, t, _, true, rfl, upd_same, .cons (.ty "list") (.cons (.ty "tuple") .nil), ty, kt, _, rfl, iteF ?_⟩
    generalize upd H T (.tup [.ty "list", .ty "tuple"]) = H1 at s1 ⊢
    have step : ∀ (D : Addr) (i : Nat) (v : V) (H4 : Hp), H1 D = none → xs[i]? = some v → (Same H1 H4 ∧ H4 D = some (.lst ((bs.take i).map V.bl))) → ∃ (t : Value) (b : Bool), TyX K H4 v t ∧ PySem.W.kitOne K t (.ref CR) = some b ∧ ((bs.take i).map V.bl).length < sizeLine ∧ Same H1 (upd H4 D (.lst ((bs.take i).map V.bl ++ [V.bl b]))) ∧ (upd H4 D (.lst ((bs.take i).map V.bl ++ [V.bl b]))) D = some (.lst ((bs.take (i + 1)).map V.bl)) := by
      intro D i v H4 hD hv h
      obtain ⟨s4, d4⟩ := h
      have lt : i < xs.length := (List.getElem?_eq_some_iff.mp hv).1
      have hb : bs[i]? = some (bs[i]'(by omega)) := List.getElem?_eq_getElem _
      obtain ⟨t, ty, kt⟩ := hr1 i v _ hv hb
      refine ⟨t, _, TyX.same (s1.trans s4) ty, kt, ?_, same_put hD s4, ?_⟩
      · rw [List.length_map, List.length_take, sizeLine_eq]
        omega
      · rw [upd_same, List.take_add_one, hb, List.map_append]
        rfl
    dsimp only [tNext]
    refine if_key (fun b H' => Same H1 H' ∧ b = !(bs.all id)) (fun R key => ?_) (fun H' h' => ?_) (fun H' h' => ?_)
    · rcases hs with hs | hs
      · refine .inl ⟨_, rfl, a, rfl, ⟨_, SqL.of (s1 _ _ hs)⟩, fun D hD => lc_list (xs := xs) (fun i H4 => Same H1 H4 ∧ H4 D = some (.lst ((bs.take i).map V.bl))) ⟨same_new hD, upd_same⟩ (fun i H4 _ h => SqL.of (h.1 _ _ (s1 _ _ hs))) (fun i v H4 hv h => ?_) (fun H4 h => ?_)⟩
        · obtain ⟨t, b, h1, h2, h3, h4, h5⟩ := step D i v H4 hD hv h
          exact ⟨rfl, _, rfl, _, _, _, _, _, rfl, .own CR, h1, h2, _, h.2, h3, h4, h5⟩
        · rw [← lb, List.take_length] at h
          exact ⟨D, bs, rfl, SqL.of h.2, _, rfl, key _ _ ⟨h.1, rfl⟩⟩
      · refine .inr ⟨_, rfl, a, rfl, ⟨_, SqT.same s1 hs⟩, fun D hD => lc_tup (xs := xs) (fun i H4 => Same H1 H4 ∧ H4 D = some (.lst ((bs.take i).map V.bl))) ⟨same_new hD, upd_same⟩ (fun i H4 _ h => SqT.same (s1.trans h.1) hs) (fun i v H4 hv h => ?_) (fun H4 h => ?_)⟩
        · obtain ⟨t, b, h1, h2, h3, h4, h5⟩ := step D i v H4 hD hv h
          exact ⟨rfl, _, rfl, _, _, _, _, _, rfl, .own CR, h1, h2, _, h.2, h3, h4, h5⟩
        · rw [← lb, List.take_length] at h
          exact ⟨D, bs, rfl, SqL.of h.2, _, rfl, key _ _ ⟨h.1, rfl⟩⟩
    · obtain ⟨s2, e⟩ := h'
      rcases h with ⟨_, q⟩ | ⟨e2, q⟩
      · exact errX fun d H2 s' hd nd => q.same (s1.trans s2) d H2 s' hd nd
      · rw [e2] at e
        cases e
    · obtain ⟨s2, e⟩ := h'
      rcases h with ⟨e2, q⟩ | ⟨e2, q⟩
      · rw [e2] at e
        cases e
      · have s3 := s1.trans s2
        rcases hs with hs | hs
        · exact ⟨_, rfl, a, xs, rfl, .inl ⟨SqL.of (s3 _ _ hs), fun l hl => q l _ (s3.trans (same_new hl)) (SqT.of upd_same)⟩⟩
        · exact ⟨_, rfl, a, xs, rfl, .inr ⟨SqT.same s3 hs, q a _ s3 (SqT.same s3 hs)⟩⟩
end
end LK

namespace LK
open PySem PySem.Spec PyProof.Rows L2 LR
/-! ### rows made or refused -/
/-- x is being made: all that stood in H0 stands -/
structure Mkg (H0 H : Hp) (x CR dx : Addr) (fs : List (Str × V)) : Prop where
  z : H0 x = none
  s : Same H0 H
  at_ : H x = some (.ins CR dx fs)
theorem Mkg.put {H0 H : Hp} {x CR dx : Addr} {fs : List (Str × V)} (h : Mkg H0 H x CR dx fs) (gs : List (Str × V)) : Mkg H0 (upd H x (.ins CR dx gs)) x CR dx gs :=
  ⟨h.z, fun b o e => by rw [upd_ne (ne_of_none e h.z)]; exact h.s b o e, upd_same⟩
theorem Mkg.same {H0 H H' : Hp} {x CR dx : Addr} {fs : List (Str × V)} (h : Mkg H0 H x CR dx fs) (s : Same H H') : Mkg H0 H' x CR dx fs := ⟨h.z, h.s.trans s, s _ _ h.at_⟩
theorem Mkg.new {H1 : Hp} {x dx CR : Addr} (nx : H1 x = none) (nd : H1 dx = none) : Mkg H1 (upd (upd H1 dx (.own x)) x (.ins CR dx [])) x CR dx [] := ⟨nx, same_ins nx nd, upd_same⟩
theorem raise_at {C0 : Addr} {E : XK} {H0 H : Hp} {z : Str} (h : Raises C0 E H0 z) (s : Same H0 H) : Raises C0 E H z := h.same s
theorem partR_low {K : PySem.W.Frag} {C cS : Addr} {n : Nat} {H : Hp} {y : V} {m : Md} (h : PartR K C cS n H y m) : 1 ≤ n := h.elim ExR.pos fun ⟨_, _, _, _, l⟩ => l
/-- a row that sets a name -/
def spSetI (K : PySem.W.Frag) (C0 C cS : Addr) (cR : Nat → Addr) (k : Nat) : Sp := fun vs H Q E => ∃ (x dx : Addr) (nm ev : V) (H0 : Hp), vs = [.ref x, nm, ev] ∧ Mkg H0 H x (cR k) dx [] ∧ Seen K H0 nm ∧
  ((nameB nm = false ∧ Raises C0 E H0 "name") ∨ (∃ z, nm = .str z ∧ NameOk z ∧ EvBad K C H0 ev ∧ Raises C0 E H0 "expr") ∨
    (∃ z n m, nm = .str z ∧ NameOk z ∧ PartR K C cS n H0 ev m ∧ sz m ≤ 20 ∧ ∀ H', RwO K C cS cR 1 H' (.set k z m) (.ref x) → Same H0 H' → Q .non H'))
def spRefI (K : PySem.W.Frag) (C0 C cS : Addr) (cR : Nat → Addr) : Sp := fun vs H Q E => ∃ (x dx : Addr) (nm : V) (H0 : Hp), vs = [.ref x, nm] ∧ Mkg H0 H x (cR 3) dx [] ∧ Seen K H0 nm ∧
  ((nameB nm = false ∧ Raises C0 E H0 "word") ∨ (∃ z, nm = .str z ∧ NameOk z ∧ ∀ H', RwO K C cS cR 1 H' (.rfs z) (.ref x) → Same H0 H' → Q .non H'))
theorem sts_le (m : Md) : (sts m).length ≤ sz m := by have := lvs_sz m; omega
theorem lvs_le (m : Md) : (lvs m).length ≤ sz m := by have := lvs_sz m; omega
section
variable {P : Program} {w : World} {K : PySem.W.Frag} {mg : Str → Option Value} {base : Heap}
theorem scPut : FnScope ["self", "name", "expr"] ["self", "name", "expr"] (defScope sPutInit) := ⟨rfl, rfl, rfl, by decide +kernel, rfl, by decide +kernel, by decide +kernel⟩
theorem ok_putI {C0 C cS cRow fM fN fX f t tU tV : Addr} {mc : Value} {cR : Nat → Addr} {fdM fdN fdX fd : FuncData} (RC : ∀ i, i < 6 → RwC K C cS (cR i)) (nn : NoAttr K (cR 0) "name") (ne : NoAttr K (cR 0) "expr") (M : RowM K mg cRow mc fM fdM t tU tV) (GR : FnOk P w K mg base CX0 2 fM fdM pRow (spRowInit K C cS cR))
    (D1 : Df K mg "_set_name" sSetName fN fdN ["value"]) (G1 : FnOk P w K mg base (L2N.CX P w) 3 fN fdN ["value"] (spSetName K C0)) (D2 : Df K mg "_row_expr" sRowExpr fX fdX ["value"]) (G2 : FnOk P w K mg base (L2N.CX P w) 6 fX fdX ["value"] (spRowExpr K C0 C cS))
    (F : Fun K "__init__" "Put.__init__" sPutInit f fd) : FnOk P w K mg base (L2N.CX P w) 7 f fd ["self", "name", "expr"] (spSetI K C0 C cS cR 0) := by
  have rc := RC 0 (by decide)
  refine okN F scPut (fun vs H Q E h => ?_) (fun cdv A outer s H vs Q E hr h => ?_)
  · obtain ⟨x, dx, nm, ev, H0, rfl, _⟩ := h
    rfl
  · obtain ⟨x, dx, nm, ev, H0, rfl, mk, sn, h⟩ := h
    refine ⟨_, pss_cons (ps_fld (pv 0) (pe_call G1 (hr.mono (by decide)) rfl D1.g D1.F.kp D1.b .nil (L2N.passes_call (L2N.takes_of rfl rfl rfl rfl) fun _ _ _ _ h => h) (pa_cons (pv 1) pa_nil)) rfl)
      (pss_cons (ps_fld (pv 0) (pe_call G2 hr rfl D2.g D2.F.kp D2.b .nil (L2N.passes_call (L2N.takes_of rfl rfl rfl rfl) fun _ _ _ _ h => h) (pa_cons (pv 2) pa_nil)) rfl)
      (pss_one (ps_expr (pe_cfun (E := E0) (pe_glob (v := .ref cRow) rfl M.g rfl) M.rd M.cv M.kp (GR.raw M.b0 .nil) (hr.mono (by decide)) pass0 (pa_cons (pv 0) (pa_cons pe_str (pa_cons (pe_tup (pa_cons (pe_fld (pv 0) rfl) (pa_cons (pe_fld (pv 0) rfl) pa_nil)))
        (pa_cons (pe_tup (pa_cons (pe_fld (pv 0) rfl) pa_nil)) (pa_cons (pe_tup pa_nil) (pa_cons (pe_tup (pa_cons (pe_fld (pv 0) rfl) pa_nil)) pa_nil)))))))))), ?_⟩
    refine ⟨_, rfl, nm, rfl, seen_same mk.s sn, fun nb H1 s1 => ?_, fun nb => ?_⟩
    · have mk1 := mk.same s1
      refine ⟨_, rfl, x, cR 0, dx, _, rfl, mk1.at_, rc.cl, nn, by decide, ?_⟩
      have mk2 := mk1.put (putF "name" nm [])
      generalize upd H1 x (.ins (cR 0) dx (putF "name" nm [])) = H2 at mk2 ⊢
      rcases h with ⟨no, _⟩ | ⟨z, rfl, ok, bad, q⟩ | ⟨z, n, m, rfl, ok, pr, few, q⟩
      · rw [no] at nb
        cases nb
      · exact ⟨_, rfl, ev, rfl, .inl ⟨bad.same mk2.s, q.same mk2.s⟩⟩
      · refine ⟨_, rfl, ev, rfl, .inr ⟨n, m, pr.same mk2.s, fun e H3 s3 ex => ?_⟩⟩
        have mk3 := mk2.same s3
        refine ⟨_, rfl, x, cR 0, dx, _, rfl, mk3.at_, rc.cl, ne, (by show 1 < 1000; decide), ?_⟩
        have ex4 := exR_trX (TrX.put rc.nC rc.nS mk3.at_ (gs := putF "expr" e (putF "name" (.str z) []))) ex
        have mk4 := mk3.put (putF "expr" e (putF "name" (.str z) []))
        generalize upd H3 x (.ins (cR 0) dx (putF "expr" e (putF "name" (.str z) []))) = H4 at mk4 ex4 ⊢
        refine ⟨rfl, _, rfl, ?_⟩
        refine ⟨_, rfl, x, cR 0, dx, _, _, rfl, mk4.at_, rc.cl, nn, rfl, _, rfl, x, cR 0, dx, _, _, rfl, mk4.at_, rc.cl, ne, rfl, (by show 2 ≤ sizeLine; decide), fun T hT => ?_⟩
        have mk5 := mk4.same (same_new (o := .tup [.str z, e]) hT)
        have tT : upd H4 T (.tup [.str z, e]) T = some (.tup [.str z, e]) := upd_same
        have ex5 := ex4.same (same_new (o := .tup [.str z, e]) hT)
        generalize upd H4 T (.tup [.str z, e]) = H5 at mk5 tT ex5 ⊢
        refine ⟨_, rfl, x, cR 0, dx, _, _, rfl, mk5.at_, rc.cl, ne, rfl, (by show 1 ≤ sizeLine; decide), fun p hp => ?_⟩
        have mk6 := mk5.same (same_new (o := .tup [e]) hp)
        have tT6 := same_new (o := .tup [e]) hp _ _ tT
        have tp : upd H5 p (.tup [e]) p = some (.tup [e]) := upd_same
        have ex6 := ex5.same (same_new (o := .tup [e]) hp)
        generalize upd H5 p (.tup [e]) = H6 at mk6 tT6 tp ex6 ⊢
        refine ⟨(by show 0 ≤ sizeLine; decide), fun i hi => ?_⟩
        have mk7 := mk6.same (same_new (o := .tup []) hi)
        have tT7 := same_new (o := .tup []) hi _ _ tT6
        have tp7 := same_new (o := .tup []) hi _ _ tp
        have ti : upd H6 i (.tup []) i = some (.tup []) := upd_same
        have ex7 := ex6.same (same_new (o := .tup []) hi)
        generalize upd H6 i (.tup []) = H7 at mk7 tT7 tp7 ti ex7 ⊢
        refine ⟨_, rfl, x, cR 0, dx, _, _, rfl, mk7.at_, rc.cl, nn, rfl, (by show 1 ≤ sizeLine; decide), fun o ho => ?_⟩
        have s8 := same_new (o := .tup [.str z]) ho
        have mk8 := mk7.same s8
        have to : upd H7 o (.tup [.str z]) o = some (.tup [.str z]) := upd_same
        have ex8 := ex7.same s8
        have tT8 := s8 _ _ tT7
        have tp8 := s8 _ _ tp7
        have ti8 := s8 _ _ ti
        generalize upd H7 o (.tup [.str z]) = H8 at mk8 tT8 tp8 ti8 to ex8 ⊢
        refine ⟨cR 0, x, dx, _, _, .ref T, p, i, o, [(e, m)], [], [z], H0, rfl, rc, mk8.at_, fun f hf => ?_, by show 2 < 100; decide, SqT.of tp8, SqT.of ti8, SqT.of to, fun e' he => ?_, mk8.z, mk8.s, (fun _ h => nomatch h), ⟨z :: lvs m, fun k hk => by simpa using hk, ?_⟩, ⟨sts m, fun k hk => by simpa using hk, ?_⟩, by show 1 < 64; decide, fun H' q1 q2 ys bs ks hx h1 no h2 kl ky kp ss => ?_⟩
        · simp only [List.mem_cons, List.not_mem_nil, or_false] at hf
          rcases hf with rfl | rfl | rfl | rfl | rfl | rfl <;> rfl
        · rw [List.mem_singleton.mp he]
          exact ex8.fld
        · have := lvs_le m
          simp only [List.length_cons, List.length_nil]
          omega
        · have := sts_le m
          simp only [List.length_cons, List.length_nil]
          omega
        · have t8 : TrX C cS H8 H' := ⟨fun b D d fs' n h => kp _ _ (ne_of h mk8.at_ (by intro u; injection u with u1 _ _; rcases n with n | n <;> rw [n] at u1 <;> first | exact rc.nC u1.symm | exact rc.nS u1.symm)) h, fun b xs h => kp _ _ (ne_of h mk8.at_ (by intro u; cases u)) h, fun b o xs h => kp _ _ (ne_of h mk8.at_ (by intro u; cases u)) h⟩
          refine q H' ⟨[], ⟨x, dx, T, i, q1, q2, [("name", .str z), ("expr", e)], ys, bs, ks, rfl, hx, h1, ?_, h2, kl, ?_, SqT.of (t8.tup _ _ ti8), ⟨e, n, rfl, ok, exR_trX t8 ex8, SqT.of (t8.tup _ _ tT8)⟩⟩, rfl, fun j r' y hj => by simp [inR] at hj⟩ ss
          · simpa [lvsR] using no
          · simpa [stsR] using ky
    · rcases h with ⟨_, q⟩ | ⟨z, rfl, ok, _⟩ | ⟨z, n, m, rfl, ok, _⟩
      · exact q.same mk.s
      · rw [nameB_ok ok] at nb
        cases nb
      · rw [nameB_ok ok] at nb
        cases nb
theorem scRaise : FnScope ["self", "name", "expr"] ["self", "name", "expr"] (defScope sRaiseInit) := ⟨rfl, rfl, rfl, by decide +kernel, rfl, by decide +kernel, by decide +kernel⟩
theorem ok_raiseI {C0 C cS cRow fM fN fX f t tU tV : Addr} {mc : Value} {cR : Nat → Addr} {fdM fdN fdX fd : FuncData} (RC : ∀ i, i < 6 → RwC K C cS (cR i)) (nn : NoAttr K (cR 1) "name") (ne : NoAttr K (cR 1) "expr") (M : RowM K mg cRow mc fM fdM t tU tV) (GR : FnOk P w K mg base CX0 2 fM fdM pRow (spRowInit K C cS cR))
    (D1 : Df K mg "_set_name" sSetName fN fdN ["value"]) (G1 : FnOk P w K mg base (L2N.CX P w) 3 fN fdN ["value"] (spSetName K C0)) (D2 : Df K mg "_row_expr" sRowExpr fX fdX ["value"]) (G2 : FnOk P w K mg base (L2N.CX P w) 6 fX fdX ["value"] (spRowExpr K C0 C cS))
    (F : Fun K "__init__" "Raise.__init__" sRaiseInit f fd) : FnOk P w K mg base (L2N.CX P w) 7 f fd ["self", "name", "expr"] (spSetI K C0 C cS cR 1) := by
  have rc := RC 1 (by decide)
  refine okN F scRaise (fun vs H Q E h => ?_) (fun cdv A outer s H vs Q E hr h => ?_)
  · obtain ⟨x, dx, nm, ev, H0, rfl, _⟩ := h
    rfl
  · obtain ⟨x, dx, nm, ev, H0, rfl, mk, sn, h⟩ := h
    refine ⟨_, pss_cons (ps_fld (pv 0) (pe_call G1 (hr.mono (by decide)) rfl D1.g D1.F.kp D1.b .nil (L2N.passes_call (L2N.takes_of rfl rfl rfl rfl) fun _ _ _ _ h => h) (pa_cons (pv 1) pa_nil)) rfl)
      (pss_cons (ps_fld (pv 0) (pe_call G2 hr rfl D2.g D2.F.kp D2.b .nil (L2N.passes_call (L2N.takes_of rfl rfl rfl rfl) fun _ _ _ _ h => h) (pa_cons (pv 2) pa_nil)) rfl)
      (pss_one (ps_expr (pe_cfun (E := E0) (pe_glob (v := .ref cRow) rfl M.g rfl) M.rd M.cv M.kp (GR.raw M.b0 .nil) (hr.mono (by decide)) pass0 (pa_cons (pv 0) (pa_cons pe_str (pa_cons (pe_tup (pa_cons (pe_fld (pv 0) rfl) (pa_cons (pe_fld (pv 0) rfl) pa_nil)))
        (pa_cons (pe_tup (pa_cons (pe_fld (pv 0) rfl) pa_nil)) (pa_cons (pe_tup pa_nil) (pa_cons (pe_tup (pa_cons (pe_fld (pv 0) rfl) pa_nil)) pa_nil)))))))))), ?_⟩
    refine ⟨_, rfl, nm, rfl, seen_same mk.s sn, fun nb H1 s1 => ?_, fun nb => ?_⟩
    · have mk1 := mk.same s1
      refine ⟨_, rfl, x, cR 1, dx, _, rfl, mk1.at_, rc.cl, nn, by decide, ?_⟩
      have mk2 := mk1.put (putF "name" nm [])
      generalize upd H1 x (.ins (cR 1) dx (putF "name" nm [])) = H2 at mk2 ⊢
      rcases h with ⟨no, _⟩ | ⟨z, rfl, ok, bad, q⟩ | ⟨z, n, m, rfl, ok, pr, few, q⟩
      · rw [no] at nb
        cases nb
      · exact ⟨_, rfl, ev, rfl, .inl ⟨bad.same mk2.s, q.same mk2.s⟩⟩
      · refine ⟨_, rfl, ev, rfl, .inr ⟨n, m, pr.same mk2.s, fun e H3 s3 ex => ?_⟩⟩
        have mk3 := mk2.same s3
        refine ⟨_, rfl, x, cR 1, dx, _, rfl, mk3.at_, rc.cl, ne, (by show 1 < 1000; decide), ?_⟩
        have ex4 := exR_trX (TrX.put rc.nC rc.nS mk3.at_ (gs := putF "expr" e (putF "name" (.str z) []))) ex
        have mk4 := mk3.put (putF "expr" e (putF "name" (.str z) []))
        generalize upd H3 x (.ins (cR 1) dx (putF "expr" e (putF "name" (.str z) []))) = H4 at mk4 ex4 ⊢
        refine ⟨rfl, _, rfl, ?_⟩
        refine ⟨_, rfl, x, cR 1, dx, _, _, rfl, mk4.at_, rc.cl, nn, rfl, _, rfl, x, cR 1, dx, _, _, rfl, mk4.at_, rc.cl, ne, rfl, (by show 2 ≤ sizeLine; decide), fun T hT => ?_⟩
        have mk5 := mk4.same (same_new (o := .tup [.str z, e]) hT)
        have tT : upd H4 T (.tup [.str z, e]) T = some (.tup [.str z, e]) := upd_same
        have ex5 := ex4.same (same_new (o := .tup [.str z, e]) hT)
        generalize upd H4 T (.tup [.str z, e]) = H5 at mk5 tT ex5 ⊢
        refine ⟨_, rfl, x, cR 1, dx, _, _, rfl, mk5.at_, rc.cl, ne, rfl, (by show 1 ≤ sizeLine; decide), fun p hp => ?_⟩
        have mk6 := mk5.same (same_new (o := .tup [e]) hp)
        have tT6 := same_new (o := .tup [e]) hp _ _ tT
        have tp : upd H5 p (.tup [e]) p = some (.tup [e]) := upd_same
        have ex6 := ex5.same (same_new (o := .tup [e]) hp)
        generalize upd H5 p (.tup [e]) = H6 at mk6 tT6 tp ex6 ⊢
        refine ⟨(by show 0 ≤ sizeLine; decide), fun i hi => ?_⟩
        have mk7 := mk6.same (same_new (o := .tup []) hi)
        have tT7 := same_new (o := .tup []) hi _ _ tT6
        have tp7 := same_new (o := .tup []) hi _ _ tp
        have ti : upd H6 i (.tup []) i = some (.tup []) := upd_same
        have ex7 := ex6.same (same_new (o := .tup []) hi)
        generalize upd H6 i (.tup []) = H7 at mk7 tT7 tp7 ti ex7 ⊢
        refine ⟨_, rfl, x, cR 1, dx, _, _, rfl, mk7.at_, rc.cl, nn, rfl, (by show 1 ≤ sizeLine; decide), fun o ho => ?_⟩
        have s8 := same_new (o := .tup [.str z]) ho
        have mk8 := mk7.same s8
        have to : upd H7 o (.tup [.str z]) o = some (.tup [.str z]) := upd_same
        have ex8 := ex7.same s8
        have tT8 := s8 _ _ tT7
        have tp8 := s8 _ _ tp7
        have ti8 := s8 _ _ ti
        generalize upd H7 o (.tup [.str z]) = H8 at mk8 tT8 tp8 ti8 to ex8 ⊢
        refine ⟨cR 1, x, dx, _, _, .ref T, p, i, o, [(e, m)], [], [z], H0, rfl, rc, mk8.at_, fun f hf => ?_, by show 2 < 100; decide, SqT.of tp8, SqT.of ti8, SqT.of to, fun e' he => ?_, mk8.z, mk8.s, (fun _ h => nomatch h), ⟨z :: lvs m, fun k hk => by simpa using hk, ?_⟩, ⟨sts m, fun k hk => by simpa using hk, ?_⟩, by show 1 < 64; decide, fun H' q1 q2 ys bs ks hx h1 no h2 kl ky kp ss => ?_⟩
        · simp only [List.mem_cons, List.not_mem_nil, or_false] at hf
          rcases hf with rfl | rfl | rfl | rfl | rfl | rfl <;> rfl
        · rw [List.mem_singleton.mp he]
          exact ex8.fld
        · have := lvs_le m
          simp only [List.length_cons, List.length_nil]
          omega
        · have := sts_le m
          simp only [List.length_cons, List.length_nil]
          omega
        · have t8 : TrX C cS H8 H' := ⟨fun b D d fs' n h => kp _ _ (ne_of h mk8.at_ (by intro u; injection u with u1 _ _; rcases n with n | n <;> rw [n] at u1 <;> first | exact rc.nC u1.symm | exact rc.nS u1.symm)) h, fun b xs h => kp _ _ (ne_of h mk8.at_ (by intro u; cases u)) h, fun b o xs h => kp _ _ (ne_of h mk8.at_ (by intro u; cases u)) h⟩
          refine q H' ⟨[], ⟨x, dx, T, i, q1, q2, [("name", .str z), ("expr", e)], ys, bs, ks, rfl, hx, h1, ?_, h2, kl, ?_, SqT.of (t8.tup _ _ ti8), ⟨e, n, rfl, ok, exR_trX t8 ex8, SqT.of (t8.tup _ _ tT8)⟩⟩, rfl, fun j r' y hj => by simp [inR] at hj⟩ ss
          · simpa [lvsR] using no
          · simpa [stsR] using ky
    · rcases h with ⟨_, q⟩ | ⟨z, rfl, ok, _⟩ | ⟨z, n, m, rfl, ok, _⟩
      · exact q.same mk.s
      · rw [nameB_ok ok] at nb
        cases nb
      · rw [nameB_ok ok] at nb
        cases nb
theorem scLower : FnScope ["self", "name", "expr"] ["self", "name", "expr"] (defScope sLowerInit) := ⟨rfl, rfl, rfl, by decide +kernel, rfl, by decide +kernel, by decide +kernel⟩
theorem ok_lowerI {C0 C cS cRow fM fN fX f t tU tV : Addr} {mc : Value} {cR : Nat → Addr} {fdM fdN fdX fd : FuncData} (RC : ∀ i, i < 6 → RwC K C cS (cR i)) (nn : NoAttr K (cR 2) "name") (ne : NoAttr K (cR 2) "expr") (M : RowM K mg cRow mc fM fdM t tU tV) (GR : FnOk P w K mg base CX0 2 fM fdM pRow (spRowInit K C cS cR))
    (D1 : Df K mg "_set_name" sSetName fN fdN ["value"]) (G1 : FnOk P w K mg base (L2N.CX P w) 3 fN fdN ["value"] (spSetName K C0)) (D2 : Df K mg "_row_expr" sRowExpr fX fdX ["value"]) (G2 : FnOk P w K mg base (L2N.CX P w) 6 fX fdX ["value"] (spRowExpr K C0 C cS))
    (F : Fun K "__init__" "Lower.__init__" sLowerInit f fd) : FnOk P w K mg base (L2N.CX P w) 7 f fd ["self", "name", "expr"] (spSetI K C0 C cS cR 2) := by
  have rc := RC 2 (by decide)
  refine okN F scLower (fun vs H Q E h => ?_) (fun cdv A outer s H vs Q E hr h => ?_)
  · obtain ⟨x, dx, nm, ev, H0, rfl, _⟩ := h
    rfl
  · obtain ⟨x, dx, nm, ev, H0, rfl, mk, sn, h⟩ := h
    refine ⟨_, pss_cons (ps_fld (pv 0) (pe_call G1 (hr.mono (by decide)) rfl D1.g D1.F.kp D1.b .nil (L2N.passes_call (L2N.takes_of rfl rfl rfl rfl) fun _ _ _ _ h => h) (pa_cons (pv 1) pa_nil)) rfl)
      (pss_cons (ps_fld (pv 0) (pe_call G2 hr rfl D2.g D2.F.kp D2.b .nil (L2N.passes_call (L2N.takes_of rfl rfl rfl rfl) fun _ _ _ _ h => h) (pa_cons (pv 2) pa_nil)) rfl)
      (pss_one (ps_expr (pe_cfun (E := E0) (pe_glob (v := .ref cRow) rfl M.g rfl) M.rd M.cv M.kp (GR.raw M.b0 .nil) (hr.mono (by decide)) pass0 (pa_cons (pv 0) (pa_cons pe_str (pa_cons (pe_tup (pa_cons (pe_fld (pv 0) rfl) (pa_cons (pe_fld (pv 0) rfl) pa_nil)))
        (pa_cons (pe_tup (pa_cons (pe_fld (pv 0) rfl) pa_nil)) (pa_cons (pe_tup pa_nil) (pa_cons (pe_tup (pa_cons (pe_fld (pv 0) rfl) pa_nil)) pa_nil)))))))))), ?_⟩
    refine ⟨_, rfl, nm, rfl, seen_same mk.s sn, fun nb H1 s1 => ?_, fun nb => ?_⟩
    · have mk1 := mk.same s1
      refine ⟨_, rfl, x, cR 2, dx, _, rfl, mk1.at_, rc.cl, nn, by decide, ?_⟩
      have mk2 := mk1.put (putF "name" nm [])
      generalize upd H1 x (.ins (cR 2) dx (putF "name" nm [])) = H2 at mk2 ⊢
      rcases h with ⟨no, _⟩ | ⟨z, rfl, ok, bad, q⟩ | ⟨z, n, m, rfl, ok, pr, few, q⟩
      · rw [no] at nb
        cases nb
      · exact ⟨_, rfl, ev, rfl, .inl ⟨bad.same mk2.s, q.same mk2.s⟩⟩
      · refine ⟨_, rfl, ev, rfl, .inr ⟨n, m, pr.same mk2.s, fun e H3 s3 ex => ?_⟩⟩
        have mk3 := mk2.same s3
        refine ⟨_, rfl, x, cR 2, dx, _, rfl, mk3.at_, rc.cl, ne, (by show 1 < 1000; decide), ?_⟩
        have ex4 := exR_trX (TrX.put rc.nC rc.nS mk3.at_ (gs := putF "expr" e (putF "name" (.str z) []))) ex
        have mk4 := mk3.put (putF "expr" e (putF "name" (.str z) []))
        generalize upd H3 x (.ins (cR 2) dx (putF "expr" e (putF "name" (.str z) []))) = H4 at mk4 ex4 ⊢
        refine ⟨rfl, _, rfl, ?_⟩
        refine ⟨_, rfl, x, cR 2, dx, _, _, rfl, mk4.at_, rc.cl, nn, rfl, _, rfl, x, cR 2, dx, _, _, rfl, mk4.at_, rc.cl, ne, rfl, (by show 2 ≤ sizeLine; decide), fun T hT => ?_⟩
        have mk5 := mk4.same (same_new (o := .tup [.str z, e]) hT)
        have tT : upd H4 T (.tup [.str z, e]) T = some (.tup [.str z, e]) := upd_same
        have ex5 := ex4.same (same_new (o := .tup [.str z, e]) hT)
        generalize upd H4 T (.tup [.str z, e]) = H5 at mk5 tT ex5 ⊢
        refine ⟨_, rfl, x, cR 2, dx, _, _, rfl, mk5.at_, rc.cl, ne, rfl, (by show 1 ≤ sizeLine; decide), fun p hp => ?_⟩
        have mk6 := mk5.same (same_new (o := .tup [e]) hp)
        have tT6 := same_new (o := .tup [e]) hp _ _ tT
        have tp : upd H5 p (.tup [e]) p = some (.tup [e]) := upd_same
        have ex6 := ex5.same (same_new (o := .tup [e]) hp)
        generalize upd H5 p (.tup [e]) = H6 at mk6 tT6 tp ex6 ⊢
        refine ⟨(by show 0 ≤ sizeLine; decide), fun i hi => ?_⟩
        have mk7 := mk6.same (same_new (o := .tup []) hi)
        have tT7 := same_new (o := .tup []) hi _ _ tT6
        have tp7 := same_new (o := .tup []) hi _ _ tp
        have ti : upd H6 i (.tup []) i = some (.tup []) := upd_same
        have ex7 := ex6.same (same_new (o := .tup []) hi)
        generalize upd H6 i (.tup []) = H7 at mk7 tT7 tp7 ti ex7 ⊢
        refine ⟨_, rfl, x, cR 2, dx, _, _, rfl, mk7.at_, rc.cl, nn, rfl, (by show 1 ≤ sizeLine; decide), fun o ho => ?_⟩
        have s8 := same_new (o := .tup [.str z]) ho
        have mk8 := mk7.same s8
        have to : upd H7 o (.tup [.str z]) o = some (.tup [.str z]) := upd_same
        have ex8 := ex7.same s8
        have tT8 := s8 _ _ tT7
        have tp8 := s8 _ _ tp7
        have ti8 := s8 _ _ ti
        generalize upd H7 o (.tup [.str z]) = H8 at mk8 tT8 tp8 ti8 to ex8 ⊢
        refine ⟨cR 2, x, dx, _, _, .ref T, p, i, o, [(e, m)], [], [z], H0, rfl, rc, mk8.at_, fun f hf => ?_, by show 2 < 100; decide, SqT.of tp8, SqT.of ti8, SqT.of to, fun e' he => ?_, mk8.z, mk8.s, (fun _ h => nomatch h), ⟨z :: lvs m, fun k hk => by simpa using hk, ?_⟩, ⟨sts m, fun k hk => by simpa using hk, ?_⟩, by show 1 < 64; decide, fun H' q1 q2 ys bs ks hx h1 no h2 kl ky kp ss => ?_⟩
        · simp only [List.mem_cons, List.not_mem_nil, or_false] at hf
          rcases hf with rfl | rfl | rfl | rfl | rfl | rfl <;> rfl
        · rw [List.mem_singleton.mp he]
          exact ex8.fld
        · have := lvs_le m
          simp only [List.length_cons, List.length_nil]
          omega
        · have := sts_le m
          simp only [List.length_cons, List.length_nil]
          omega
        · have t8 : TrX C cS H8 H' := ⟨fun b D d fs' n h => kp _ _ (ne_of h mk8.at_ (by intro u; injection u with u1 _ _; rcases n with n | n <;> rw [n] at u1 <;> first | exact rc.nC u1.symm | exact rc.nS u1.symm)) h, fun b xs h => kp _ _ (ne_of h mk8.at_ (by intro u; cases u)) h, fun b o xs h => kp _ _ (ne_of h mk8.at_ (by intro u; cases u)) h⟩
          refine q H' ⟨[], ⟨x, dx, T, i, q1, q2, [("name", .str z), ("expr", e)], ys, bs, ks, rfl, hx, h1, ?_, h2, kl, ?_, SqT.of (t8.tup _ _ ti8), ⟨e, n, rfl, ok, exR_trX t8 ex8, SqT.of (t8.tup _ _ tT8)⟩⟩, rfl, fun j r' y hj => by simp [inR] at hj⟩ ss
          · simpa [lvsR] using no
          · simpa [stsR] using ky
    · rcases h with ⟨_, q⟩ | ⟨z, rfl, ok, _⟩ | ⟨z, n, m, rfl, ok, _⟩
      · exact q.same mk.s
      · rw [nameB_ok ok] at nb
        cases nb
      · rw [nameB_ok ok] at nb
        cases nb
end
end LK

namespace LK
open PySem PySem.Spec PyProof.Rows L2 LR
/-! ### rows with rows within them -/
/-- what is known of the six classes -/
structure RwK (K : PySem.W.Frag) (mg : Str → Option Value) (C cS cRow : Addr) (cR : Nat → Addr) : Prop where
  c : ∀ i, i < 6 → RwC K C cS (cR i)
  ca : ∀ i, i < 6 → PySem.W.findIn K (.ref (cR i)) "__class__" = some (some (.builtin "object.__class__"))
  so : PySem.W.specialIn K (.builtin "object.__class__") "__get__" = some (some (.builtin "getset_descriptor.__get__"))
  tk : PySem.W.takesIn K (.builtin "object.__class__") = some true
  ob : ∀ i, i < 6 → PySem.W.mroIn K (cR i) (.type "object") = some true
  sub : ∀ i, i < 6 → PySem.W.kitOne K (.ref (cR i)) (.ref cRow) = some true
  eq : ∀ i j, i < 6 → j < 6 → PySem.W.kitOne K (.ref (cR i)) (.ref (cR j)) = some (decide (i = j))
  nE : ∀ i, i < 6 → PySem.W.kitOne K (.ref (cR i)) (.ref C) = some false
  nst : ∀ i, i < 6 → PySem.W.kitOne K (.ref (cR i)) (.type "str") = some false
  nli : ∀ i, i < 6 → PySem.W.kitOne K (.ref (cR i)) (.type "list") = some false
  ntu : ∀ i, i < 6 → PySem.W.kitOne K (.ref (cR i)) (.type "tuple") = some false
  g : mg "Row" = some (.ref cRow)
  gR : mg "Raise" = some (.ref (cR 1))
  xp : ∀ i, i < 3 → NoAttr K (cR i) "expr"
  nm : ∀ i, i < 3 → NoAttr K (cR i) "name"
  wd : NoAttr K (cR 3) "word"
  lf : NoAttr K (cR 4) "left"
  rt : NoAttr K (cR 4) "right"
  rw4 : NoAttr K (cR 4) "rows"
  os : NoAttr K (cR 4) "others"
  rw5 : NoAttr K (cR 5) "rows"
section
variable {K : PySem.W.Frag} {mg : Str → Option Value} {C cS cRow : Addr} {cR : Nat → Addr}
theorem RwK.ty (k : RwK K mg C cS cRow cR) {i : Nat} (lt : i < 6) {H : Hp} {a dx : Addr} {fs : List (Str × V)} (h : H a = some (.ins (cR i) dx fs)) : TyX K H (.ref a) (.ref (cR i)) := .base (.ins h (k.c i lt).cl (k.ca i lt) k.so k.tk (k.ob i lt))
theorem RwK.isRow (k : RwK K mg C cS cRow cR) {n : Nat} {H : Hp} {r : Rw} {v : V} (h : RwO K C cS cR n H r v) : RowIs K cRow H v true := by
  obtain ⟨xs, f⟩ := h.fld
  obtain ⟨a, dx, fs, rfl, ha⟩ := f.ins
  exact ⟨_, k.ty (kiR_lt r) ha, k.sub _ (kiR_lt r)⟩
/-- values that are no sequences of rows, and such that are -/
def RowsBad (K : PySem.W.Frag) (cRow : Addr) (H : Hp) (v : V) : Prop := SeqBad K H v ∨ ∃ (a : Addr) (xs : List V) (bs : List Bool), v = .ref a ∧ SeqV K H a xs ∧ xs.length ≤ 1000 ∧ bs.length = xs.length ∧ (∀ (i : Nat) x b, xs[i]? = some x → bs[i]? = some b → RowIs K cRow H x b) ∧ bs.all id = false
def RowsOk (K : PySem.W.Frag) (C cS : Addr) (cR : Nat → Addr) (n : Nat) (H : Hp) (v : V) (xs : List V) (rs : List Rw) : Prop := ∃ a : Addr, v = .ref a ∧ SeqV K H a xs ∧ xs.length = rs.length ∧ ∀ (i : Nat) r x, rs[i]? = some r → xs[i]? = some x → RwO K C cS cR n H r x
theorem SeqBad.same {H H' : Hp} {v : V} (s : Same H H') (h : SeqBad K H v) : SeqBad K H' v := by
  obtain ⟨t, a, b⟩ := h
  exact ⟨t, TyX.same s a, b⟩
theorem RowsBad.same {H H' : Hp} {v : V} (s : Same H H') (h : RowsBad K cRow H v) : RowsBad K cRow H' v := by
  rcases h with h | ⟨a, xs, bs, e, sv, l, lb, g, al⟩
  · exact .inl (h.same s)
  · exact .inr ⟨a, xs, bs, e, sv.same s, l, lb, fun i x b h1 h2 => (g i x b h1 h2).same s, al⟩
theorem RowsOk.same {n : Nat} {H H' : Hp} {v : V} {xs : List V} {rs : List Rw} (s : Same H H') (h : RowsOk K C cS cR n H v xs rs) : RowsOk K C cS cR n H' v xs rs := by
  obtain ⟨a, e, sv, l, g⟩ := h
  exact ⟨a, e, sv.same s, l, fun i r x h1 h2 => (g i r x h1 h2).same s⟩
/-- what checked_rows is asked -/
def ChkB (K : PySem.W.Frag) (C0 CR : Addr) (v : V) (H : Hp) (Q : Addr → Hp → Prop) (E : XK) : Prop := (SeqBad K H v ∧ Raises C0 E H "row") ∨ ∃ (a : Addr) (xs : List V) (bs : List Bool), v = .ref a ∧ SeqV K H a xs ∧ xs.length ≤ 1000 ∧ bs.length = xs.length ∧ (∀ (i : Nat) x b, xs[i]? = some x → bs[i]? = some b → RowIs K CR H x b) ∧
  ((bs.all id = false ∧ Raises C0 E H "row") ∨ (bs.all id = true ∧ ∀ p H', Same H H' → SqT K H' p xs → Q p H'))
theorem checked_bad {C0 : Addr} {H : Hp} {v : V} {Q : Addr → Hp → Prop} {E : XK} (h : RowsBad K cRow H v) (q : Raises C0 E H "row") : ChkB K C0 cRow v H Q E := by
  rcases h with h | ⟨a, xs, bs, e, sv, l, lb, g, al⟩
  · exact .inl ⟨h, q⟩
  · exact .inr ⟨a, xs, bs, e, sv, l, lb, g, .inl ⟨al, q⟩⟩
theorem checked_ok (k : RwK K mg C cS cRow cR) {C0 : Addr} {n : Nat} {H : Hp} {v : V} {xs : List V} {rs : List Rw} {Q : Addr → Hp → Prop} {E : XK} (h : RowsOk K C cS cR n H v xs rs) (few : rs.length ≤ 1000) (q : ∀ p H', Same H H' → SqT K H' p xs → Q p H') : ChkB K C0 cRow v H Q E := by
  obtain ⟨a, e, sv, l, g⟩ := h
  refine .inr ⟨a, xs, List.replicate xs.length true, e, sv, by omega, List.length_replicate, fun i x b h1 h2 => ?_, .inr ⟨?_, q⟩⟩
  · have li := (List.getElem?_eq_some_iff.mp h1).1
    rw [List.getElem?_replicate_of_lt li] at h2
    cases h2
    exact k.isRow (g i _ x (List.getElem?_eq_getElem (by omega)) h1)
  · rw [List.all_replicate]
    simp
end
/-- few names, few steps, few parts -/
def FitsR (r : Rw) : Prop := ∃ (N : List Str) (M : List (Str × Str)), (∀ k ∈ lvsR r, k ∈ N) ∧ (∀ k ∈ stsR r, k ∈ M) ∧ ((esR r).length + (inR r).length) * N.length < 63 ∧ ((esR r).length + (inR r).length) * M.length < 1000 ∧ (esR r).length + (inR r).length < 64
/-- while a row is made: what has been made for it -/
structure Stg (K : PySem.W.Frag) (C cS : Addr) (H0 : Hp) (x CR dx : Addr) (exs : List (Nat × Md × V)) (sqs : List (Addr × List V)) (H : Hp) (fs : List (Str × V)) : Prop where
  m0 : Mkg H0 H x CR dx fs
  ex : ∀ e ∈ exs, ExR K C cS e.1 H e.2.1 e.2.2
  sq : ∀ t ∈ sqs, SqT K H t.1 t.2
section
variable {K : PySem.W.Frag} {C cS : Addr} {H0 H H' : Hp} {x CR dx : Addr} {exs : List (Nat × Md × V)} {sqs : List (Addr × List V)} {fs : List (Str × V)}
theorem Stg.same (h : Stg K C cS H0 x CR dx exs sqs H fs) (s : Same H H') : Stg K C cS H0 x CR dx exs sqs H' fs := ⟨h.m0.same s, fun e he => (h.ex e he).same s, fun t ht => SqT.same s (h.sq t ht)⟩
theorem Stg.put (h : Stg K C cS H0 x CR dx exs sqs H fs) (rc : RwC K C cS CR) (gs : List (Str × V)) : Stg K C cS H0 x CR dx exs sqs (upd H x (.ins CR dx gs)) gs :=
  have t := TrX.put rc.nC rc.nS h.m0.at_ (gs := gs)
  ⟨h.m0.put gs, fun e he => exR_trX t (h.ex e he), fun u hu => sqT_trX t (h.sq u hu)⟩
theorem Stg.addE (h : Stg K C cS H0 x CR dx exs sqs H fs) {n : Nat} {m : Md} {v : V} (e : ExR K C cS n H m v) : Stg K C cS H0 x CR dx ((n, m, v) :: exs) sqs H fs := ⟨h.m0, fun u hu => (List.mem_cons.mp hu).elim (fun z => by rw [z]; exact e) (h.ex u), h.sq⟩
theorem Stg.addS (h : Stg K C cS H0 x CR dx exs sqs H fs) {p : Addr} {xs : List V} (e : SqT K H p xs) : Stg K C cS H0 x CR dx exs ((p, xs) :: sqs) H fs := ⟨h.m0, h.ex, fun u hu => (List.mem_cons.mp hu).elim (fun z => by rw [z]; exact e) (h.sq u)⟩
theorem Stg.end (h : Stg K C cS H0 x CR dx exs sqs H fs) (rc : RwC K C cS CR) (kp : Keep x H H') : TrX C cS H H' :=
  ⟨fun b D d fs' n e => kp _ _ (ne_of e h.m0.at_ (by intro u; injection u with u1 _ _; rcases n with n | n <;> rw [n] at u1 <;> first | exact rc.nC u1.symm | exact rc.nS u1.symm)) e, fun b xs e => kp _ _ (ne_of e h.m0.at_ (by intro u; cases u)) e, fun b o xs e => kp _ _ (ne_of e h.m0.at_ (by intro u; cases u)) e⟩
end
def spIfI (K : PySem.W.Frag) (C0 C cS cRow : Addr) (cR : Nat → Addr) : Sp := fun vs H Q E => ∃ (x dx : Addr) (l r a b : V) (H0 : Hp), vs = [.ref x, l, r, a, b] ∧ Mkg H0 H x (cR 4) dx [] ∧
  ((EvBad K C H0 l ∧ Raises C0 E H0 "expr") ∨ ∃ n m, PartR K C cS n H0 l m ∧ ((EvBad K C H0 r ∧ Raises C0 E H0 "expr") ∨ ∃ n' m', PartR K C cS n' H0 r m' ∧ ((RowsBad K cRow H0 a ∧ Raises C0 E H0 "row") ∨ ∃ nr xs rs, RowsOk K C cS cR nr H0 a xs rs ∧ rs.length < 64 ∧
    ((RowsBad K cRow H0 b ∧ Raises C0 E H0 "row") ∨ ∃ ys os, RowsOk K C cS cR nr H0 b ys os ∧ os.length < 64 ∧ FitsR (.iff m m' rs os) ∧ ∀ H', RwO K C cS cR (nr + 1) H' (.iff m m' rs os) (.ref x) → Same H0 H' → Q .non H'))))
def spStillI (K : PySem.W.Frag) (C0 C cS cRow : Addr) (cR : Nat → Addr) (may : Rw → Bool) : Sp := fun vs H Q E => ∃ (x dx : Addr) (a : V) (H0 : Hp), vs = [.ref x, a] ∧ Mkg H0 H x (cR 5) dx [] ∧
  ((RowsBad K cRow H0 a ∧ Raises C0 E H0 "row") ∨ ∃ nr xs rs, RowsOk K C cS cR nr H0 a xs rs ∧ rs.length < 64 ∧ (((decide (1 ≤ rs.length) && decide (rs.length ≤ 3) && rs.all may) = false ∧ Raises C0 E H0 "loop") ∨
    ((decide (1 ≤ rs.length) && decide (rs.length ≤ 3) && rs.all may) = true ∧ FitsR (.sti rs) ∧ ∀ H', RwO K C cS cR (nr + 1) H' (.sti rs) (.ref x) → Same H0 H' → Q .non H')))
def isNm : Md → Bool
  | .nm _ => true
  | _ => false
def risB (y : Str) : Bool := inV (.str y) [.str "+", .str "++", .str "+++"]
def mayB : Rw → Bool
  | .set 1 _ (.ap (.st _ _ y) ms) => risB y && ms.all isNm
  | _ => false
def spMay (K : PySem.W.Frag) (C cS : Addr) (cR : Nat → Addr) : Sp := fun vs H Q _ => ∃ (v : V) (n : Nat) (r : Rw), vs = [v] ∧ RwO K C cS cR n H r v ∧ ∀ H', Same H H' → Q (.bl (mayB r)) H'
end LK

namespace LK
open PySem PySem.Spec PyProof.Rows L2 LR
section
variable {P : Program} {w : World} {K : PySem.W.Frag} {mg : Str → Option Value} {base : Heap}
theorem scRefuse : FnScope ["self", "word"] ["self", "word"] (defScope sRefuseInit) := ⟨rfl, rfl, rfl, by decide +kernel, rfl, by decide +kernel, by decide +kernel⟩
theorem ok_refuseI {C0 C cS cRow fM fI fE f t tU tV kw : Addr} {mc : Value} {cR : Nat → Addr} {fdM fdI fdE fd : FuncData} (S : Std mg) (Wd : Words K mg kw) (k : RwK K mg C cS cRow cR) (e3 : Er K mg 3 C0 fE fdE) (I : Df K mg "is_name" sIsName fI fdI ["value"]) (M : RowM K mg cRow mc fM fdM t tU tV) (GR : FnOk P w K mg base CX0 2 fM fdM pRow (spRowInit K C cS cR))
    (F : Fun K "__init__" "Refuse.__init__" sRefuseInit f fd) : FnOk P w K mg base (L2N.CX P w) 4 f fd ["self", "word"] (spRefI K C0 C cS cR) := by
  have rc := k.c 3 (by decide)
  have GI : FnOk P w K mg base CX0 1 fI fdI ["value"] (spIsB K nameB) := ok_isNameV S Wd I.F
  have GE : FnOk P w K mg base CX0 1 fE fdE ["self", "word"] (spE0 C0 "word") := ok_err3X e3
  refine okN F scRefuse (fun vs H Q E h => ?_) (fun cdv A outer s H vs Q E hr h => ?_)
  · obtain ⟨x, dx, nm, H0, rfl, _⟩ := h
    rfl
  · obtain ⟨x, dx, nm, H0, rfl, mk, sn, h⟩ := h
    refine ⟨_, pss_cons (ps_if (pt_not (pt_val (pe_call GI (hr.mono (by decide)) rfl I.g I.F.kp I.b .nil pass0 (pa_cons (pv 1) pa_nil)))) (pss_one (L2N.ps_raise rfl (L2N.takes_of rfl rfl rfl rfl) (pmk_errN e3.T e3.ini e3.ti GE (hr.mono (by decide)) e3.b rfl e3.g (pa_cons pe_str pa_nil)))) pss_nil)
      (pss_cons (ps_fld (pv 0) (pv 1) rfl)
      (pss_one (ps_expr (pe_cfun (E := E0) (pe_glob (v := .ref cRow) rfl M.g rfl) M.rd M.cv M.kp (GR.raw M.b3 (.cons (show RelV (V.ref t) (Value.ref t) from rfl) (.cons (show RelV (V.ref tU) (Value.ref tU) from rfl) (.cons (show RelV (V.ref tV) (Value.ref tV) from rfl) .nil)))) (hr.mono (by decide)) pass0 (pa_cons (pv 0) (pa_cons pe_str (pa_cons (pe_tup (pa_cons (pv 1) pa_nil)) pa_nil))))))), ?_⟩
    refine ⟨_, rfl, nm, rfl, seen_same mk.s sn, fun H1 s1 => ⟨_, rfl, ?_⟩⟩
    rcases h with ⟨no, q⟩ | ⟨z, rfl, ok, q⟩
    · rw [no]
      exact iteT (errX fun d H' s' hd nd => (q.same (mk.s.trans s1)) d H' s' hd nd)
    · rw [nameB_ok ok]
      refine iteF ?_
      have mk1 := mk.same s1
      refine ⟨_, rfl, _, rfl, x, cR 3, dx, _, rfl, mk1.at_, rc.cl, k.wd, by decide, ?_⟩
      have mk2 := mk1.put (putF "word" (.str z) [])
      generalize upd H1 x (.ins (cR 3) dx (putF "word" (.str z) [])) = H2 at mk2 ⊢
      refine ⟨rfl, _, rfl, _, rfl, (by show 1 ≤ sizeLine; decide), fun T hT => ?_⟩
      have s3 := same_new (o := .tup [.str z]) hT
      have mk3 := mk2.same s3
      have tT : upd H2 T (.tup [.str z]) T = some (.tup [.str z]) := upd_same
      generalize upd H2 T (.tup [.str z]) = H3 at mk3 tT s3 ⊢
      refine ⟨cR 3, x, dx, _, _, .ref T, t, tU, tV, [], [], [], H0, rfl, rc, mk3.at_, fun f hf => ?_, by show 1 < 100; decide, M.emp _, M.empU _, M.empV _, (fun _ h => nomatch h), mk3.z, mk3.s, (fun _ h => nomatch h), ⟨[], (fun k hk => by simp at hk), by decide⟩, ⟨[], (fun k hk => by simp at hk), by decide⟩, by decide, fun H' q1 q2 ys bs ks hx h1 no h2 kl ky kp ss => ?_⟩
      · simp only [List.mem_cons, List.not_mem_nil, or_false] at hf
        rcases hf with rfl | rfl | rfl | rfl | rfl | rfl <;> rfl
      · have tT' : H' T = some (.tup [.str z]) := kp _ _ (ne_of tT mk3.at_ (by intro u; cases u)) tT
        refine q H' ⟨[], ⟨x, dx, T, tU, q1, q2, [("word", .str z)], ys, bs, ks, rfl, hx, h1, ?_, h2, kl, ?_, M.empU _, ⟨rfl, ok, SqT.of tT'⟩⟩, rfl, fun j r' y hj => by simp [inR] at hj⟩ ss
        · simpa [lvsR] using no
        · simpa [stsR] using ky
def nIf : List Str := ["self", "left", "right", "rows", "others", "sides", "told"]
theorem scIf : FnScope nIf ["self", "left", "right", "rows", "others"] (defScope sIfInit) := ⟨rfl, rfl, rfl, by decide +kernel, rfl, by decide +kernel, by decide +kernel⟩
theorem zip_fst {α β : Type} : ∀ {xs : List α} {ys : List β}, xs.length = ys.length → (xs.zip ys).map (·.1) = xs
  | [], [], _ => rfl
  | x :: xs, y :: ys, h => by
    rw [List.zip_cons_cons, List.map_cons, zip_fst (by simpa using h)]
theorem zip_snd {α β : Type} : ∀ {xs : List α} {ys : List β}, xs.length = ys.length → (xs.zip ys).map (·.2) = ys
  | [], [], _ => rfl
  | x :: xs, y :: ys, h => by
    rw [List.zip_cons_cons, List.map_cons, zip_snd (by simpa using h)]
theorem map_snd {α β γ : Type} (f : β → γ) (l : List (α × β)) : (l.map fun e => f e.2) = (l.map (·.2)).map f := by
  rw [List.map_map]
  rfl
theorem zip_mem {K : PySem.W.Frag} {C cS : Addr} {cR : Nat → Addr} {n : Nat} {H : Hp} {xs : List V} {rs : List Rw} (l : xs.length = rs.length) (g : ∀ (i : Nat) r x, rs[i]? = some r → xs[i]? = some x → RwO K C cS cR n H r x) : ∀ e ∈ xs.zip rs, RwO K C cS cR n H e.2 e.1 := by
  intro e he
  obtain ⟨i, hi⟩ := List.mem_iff_getElem?.mp he
  rw [List.getElem?_zip_eq_some] at hi
  exact g i _ _ hi.2 hi.1
theorem ok_ifI {C0 C cS cRow fM fX fK f t tU tV u : Addr} {mc : Value} {cR : Nat → Addr} {fdM fdX fdK fd : FuncData} (k : RwK K mg C cS cRow cR) (M : RowM K mg cRow mc fM fdM t tU tV) (GR : FnOk P w K mg base CX0 2 fM fdM pRow (spRowInit K C cS cR))
    (D2 : Df K mg "_row_expr" sRowExpr fX fdX ["value"]) (G2 : FnOk P w K mg base (L2N.CX P w) 6 fX fdX ["value"] (spRowExpr K C0 C cS)) (D3 : Df K mg "checked_rows" sCheckedRows fK fdK ["value"]) (G3 : FnOk P w K mg base (L2N.CX P w) 3 fK fdK ["value"] (spChecked K C0 cRow))
    (F : FunD K "__init__" "If.__init__" (defArgs sIfInit) (defBody sIfInit) (defScope sIfInit) [V.ref u] [] f fd) : FnOk P w K mg base (L2N.CX P w) 7 f fd ["self", "left", "right", "rows", "others"] (spIfI K C0 C cS cRow cR) := by
  have rc := k.c 4 (by decide)
  refine F.ok scIf (fun vs H Q E h => ?_) (fun cdv A outer s H vs Q E hr h => ?_)
  · obtain ⟨x, dx, l, r, a, b, H0, rfl, _⟩ := h
    rfl
  · obtain ⟨x, dx, l, r, a, b, H0, rfl, mk, h⟩ := h
    refine ⟨_, pss_cons (ps_fld (pv 0) (pe_call G2 hr rfl D2.g D2.F.kp D2.b .nil (L2N.passes_call (L2N.takes_of rfl rfl rfl rfl) fun _ _ _ _ h => h) (pa_cons (pv 1) pa_nil)) rfl)
      (pss_cons (ps_fld (pv 0) (pe_call G2 hr rfl D2.g D2.F.kp D2.b .nil (L2N.passes_call (L2N.takes_of rfl rfl rfl rfl) fun _ _ _ _ h => h) (pa_cons (pv 2) pa_nil)) rfl)
      (pss_cons (ps_fld (pv 0) (pe_call G3 (hr.mono (by decide)) rfl D3.g D3.F.kp D3.b .nil (L2N.passes_call (L2N.takes_of rfl rfl rfl rfl) fun _ _ _ _ h => h) (pa_cons (pv 3) pa_nil)) rfl)
      (pss_cons (ps_fld (pv 0) (pe_call G3 (hr.mono (by decide)) rfl D3.g D3.F.kp D3.b .nil (L2N.passes_call (L2N.takes_of rfl rfl rfl rfl) fun _ _ _ _ h => h) (pa_cons (pv 4) pa_nil)) rfl)
      (pss_cons (ps_set (i := 5) scIf.nd rfl (Or.inl rfl) (pe_tup (pa_cons (pe_fld (pv 0) rfl) (pa_cons (pe_fld (pv 0) rfl) pa_nil))))
      (pss_cons (ps_set (i := 6) scIf.nd rfl (Or.inl rfl) (pe_tup (pa_cons (pe_fld (pv 0) rfl) (pa_cons (pe_fld (pv 0) rfl) (pa_cons (pe_fld (pv 0) rfl) (pa_cons (pe_fld (pv 0) rfl) pa_nil))))))
      (pss_one (ps_expr (pe_cfun (E := E0) (pe_glob (v := .ref cRow) rfl M.g rfl) M.rd M.cv M.kp (GR.raw M.b1 (.cons (show RelV (V.ref tV) (Value.ref tV) from rfl) .nil)) (hr.mono (by decide)) pass0 (pa_cons (pv 0) (pa_cons pe_str (pa_cons (pv 6) (pa_cons (pv 5)
        (pa_cons (pe_op op_catA (pe_fld (pv 0) rfl) (pe_fld (pv 0) rfl)) pa_nil))))))))))))), ?_⟩
    have st0 : Stg K C cS H0 x (cR 4) dx [] [] H [] := ⟨mk, (fun _ h => nomatch h), (fun _ h => nomatch h)⟩
    rcases h with ⟨bad, q⟩ | ⟨n, m, pl, h⟩
    · exact ⟨_, rfl, l, rfl, .inl ⟨bad.same mk.s, q.same mk.s⟩⟩
    refine ⟨_, rfl, l, rfl, .inr ⟨n, m, pl.same mk.s, fun el H1 s1 ex1 => ?_⟩⟩
    have st1 := (st0.same s1).addE ex1
    refine ⟨_, rfl, x, cR 4, dx, _, rfl, st1.m0.at_, rc.cl, k.lf, by decide, ?_⟩
    have st2 := st1.put rc [("left", el)]
    show tSeq _ _ _ _ (upd H1 x (.ins (cR 4) dx [("left", el)]))
    generalize upd H1 x (.ins (cR 4) dx [("left", el)]) = H2 at st2 ⊢
    rcases h with ⟨bad, q⟩ | ⟨n', m', pr, h⟩
    · exact ⟨_, rfl, r, rfl, .inl ⟨bad.same st2.m0.s, q.same st2.m0.s⟩⟩
    refine ⟨_, rfl, r, rfl, .inr ⟨n', m', pr.same st2.m0.s, fun er H3 s3 ex3 => ?_⟩⟩
    have st3 := (st2.same s3).addE ex3
    refine ⟨_, rfl, x, cR 4, dx, _, rfl, st3.m0.at_, rc.cl, k.rt, (by show 1 < 1000; decide), ?_⟩
    have st4 := st3.put rc [("left", el), ("right", er)]
    show tSeq _ _ _ _ (upd H3 x (.ins (cR 4) dx [("left", el), ("right", er)]))
    generalize upd H3 x (.ins (cR 4) dx [("left", el), ("right", er)]) = H4 at st4 ⊢
    rcases h with ⟨bad, q⟩ | ⟨nr, xs, rs, okA, fewA, h⟩
    · exact ⟨_, rfl, a, rfl, checked_bad (bad.same st4.m0.s) (q.same st4.m0.s)⟩
    refine ⟨_, rfl, a, rfl, checked_ok k (okA.same st4.m0.s) (by omega) fun Ra H5 s5 t5 => ?_⟩
    have st5 := (st4.same s5).addS t5
    refine ⟨_, rfl, x, cR 4, dx, _, rfl, st5.m0.at_, rc.cl, k.rw4, (by show 2 < 1000; decide), ?_⟩
    have st6 := st5.put rc [("left", el), ("right", er), ("rows", .ref Ra)]
    show tSeq _ _ _ _ (upd H5 x (.ins (cR 4) dx [("left", el), ("right", er), ("rows", .ref Ra)]))
    generalize upd H5 x (.ins (cR 4) dx [("left", el), ("right", er), ("rows", .ref Ra)]) = H6 at st6 ⊢
    rcases h with ⟨bad, q⟩ | ⟨ys, os, okB, fewB, fits, q⟩
    · exact ⟨_, rfl, b, rfl, checked_bad (bad.same st6.m0.s) (q.same st6.m0.s)⟩
    refine ⟨_, rfl, b, rfl, checked_ok k (okB.same st6.m0.s) (by omega) fun Rb H7 s7 t7 => ?_⟩
    have st7 := (st6.same s7).addS t7
    refine ⟨_, rfl, x, cR 4, dx, _, rfl, st7.m0.at_, rc.cl, k.os, (by show 3 < 1000; decide), ?_⟩
    have st8 := st7.put rc [("left", el), ("right", er), ("rows", .ref Ra), ("others", .ref Rb)]
    show tSeq _ _ _ _ (upd H7 x (.ins (cR 4) dx [("left", el), ("right", er), ("rows", .ref Ra), ("others", .ref Rb)]))
    generalize upd H7 x (.ins (cR 4) dx [("left", el), ("right", er), ("rows", .ref Ra), ("others", .ref Rb)]) = H8 at st8 ⊢
    refine ⟨_, rfl, x, cR 4, dx, _, _, rfl, st8.m0.at_, rc.cl, k.lf, rfl, _, rfl, x, cR 4, dx, _, _, rfl, st8.m0.at_, rc.cl, k.rt, rfl, (by show 2 ≤ sizeLine; decide), fun p hp => ?_⟩
    have st9 := (st8.same (same_new (o := .tup [el, er]) hp)).addS (SqT.of (show (upd H8 p (.tup [el, er])) p = some (.tup [el, er]) from upd_same))
    generalize upd H8 p (.tup [el, er]) = H9 at st9 ⊢
    refine ⟨_, rfl, x, cR 4, dx, _, _, rfl, st9.m0.at_, rc.cl, k.lf, rfl, _, rfl, x, cR 4, dx, _, _, rfl, st9.m0.at_, rc.cl, k.rt, rfl, _, rfl, x, cR 4, dx, _, _, rfl, st9.m0.at_, rc.cl, k.rw4, rfl, _, rfl, x, cR 4, dx, _, _, rfl, st9.m0.at_, rc.cl, k.os, rfl, (by show 4 ≤ sizeLine; decide), fun T hT => ?_⟩
    have st10 := (st9.same (same_new (o := .tup [el, er, .ref Ra, .ref Rb]) hT)).addS (SqT.of (show (upd H9 T (.tup [el, er, .ref Ra, .ref Rb])) T = some (.tup [el, er, .ref Ra, .ref Rb]) from upd_same))
    generalize upd H9 T (.tup [el, er, .ref Ra, .ref Rb]) = H10 at st10 ⊢
    obtain ⟨aA, ea, svA, lA, gA⟩ := okA
    obtain ⟨aB, eb, svB, lB, gB⟩ := okB
    refine ⟨rfl, _, rfl, _, rfl, _, rfl, _, rfl, x, cR 4, dx, _, _, rfl, st10.m0.at_, rc.cl, k.rw4, rfl, _, rfl, x, cR 4, dx, _, _, rfl, st10.m0.at_, rc.cl, k.os, rfl, catA_read (st10.sq (Ra, xs) (by simp)) (st10.sq (Rb, ys) (by simp)) (by show xs.length + ys.length ≤ sizeLine; rw [sizeLine_eq]; omega) fun I H11 s11 t11 => ?_⟩
    have st11 := (st10.same s11).addS t11
    have lz : (xs ++ ys).length = (rs ++ os).length := by rw [List.length_append, List.length_append, lA, lB]
    have gz : ∀ (i : Nat) r x, (rs ++ os)[i]? = some r → (xs ++ ys)[i]? = some x → RwO K C cS cR nr H0 r x := by
      intro i r x h1 h2
      by_cases lt : i < rs.length
      · rw [List.getElem?_append_left lt] at h1
        rw [List.getElem?_append_left (by omega)] at h2
        exact gA i r x h1 h2
      · rw [List.getElem?_append_right (by omega)] at h1
        rw [List.getElem?_append_right (by omega), lA] at h2
        exact gB _ r x h1 h2
    obtain ⟨N, Mk, hN, hM, b1, b2, b3⟩ := fits
    have e1 : (esR (.iff m m' rs os)).length = 2 := rfl
    have e2 : (inR (.iff m m' rs os)).length = (rs ++ os).length := rfl
    rw [e1, e2] at b1 b2 b3
    have ez : ((xs ++ ys).zip (rs ++ os)).length = (rs ++ os).length := by rw [List.length_zip, lz, Nat.min_self]
    refine ⟨cR 4, x, dx, _, _, .ref T, p, I, tV, [(el, m), (er, m')], (xs ++ ys).zip (rs ++ os), [], H0, rfl, rc, st11.m0.at_, fun f hf => ?_, by show 4 < 100; decide, st11.sq (p, [el, er]) (by simp), ?_, M.empV _, fun e' he => ?_, st11.m0.z, st11.m0.s, fun e he => (zip_mem lz gz e he).fld, ⟨N, fun k hk => hN k ?_, ?_⟩, ⟨Mk, fun k hk => hM k ?_, ?_⟩, ?_, fun H' q1 q2 zs bs ks hx h1 no h2 kl ky kp ss => ?_⟩
    · simp only [List.mem_cons, List.not_mem_nil, or_false] at hf
      rcases hf with rfl | rfl | rfl | rfl | rfl | rfl <;> rfl
    · rw [zip_fst lz]
      exact st11.sq (I, xs ++ ys) (by simp)
    · simp only [List.mem_cons, List.not_mem_nil, or_false] at he
      rcases he with rfl | rfl
      · exact (st11.ex (n, m, el) (by simp)).fld
      · exact (st11.ex (n', m', er) (by simp)).fld
    · rw [map_snd lvsR, zip_snd lz] at hk
      rw [lvsR_parts]
      simpa [owR, esR, inR] using hk
    · rw [ez]
      show 0 + (2 + (rs ++ os).length) * N.length < 64
      omega
    · rw [map_snd stsR, zip_snd lz] at hk
      rw [stsR_parts]
      simpa [esR, inR] using hk
    · rw [ez]
      exact b2
    · rw [ez]
      exact b3
    · have t8 := st11.end rc kp
      refine q H' ⟨xs ++ ys, ⟨x, dx, T, I, q1, q2, [("left", el), ("right", er), ("rows", .ref Ra), ("others", .ref Rb)], zs, bs, ks, rfl, ?_, h1, ?_, h2, kl, ?_, sqT_trX t8 (st11.sq (I, xs ++ ys) (by simp)), ?_⟩, lz, fun j r' y hj hy => (gz j r' y hj hy).same ss⟩ ss
      · refine hx.trans ?_
        rw [map_snd lcR, zip_snd lz]
        show some (HO.ins (cR 4) dx (([("left", el), ("right", er), ("rows", V.ref Ra), ("others", V.ref Rb)] : List (Str × V)) ++ rowT "if" (.ref T) I _ q1 q2)) = some (HO.ins (cR 4) dx (([("left", el), ("right", er), ("rows", V.ref Ra), ("others", V.ref Rb)] : List (Str × V)) ++ rowT "if" (.ref T) I _ q1 q2))
        rw [lcR_parts]
        simp only [inR, Int.natCast_add]
        rfl
      · rw [map_snd lvsR, zip_snd lz] at no
        rw [lvsR_parts]
        simpa [owR, esR, inR] using no
      · rw [map_snd stsR, zip_snd lz] at ky
        rw [stsR_parts]
        simpa [esR, inR] using ky
      · exact ⟨el, er, Ra, Rb, xs, ys, max n n', rfl, (exR_trX t8 (st11.ex (n, m, el) (by simp))).up (Nat.le_max_left _ _), (exR_trX t8 (st11.ex (n', m', er) (by simp))).up (Nat.le_max_right _ _), sqT_trX t8 (st11.sq (Ra, xs) (by simp)), sqT_trX t8 (st11.sq (Rb, ys) (by simp)), lA, lB, rfl, sqT_trX t8 (st11.sq (T, [el, er, .ref Ra, .ref Rb]) (by simp))⟩
end
end LK

namespace LK
open PySem PySem.Spec PyProof.Rows L2 LR
/-! ### rows of a loop -/
structure Rising (K : PySem.W.Frag) (mg : Str → Option Value) (rw : Addr) : Prop where
  g : mg "RISING_WAYS" = some (.ref rw)
  tup : ∀ H, SqT K H rw [.str "+", .str "++", .str "+++"]
theorem take_bools {ms : List Md} {f : Md → Bool} {i : Nat} {m : Md} (h : ms[i]? = some m) : ((ms.take (i + 1)).map f).map V.bl = ((ms.take i).map f).map V.bl ++ [V.bl (f m)] := by
  rw [List.take_add_one, h]
  simp
theorem all_bools (ms : List Md) (f : Md → Bool) : (ms.map f).all id = ms.all f := by
  rw [List.all_map]
  rfl
theorem kd_isNm (m : Md) : decide (V.str (kdM m) = V.str "name") = isNm m := by
  cases m with
  | nm z => exact decide_eq_true rfl
  | ap h ms =>
    refine decide_eq_false ?_
    cases h with
    | le => show ¬ V.str "lesser" = V.str "name"; decide +kernel
    | gr => show ¬ V.str "greater" = V.str "name"; decide +kernel
    | st _ _ _ => show ¬ V.str "step" = V.str "name"; decide +kernel
theorem mayB_no {r : Rw} (h : kiR r ≠ 1) : mayB r = false := by
  cases r with
  | set k x m =>
    match k with
    | 0 => rfl
    | 1 => exact absurd rfl h
    | k + 2 => rfl
  | rfs w => rfl
  | iff l r a b => rfl
  | sti rs => rfl
section
variable {P : Program} {w : World} {K : PySem.W.Frag} {mg : Str → Option Value} {base : Heap}
def nMay : List Str := ["row", "part"]
theorem scMay : FnScope nMay ["row"] (defScope sMayLoop) := ⟨rfl, rfl, rfl, by decide +kernel, rfl, by decide +kernel, by decide +kernel⟩
theorem ok_may {C cS cRow f rw : Addr} {cR : Nat → Addr} {fd : FuncData} (S : Std mg) (cE : Cls K C) (nE : ExN K C) (clS : Cls K cS) (s2 : NoAttr K cS "ways") (k : RwK K mg C cS cRow cR) (RI : Rising K mg rw) (F : Fun K "may_loop" "may_loop" sMayLoop f fd) : FnOk P w K mg base CX0 1 f fd ["row"] (spMay K C cS cR) := by
  have rc := k.c 1 (by decide)
  refine F.ok scMay (fun vs H Q E h => ?_) (fun cdv A outer s H vs Q E hr h => ?_)
  · obtain ⟨v, n, r, rfl, _⟩ := h
    rfl
  · obtain ⟨v, n, r, rfl, ro, q⟩ := h
    refine ⟨_, pss_cons (ps_if (PW.pt (pw_or (pt_not (pt_val (pe_callB call_isi (by rfl) S.isi (by decide +kernel) (pa_cons (pv 0) (pa_cons (pe_glob (v := .ref (cR 1)) rfl k.gR rfl) pa_nil))))) (pw_or1 (pt_cmpR op_ne (pe_fld (pe_fld (pv 0) rfl) rfl) pe_str (nomark _))))) (pss_one (ps_ret pe_bl)) pss_nil)
      (pss_one (ps_ret (pe_and (pe_cmpR op_in_seq (pe_fld (pe_fld (pe_fld (pv 0) rfl) rfl) rfl) (pe_glob (v := .ref rw) rfl RI.g rfl) (by rfl))
        (pe_one (pe_callB (cr_all rfl) (by rfl) S.all (by decide +kernel) (pa_cons (pe_lc (own := [("part", 1)]) (g := gName 1) (tt := tYes) (te := tOp rEq (tFld K (tVar 1) "kind") (tC (.str "name"))) rfl scMay.nd
            (pi_tup (pe_fld (pe_fld (pv 0) rfl) rfl)) (blkOk_by (N := nMay) (sc := defScope sMayLoop) (by decide +kernel)) (fun _ _ _ _ _ => pg_name (i := 1) scMay.nd rfl (Or.inl rfl)) (fun _ _ _ _ _ => pts_nil)
            (fun _ _ _ _ _ => pe_cmpR op_eq (pe_fld (pv 1) rfl) pe_str (nomark _))) pa_nil)))))), ?_⟩
    obtain ⟨xs, f⟩ := ro.fld
    obtain ⟨a, dx, fs, rfl, ha⟩ := f.ins
    by_cases h1 : kiR r = 1
    · cases r with
      | rfs w => cases h1
      | iff l r a b => cases h1
      | sti rs => cases h1
      | set kk z m =>
        match kk, h1 with
        | 0, h1 => cases h1
        | kk + 2, h1 => cases h1
        | 1, _ =>
          clear ha
          obtain ⟨a', dx', T, I, q1, q2, own, ys, bs, ks, ea, ha, h1, no, h2, kl, ky, hI, e, ne, rfl, ok, ex, hT⟩ := f
          cases ea
          have ha' : H a = some (.ins (cR 1) dx' ([("name", .str z), ("expr", e), ("kind", .str (kdN 1)), ("told", .ref T), ("inner", .ref I), ("size", .int _), ("names", .ref q1), ("steps", .ref q2)])) := ha
          refine ⟨_, rfl, _, _, _, _, true, rfl, .own (cR 1), k.ty (by decide) ha', kit_self, true, rfl, iteF ?_⟩
          match ne, ex with
          | n' + 1, ⟨es, fe, le, okm, g⟩ =>
          obtain ⟨b, d2, p, r1, r2, j, ys', bs', ks', rfl, hb, hp, t1, no', t2, kl', ky'⟩ := fe
          refine ⟨_, rfl, a, cR 1, dx', _, .ref b, rfl, ha', rc.cl, k.xp 1 (by decide), rfl, b, C, d2, _, _, rfl, hb, cE, nE.kind, rfl, rfl, _, rfl, ?_⟩
          match m, okm, hb, g, le with
          | .nm z', okm, hb, g, le =>
            rw [decide_eq_false (show ¬ V.str (kdM (.nm z')) = V.str "step" from by show ¬ V.str "name" = V.str "step"; decide +kernel)]
            exact iteT (q H (Same.refl H))
          | .ap .le ms, okm, hb, g, le =>
            rw [decide_eq_false (show ¬ V.str (kdM (.ap .le ms)) = V.str "step" from by show ¬ V.str "lesser" = V.str "step"; decide +kernel)]
            exact iteT (q H (Same.refl H))
          | .ap .gr ms, okm, hb, g, le =>
            rw [decide_eq_false (show ¬ V.str (kdM (.ap .gr ms)) = V.str "step" from by show ¬ V.str "greater" = V.str "step"; decide +kernel)]
            exact iteT (q H (Same.refl H))
          | .ap (.st c z' y) ms, okm, hb, g, le =>
            rw [decide_eq_true (show V.str (kdM (.ap (.st c z' y) ms)) = V.str "step" from rfl)]
            obtain ⟨lm, ⟨dS, hS⟩, _, oky⟩ := okm
            have ly := oky.len
            refine iteF ⟨_, rfl, a, cR 1, dx', _, .ref b, rfl, ha', rc.cl, k.xp 1 (by decide), rfl, b, C, d2, _, .ref c, rfl, hb, cE, nE.step, rfl, c, cS, dS, _, .str y, rfl, hS, clS, s2, rfl, rw, _, rfl, .inr (RI.tup H), rfl, by decide +kernel, ?_⟩
            refine ⟨_, rfl, ?_⟩
            have mb : mayB (.set 1 z (.ap (.st c z' y) ms)) = (risB y && ms.all isNm) := rfl
            refine ite2 (fun hk => ?_) (fun hk => ?_)
            · refine ⟨_, rfl, a, cR 1, dx', _, .ref b, rfl, ha', rc.cl, k.xp 1 (by decide), rfl, b, C, d2, _, .ref p, rfl, hb, cE, nE.parts, rfl, p, rfl, ⟨_, SqT.of hp⟩, fun D hD => lc_tup (xs := es) (fun i H4 => Same H H4 ∧ H4 D = some (.lst (((ms.take i).map isNm).map V.bl))) ⟨same_new hD, upd_same⟩ (fun i H4 _ h => SqT.of (h.1 _ _ hp)) (fun i v H4 hv h => ?_) (fun H4 h => ?_)⟩
              · obtain ⟨s4, d4⟩ := h
                have lt : i < es.length := (List.getElem?_eq_some_iff.mp hv).1
                have le' : es.length = ms.length := le
                have hm : (prM (.ap (.st c z' y) ms))[i]? = some (ms[i]'(by omega)) := List.getElem?_eq_getElem (l := ms) _
                obtain ⟨es', b', d', p', r1', r2', j', ys'', bs'', ks'', rfl, hb', _⟩ := (g i _ v hm hv).fld
                refine ⟨rfl, _, rfl, b', C, d', _, _, rfl, s4 _ _ hb', cE, nE.kind, rfl, rfl, _, d4, ?_, same_put hD s4, ?_⟩
                · rw [List.length_map, List.length_map, List.length_take, sizeLine_eq]
                  have : ms.length = y.length := lm
                  omega
                · rw [upd_same, take_bools (List.getElem?_eq_getElem (by omega)), kd_isNm]
              · obtain ⟨s4, d4⟩ := h
                have le' : es.length = ms.length := le
                rw [le', List.take_length] at d4
                refine ⟨D, ms.map isNm, rfl, SqL.of d4, ?_⟩
                have e : mayB (.set 1 z (.ap (.st c z' y) ms)) = (ms.map isNm).all id := by
                  rw [mb, all_bools, show risB y = true from hk, Bool.true_and]
                rw [← e]
                exact q H4 s4
            · have e : mayB (.set 1 z (.ap (.st c z' y) ms)) = false := by
                rw [mb, show risB y = false from by simpa [risB] using hk, Bool.false_and]
              have z := q H (Same.refl H)
              rw [e] at z
              exact z
    · refine ⟨_, rfl, _, _, _, _, false, rfl, .own (cR 1), k.ty (kiR_lt r) ha, ?_, false, rfl, iteT ?_⟩
      · exact (k.eq _ 1 (kiR_lt r) (by decide)).trans (by rw [decide_eq_false h1])
      · have z := q H (Same.refl H)
        rw [mayB_no h1] at z
        exact z
end
end LK

namespace LK
open PySem PySem.Spec PyProof.Rows L2 LR
theorem take_rows {ms : List Rw} {f : Rw → Bool} {i : Nat} {m : Rw} (h : ms[i]? = some m) : ((ms.take (i + 1)).map f).map V.bl = ((ms.take i).map f).map V.bl ++ [V.bl (f m)] := by
  rw [List.take_add_one, h]
  simp
section
variable {P : Program} {w : World} {K : PySem.W.Frag} {mg : Str → Option Value} {base : Heap}
def nSt : List Str := ["self", "rows", "row"]
theorem scSt : FnScope nSt ["self", "rows"] (defScope sStillInit) := ⟨rfl, rfl, rfl, by decide +kernel, rfl, by decide +kernel, by decide +kernel⟩
theorem ok_stillI {C0 C cS cRow fM fK fY fE f t tU tV : Addr} {mc : Value} {cR : Nat → Addr} {fdM fdK fdY fdE fd : FuncData} {t3 : Tok} (S : Std mg) (m3 : mg "MOST_LOOP_ROWS" = some (.int 3 t3)) (k : RwK K mg C cS cRow cR) (e3 : Er K mg 3 C0 fE fdE) (M : RowM K mg cRow mc fM fdM t tU tV) (GR : FnOk P w K mg base CX0 2 fM fdM pRow (spRowInit K C cS cR))
    (D3 : Df K mg "checked_rows" sCheckedRows fK fdK ["value"]) (G3 : FnOk P w K mg base (L2N.CX P w) 3 fK fdK ["value"] (spChecked K C0 cRow)) (D4 : Df K mg "may_loop" sMayLoop fY fdY ["row"]) (G4 : FnOk P w K mg base CX0 1 fY fdY ["row"] (spMay K C cS cR))
    (F : Fun K "__init__" "Still.__init__" sStillInit f fd) : FnOk P w K mg base (L2N.CX P w) 4 f fd ["self", "rows"] (spStillI K C0 C cS cRow cR mayB) := by
  have rc := k.c 5 (by decide)
  have GE : FnOk P w K mg base CX0 1 fE fdE ["self", "word"] (spE0 C0 "word") := ok_err3X e3
  refine okN F scSt (fun vs H Q E h => ?_) (fun cdv A outer s H vs Q E hr h => ?_)
  · obtain ⟨x, dx, a, H0, rfl, _⟩ := h
    rfl
  · obtain ⟨x, dx, a, H0, rfl, mk, h⟩ := h
    refine ⟨_, pss_cons (ps_fld (pv 0) (pe_call G3 hr rfl D3.g D3.F.kp D3.b .nil (L2N.passes_call (L2N.takes_of rfl rfl rfl rfl) fun _ _ _ _ h => h) (pa_cons (pv 1) pa_nil)) rfl)
      (pss_cons (ps_if (PW.pt (pw_or (pt_not (pt_chain op_le op_le pe_int (pe_callB call_len_seq (by rfl) S.len PySem.boot_len (pa_cons (pe_fld (pv 0) rfl) pa_nil)) (pe_glob (v := .int 3) rfl m3 ⟨_, rfl⟩)))
          (pw_or1 (pt_not (pt_val (pe_callB (cr_all rfl) (by rfl) S.all (by decide +kernel) (pa_cons (pe_lc (own := [("row", 2)]) (g := gName 2) (tt := tYes) (te := tCall (spMay K C cS cR) [] E0 (tCons (tVar 2) tNil)) rfl scSt.nd
            (pi_tup (pe_fld (pv 0) rfl)) (blkOk_by (N := nSt) (sc := defScope sStillInit) (by decide +kernel)) (fun _ _ _ _ _ => pg_name (i := 2) scSt.nd rfl (Or.inl rfl)) (fun _ _ _ _ _ => pts_nil)
            (fun _ _ _ _ _ => pe_call G4 (hr.mono (by decide)) rfl D4.g D4.F.kp D4.b .nil pass0 (pa_cons (pv 2) pa_nil))) pa_nil)))))))
          (pss_one (L2N.ps_raise rfl (L2N.takes_of rfl rfl rfl rfl) (pmk_errN e3.T e3.ini e3.ti GE (hr.mono (by decide)) e3.b rfl e3.g (pa_cons pe_str pa_nil)))) pss_nil)
      (pss_one (ps_expr (pe_cfun (E := E0) (pe_glob (v := .ref cRow) rfl M.g rfl) M.rd M.cv M.kp (GR.raw M.b1 (.cons (show RelV (V.ref tV) (Value.ref tV) from rfl) .nil)) (hr.mono (by decide)) pass0 (pa_cons (pv 0) (pa_cons pe_str (pa_cons (pe_fld (pv 0) rfl) (pa_cons (pe_tup pa_nil)
        (pa_cons (pe_fld (pv 0) rfl) pa_nil))))))))), ?_⟩
    have st0 : Stg K C cS H0 x (cR 5) dx [] [] H [] := ⟨mk, (fun _ h => nomatch h), (fun _ h => nomatch h)⟩
    rcases h with ⟨bad, q⟩ | ⟨nr, xs, rs, okA, fewA, h⟩
    · exact ⟨_, rfl, a, rfl, checked_bad (bad.same mk.s) (q.same mk.s)⟩
    refine ⟨_, rfl, a, rfl, checked_ok k (okA.same mk.s) (by omega) fun R H1 s1 t1 => ?_⟩
    have st1 := (st0.same s1).addS t1
    refine ⟨_, rfl, x, cR 5, dx, _, rfl, st1.m0.at_, rc.cl, k.rw5, by decide, ?_⟩
    have st2 := st1.put rc [("rows", .ref R)]
    dsimp only
    rw [show putF "rows" (V.ref R) [] = ([("rows", V.ref R)] : List (Str × V)) from rfl]
    generalize upd H1 x (.ins (cR 5) dx [("rows", .ref R)]) = H2 at st2 ⊢
    obtain ⟨aA, ea, svA, lA, gA⟩ := okA
    have tR : SqT K H2 R xs := st2.sq (R, xs) (by simp)
    have x0 : xs.length = rs.length := lA
    refine if_key (fun b H' => Same H2 H' ∧ b = !(decide (1 ≤ rs.length) && decide (rs.length ≤ 3) && rs.all mayB)) (fun R' key => ?_) (fun H' h' => ?_) (fun H' h' => ?_)
    · refine ⟨_, rfl, x, cR 5, dx, _, _, rfl, st2.m0.at_, rc.cl, k.rw5, rfl, R, xs, rfl, .inr tR, _, _, rfl, rfl, _, rfl, ?_⟩
      by_cases c1 : (1 : Int) ≤ ((xs.length : Nat) : Int)
      · rw [decide_eq_true c1]
        refine iteT ⟨_, _, rfl, rfl, _, rfl, ?_⟩
        by_cases c3 : ((xs.length : Nat) : Int) ≤ 3
        · rw [decide_eq_true c3]
          refine iteF ?_
          refine ⟨_, rfl, x, cR 5, dx, _, .ref R, rfl, st2.m0.at_, rc.cl, k.rw5, rfl, R, rfl, ⟨_, tR⟩, fun D hD => lc_tup (xs := xs) (fun i H4 => Same H2 H4 ∧ H4 D = some (.lst (((rs.take i).map mayB).map V.bl))) ⟨same_new hD, upd_same⟩ (fun i H4 _ h => SqT.same h.1 tR) (fun i v H4 hv h => ?_) (fun H4 h => ?_)⟩
          · obtain ⟨s4, d4⟩ := h
            have lt : i < xs.length := (List.getElem?_eq_some_iff.mp hv).1
            have hm : rs[i]? = some (rs[i]'(by omega)) := List.getElem?_eq_getElem _
            refine ⟨rfl, _, rfl, v, nr, _, rfl, ((gA i _ v hm hv).same (st2.m0.s.trans s4)), fun H5 s5 => ⟨_, s5 _ _ d4, ?_, same_put hD (s4.trans s5), ?_⟩⟩
            · rw [List.length_map, List.length_map, List.length_take, sizeLine_eq]
              omega
            · rw [upd_same, take_rows hm]
          · obtain ⟨s4, d4⟩ := h
            rw [x0, List.take_length] at d4
            refine ⟨D, rs.map mayB, rfl, SqL.of d4, _, rfl, key _ _ ⟨s4, ?_⟩⟩
            rw [decide_eq_true (show 1 ≤ rs.length by omega), decide_eq_true (show rs.length ≤ 3 by omega), List.all_map]
            rfl
        · rw [decide_eq_false c3]
          refine iteT (key _ _ ⟨Same.refl _, ?_⟩)
          rw [decide_eq_false (show ¬ rs.length ≤ 3 by omega), Bool.and_false, Bool.false_and]
          rfl
      · rw [decide_eq_false c1]
        refine iteF ⟨_, rfl, iteT (key _ _ ⟨Same.refl _, ?_⟩)⟩
        rw [decide_eq_false (show ¬ 1 ≤ rs.length by omega), Bool.false_and, Bool.false_and]
        rfl
    · obtain ⟨s2, e⟩ := h'
      rcases h with ⟨_, q⟩ | ⟨e2, _⟩
      · exact errX fun d H3 s' hd nd => q.same (st2.m0.s.trans s2) d H3 s' hd nd
      · rw [e2] at e
        cases e
    · obtain ⟨s2, e⟩ := h'
      rcases h with ⟨e2, _⟩ | ⟨e2, fits, q⟩
      · rw [e2] at e
        cases e
      have st3 := st2.same s2
      simp only [Bool.and_eq_true, decide_eq_true_eq] at e2
      refine ⟨rfl, _, rfl, _, rfl, x, cR 5, dx, _, _, rfl, st3.m0.at_, rc.cl, k.rw5, rfl, (by show 0 ≤ sizeLine; decide), fun p hp => ?_⟩
      have st4 := (st3.same (same_new (o := .tup []) hp)).addS (SqT.of (show (upd H' p (.tup [])) p = some (.tup []) from upd_same))
      generalize upd H' p (.tup []) = H4 at st4 ⊢
      refine ⟨_, rfl, x, cR 5, dx, _, _, rfl, st4.m0.at_, rc.cl, k.rw5, rfl, ?_⟩
      have lz := lA
      obtain ⟨N, Mk, hN, hM, b1, b2, b3⟩ := fits
      have e1 : (esR (.sti rs)).length = 0 := rfl
      have e2' : (inR (.sti rs)).length = rs.length := rfl
      rw [e1, e2'] at b1 b2 b3
      have ez : (xs.zip rs).length = rs.length := by rw [List.length_zip, lz, Nat.min_self]
      refine ⟨cR 5, x, dx, _, _, .ref R, p, R, tV, [], xs.zip rs, [], H0, rfl, rc, st4.m0.at_, fun f hf => ?_, by show 1 < 100; decide, st4.sq (p, []) (by simp), ?_, M.empV _, (fun _ h => nomatch h), st4.m0.z, st4.m0.s, fun e he => (zip_mem lz gA e he).fld, ⟨N, fun k hk => hN k ?_, ?_⟩, ⟨Mk, fun k hk => hM k ?_, ?_⟩, ?_, fun H' q1 q2 zs bs ks hx h1 no h2 kl ky kp ss => ?_⟩
      · simp only [List.mem_cons, List.not_mem_nil, or_false] at hf
        rcases hf with rfl | rfl | rfl | rfl | rfl | rfl <;> rfl
      · rw [zip_fst lz]
        exact st4.sq (R, xs) (by simp)
      · rw [map_snd lvsR, zip_snd lz] at hk
        rw [lvsR_parts]
        simpa [owR, esR, inR] using hk
      · rw [ez]
        show 0 + (0 + rs.length) * N.length < 64
        omega
      · rw [map_snd stsR, zip_snd lz] at hk
        rw [stsR_parts]
        simpa [esR, inR] using hk
      · rw [ez]
        exact b2
      · rw [ez]
        exact b3
      · have t8 := st4.end rc kp
        refine q H' ⟨xs, ⟨x, dx, R, R, q1, q2, [("rows", .ref R)], zs, bs, ks, rfl, ?_, h1, ?_, h2, kl, ?_, sqT_trX t8 (st4.sq (R, xs) (by simp)), ?_⟩, lz, fun j r' y hj hy => (gA j r' y hj hy).same ss⟩ ss
        · refine hx.trans ?_
          rw [map_snd lcR, zip_snd lz]
          show some (HO.ins (cR 5) dx (([("rows", V.ref R)] : List (Str × V)) ++ rowT "still" (.ref R) R _ q1 q2)) = some (HO.ins (cR 5) dx (([("rows", V.ref R)] : List (Str × V)) ++ rowT "still" (.ref R) R _ q1 q2))
          rw [lcR_parts]
          simp only [inR, Int.natCast_add]
          rfl
        · rw [map_snd lvsR, zip_snd lz] at no
          rw [lvsR_parts]
          simpa [owR, esR, inR] using no
        · rw [map_snd stsR, zip_snd lz] at ky
          rw [stsR_parts]
          simpa [esR, inR] using ky
        · exact ⟨R, rfl, sqT_trX t8 (st4.sq (R, xs) (by simp)), rfl, e2.1.1, e2.1.2⟩
end
end LK

namespace LK
open PySem PySem.Spec PyProof.Rows L2 LR
/-! ### the source of draws -/
/-- the source at l, its digits at c -/
def Deal (H : Hp) (l c : Addr) : Prop := ∃ (ns : List Int) (b : Int), H l = some (.lst [.ref c, .int b]) ∧ H c = some (.lst (ns.map V.int)) ∧ ns.length ≤ 63 ∧ (∀ n ∈ ns, 0 ≤ n) ∧ 0 ≤ b ∧ c ≠ l
/-- all but l and c stands -/
def Kp (l c : Addr) (H H' : Hp) : Prop := ∀ b o, b ≠ l → b ≠ c → H b = some o → H' b = some o
theorem Kp.refl {l c : Addr} {H : Hp} : Kp l c H H := fun _ _ _ _ e => e
theorem Kp.trans {l c : Addr} {H H1 H2 : Hp} (a : Kp l c H H1) (b : Kp l c H1 H2) : Kp l c H H2 := fun d o n m e => b d o n m (a d o n m e)
theorem Kp.same {l c : Addr} {H H1 : Hp} (a : Same H H1) : Kp l c H H1 := fun d o _ _ e => a d o e
theorem Kp.putl {l c : Addr} {H : Hp} {o : HO} : Kp l c H (upd H l o) := fun d u n m e => by rw [upd_ne n]; exact e
theorem Kp.putc {l c : Addr} {H : Hp} {o : HO} : Kp l c H (upd H c o) := fun d u n m e => by rw [upd_ne m]; exact e
theorem Kp.new {l c p : Addr} {H : Hp} {o : HO} (h : H p = none) : Kp l c H (upd H p o) := Kp.same (same_new h)
theorem Deal.same {l c : Addr} {H H' : Hp} (h : Deal H l c) (s : Same H H') : Deal H' l c := by
  obtain ⟨ns, b, h1, h2, r⟩ := h
  exact ⟨ns, b, s _ _ h1, s _ _ h2, r⟩
theorem Deal.ne {l c d : Addr} {H : Hp} (h : Deal H l c) (e : H d = none) : d ≠ l ∧ d ≠ c := by
  obtain ⟨ns, b, h1, h2, _⟩ := h
  exact ⟨(ne_of_none h1 e).symm, (ne_of_none h2 e).symm⟩
/-- a list that is neither stands through a put -/
theorem Deal.put {l c d : Addr} {H : Hp} {o : HO} (h : Deal H l c) (n : d ≠ l ∧ d ≠ c) : Deal (upd H d o) l c := by
  obtain ⟨ns, b, h1, h2, r⟩ := h
  exact ⟨ns, b, by rw [upd_ne n.1.symm]; exact h1, by rw [upd_ne n.2.symm]; exact h2, r⟩
theorem Tr.kp {l c : Addr} {H H' : Hp} (f : Deal H l c) (k : Kp l c H H') : Tr H H' := by
  obtain ⟨ns, b, h1, h2, _⟩ := f
  exact ⟨fun b C dx fs h => k _ _ (ne_of h h1 (by intro z; cases z)) (ne_of h h2 (by intro z; cases z)) h, fun b xs h => k _ _ (ne_of h h1 (by intro z; cases z)) (ne_of h h2 (by intro z; cases z)) h, fun b o xs h => k _ _ (ne_of h h1 (by intro z; cases z)) (ne_of h h2 (by intro z; cases z)) h⟩
def spSource (K : PySem.W.Frag) : Sp := fun vs H Q _ => ∃ (a : Addr) (ns : List Int), vs = [.ref a, .int 0] ∧ SqL K H a (ns.map V.int) ∧ ns.length ≤ 63 ∧ ∀ l c H', H l = none → H c = none → Deal H' l c → Same H H' → Q (.ref l) H'
def spDrawR : Sp := fun vs H Q _ => ∃ (l c : Addr) (m : Int), vs = [.ref l, .int m] ∧ Deal H l c ∧ 1 ≤ m ∧ m < 1073741824 ∧ ∀ d H', 0 ≤ d → d < m → Deal H' l c → Kp l c H H' → Q (.int d) H'
def spPickR (K : PySem.W.Frag) : Sp := fun vs H Q _ => ∃ (l c a : Addr) (xs : List V), vs = [.ref l, .ref a] ∧ Deal H l c ∧ (H a = some (.lst xs) ∧ a ≠ l ∧ a ≠ c ∨ SqT K H a xs) ∧ 0 < xs.length ∧ xs.length ≤ 1000 ∧ ∀ v H', v ∈ xs → Deal H' l c → Kp l c H H' → Q v H'
theorem cut_ints (ns : List Int) (lo hi : Option Int) : ∃ ms : List Int, cutV (ns.map V.int) lo hi = ms.map V.int ∧ ms.length ≤ ns.length := by
  refine ⟨(ns.drop (HT.sIx (ns.map V.int).length 0 lo)).take (HT.sIx (ns.map V.int).length (ns.map V.int).length hi - HT.sIx (ns.map V.int).length 0 lo), ?_, ?_⟩
  · unfold cutV
    rw [← List.map_drop, ← List.map_take]
  · rw [List.length_take, List.length_drop]
    omega
theorem last_at {ns : List Int} (h : ns ≠ []) : (ns.map V.int)[(ns.map V.int).length - 1]? = some (V.int (ns.getLast h)) := by
  rw [List.getElem?_map, List.length_map, ← List.getLast?_eq_getElem?, List.getLast?_eq_some_getLast h]
  rfl
theorem drop_ints (ns : List Int) : (ns.map V.int).dropLast = (ns.dropLast).map V.int := by
  rw [List.map_dropLast]
section
variable {P : Program} {w : World} {K : PySem.W.Frag} {mg : Str → Option Value} {base : Heap}
def nSrc : List Str := ["_law_script", "_law_base", "_law_cells", "_law_mixed", "_law_cell"]
theorem scSrc : FnScope nSrc ["_law_script", "_law_base"] (defScope sSource) := ⟨rfl, rfl, rfl, by decide +kernel, rfl, by decide +kernel, by decide +kernel⟩
theorem ok_source {f : Addr} {fd : FuncData} (S : Std mg) (F : Fun K "_law_source" "_law_source" sSource f fd) : FnOk P w K mg base CX0 1 f fd ["_law_script", "_law_base"] (spSource K) := by
  refine F.ok scSrc (fun vs H Q E h => ?_) (fun cdv A outer s H vs Q E hr h => ?_)
  · obtain ⟨a, ns, rfl, _⟩ := h
    rfl
  · obtain ⟨a, ns, rfl, hS, hlen, q⟩ := h
    refine ⟨_, pss_cons (ps_setLc (i := 2) (own := [("_law_cell", 4)]) (g := gName 4) (tt := tYes) (te := tCB (fun xs H Q => ∃ i, xs = [V.int i] ∧ Q (.int (if i < 0 then -i else i)) H) (tCons (tVar 4) tNil)) rfl scSrc.nd rfl rfl (sw_true rfl rfl rfl (by decide +kernel)) (pi_list (pe_slice sl_list (pv 0) (po_some (pv 1)) (po_some pe_int))) (blkOk_by (N := nSrc) (sc := defScope sSource) (by decide +kernel))
          (fun _ _ _ _ _ => pg_name (i := 4) scSrc.nd rfl (Or.inl rfl)) (fun _ _ _ _ _ => pts_nil) (fun _ _ _ _ _ => pe_callB call_abs (by rfl) S.abs (by decide +kernel) (pa_cons (pv 4) pa_nil)))
      (pss_cons (ps_set (i := 3) scSrc.nd rfl (Or.inl rfl) (pe_op op_add pe_int (pe_op op_mul pe_int (pv 1))))
      (pss_cons (ps_for PassesOwn.never rfl (pi_list (pv 2)) (pg_name (i := 4) scSrc.nd rfl (Or.inl rfl))
        (pss_one (ps_set (i := 3) scSrc.nd rfl (Or.inl rfl) (pe_op op_mod (pe_callTy call_int1 (by rfl) S.int (by decide +kernel) (pa_cons (pe_op op_add (pe_op op_mul (pv 3) pe_int) (pe_op op_mod (pe_callTy call_int1 (by rfl) S.int (by decide +kernel) (pa_cons (pv 4) pa_nil)) pe_int)) pa_nil)) pe_int))))
      (pss_one (ps_ret (pe_lst (pa_cons (pe_revL (pe_lc (own := [("_law_cell", 4)]) (g := gName 4) (tt := tTest (tOp (rI0 fun i j => .bl (decide (j ≤ i))) (tVar 4) (tOp (rI CPow fun i j => .int (i ^ j.toNat)) (tC (.int 10)) (tC (.int 18))))) (te := tVar 4) rfl scSrc.nd (pi_list (pv 2)) (blkOk_by (N := nSrc) (sc := defScope sSource) (by decide +kernel))
          (fun _ _ _ _ _ => pg_name (i := 4) scSrc.nd rfl (Or.inl rfl)) (fun _ _ _ _ _ => pts_one (pt_cmpR op_ge (pv 4) (pe_op op_pow pe_int pe_int) (nomark _))) (fun _ _ _ _ _ => pv 4))) (pa_cons (pv 3) pa_nil))))))), ?_⟩
    obtain ⟨ms, em, lm⟩ := cut_ints ns (some 0) (some 63)
    refine ⟨_, rfl, _, rfl, 0, rfl, 63, rfl, a, _, rfl, hS, fun p hp => ?_⟩
    rw [em]
    have s1 := same_new (o := .lst (ms.map V.int)) hp
    have hp1 : (upd H p (.lst (ms.map V.int))) p = some (.lst (ms.map V.int)) := upd_same
    generalize upd H p (.lst (ms.map V.int)) = H1 at s1 hp1 ⊢
    refine ⟨p, rfl, ⟨_, SqL.of hp1⟩, fun D hD => lc_list (xs := ms.map V.int) (fun i H4 => Same H1 H4 ∧ H4 D = some (.lst (((ms.take i).map fun n => if n < 0 then -n else n).map V.int))) ⟨same_new hD, upd_same⟩ (fun i H4 _ h => SqL.of (h.1 _ _ hp1)) (fun i v H4 hv h => ?_) (fun H4 h => ?_)⟩
    · obtain ⟨s4, d4⟩ := h
      rw [List.getElem?_map] at hv
      obtain ⟨n, hn, rfl⟩ := Option.map_eq_some_iff.mp hv
      have lt : i < ms.length := (List.getElem?_eq_some_iff.mp hn).1
      refine ⟨rfl, _, rfl, n, rfl, _, d4, ?_, same_put hD s4, ?_⟩
      · rw [List.length_map, List.length_map, List.length_take, sizeLine_eq]
        omega
      · rw [upd_same, List.take_add_one, hn]
        simp
    obtain ⟨s4, d4⟩ := h
    rw [List.length_map, List.take_length] at d4
    generalize ec : (ms.map fun n => if n < 0 then -n else n) = cs at d4
    have pos : ∀ n ∈ cs, 0 ≤ n := by
      intro n hn
      rw [← ec] at hn
      obtain ⟨m, _, rfl⟩ := List.mem_map.mp hn
      split <;> omega
    have lc : cs.length ≤ 63 := by
      rw [← ec, List.length_map]
      omega
    refine ⟨_, rfl, _, _, rfl, rfl, .inl ⟨by decide, by decide⟩, _, _, rfl, rfl, ?_⟩
    refine ⟨_, rfl, D, rfl, ⟨_, SqL.of d4⟩, for_list (xs := cs.map V.int) (fun i σ' H' => ∃ (b : Int) (v : Option V), σ' = [some (.ref a), some (.int 0), some (.ref D), some (.int b), v] ∧ 0 ≤ b ∧ H' = H4) ⟨_, _, rfl, by decide, rfl⟩ (fun i σ' H' _ h => ?_) (fun i x σ' H' hx h => ?_) (fun σ' H' h => ?_)⟩
    · obtain ⟨_, _, _, _, e⟩ := h
      rw [e]
      exact SqL.of d4
    · obtain ⟨b, v, rfl, hb, e⟩ := h
      rw [e]
      rw [List.getElem?_map] at hx
      obtain ⟨n, hn, rfl⟩ := Option.map_eq_some_iff.mp hx
      refine ⟨_, rfl, _, _, rfl, rfl, .inr ⟨by decide, by decide⟩, _, rfl, .inl ⟨_, rfl, _, _, rfl, rfl, (by show (0 : Int) < 2147483629; decide), _, _, rfl, rfl, .inl ⟨_, rfl, _, _, rfl, rfl, (by show (0 : Int) < 2147483647; decide), ?_⟩⟩⟩
      exact ⟨_, _, rfl, Int.emod_nonneg _ (by decide), rfl⟩
    obtain ⟨b, v, rfl, hb, e⟩ := h
    rw [e]
    have s14 := s1.trans s4
    refine ⟨_, rfl, D, rfl, ⟨_, SqL.of d4⟩, fun D2 hD2 => lc_list (xs := cs.map V.int) (fun i H5 => Same H4 H5 ∧ ∃ ks : List Int, H5 D2 = some (.lst (ks.map V.int)) ∧ ks.length ≤ i ∧ ∀ n ∈ ks, 0 ≤ n) ⟨same_new hD2, [], upd_same, Nat.le_refl _, fun _ h => nomatch h⟩ (fun i H5 _ h => SqL.of (h.1 _ _ d4)) (fun i v H5 hv h => ?_) (fun H5 h => ?_)⟩
    · obtain ⟨s5, ks, d5, lk, pk⟩ := h
      rw [List.getElem?_map] at hv
      obtain ⟨n, hn, rfl⟩ := Option.map_eq_some_iff.mp hv
      have lt : i < cs.length := (List.getElem?_eq_some_iff.mp hn).1
      refine ⟨rfl, _, rfl, _, _, rfl, rfl, ⟨by decide, by decide, by decide⟩, _, _, rfl, rfl, _, rfl, ite2 (fun _ => ?_) (fun _ => ?_)⟩
      · refine ⟨_, rfl, _, d5, by rw [List.length_map, sizeLine_eq]; omega, same_put hD2 s5, ks ++ [n], by rw [upd_same, List.map_append]; rfl, by rw [List.length_append, List.length_singleton]; omega, fun m hm => ?_⟩
        rcases List.mem_append.mp hm with hm | hm
        · exact pk m hm
        · rw [List.mem_singleton.mp hm]
          exact pos n (List.mem_of_getElem? hn)
      · exact ⟨s5, ks, d5, by omega, pk⟩
    obtain ⟨s5, ks, d5, lk, pk⟩ := h
    rw [List.length_map] at lk
    refine ⟨D2, _, rfl, SqL.of d5, fun c hc => ⟨_, rfl, (by show 2 ≤ sizeLine; decide), fun l hl => ?_⟩⟩
    rw [List.map_reverse.symm] at *
    have s6 := s5.trans (same_new (o := .lst ((ks.reverse).map V.int)) hc)
    have s7 := s6.trans (same_new (o := .lst [.ref c, .int b]) hl)
    have ncl : c ≠ l := ne_of_none (show (upd H5 c (.lst ((ks.reverse).map V.int))) c = some _ from upd_same) hl
    refine q l c _ (s14.free (s6.free hl)) (s14.free (s5.free hc)) ⟨ks.reverse, b, upd_same, by rw [upd_ne ncl, upd_same], by rw [List.length_reverse]; omega, fun n hn => pk n (List.mem_reverse.mp hn), hb, ncl⟩ (s14.trans s7)
end
end LK

namespace LK
open PySem PySem.Spec PyProof.Rows L2 LR
section
variable {P : Program} {w : World} {K : PySem.W.Frag} {mg : Str → Option Value} {base : Heap}
def nDr : List Str := ["_law_deal", "_law_many", "_law_left"]
theorem scDr : FnScope nDr ["_law_deal", "_law_many"] (defScope sDrawR) := ⟨rfl, rfl, rfl, by decide +kernel, rfl, by decide +kernel, by decide +kernel⟩
theorem ok_drawR {f : Addr} {fd : FuncData} (S : Std mg) (F : Fun K "_law_draw" "_law_draw" sDrawR f fd) : FnOk P w K mg base CX0 1 f fd ["_law_deal", "_law_many"] spDrawR := by
  refine F.ok scDr (fun vs H Q E h => ?_) (fun cdv A outer s H vs Q E hr h => ?_)
  · obtain ⟨l, c, m, rfl, _⟩ := h
    rfl
  · obtain ⟨l, c, m, rfl, ⟨ns, b, hl, hc, len, pos, hb, ncl⟩, m1, m2, q⟩ := h
    refine ⟨_, pss_cons (ps_while PassesOwn.never (PW.pt (pw_and (pt_cmpR (op_neEnd hr.units0) (pe_ix ix_list (pv 0) pe_int (fun _ _ => rfl)) (pe_lst pa_nil) (nomark _)) (pw_and1 (pt_cmpR op_eq (pe_ix ix_list (pe_ix ix_list (pv 0) pe_int (fun _ _ => rfl)) (pe_un un_neg pe_int) (fun _ _ => rfl)) pe_int (nomark _)))))
        (pss_one (ps_expr (pe_bm0 PySem.F.plainAttrs_list PySem.F.slot_list_pop PySem.F.type_list_pop mt_pop (pe_ix ix_list (pv 0) pe_int (fun _ _ => rfl))))))
      (pss_cons (ps_if (pt_cmpR (op_neEnd hr.units0) (pe_ix ix_list (pv 0) pe_int (fun _ _ => rfl)) (pe_lst pa_nil) (nomark _))
        (pss_cons (ps_set (i := 2) scDr.nd rfl (Or.inl rfl) (pe_bm0 PySem.F.plainAttrs_list PySem.F.slot_list_pop PySem.F.type_list_pop mt_pop (pe_ix ix_list (pv 0) pe_int (fun _ _ => rfl))))
        (pss_cons (ps_expr (pe_bm PySem.F.plainAttrs_list PySem.F.slot_list_append PySem.F.type_list_append mt_append (pe_ix ix_list (pv 0) pe_int (fun _ _ => rfl)) (pa_cons (pe_op op_fdiv (pv 2) (pv 1)) pa_nil)))
        (pss_one (ps_ret (pe_op op_mod (pe_callTy call_int1 (by rfl) S.int (by decide +kernel) (pa_cons (pv 2) pa_nil)) (pv 1)))))) pss_nil)
      (pss_cons (ps_asg (pe_op op_mod (pe_callTy call_int1 (by rfl) S.int (by decide +kernel) (pa_cons (pe_op op_add (pe_op op_mul (pe_ix ix_list (pv 0) pe_int (fun _ _ => rfl)) pe_int) pe_int) pa_nil)) pe_int) (pg_sub (pv 0) pe_int set_list))
      (pss_one (ps_ret (pe_op op_mod (pe_callTy call_int1 (by rfl) S.int (by decide +kernel) (pa_cons (pe_op op_fdiv (pe_ix ix_list (pv 0) pe_int (fun _ _ => rfl)) pe_int) pa_nil)) (pv 1)))))), ?_⟩
    refine seq_key (fun σ' H' => ∃ ns' : List Int, σ' = [some (.ref l), some (.int m), none] ∧ H' l = some (.lst [.ref c, .int b]) ∧ H' c = some (.lst (ns'.map V.int)) ∧ ns'.length ≤ 63 ∧ (∀ n ∈ ns', 0 ≤ n) ∧ Kp l c H H') (fun key => ?_) (fun σ' H' h => ?_)
    · refine ⟨fun k σ' H' => ∃ ns' : List Int, σ' = [some (.ref l), some (.int m), none] ∧ H' l = some (.lst [.ref c, .int b]) ∧ H' c = some (.lst (ns'.map V.int)) ∧ ns'.length ≤ 63 ∧ (∀ n ∈ ns', 0 ≤ n) ∧ Kp l c H H' ∧ ns'.length = k, ⟨_, ns, rfl, hl, hc, len, pos, Kp.refl, rfl⟩, fun k σ' H' w => ?_⟩
      obtain ⟨ns', rfl, hl', hc', len', pos', kp', lk⟩ := w
      refine ⟨_, rfl, l, _, _, _, rfl, rfl, SqL.of hl', rfl, (by show 0 ≤ sizeLine; decide), fun e he => ?_⟩
      have s1 := same_new (o := .lst []) he
      refine ⟨c, e, _, rfl, rfl, s1 _ _ hc', upd_same, _, rfl, ?_⟩
      have hl1 := s1 _ _ hl'
      have hc1 := s1 _ _ hc'
      have k1 : Kp l c H (upd H' e (.lst [])) := kp'.trans (Kp.same s1)
      generalize upd H' e (.lst []) = H1 at s1 hl1 hc1 k1 ⊢
      rcases List.eq_nil_or_concat ns' with rfl | ⟨ks, n, rfl⟩
      · exact iteF (key _ _ ⟨[], rfl, hl1, hc1, by decide, (fun _ h => nomatch h), k1⟩)
      rw [List.concat_eq_append] at *
      have em : (List.map V.int (ks ++ [n])) = ks.map V.int ++ [V.int n] := by rw [List.map_append]; rfl
      rw [em] at hc1
      have ne : (!(List.map V.int (ks ++ [n])).isEmpty) = true := by rw [em]; simp
      rw [ne]
      refine iteT ⟨_, rfl, l, _, _, _, rfl, rfl, SqL.of hl1, rfl, 1, rfl, c, _, _, _, rfl, rfl, SqL.of hc1, atI_last _ _, rfl, _, rfl, ite2 (fun _ => ?_) (fun _ => ?_)⟩
      · refine ⟨fun σ' H' => ∃ ns' : List Int, σ' = [some (.ref l), some (.int m), none] ∧ H' l = some (.lst [.ref c, .int b]) ∧ H' c = some (.lst (ns'.map V.int)) ∧ ns'.length ≤ 63 ∧ (∀ n ∈ ns', 0 ≤ n) ∧ Kp l c H H' ∧ ns'.length < k, fun σ' H' h => ?_, ?_⟩
        · obtain ⟨ns2, e1, e2, e3, e4, e5, e6, e7⟩ := h
          exact ⟨_, e7, ns2, e1, e2, e3, e4, e5, e6, rfl⟩
        · have hx : (ks.map V.int ++ [V.int n])[(ks.map V.int ++ [V.int n]).length - 1]? = some (V.int n) := by simp
          refine ⟨_, rfl, l, _, _, _, rfl, rfl, SqL.of hl1, rfl, .inl ⟨rfl, _, SqL.of hc1⟩, c, _, _, rfl, rfl, hc1, hx, ?_⟩
          rw [List.length_append, List.length_singleton] at lk len'
          refine ⟨ks, rfl, by rw [upd_ne ncl.symm]; exact hl1, by rw [upd_same, List.dropLast_concat], by omega, fun z hz => pos' z (List.mem_append_left _ hz), k1.trans Kp.putc, by omega⟩
      · exact key _ _ ⟨ks ++ [n], rfl, hl1, by rw [em]; exact hc1, len', pos', k1⟩
    obtain ⟨ns', rfl, hl', hc', len', pos', kp'⟩ := h
    refine ⟨_, rfl, l, _, _, _, rfl, rfl, SqL.of hl', rfl, (by show 0 ≤ sizeLine; decide), fun e he => ?_⟩
    have s1 := same_new (o := .lst []) he
    refine ⟨c, e, _, rfl, rfl, s1 _ _ hc', upd_same, _, rfl, ?_⟩
    have hl1 := s1 _ _ hl'
    have hc1 := s1 _ _ hc'
    have k1 : Kp l c H (upd H' e (.lst [])) := kp'.trans (Kp.same s1)
    generalize upd H' e (.lst []) = H1 at s1 hl1 hc1 k1 ⊢
    rcases List.eq_nil_or_concat ns' with rfl | ⟨ks, n, rfl⟩
    · refine iteF ?_
      have hS : SqL K H1 l [.ref c, .int b] := SqL.of hl1
      refine ⟨_, rfl, l, _, _, _, rfl, rfl, hS, rfl, _, _, rfl, rfl, .inr ⟨by decide, by decide⟩, _, _, rfl, rfl, .inl ⟨_, rfl, _, _, rfl, rfl, (by show (0 : Int) < 2147483647; decide), _, rfl, l, _, _, 1, rfl, rfl, hl1, rfl, ?_⟩⟩
      refine ⟨_, rfl, l, _, _, _, rfl, rfl, SqL.of upd_same, rfl, _, _, rfl, rfl, ⟨by decide, by decide⟩, .inl ⟨_, rfl, _, rfl, _, _, rfl, rfl, (by show 0 < m; omega), ?_⟩⟩
      exact q _ _ (Int.emod_nonneg _ (by omega)) (Int.emod_lt_of_pos _ (by omega)) ⟨[], _, upd_same, by rw [upd_ne ncl]; exact hc1, by decide, (fun _ h => nomatch h), Int.emod_nonneg _ (by decide), ncl⟩ (k1.trans Kp.putl)
    rw [List.concat_eq_append] at *
    have em : (List.map V.int (ks ++ [n])) = ks.map V.int ++ [V.int n] := by rw [List.map_append]; rfl
    rw [em] at hc1
    have ne : (!(List.map V.int (ks ++ [n])).isEmpty) = true := by rw [em]; simp
    rw [ne]
    have hx : (ks.map V.int ++ [V.int n])[(ks.map V.int ++ [V.int n]).length - 1]? = some (V.int n) := by simp
    rw [List.length_append, List.length_singleton] at len'
    refine iteT ⟨_, rfl, l, _, _, _, rfl, rfl, SqL.of hl1, rfl, .inl ⟨rfl, _, SqL.of hc1⟩, c, _, _, rfl, rfl, hc1, hx, ?_⟩
    have hl2 : (upd H1 c (.lst (List.dropLast (ks.map V.int ++ [V.int n])))) l = some (.lst [.ref c, .int b]) := by rw [upd_ne ncl.symm]; exact hl1
    have hc2 : (upd H1 c (.lst (List.dropLast (ks.map V.int ++ [V.int n])))) c = some (.lst (ks.map V.int)) := by rw [upd_same, List.dropLast_concat]
    have k2 : Kp l c H (upd H1 c (.lst (List.dropLast (ks.map V.int ++ [V.int n])))) := k1.trans Kp.putc
    generalize upd H1 c (.lst (List.dropLast (ks.map V.int ++ [V.int n]))) = H2 at hl2 hc2 k2 ⊢
    refine ⟨_, rfl, l, _, _, _, rfl, rfl, SqL.of hl2, rfl, .inl ⟨rfl, _, SqL.of hc2⟩, _, rfl, _, rfl, _, _, rfl, rfl, ⟨by omega, m2⟩, c, _, _, rfl, rfl, hc2, by rw [List.length_map, sizeLine_eq]; omega, ?_⟩
    refine ⟨_, rfl, .inl ⟨_, rfl, _, rfl, _, _, rfl, rfl, (by show 0 < m; omega), ?_⟩⟩
    refine q _ _ (Int.emod_nonneg _ (by omega)) (Int.emod_lt_of_pos _ (by omega)) ⟨ks ++ [n / m], b, by rw [upd_ne ncl.symm]; exact hl2, by rw [upd_same, List.map_append]; rfl, by rw [List.length_append, List.length_singleton]; omega, fun z hz => ?_, hb, ncl⟩ (k2.trans Kp.putc)
    rcases List.mem_append.mp hz with hz | hz
    · exact pos' z (List.mem_append_left _ hz)
    · rw [List.mem_singleton.mp hz]
      exact Int.ediv_nonneg (pos' n (List.mem_append_right _ List.mem_cons_self)) (by omega)
theorem scPk : FnScope ["_law_deal", "_law_some"] ["_law_deal", "_law_some"] (defScope sPickR) := ⟨rfl, rfl, rfl, by decide +kernel, rfl, by decide +kernel, by decide +kernel⟩
theorem ok_pickR {f fD : Addr} {fd fdD : FuncData} (S : Std mg) (F : Fun K "_law_pick" "_law_pick" sPickR f fd) (D : Df K mg "_law_draw" sDrawR fD fdD ["_law_deal", "_law_many"]) : FnOk P w K mg base CX0 2 f fd ["_law_deal", "_law_some"] (spPickR K) := by
  have GD : FnOk P w K mg base CX0 1 fD fdD ["_law_deal", "_law_many"] spDrawR := ok_drawR S D.F
  refine F.ok scPk (fun vs H Q E h => ?_) (fun cdv A outer s H vs Q E hr h => ?_)
  · obtain ⟨l, c, a, xs, rfl, _⟩ := h
    rfl
  · obtain ⟨l, c, a, xs, rfl, hf, hi, h0, h1, q⟩ := h
    refine ⟨_, pss_one (ps_ret (pe_ix ix_seq (pv 1) (pe_call GD hr rfl D.g D.F.kp D.b .nil pass0 (pa_cons (pv 0) (pa_cons (pe_callB call_len_seq (by rfl) S.len PySem.boot_len (pa_cons (pv 1) pa_nil)) pa_nil))) (fun _ _ => rfl))), ?_⟩
    refine ⟨_, rfl, _, rfl, _, rfl, a, xs, rfl, ?_, l, c, (xs.length : Int), rfl, hf, by omega, by omega, fun d H' d0 d1 hf' kp => ?_⟩
    · rcases hi with ⟨h, _⟩ | h
      · exact .inl (SqL.of h)
      · exact .inr h
    obtain ⟨j, rfl⟩ : ∃ j : Nat, d = (j : Int) := ⟨d.toNat, by omega⟩
    have hj : j < xs.length := by omega
    have g := q _ _ (List.getElem_mem hj) hf' kp
    rcases hi with ⟨h, n1, n2⟩ | h
    · exact .inl ⟨a, xs, (j : Int), xs[j], rfl, rfl, SqL.of (kp _ _ n1 n2 h), atI_nat (List.getElem?_eq_getElem hj), g⟩
    · exact .inr (.inl ⟨a, xs, (j : Int), xs[j], rfl, rfl, sqT_tr (Tr.kp hf kp) h, atI_nat (List.getElem?_eq_getElem hj), g⟩)
end
end LK

namespace LK
open PySem PySem.Spec PyProof.Rows L2 LR
/-! ### names drawn -/
def LowS (z : Str) : Prop := ∀ c, c ∈ TL.tl z → 97 ≤ c ∧ c ≤ 122
theorem tl_app (x y : Str) : TL.tl (x ++ y) = TL.tl x ++ TL.tl y := TL.tl_append x y
theorem low_app {x y : Str} (a : LowS x) (b : LowS y) : LowS (x ++ y) := fun c h => by
  rw [tl_app] at h
  exact (List.mem_append.mp h).elim (a c) (b c)
theorem tl_mk (l : List Nat) : TL.tl (⟨l.toArray⟩ : Str) = l := by
  show (l.toArray).toList = l
  rfl
theorem tl_cut1 (z : Str) (k : Nat) (h : k ≤ z.length) : TL.tl (cutS z none (some (k : Int))) = (TL.tl z).take k := by
  unfold cutS
  rw [tl_mk, HT.sIx_nat, Nat.min_eq_left h]
  show ((TL.tl z).drop 0).take (k - 0) = _
  rw [List.drop_zero, Nat.sub_zero]
theorem tl_cut2 (z : Str) (k : Nat) (h : k ≤ z.length) : TL.tl (cutS z (some (k : Int)) none) = (TL.tl z).drop k := by
  unfold cutS
  rw [tl_mk, HT.sIx_nat, Nat.min_eq_left h]
  show ((TL.tl z).drop k).take (z.length - k) = _
  rw [List.take_of_length_le]
  rw [List.length_drop, ← TL.len_tl]
  exact Nat.le_refl _
theorem low_cut {z : Str} (h : LowS z) (lo hi : Option Int) : LowS (cutS z lo hi) := fun c hc => by
  unfold cutS at hc
  rw [tl_mk] at hc
  exact h c (List.mem_of_mem_drop (List.mem_of_mem_take hc))
/-- a letter put into a stem -/
theorem put_len {z y : Str} {k : Nat} (h : k ≤ z.length) (l : y.length = 1) : (cutS z none (some (k : Int)) ++ y ++ cutS z (some (k : Int)) none).length = z.length + 1 := by
  have e1 := congrArg List.length (tl_cut1 z k h)
  have e2 := congrArg List.length (tl_cut2 z k h)
  rw [← TL.len_tl, List.length_take, ← TL.len_tl] at e1
  rw [← TL.len_tl, List.length_drop, ← TL.len_tl] at e2
  rw [len_app, len_app, e1, e2, l]
  omega
def spDWords : Sp := fun vs H Q _ => ∃ (l c : Addr) (n : Nat), vs = [.ref l, .int n] ∧ n ≤ 12 ∧ Deal H l c ∧ ∀ (D : Addr) (zs : List Str) H', H D = none → H' D = some (.lst (zs.map V.str)) → zs.length = n → (∀ z ∈ zs, NameOk z) → Deal H' l c → Kp l c H H' → Q (.ref D) H'
theorem Kp.free {l c b : Addr} {H H1 : Hp} (k : Kp l c H H1) (f : Deal H1 l c) (h : H1 b = none) : H b = none := by
  cases e : H b with
  | none => rfl
  | some o =>
    obtain ⟨n1, n2⟩ := f.ne h
    rw [k _ _ n1 n2 e] at h
    cases h
theorem Kp.put {l c d : Addr} {H H1 : Hp} {o : HO} (k : Kp l c H H1) (h : H d = none) : Kp l c H (upd H1 d o) := fun b u n m e => by
  rw [upd_ne (ne_of_none e h)]
  exact k b u n m e
section
variable {P : Program} {w : World} {K : PySem.W.Frag} {mg : Str → Option Value} {base : Heap}
def nDW : List Str := ["_law_deal", "_law_many", "_law_letters", "_law_stem", "_law_at", "_law_first", "_law_longer", "_law_found", "_law_k", "_law_word"]
theorem scDW : FnScope nDW ["_law_deal", "_law_many"] (defScope sDWords) := ⟨rfl, rfl, rfl, by decide +kernel, rfl, by decide +kernel, by decide +kernel⟩
theorem ok_dwords {f fD : Addr} {fd fdD : FuncData} (S : Std mg) (F : Fun K "_law_drawn_words" "_law_drawn_words" sDWords f fd) (D : Df K mg "_law_draw" sDrawR fD fdD ["_law_deal", "_law_many"]) : FnOk P w K mg base CX0 2 f fd ["_law_deal", "_law_many"] spDWords := by
  have GD : FnOk P w K mg base CX0 1 fD fdD ["_law_deal", "_law_many"] spDrawR := ok_drawR S D.F
  refine F.ok scDW (fun vs H Q E h => ?_) (fun cdv A outer s H vs Q E hr h => ?_)
  · obtain ⟨l, c, n, rfl, _⟩ := h
    rfl
  · obtain ⟨l, c, n, rfl, n12, hf, q⟩ := h
    refine ⟨_, pss_cons (ps_set (i := 2) scDW.nd rfl (Or.inr rfl) pe_str)
      (pss_cons (ps_set (i := 3) scDW.nd rfl (Or.inl rfl) (pe_join pe_str (pe_lc (own := [("_law_k", 8)]) (g := gName 8) (tt := tYes) rfl scDW.nd
          (pi_range1 (by rfl) S.range (pa_cons (pe_call GD hr rfl D.g D.F.kp D.b .nil pass0 (pa_cons (pv 0) (pa_cons pe_int pa_nil))) pa_nil))
          (blkOk_by (N := nDW) (sc := defScope sDWords) (by decide +kernel)) (fun _ _ _ _ _ => pg_name (i := 8) scDW.nd rfl (Or.inl rfl)) (fun _ _ _ _ _ => pts_nil)
          (fun _ _ _ _ _ => pe_ix ix_str (pv 2) (pe_call GD hr rfl D.g D.F.kp D.b .nil pass0 (pa_cons (pv 0) (pa_cons pe_int pa_nil))) (fun _ _ => rfl)))))
      (pss_cons (ps_par3 (i := 4) (j := 5) (l := 6) rfl scDW.nd rfl rfl rfl (by decide) (by decide) (by decide) rfl rfl rfl
          (pa_cons (pe_call GD hr rfl D.g D.F.kp D.b .nil pass0 (pa_cons (pv 0) (pa_cons (pe_op op_add (pe_callB call_len (by rfl) S.len PySem.boot_len (pa_cons (pv 3) pa_nil)) pe_int) pa_nil)))
          (pa_cons (pe_call GD hr rfl D.g D.F.kp D.b .nil pass0 (pa_cons (pv 0) (pa_cons pe_int pa_nil)))
          (pa_cons (pe_call GD hr rfl D.g D.F.kp D.b .nil pass0 (pa_cons (pv 0) (pa_cons pe_int pa_nil))) pa_nil))) rfl)
      (pss_cons (ps_set (i := 7) scDW.nd rfl (Or.inl rfl) (pe_lst pa_nil))
      (pss_cons (ps_for PassesOwn.never rfl (pi_range1 (by rfl) S.range (pa_cons (pv 1) pa_nil)) (pg_name (i := 8) scDW.nd rfl (Or.inl rfl))
        (pss_cons (ps_set (i := 9) scDW.nd rfl (Or.inl rfl) (pe_op op_add_str (pe_op op_add_str (pe_slice sl_str (pv 3) po_none (po_some (pv 4))) (pe_ix ix_str (pv 2) (pe_op op_mod (pe_callTy call_int1 (by rfl) S.int (by decide +kernel) (pa_cons (pe_op op_add (pv 5) (pe_op op_mul pe_int (pv 8))) pa_nil)) pe_int) (fun _ _ => rfl))) (pe_slice sl_str (pv 3) (po_some (pv 4)) po_none)))
        (pss_cons (ps_if (pt_cmpR op_in_seq (pv 9) (pe_tup (pa_cons pe_str (pa_cons pe_str (pa_cons pe_str pa_nil)))) (by rfl))
            (pss_one (ps_set (i := 9) scDW.nd rfl (Or.inl rfl) (pe_op op_add_str (pe_slice sl_str (pv 9) po_none (po_some pe_int)) pe_str)))
            (pss_one (ps_if (PW.pt (pw_and (pt_cmpR op_eq (pv 6) pe_int (nomark _)) (pw_and (pt_cmpR op_eq (pe_op op_and (pv 8) pe_int) pe_int (nomark _)) (pw_and1 (pt_cmpR op_lt (pe_callB call_len (by rfl) S.len PySem.boot_len (pa_cons (pv 9) pa_nil)) pe_int (nomark _))))))
              (pss_one (ps_set (i := 9) scDW.nd rfl (Or.inl rfl) (pe_op op_add_str (pv 9) pe_str))) pss_nil)))
        (pss_one (ps_expr (pe_bm PySem.F.plainAttrs_list PySem.F.slot_list_append PySem.F.type_list_append mt_append (pv 7) (pa_cons (pv 9) pa_nil)))))))
      (pss_one (ps_ret (pv 7))))))), ?_⟩
    refine ⟨⟨_, rfl⟩, _, rfl, l, c, 4, rfl, hf, by decide, by decide, fun d H1 d0 d1 hf1 k1 => ⟨d, rfl, by omega, by omega, fun D hD => ?_⟩⟩
    have nD := hf1.ne hD
    refine lc_range (lo := 0) (n := d.toNat) (fun i H2 => Deal H2 l c ∧ Kp l c H1 H2 ∧ ∃ ys : List Str, ys.length = i ∧ H2 D = some (.lst (ys.map V.str)) ∧ ∀ y, y ∈ ys → y.length = 1 ∧ LowS y)
      ⟨hf1.same (same_new hD), Kp.new hD, [], rfl, upd_same, fun y hy => by simp at hy⟩ ?_ ?_
    · rintro i H2 hi ⟨hf2, k2, ys, el, hy, hys⟩
      refine ⟨rfl, _, rfl, _, rfl, l, c, 26, rfl, hf2, by decide, by decide, fun e H3 e0 e1 hf3 k3 => ?_⟩
      obtain ⟨j, rfl⟩ : ∃ j : Nat, e = (j : Int) := ⟨e.toNat, by omega⟩
      have hj : j < letters.cps.toList.length := by
        have : letters.cps.toList.length = 26 := by decide +kernel
        omega
      refine ⟨_, _, _, rfl, rfl, by decide +kernel, atI_nat (List.getElem?_eq_getElem hj), ys.map V.str, k3 _ _ nD.1 nD.2 hy, ?_, hf3.put nD, fun b o n m e => ?_, ys ++ [⟨#[letters.cps.toList[j]]⟩], by simp [el], by rw [upd_same, List.map_append]; rfl, fun y hy' => ?_⟩
      · rw [List.length_map]
        exact small1000 (by omega)
      · rw [upd_ne (ne_of_none e hD)]
        exact k3 b o n m (k2 b o n m e)
      · rcases List.mem_append.mp hy' with z | z
        · exact hys y z
        · have e : y = ⟨#[letters.cps.toList[j]]⟩ := by simpa using z
          subst e
          exact ⟨rfl, fun c' hc' => by
            have e : c' = letters.cps.toList[j] := by simpa [TL.tl] using hc'
            subst e
            exact letters_low _ (List.getElem_mem hj)⟩
    rintro H2 ⟨hf2, k2, ys, el, hy, hys⟩
    have hone : ∀ y, y ∈ ys → y.length = 1 := fun y h => (hys y h).1
    have htl := tl_join0 ys
    have hlen : (Txt.join "" ys).length = ys.length := by rw [TL.len_tl, htl, flat_one hone]
    have hlow : LowS (Txt.join "" ys) := fun c hc => by
      rw [htl] at hc
      obtain ⟨l', h1, h2⟩ := List.mem_flatten.mp hc
      obtain ⟨y, hy', rfl⟩ := List.mem_map.mp h1
      exact (hys y hy').2 c h2
    refine ⟨_, _, ys, rfl, rfl, .inl (SqL.of hy), ?_, ?_⟩
    · rw [sum_one hone]
      show ys.length + ys.length * 0 ≤ 16777216
      omega
    have lst : (Txt.join "" ys).length ≤ 3 := by omega
    generalize Txt.join "" ys = z at hlen hlow lst ⊢
    have kz : Kp l c H H2 := k1.trans k2
    refine ⟨_, rfl, _, rfl, _, z.length, rfl, ⟨by rw [sizeLine_eq]; omega, rfl⟩, _, _, rfl, rfl, l, c, _, rfl, hf2, by omega, by omega, fun at_ H3 a0 a1 hf3 k3 => ?_⟩
    refine ⟨_, rfl, l, c, 26, rfl, hf3, by decide, by decide, fun fi H4 f0 f1 hf4 k4 => ?_⟩
    refine ⟨_, rfl, l, c, 2, rfl, hf4, by decide, by decide, fun lo H5 l0 l1 hf5 k5 => ⟨_, _, _, rfl, ?_⟩⟩
    have k6 : Kp l c H H5 := ((kz.trans k3).trans k4).trans k5
    obtain ⟨k, rfl⟩ : ∃ k : Nat, at_ = (k : Int) := ⟨at_.toNat, by omega⟩
    have kz' : k ≤ z.length := by omega
    refine ⟨(by show 0 ≤ sizeLine; decide), fun F hF => ?_⟩
    have nF := hf5.ne hF
    have fF := k6.free hf5 hF
    refine ⟨_, rfl, _, rfl, by omega, by omega, for_range (lo := 0) (n := (n : Int).toNat) (fun i σ' H' => ∃ v8 v9, σ' = [some (.ref l), some (.int n), some (.str letters), some (.str z), some (.int k), some (.int fi), some (.int lo), some (.ref F), v8, v9] ∧ Deal H' l c ∧ Kp l c H H' ∧ ∃ zs : List Str, H' F = some (.lst (zs.map V.str)) ∧ zs.length = i ∧ ∀ z ∈ zs, NameOk z)
      ⟨_, _, rfl, hf5.same (same_new hF), k6.trans (Kp.new hF), [], upd_same, rfl, fun _ h => nomatch h⟩ (fun i σ' H' lt h => ?_) (fun σ' H' h => ?_)⟩
    · obtain ⟨v8, v9, rfl, hf7, k7, zs, hz, lz, gz⟩ := h
      have z1 : z.length ≤ sizeLine := by rw [sizeLine_eq]; omega
      obtain ⟨j, ej, hj⟩ : ∃ j : Nat, (fi + 7 * (0 + (i : Int))) % 26 = (j : Int) ∧ j < 26 := by
        have e1 := Int.emod_nonneg (fi + 7 * (0 + (i : Int))) (show (26 : Int) ≠ 0 by decide)
        have e2 := Int.emod_lt_of_pos (fi + 7 * (0 + (i : Int))) (show (0 : Int) < 26 by decide)
        exact ⟨((fi + 7 * (0 + (i : Int))) % 26).toNat, by omega, by omega⟩
      have hj' : j < letters.cps.toList.length := by
        have : letters.cps.toList.length = 26 := by decide +kernel
        omega
      have at_ : atI letters.cps.toList ((fi + 7 * (0 + (i : Int))) % 26) = some letters.cps.toList[j] := by
        rw [ej]
        exact atI_nat (List.getElem?_eq_getElem hj')
      have lowc := letters_low _ (List.getElem_mem hj')
      generalize letters.cps.toList[j] = ch at at_ lowc
      have lowy : LowS ⟨#[ch]⟩ := fun c' hc' => by
        have e : c' = ch := by simpa [TL.tl] using hc'
        subst e
        exact lowc
      have lw := put_len (y := ⟨#[ch]⟩) kz' rfl
      have loww : LowS (cutS z none (some (k : Int)) ++ ⟨#[ch]⟩ ++ cutS z (some (k : Int)) none) := low_app (low_app (low_cut hlow _ _) lowy) (low_cut hlow _ _)
      have c1 : (cutS z none (some (k : Int))).length + (⟨#[ch]⟩ : Str).length ≤ sizeLine := by
        have := cutS_length z none (some (k : Int))
        have : (⟨#[ch]⟩ : Str).length = 1 := rfl
        rw [sizeLine_eq]
        omega
      have c2 : (cutS z none (some (k : Int)) ++ ⟨#[ch]⟩).length + (cutS z (some (k : Int)) none).length ≤ sizeLine := by
        rw [← len_app, lw, sizeLine_eq]
        omega
      refine ⟨_, rfl, _, rfl, k, rfl, z, rfl, z1, _, rfl, _, rfl, _, rfl, _, _, rfl, rfl, .inl ⟨by decide, by decide⟩, _, _, rfl, rfl, .inl ⟨_, rfl, _, _, rfl, rfl, (by show (0 : Int) < 26; decide), _, _, _, rfl, rfl, by decide +kernel, at_, _, _, rfl, rfl, c1, ?_⟩⟩
      refine ⟨_, rfl, _, rfl, k, rfl, z, rfl, z1, _, _, rfl, rfl, c2, ?_⟩
      generalize cutS z none (some (k : Int)) ++ ⟨#[ch]⟩ ++ cutS z (some (k : Int)) none = wd at lw loww ⊢
      refine gN_key ?_
      dsimp only
      refine seq_key (fun σ' H2 => ∃ y, σ' = [some (.ref l), some (.int n), some (.str letters), some (.str z), some (.int k), some (.int fi), some (.int lo), some (.ref F), some (.int (0 + (i : Int))), some (.str y)] ∧ NameOk y ∧ Same H' H2) (fun key => ?_) (fun σ' H2 h2 => ?_)
      · refine ⟨_, rfl, (by show 3 ≤ sizeLine; decide), fun p hp => ⟨p, _, rfl, .inr (SqT.of upd_same), rfl, rfl, _, rfl, ?_⟩⟩
        have sp := same_new (o := .tup [V.str "if", V.str "else", V.str "end"]) hp
        refine ite2 (fun cc => ?_) (fun cc => ?_)
        · refine ⟨_, rfl, 1, rfl, wd, rfl, by rw [sizeLine_eq]; omega, _, _, rfl, rfl, ?_, key _ _ ⟨_, rfl, ?_, sp⟩⟩
          · have := cutS_length wd none (some 1)
            rw [sizeLine_eq, show ("yyy" : Str).length = 3 by decide +kernel]
            omega
          · have l1 : (cutS wd none (some ((1 : Nat) : Int))).length = 1 := by
              have e1 := congrArg List.length (tl_cut1 wd 1 (by omega))
              rw [← TL.len_tl, List.length_take, ← TL.len_tl] at e1
              omega
            have l4 : (cutS wd none (some 1) ++ "yyy").length = 4 := by
              rw [len_app, show ("yyy" : Str).length = 3 by decide +kernel]
              have : (cutS wd none (some 1)).length = 1 := l1
              omega
            have low3 : LowS "yyy" := fun c hc => (show ∀ c ∈ TL.tl "yyy", 97 ≤ c ∧ c ≤ 122 by decide +kernel) c hc
            have tl4 : ∃ x, TL.tl (cutS wd none (some 1) ++ "yyy") = [x, 121, 121, 121] := by
              have e1 : TL.tl (cutS wd none (some ((1 : Nat) : Int))) = (TL.tl wd).take 1 := tl_cut1 wd 1 (by omega)
              rw [tl_app, show TL.tl (cutS wd none (some 1)) = (TL.tl wd).take 1 from e1, show TL.tl "yyy" = [121, 121, 121] by decide +kernel]
              have lw' : (TL.tl wd).length = wd.length := (TL.len_tl wd).symm
              cases e : TL.tl wd with
              | nil =>
                rw [e] at lw'
                simp at lw'
                omega
              | cons x r => exact ⟨x, rfl⟩
            obtain ⟨x, tl4⟩ := tl4
            refine ⟨by omega, by omega, low_app (low_cut loww _ _) low3, fun e => ?_, fun e => ?_, fun e => ?_⟩
            · rw [e, show ("if" : Str).length = 2 by decide +kernel] at l4
              omega
            · rw [e, show TL.tl "else" = [101, 108, 115, 101] by decide +kernel] at tl4
              simp at tl4
            · rw [e, show ("end" : Str).length = 3 by decide +kernel] at l4
              omega
        · have okw : NameOk wd := ⟨by omega, by omega, loww, fun e => cc (by rw [e]; decide +kernel), fun e => cc (by rw [e]; decide +kernel), fun e => cc (by rw [e]; decide +kernel)⟩
          refine ⟨_, rfl, rfl, _, rfl, ite2 (fun _ => ?_) (fun _ => key _ _ ⟨wd, rfl, okw, sp⟩)⟩
          refine ⟨_, rfl, _, _, rfl, rfl, rfl, _, rfl, ite2 (fun _ => ?_) (fun _ => key _ _ ⟨wd, rfl, okw, sp⟩)⟩
          refine ⟨_, rfl, _, wd.length, rfl, ⟨by rw [sizeLine_eq]; omega, rfl⟩, _, _, rfl, rfl, _, rfl, ite2 (fun c4 => ?_) (fun _ => key _ _ ⟨wd, rfl, okw, sp⟩)⟩
          have w4 : (wd.length : Int) < 4 := of_decide_eq_true c4
          have q1 : ("q" : Str).length = 1 := by decide +kernel
          refine ⟨_, rfl, _, _, rfl, rfl, by rw [q1, sizeLine_eq]; omega, key _ _ ⟨_, rfl, ?_, sp⟩⟩
          have lq : (wd ++ "q").length = wd.length + 1 := by rw [len_app, q1]
          have tq : TL.tl (wd ++ "q") = TL.tl wd ++ [113] := by rw [tl_app, show TL.tl "q" = [113] by decide +kernel]
          have nq : ∀ {u : Str} {a : Nat} {r : List Nat}, TL.tl u = r ++ [a] → a ≠ 113 → wd ++ "q" ≠ u := fun {u a r} h ne e => by
            rw [e, h] at tq
            have := (List.append_inj' tq rfl).2
            simp at this
            exact ne this
          exact ⟨by omega, by omega, low_app loww (fun c hc => (show ∀ c ∈ TL.tl "q", 97 ≤ c ∧ c ≤ 122 by decide +kernel) c hc), nq (r := [105]) (a := 102) (by decide +kernel) (by decide), nq (r := [101, 108, 115]) (a := 101) (by decide +kernel) (by decide), nq (r := [101, 110]) (a := 100) (by decide +kernel) (by decide)⟩
      · obtain ⟨y, rfl, ok, s2⟩ := h2
        have hz2 := s2 _ _ hz
        refine ⟨_, rfl, .inl ⟨rfl, _, SqL.of hz2⟩, _, rfl, F, _, _, rfl, rfl, hz2, by rw [List.length_map, sizeLine_eq]; omega, _, _, rfl, (hf7.same s2).put nF, (k7.trans (Kp.same s2)).put fF, zs ++ [y], by rw [upd_same, List.map_append]; rfl, by rw [List.length_append, lz]; rfl, fun x hx => ?_⟩
        rcases List.mem_append.mp hx with hx | hx
        · exact gz x hx
        · rw [List.mem_singleton.mp hx]
          exact ok
    · obtain ⟨v8, v9, rfl, hf7, k7, zs, hz, lz, gz⟩ := h
      exact ⟨_, rfl, q F zs H' fF hz (by omega) gz hf7 k7⟩
end
end LK

namespace LR
open PySem PySem.Spec PyProof.Rows L2
/-- (..).n, read of an exception that stands pinned -/
def tPinF (a : Addr) (d : Option Addr) (n : Str) (te : TE) : TE := fun σ H Q => te σ H fun x H1 => x = .ref a ∧ ∃ (dd : Addr) (fs : List (Str × V)) (v : V), d = some dd ∧ H1 dd = some (.xd fs) ∧ fs.lookup n = some v ∧ Q v H1
section
variable {X : Cx} {a D : Addr} {oe : Obj} {d : Option Addr} {e : Expr} {te : TE} {pos : Pos} {n : Str}
theorem pe_pinF (mem : (a, oe) ∈ X.pn) (z : Zc (.ref D) d oe) (fl : ∃ vs, oe.data = .fields vs) (T : XfC X.K D) (free : PySem.W.findIn X.K (.ref D) n = some none) (he : PE X e te) (hb : attributeBase e n X.env (eval e X.env) = eval e X.env := by rfl) :
    PE X (.Attribute e n pos) (tPinF a d n te) := by
  refine ⟨fun pins s σ H Q I h => attr_of hb (thn (he.run pins s σ H _ I h) fun got s1 rest => ?_)⟩
  obtain ⟨x, G, J, rel, isA, dict, kvs, val, isD, stands, found, goes⟩ := rest
  rw [isA] at rel
  obtain rfl : got = Value.ref a := rel
  rw [isD] at z
  have there := (J.pin (a, oe) (List.mem_append_left _ mem)).1
  obtain ⟨raw, isF⟩ := fl
  obtain ⟨ns, at_, each⟩ := (show ObjOk X.prog X.w G s1.heap dict (.xd kvs) from J.hok dict _ stands)
  obtain ⟨odict, isO, look⟩ := lookIn_ns at_
  obtain ⟨out, isOut, relOut⟩ := RelO.some_of (v := val) (o := ns n) (found ▸ each n)
  have inst : PySem.W.InstAt s1.heap a oe D (some odict) := ⟨there, z.1, by unfold PySem.W.notCls; rw [isF] <;> rfl, by rw [z.2]; exact isO⟩
  refine HandSPX.exc_get J.kIn inst T.ga T.gg T.exC (PySem.W.findObj_own T.hdC free rfl (by rw [look, isOut])) (handed_of relOut) ?_
  exact ⟨val, G, J.tok _, relOut, goes⟩
/-- isinstance(that, (C1, C2, ..)) -/
def rIsPinT (K : PySem.W.Frag) (a D : Addr) (d : Option Addr) : List V → Hp → VK → Prop := fun xs H Q => ∃ (tp : Addr) (cs : List V) (us : List Value) (b : Bool), xs = [.ref a, .ref tp] ∧ (∀ dx, d = some dx → ∃ fs, H dx = some (.xd fs)) ∧ H tp = some (.tup cs) ∧ Paired ClsV cs us ∧ PySem.W.kitAny K (.ref D) us = some b ∧ Q (.bl b) H
theorem call_isPinT (mem : (a, oe) ∈ X.pn) (z : Zc (.ref D) d oe) (fl : ∃ vs, oe.data = .fields vs) (T : ExcC X.K D) : CallR X (.builtin "isinstance") (rIsPinT X.K a D d) := by
  intro pins s σ H xs us Q I r h
  obtain ⟨tp, cs, ws, b, rfl, hd, hT, kc, ans, q⟩ := h
  obtain ⟨u1, u2, rfl, r1, r2⟩ := vals2 r
  obtain rfl : u1 = Value.ref a := r1
  obtain rfl : u2 = Value.ref tp := r2
  have there := (I.pin (a, oe) (List.mem_append_left _ mem)).1
  obtain ⟨raw, isF⟩ := fl
  have known : (PySem.W.clsIn X.K D).isSome = true := by
    obtain ⟨cd, hc, _⟩ := PySem.W.any_some T.hd
    rw [hc]
    rfl
  have J : ∃ od, PySem.W.InstAt s.heap a oe D od := by
    cases d with
    | none => exact ⟨none, there, z.1, by unfold PySem.W.notCls; rw [isF] <;> rfl, by rw [z.2]; trivial⟩
    | some dx =>
      obtain ⟨fs, hx⟩ := hd dx rfl
      obtain ⟨mA, hns, _⟩ := (show ObjOk X.prog X.w H s.heap dx (.xd fs) from I.hok dx _ hx)
      obtain ⟨o, ho, _⟩ := lookIn_ns hns
      exact ⟨some o, there, z.1, by unfold PySem.W.notCls; rw [isF] <;> rfl, by rw [z.2]; exact ho⟩
  obtain ⟨od, J⟩ := J
  obtain ⟨_, its, rv, ob, g1, g2, n, g3⟩ := (show ObjOk X.prog X.w H s.heap tp (.tup cs) from I.hok tp _ hT)
  have same := ClsV.all kc rv
  subst same
  obtain ⟨oc, od', dt, sl⟩ := ob
  simp only at g2 g3
  subst g2 g3
  exact PySem.W.kia_tup (PySem.W.kitx_exc known T.hg T.hk T.hs T.ha T.hn T.ht T.hm) I.kIn J g1 ans (fun z => nomatch z) fun tk => ⟨.bl b, H, I.tok tk, rfl, q⟩
end
theorem kitAny_no {K : PySem.W.Frag} {t : Value} : ∀ {us : List Value}, (∀ u ∈ us, PySem.W.kitOne K t u = some false) → PySem.W.kitAny K t us = some false
  | [], _ => by unfold PySem.W.kitAny; rfl
  | u :: r, h => by
    unfold PySem.W.kitAny
    rw [h u List.mem_cons_self]
    exact kitAny_no fun v hv => h v (List.mem_cons_of_mem _ hv)
end LR

namespace LK
open PySem PySem.Spec PyProof.Rows L2 LR
/-! ### rows tried -/
theorem tk0 {X : Cx} : L2N.Takes X (fun _ _ _ _ => False) := fun u s' x => by
  obtain ⟨a, B, sI, pins, σ, H, cls, d, e, I, nb, up, sky, na, os, ag, w⟩ := x
  exact w.elim
theorem hot_of {A : Around} {a : Addr} {oe : Obj} {cls : Value} {d : Option Addr} (h : A.handled = some (.ref a)) (z : L2N.Zn cls d oe) (f : ∃ vs, oe.data = .fields vs) : L2H.Hot1 A (a, oe) := by
  obtain ⟨vs, hv⟩ := f
  exact ⟨h, vs, hv, z.2.2 vs hv⟩
/-- the error of rows beside the others -/
structure ErK (K : PySem.W.Frag) (mg : Str → Option Value) (C0 B fE : Addr) (fdE : FuncData) (c1 c2 c3 c4 c5 c6 c7 : Addr) : Prop where
  e3 : Er K mg 3 C0 fE fdE
  gB : mg "WaysError" = some (.ref B)
  ex : PySem.W.exmOne K (.ref C0) (.ref B) = some true
  hV : mg "ValueError" = none
  kV : PySem.W.kitOne K (.ref C0) (.type "ValueError") = some true
  g1 : mg "InvalidClaim" = some (.ref c1)
  g2 : mg "InvalidExpr" = some (.ref c2)
  g3 : mg "InvalidStart" = some (.ref c3)
  g4 : mg "InvalidStep" = some (.ref c4)
  g5 : mg "InvalidText" = some (.ref c5)
  g6 : mg "InvalidTrait" = some (.ref c6)
  g7 : mg "NoRow" = some (.ref c7)
  no : ∀ u ∈ ([.ref c1, .ref c2, .ref c3, .ref c4, .ref c5, .ref c6, .ref c7] : List Value), PySem.W.kitOne K (.ref C0) u = some false
def spToldE (C0 : Addr) (a : Addr) (oe : Obj) : Sp := fun vs H Q _ => ∃ (dd : Addr) (z : Str), vs = [.ref a] ∧ Zc (.ref C0) (some dd) oe ∧ (∃ fs, oe.data = .fields fs) ∧ H dd = some (.xd [("word", .str z)]) ∧ ∀ H', Same H H' → Q (.str z) H'
def tToldE (C0 a : Addr) (cls : Value) (d : Option Addr) (i : Nat) : TE := fun σ H Q => tVar i σ H fun v H1 => v = .ref a ∧ cls = .ref C0 ∧ ∃ (dd : Addr) (z : Str), d = some dd ∧ H1 dd = some (.xd [("word", .str z)]) ∧ ∀ H', Same H1 H' → Q (.str z) H'
theorem pe_toldE {X : Cx} {C0 : Addr} {k i : Nat} {f a : Addr} {oe : Obj} {fd : FuncData} {x n : Str} {q np pos : Pos} {cls : Value} {d : Option Addr} (F : FnE X.prog X.w X.K X.mg X.base k f fd ["_law_error"] (spToldE C0)) (room : L2H.RoomH k X.A) (hot : L2H.Hot1 X.A (a, oe)) (mem : (a, oe) ∈ X.pn) (z : Zc cls d oe) (fl : ∃ vs, oe.data = .fields vs)
    (hm : X.mg x = some (.ref f)) (kp : PySem.W.keepIn X.K (.ref f) = true) (bind : Binds X.K fd ["_law_error"] []) (hg : Gl X x := by rfl) (hN : X.N[i]? = some n := by rfl) (hv : Vis X.env.scope n := by first | exact Or.inl rfl | exact Or.inr (Or.inl rfl)) (dn : (n == ("__debug__" : Str)) = false := by decide) (dn2 : (n == ("__classdict__" : Str)) = false := by decide) (dbg : (x == ("__debug__" : Str)) = false := by decide)
    (he : starEach [.Name n np] X.env = (false, eval (.Name n np) X.env) :: starEach [] X.env := by rfl) (plain : (backTo pos (starEach [] X.env)).any (·.1) = false := by rfl) : PE X (.Call (.Name x q) [.Name n np] [] pos) (tToldE C0 a cls d i) := by
  refine ⟨fun pins s σ H Q I h => (pe_callE F room hot mem hg hm kp bind (pa_cons (pe_var hN hv dn dn2) pa_nil he) dbg he plain).run pins s σ H Q I ?_⟩
  obtain ⟨v, ev, rfl, rfl, dd, w, rfl, hd, q⟩ := h
  exact ⟨_, ev, dd, w, rfl, z, fl, hd, q⟩
section
variable {P : Program} {w : World} {K : PySem.W.Frag} {mg : Str → Option Value} {base : Heap}
theorem scToldE : FnScope ["_law_error"] ["_law_error"] (defScope sToldE) := ⟨rfl, rfl, rfl, by decide +kernel, rfl, by decide +kernel, by decide +kernel⟩
theorem ok_toldE {C0 B fE f c1 c2 c3 c4 c5 c6 c7 : Addr} {fdE fd : FuncData} (S : Std mg) (G : ErK K mg C0 B fE fdE c1 c2 c3 c4 c5 c6 c7) (F : Fun K "_law_told" "_law_told" sToldE f fd) : FnE P w K mg base 1 f fd ["_law_error"] (spToldE C0) := by
  refine okE F scToldE (fun a oe vs H Q E h => ?_) (fun cdv A outer s H vs Q pe0 hot hr h => ?_)
  · obtain ⟨_, _, rfl, _⟩ := h
    rfl
  · obtain ⟨dd, z, rfl, zc, fl, hd, q⟩ := h
    obtain ⟨a, oe⟩ := pe0
    have mem : (a, oe) ∈ (L2H.cxH CX0 P w K mg base ["_law_error"] "_law_told" (defScope sToldE) f cdv A outer s H E0 (a, oe)).pn := List.mem_singleton.mpr rfl
    refine ⟨_, pss_cons (ps_if (pt_val (pe_callB (call_isPinT mem zc fl G.e3.E) (by rfl) S.isi (by decide +kernel) (pa_cons (pv 0) (pa_cons (pe_tup (pa_cons (pe_glob (v := .ref c1) rfl G.g1 rfl) (pa_cons (pe_glob (v := .ref c2) rfl G.g2 rfl) (pa_cons (pe_glob (v := .ref c3) rfl G.g3 rfl) (pa_cons (pe_glob (v := .ref c4) rfl G.g4 rfl)
          (pa_cons (pe_glob (v := .ref c5) rfl G.g5 rfl) (pa_cons (pe_glob (v := .ref c6) rfl G.g6 rfl) (pa_cons (pe_glob (v := .ref c7) rfl G.g7 rfl) pa_nil)))))))) pa_nil)))) (pss_one (ps_ret pe_non)) pss_nil)
      (pss_cons (ps_if (PW.pt (pw_or (pt_not (pt_val (pe_callB (call_isPin mem zc fl G.e3.E) (by rfl) S.isi (by decide +kernel) (pa_cons (pv 0) (pa_cons (pe_bltn (v := .ty "ValueError") (by rfl) G.hV (by decide +kernel) rfl) pa_nil)))))
          (pw_or1 (pt_not (pt_val (pe_callB (call_isPin mem zc fl G.e3.E) (by rfl) S.isi (by decide +kernel) (pa_cons (pv 0) (pa_cons (pe_glob (v := .ref C0) rfl G.e3.g rfl) pa_nil)))))))) (pss_one (ps_ret pe_non)) pss_nil)
      (pss_one (ps_ret (pe_pinF mem zc fl G.e3.X G.e3.no (pv 0))))), ?_⟩
    refine ⟨_, rfl, by show 7 ≤ sizeLine; decide, fun T hT => ?_⟩
    have s1 := same_new (o := .tup [.ref c1, .ref c2, .ref c3, .ref c4, .ref c5, .ref c6, .ref c7]) hT
    have dx : ∀ dx, some dd = some dx → ∃ fs, (upd H T (.tup [.ref c1, .ref c2, .ref c3, .ref c4, .ref c5, .ref c6, .ref c7])) dx = some (.xd fs) := fun dx e => by
      cases e
      exact ⟨_, s1 _ _ hd⟩
    refine ⟨T, _, _, false, rfl, dx, upd_same, .cons (.own c1) (.cons (.own c2) (.cons (.own c3) (.cons (.own c4) (.cons (.own c5) (.cons (.own c6) (.cons (.own c7) .nil)))))), kitAny_no G.no, _, rfl, iteF ?_⟩
    refine ⟨_, rfl, _, _, true, rfl, dx, .ty "ValueError", G.kV, _, rfl, iteF ?_⟩
    refine ⟨_, rfl, _, _, true, rfl, dx, .own C0, kit_self, _, rfl, iteF ?_⟩
    exact ⟨_, rfl, rfl, dd, _, _, rfl, s1 _ _ hd, rfl, q _ s1⟩
def spPutRef (K : PySem.W.Frag) (C : Addr) : Sp := fun vs H Q _ => ∃ (k : Int) (nm ev : V), vs = [.int k, nm, ev] ∧ Seen K H nm ∧
  ((nameB nm = false ∧ ∀ H', Same H H' → Q (.str "name") H') ∨ (∃ z, nm = .str z ∧ NameOk z ∧ EvBad K C H ev ∧ ∀ H', Same H H' → Q (.str "expr") H'))
/-- how a class of rows is made -/
structure RwMk (K : PySem.W.Frag) (mg : Str → Option Value) (x : Str) (C f : Addr) (fd : FuncData) (ps : List Str) : Prop where
  M : Mk K C f
  g : mg x = some (.ref C)
  b : Binds K fd ps []
def nPR : List Str := ["_law_kind", "_law_name", "_law_expr", "_law_found", "e"]
theorem scPR : FnScope nPR ["_law_kind", "_law_name", "_law_expr"] (defScope sPutRef) := ⟨rfl, rfl, rfl, by decide +kernel, rfl, by decide +kernel, by decide +kernel⟩
theorem ok_putRef {C0 C cS B fE f fT f0 f1 f2 c1 c2 c3 c4 c5 c6 c7 : Addr} {cR : Nat → Addr} {fdE fd fdT d0 d1 d2 : FuncData} (G : ErK K mg C0 B fE fdE c1 c2 c3 c4 c5 c6 c7) (T : Df K mg "_law_told" sToldE fT fdT ["_law_error"]) (GT : FnE P w K mg base 1 fT fdT ["_law_error"] (spToldE C0))
    (M0 : RwMk K mg "Put" (cR 0) f0 d0 ["self", "name", "expr"]) (G0 : FnOk P w K mg base (L2N.CX P w) 7 f0 d0 ["self", "name", "expr"] (spSetI K C0 C cS cR 0)) (M1 : RwMk K mg "Raise" (cR 1) f1 d1 ["self", "name", "expr"]) (G1 : FnOk P w K mg base (L2N.CX P w) 7 f1 d1 ["self", "name", "expr"] (spSetI K C0 C cS cR 1))
    (M2 : RwMk K mg "Lower" (cR 2) f2 d2 ["self", "name", "expr"]) (G2 : FnOk P w K mg base (L2N.CX P w) 7 f2 d2 ["self", "name", "expr"] (spSetI K C0 C cS cR 2)) (F : Fun K "_law_put_refused" "_law_put_refused" sPutRef f fd) : FnOk P w K mg base CX0 9 f fd ["_law_kind", "_law_name", "_law_expr"] (spPutRef K C) := by
  refine F.ok scPR (fun vs H Q E h => ?_) (fun cdv A outer s H vs Q E hr h => ?_)
  · obtain ⟨k, nm, ev, rfl, _⟩ := h
    rfl
  · obtain ⟨k, nm, ev, rfl, sn, h⟩ := h
    refine ⟨_, pss_cons (ps_set (i := 3) scPR.nd rfl (Or.inl rfl) pe_non)
      (pss_cons (L2N.ps_try_as (i := 4) (Wout := fun _ _ _ _ => False) rfl rfl scPR.nd rfl rfl ⟨rfl, by decide, .inl G.gB⟩ tk0
        (fun W pn xe tk _ => pss_one (ps_if (pt_cmpR op_eq (pv 0) pe_int (nomark _)) (pss_one (ps_expr (pe_makeS M0.M G0 hr rfl M0.g M0.b (fun σ => L2N.passAt tk σ) (pa_cons (pv 1) (pa_cons (pv 2) pa_nil)))))
          (pss_one (ps_if (pt_cmpR op_eq (pv 0) pe_int (nomark _)) (pss_one (ps_expr (pe_makeS M1.M G1 hr rfl M1.g M1.b (fun σ => L2N.passAt tk σ) (pa_cons (pv 1) (pa_cons (pv 2) pa_nil)))))
            (pss_one (ps_expr (pe_makeS M2.M G2 hr rfl M2.g M2.b (fun σ => L2N.passAt tk σ) (pa_cons (pv 1) (pa_cons (pv 2) pa_nil)))))))))
        (fun a oe cls d pn zn fl => pss_one (ps_set (i := 3) scPR.nd rfl (Or.inl rfl) (show PE _ _ (tToldE C0 a cls d 4) from pe_toldE (X := (cxOf CX0 P w K mg base nPR "_law_put_refused" (defScope sPutRef) f cdv A outer s H E).nox.suite a ((a, oe) :: pn)) (cls := cls) (d := d) GT ⟨(hr.mono (show 1 ≤ 8 by decide)).dp, (hr.mono (show 1 ≤ 8 by decide)).un⟩ (hot_of rfl zn fl) List.mem_cons_self zn.zc fl T.g T.F.kp T.b (i := 4)))))
      (pss_one (ps_ret (pv 3)))), ?_⟩
    refine ⟨_, rfl, rfl, _, rfl, ite2 (fun _ => ?_) (fun _ => ?_)⟩
    · refine ⟨_, rfl, _, rfl, fun x dx nx nd ne => ⟨x, dx, nm, ev, H, rfl, Mkg.new nx nd, sn, ?_⟩⟩
      rcases h with ⟨nb, q⟩ | ⟨z, rfl, ok, bad, q⟩
      · exact .inl ⟨nb, fun d H' s' hd nd' => ⟨true, G.ex, fun _ a ha => ⟨_, rfl, rfl, rfl, d, _, rfl, hd, fun H2 s2 => ⟨_, rfl, q H2 (s'.trans s2)⟩⟩, fun z => nomatch z⟩⟩
      · exact .inr (.inl ⟨z, rfl, ok, bad, fun d H' s' hd nd' => ⟨true, G.ex, fun _ a ha => ⟨_, rfl, rfl, rfl, d, _, rfl, hd, fun H2 s2 => ⟨_, rfl, q H2 (s'.trans s2)⟩⟩, fun z => nomatch z⟩⟩)
    refine ⟨_, rfl, rfl, _, rfl, ite2 (fun _ => ?_) (fun _ => ?_)⟩
    · refine ⟨_, rfl, _, rfl, fun x dx nx nd ne => ⟨x, dx, nm, ev, H, rfl, Mkg.new nx nd, sn, ?_⟩⟩
      rcases h with ⟨nb, q⟩ | ⟨z, rfl, ok, bad, q⟩
      · exact .inl ⟨nb, fun d H' s' hd nd' => ⟨true, G.ex, fun _ a ha => ⟨_, rfl, rfl, rfl, d, _, rfl, hd, fun H2 s2 => ⟨_, rfl, q H2 (s'.trans s2)⟩⟩, fun z => nomatch z⟩⟩
      · exact .inr (.inl ⟨z, rfl, ok, bad, fun d H' s' hd nd' => ⟨true, G.ex, fun _ a ha => ⟨_, rfl, rfl, rfl, d, _, rfl, hd, fun H2 s2 => ⟨_, rfl, q H2 (s'.trans s2)⟩⟩, fun z => nomatch z⟩⟩)
    · refine ⟨_, rfl, _, rfl, fun x dx nx nd ne => ⟨x, dx, nm, ev, H, rfl, Mkg.new nx nd, sn, ?_⟩⟩
      rcases h with ⟨nb, q⟩ | ⟨z, rfl, ok, bad, q⟩
      · exact .inl ⟨nb, fun d H' s' hd nd' => ⟨true, G.ex, fun _ a ha => ⟨_, rfl, rfl, rfl, d, _, rfl, hd, fun H2 s2 => ⟨_, rfl, q H2 (s'.trans s2)⟩⟩, fun z => nomatch z⟩⟩
      · exact .inr (.inl ⟨z, rfl, ok, bad, fun d H' s' hd nd' => ⟨true, G.ex, fun _ a ha => ⟨_, rfl, rfl, rfl, d, _, rfl, hd, fun H2 s2 => ⟨_, rfl, q H2 (s'.trans s2)⟩⟩, fun z => nomatch z⟩⟩)
def spIfRef (K : PySem.W.Frag) (C cS cRow : Addr) (cR : Nat → Addr) : Sp := fun vs H Q _ => ∃ (l r a b : V), vs = [l, r, a, b] ∧
  ((EvBad K C H l ∧ ∀ H', Same H H' → Q (.str "expr") H') ∨ ∃ n m, PartR K C cS n H l m ∧ ((EvBad K C H r ∧ ∀ H', Same H H' → Q (.str "expr") H') ∨ ∃ n' m', PartR K C cS n' H r m' ∧ ((RowsBad K cRow H a ∧ ∀ H', Same H H' → Q (.str "row") H') ∨ ∃ nr xs rs, RowsOk K C cS cR nr H a xs rs ∧ rs.length < 64 ∧
    ((RowsBad K cRow H b ∧ ∀ H', Same H H' → Q (.str "row") H') ∨ ∃ ys os, RowsOk K C cS cR nr H b ys os ∧ os.length < 64 ∧ FitsR (.iff m m' rs os) ∧ ∀ H', Same H H' → Q .non H'))))
def nIR : List Str := ["_law_left", "_law_right", "_law_rows", "_law_others", "_law_found", "e"]
theorem scIR : FnScope nIR ["_law_left", "_law_right", "_law_rows", "_law_others"] (defScope sIfRef) := ⟨rfl, rfl, rfl, by decide +kernel, rfl, by decide +kernel, by decide +kernel⟩
theorem ok_ifRef {C0 C cS cRow B fE f fT f4 c1 c2 c3 c4 c5 c6 c7 : Addr} {cR : Nat → Addr} {fdE fd fdT d4 : FuncData} (G : ErK K mg C0 B fE fdE c1 c2 c3 c4 c5 c6 c7) (T : Df K mg "_law_told" sToldE fT fdT ["_law_error"]) (GT : FnE P w K mg base 1 fT fdT ["_law_error"] (spToldE C0))
    (M4 : RwMk K mg "If" (cR 4) f4 d4 ["self", "left", "right", "rows", "others"]) (G4 : FnOk P w K mg base (L2N.CX P w) 7 f4 d4 ["self", "left", "right", "rows", "others"] (spIfI K C0 C cS cRow cR)) (F : Fun K "_law_if_refused" "_law_if_refused" sIfRef f fd) :
    FnOk P w K mg base CX0 9 f fd ["_law_left", "_law_right", "_law_rows", "_law_others"] (spIfRef K C cS cRow cR) := by
  refine F.ok scIR (fun vs H Q E h => ?_) (fun cdv A outer s H vs Q E hr h => ?_)
  · obtain ⟨l, r, a, b, rfl, _⟩ := h
    rfl
  · obtain ⟨l, r, a, b, rfl, h⟩ := h
    refine ⟨_, pss_cons (ps_set (i := 4) scIR.nd rfl (Or.inl rfl) pe_non)
      (pss_cons (L2N.ps_try_as (i := 5) (Wout := fun _ _ _ _ => False) rfl rfl scIR.nd rfl rfl ⟨rfl, by decide, .inl G.gB⟩ tk0
        (fun W pn xe tk _ => pss_one (ps_expr (pe_makeS M4.M G4 hr rfl M4.g M4.b (fun σ => L2N.passAt tk σ) (pa_cons (pv 0) (pa_cons (pv 1) (pa_cons (pv 2) (pa_cons (pv 3) pa_nil)))))))
        (fun a oe cls d pn zn fl => pss_one (ps_set (i := 4) scIR.nd rfl (Or.inl rfl) (show PE _ _ (tToldE C0 a cls d 5) from pe_toldE (X := (cxOf CX0 P w K mg base nIR "_law_if_refused" (defScope sIfRef) f cdv A outer s H E).nox.suite a ((a, oe) :: pn)) (cls := cls) (d := d) GT ⟨(hr.mono (show 1 ≤ 8 by decide)).dp, (hr.mono (show 1 ≤ 8 by decide)).un⟩ (hot_of rfl zn fl) List.mem_cons_self zn.zc fl T.g T.F.kp T.b (i := 5)))))
      (pss_one (ps_ret (pv 4)))), ?_⟩
    refine ⟨_, rfl, _, rfl, _, rfl, _, rfl, fun x dx nx nd ne => ⟨x, dx, l, r, a, b, H, rfl, Mkg.new nx nd, ?_⟩⟩
    rcases h with ⟨bad, q⟩ | ⟨n, m, pl, h⟩
    · exact .inl ⟨bad, fun d H' s' hd nd' => ⟨true, G.ex, fun _ a ha => ⟨_, rfl, rfl, rfl, d, _, rfl, hd, fun H2 s2 => ⟨_, rfl, q H2 (s'.trans s2)⟩⟩, fun z => nomatch z⟩⟩
    refine .inr ⟨n, m, pl, ?_⟩
    rcases h with ⟨bad, q⟩ | ⟨n', m', pr, h⟩
    · exact .inl ⟨bad, fun d H' s' hd nd' => ⟨true, G.ex, fun _ a ha => ⟨_, rfl, rfl, rfl, d, _, rfl, hd, fun H2 s2 => ⟨_, rfl, q H2 (s'.trans s2)⟩⟩, fun z => nomatch z⟩⟩
    refine .inr ⟨n', m', pr, ?_⟩
    rcases h with ⟨bad, q⟩ | ⟨nr, xs, rs, okA, fewA, h⟩
    · exact .inl ⟨bad, fun d H' s' hd nd' => ⟨true, G.ex, fun _ a ha => ⟨_, rfl, rfl, rfl, d, _, rfl, hd, fun H2 s2 => ⟨_, rfl, q H2 (s'.trans s2)⟩⟩, fun z => nomatch z⟩⟩
    refine .inr ⟨nr, xs, rs, okA, fewA, ?_⟩
    rcases h with ⟨bad, q⟩ | ⟨ys, os, okB, fewB, fits, q⟩
    · exact .inl ⟨bad, fun d H' s' hd nd' => ⟨true, G.ex, fun _ a ha => ⟨_, rfl, rfl, rfl, d, _, rfl, hd, fun H2 s2 => ⟨_, rfl, q H2 (s'.trans s2)⟩⟩, fun z => nomatch z⟩⟩
    exact .inr ⟨ys, os, okB, fewB, fits, fun H' ro s' => ⟨rfl, ⟨_, rfl, q H' s'⟩⟩⟩
def spOneRef (K : PySem.W.Frag) (C cS cRow : Addr) (cR : Nat → Addr) : Sp := fun vs H Q _ => ∃ (t : Bool) (v : V), vs = [.bl t, v] ∧
  ((t = false ∧ Seen K H v ∧ nameB v = false ∧ ∀ H', Same H H' → Q (.str "word") H') ∨ (t = true ∧ ((RowsBad K cRow H v ∧ ∀ H', Same H H' → Q (.str "row") H') ∨ ∃ nr xs rs, RowsOk K C cS cR nr H v xs rs ∧ rs.length < 64 ∧
    (((decide (1 ≤ rs.length) && decide (rs.length ≤ 3) && rs.all mayB) = false ∧ ∀ H', Same H H' → Q (.str "loop") H') ∨ ((decide (1 ≤ rs.length) && decide (rs.length ≤ 3) && rs.all mayB) = true ∧ FitsR (.sti rs) ∧ ∀ H', Same H H' → Q .non H')))))
def nOR : List Str := ["_law_is_loop", "_law_value", "_law_found", "e"]
theorem scOR : FnScope nOR ["_law_is_loop", "_law_value"] (defScope sOneRef) := ⟨rfl, rfl, rfl, by decide +kernel, rfl, by decide +kernel, by decide +kernel⟩
theorem ok_oneRef {C0 C cS cRow B fE f fT f3 f5 c1 c2 c3 c4 c5 c6 c7 : Addr} {cR : Nat → Addr} {fdE fd fdT d3 d5 : FuncData} (G : ErK K mg C0 B fE fdE c1 c2 c3 c4 c5 c6 c7) (T : Df K mg "_law_told" sToldE fT fdT ["_law_error"]) (GT : FnE P w K mg base 1 fT fdT ["_law_error"] (spToldE C0))
    (M3 : RwMk K mg "Refuse" (cR 3) f3 d3 ["self", "word"]) (G3 : FnOk P w K mg base (L2N.CX P w) 4 f3 d3 ["self", "word"] (spRefI K C0 C cS cR)) (M5 : RwMk K mg "Still" (cR 5) f5 d5 ["self", "rows"]) (G5 : FnOk P w K mg base (L2N.CX P w) 4 f5 d5 ["self", "rows"] (spStillI K C0 C cS cRow cR mayB))
    (F : Fun K "_law_one_refused" "_law_one_refused" sOneRef f fd) : FnOk P w K mg base CX0 9 f fd ["_law_is_loop", "_law_value"] (spOneRef K C cS cRow cR) := by
  refine F.ok scOR (fun vs H Q E h => ?_) (fun cdv A outer s H vs Q E hr h => ?_)
  · obtain ⟨t, v, rfl, _⟩ := h
    rfl
  · obtain ⟨t, v, rfl, h⟩ := h
    refine ⟨_, pss_cons (ps_set (i := 2) scOR.nd rfl (Or.inl rfl) pe_non)
      (pss_cons (L2N.ps_try_as (i := 3) (Wout := fun _ _ _ _ => False) rfl rfl scOR.nd rfl rfl ⟨rfl, by decide, .inl G.gB⟩ tk0
        (fun W pn xe tk _ => pss_one (ps_if (pt_val (pv 0)) (pss_one (ps_expr (pe_makeS M5.M G5 (hr.mono (by decide)) rfl M5.g M5.b (fun σ => L2N.passAt tk σ) (pa_cons (pv 1) pa_nil))))
          (pss_one (ps_expr (pe_makeS M3.M G3 (hr.mono (by decide)) rfl M3.g M3.b (fun σ => L2N.passAt tk σ) (pa_cons (pv 1) pa_nil))))))
        (fun a oe cls d pn zn fl => pss_one (ps_set (i := 2) scOR.nd rfl (Or.inl rfl) (show PE _ _ (tToldE C0 a cls d 3) from pe_toldE (X := (cxOf CX0 P w K mg base nOR "_law_one_refused" (defScope sOneRef) f cdv A outer s H E).nox.suite a ((a, oe) :: pn)) (cls := cls) (d := d) GT ⟨(hr.mono (show 1 ≤ 8 by decide)).dp, (hr.mono (show 1 ≤ 8 by decide)).un⟩ (hot_of rfl zn fl) List.mem_cons_self zn.zc fl T.g T.F.kp T.b (i := 3)))))
      (pss_one (ps_ret (pv 2)))), ?_⟩
    rcases h with ⟨rfl, sn, nb, q⟩ | ⟨rfl, h⟩
    · refine ⟨_, rfl, _, rfl, iteF ⟨_, rfl, fun x dx nx nd ne => ⟨x, dx, v, H, rfl, Mkg.new nx nd, sn, ?_⟩⟩⟩
      exact .inl ⟨nb, fun d H' s' hd nd' => ⟨true, G.ex, fun _ a ha => ⟨_, rfl, rfl, rfl, d, _, rfl, hd, fun H2 s2 => ⟨_, rfl, q H2 (s'.trans s2)⟩⟩, fun z => nomatch z⟩⟩
    · refine ⟨_, rfl, _, rfl, iteT ⟨_, rfl, fun x dx nx nd ne => ⟨x, dx, v, H, rfl, Mkg.new nx nd, ?_⟩⟩⟩
      rcases h with ⟨bad, q⟩ | ⟨nr, xs, rs, okA, fewA, h⟩
      · exact .inl ⟨bad, fun d H' s' hd nd' => ⟨true, G.ex, fun _ a ha => ⟨_, rfl, rfl, rfl, d, _, rfl, hd, fun H2 s2 => ⟨_, rfl, q H2 (s'.trans s2)⟩⟩, fun z => nomatch z⟩⟩
      refine .inr ⟨nr, xs, rs, okA, fewA, ?_⟩
      rcases h with ⟨bad, q⟩ | ⟨good, fits, q⟩
      · exact .inl ⟨bad, fun d H' s' hd nd' => ⟨true, G.ex, fun _ a ha => ⟨_, rfl, rfl, rfl, d, _, rfl, hd, fun H2 s2 => ⟨_, rfl, q H2 (s'.trans s2)⟩⟩, fun z => nomatch z⟩⟩
      · exact .inr ⟨good, fits, fun H' ro s' => ⟨rfl, ⟨_, rfl, q H' s'⟩⟩⟩
end
end LK

namespace LR
open PySem PySem.Spec PyProof.Rows L2
/-- {x} in an f-string, x of a class with its own __str__ -/
def tFmtOwn (C : Addr) (sp : Sp) (E : XK) (te : TE) : TE := fun σ H Q => te σ H fun x H1 => ∃ a dx fs, x = V.ref a ∧ H1 a = some (.ins C dx fs) ∧ sp [V.ref a] H1 (fun v H' => ∃ z : Str, v = .str z ∧ Q (.str z) H') E
section
variable {X : Cx} {CX : CXT} {n : Nat} {f C : Addr} {fd : FuncData} {ps : List Str} {sp : Sp} {E : XK} {e : Expr} {te : TE} {pos : Pos}
theorem pe_fmtOwn (he : PE X e te) (F : FnOk X.prog X.w X.K X.mg X.base CX n f fd ps sp) (hs : PySem.W.findIn X.K (.ref C) "__str__" = some (some (.ref f))) (hf : PySem.W.isFn X.K (.ref f) = true) (fm : PySem.W.findIn X.K (.ref C) "__format__" = some (some (.builtin "object.__format__")))
    (ob : PySem.W.mroIn X.K C (.type "object") = some true) (hb : Binds X.K fd ps []) (hx : Passes CX X E) (hr : Room (n + 1) X.A) : PE X (.FormattedValue e (-1) none pos) (tFmtOwn C sp E te) := by
  refine ⟨fun pins s σ H Q I h => wpAny_FormattedValue_plain (thn (he.run pins s σ H _ I h) fun v s1 got => ?_)⟩
  obtain ⟨x, H1, I1, r1, a, dx, fs, rfl, ha, q⟩ := got
  obtain rfl : v = Value.ref a := r1
  obtain ⟨mA, J, _⟩ := ins_get I1.hok ha
  obtain ⟨od, J, _⟩ := J.look
  have I2 : Inv X pins σ H1 { s1 with toks := s1.toks + 1 } := I1.tok _
  refine PySem.W.kfo_fieldS hr.in1.units0 I1.kIn J fm ob hs hf ?_
  refine wpAny_mono (call_run (A := X.A.in1) ⟨hr.in1, rfl⟩ F hb hx I2 (.cons (show RelV (V.ref a) (Value.ref a) from rfl) .nil) q) (fun w s' g => ?_) fun _ _ z => z
  obtain ⟨y, H', I', ry, z, rfl, g⟩ := g
  obtain ⟨t, rfl⟩ := ry
  exact ⟨.str z, H', I', ⟨_, rfl⟩, g⟩
end
end LR

namespace LK
open PySem PySem.Spec PyProof.Rows L2 LR
/-! ### the line of a row that sets a name -/
def sgN : Nat → Str
  | 0 => "="
  | 1 => "|="
  | _ => "&="
structure SgD (K : PySem.W.Frag) (w : World) (mg : Str → Option Value) (dS : Addr) : Prop where
  g : mg "SETTING_SIGNS" = some (.ref dS)
  d : ∃ es n, KDict K w dS es n
  at_ : ∀ k, k < 3 → ∃ t, PySem.W.nsIn K dS (kdN k) = some (some (.str (sgN k) t))
  no : ∀ k, 3 ≤ k → k < 6 → PySem.W.nsIn K dS (kdN k) = some none
def lineS (k : Nat) (x e : Str) : Str := Str.empty ++ x ++ " " ++ sgN k ++ " " ++ e
def spLines0 (K : PySem.W.Frag) (C cS : Addr) (cR : Nat → Addr) (k : Nat) : Sp := fun vs H Q _ => ∃ (v : V) (n kk : Nat) (z : Str) (m : Md), vs = [v] ∧ RwO K C cS cR n H (.set kk z m) v ∧ sz m ≤ k ∧ (cp m).length ≤ 500 ∧
  ∀ (p : Addr) (y : Str) H', TL.tl y = cp m → Same H H' → H' p = some (.lst [.str (lineS (kiR (.set kk z m)) z y)]) → Q (.ref p) H'
def spRowStr0 (K : PySem.W.Frag) (C cS : Addr) (cR : Nat → Addr) (k : Nat) : Sp := fun vs H Q _ => ∃ (v : V) (n kk : Nat) (z : Str) (m : Md), vs = [v] ∧ RwO K C cS cR n H (.set kk z m) v ∧ sz m ≤ k ∧ (cp m).length ≤ 500 ∧
  ∀ (y : Str) H', TL.tl y = cp m → Same H H' → Q (.str (lineS (kiR (.set kk z m)) z y)) H'
theorem kiS_lt (kk : Nat) (z : Str) (m : Md) : kiR (.set kk z m) < 3 := by
  match kk with
  | 0 => show (0 : Nat) < 3; decide
  | 1 => show (1 : Nat) < 3; decide
  | kk + 2 => show (2 : Nat) < 3; decide
theorem sg_len : ∀ k, (sgN k).length ≤ 2
  | 0 => by decide +kernel
  | 1 => by decide +kernel
  | k + 2 => by show ("&=" : Str).length ≤ 2; decide +kernel
theorem empty_len : (Str.empty).length = 0 := rfl
section
variable {P : Program} {w : World} {K : PySem.W.Frag} {mg : Str → Option Value} {base : Heap}
theorem scRL : FnScope ["row"] ["row"] (defScope sRowLines) := ⟨rfl, rfl, rfl, by decide +kernel, rfl, by decide +kernel, by decide +kernel⟩
theorem ok_lines0 {C cS cRow dS fS f : Addr} {cR : Nat → Addr} {fdS fd : FuncData} {k n : Nat} (S : Std mg) (r : RwK K mg C cS cRow cR) (D : SgD K w mg dS) (T : StrO K C sExprStr "Expr.__str__" fS fdS) (fm : PySem.W.findIn K (.ref C) "__format__" = some (some (.builtin "object.__format__"))) (ob : PySem.W.mroIn K C (.type "object") = some true)
    (GT : FnOk P w K mg base CX0 n fS fdS ["self"] (spTextR K C cS k)) (F : Fun K "row_lines" "row_lines" sRowLines f fd) : FnOk P w K mg base CX0 (n + 2) f fd ["row"] (spLines0 K C cS cR k) := by
  refine F.ok scRL (fun vs H Q E h => ?_) (fun cdv A outer s H vs Q E hr h => ?_)
  · obtain ⟨v, n, kk, z, m, rfl, _⟩ := h
    rfl
  · obtain ⟨v, n', kk, z, m, rfl, ro, few, short, q⟩ := h
    obtain ⟨es, nn, kd⟩ := D.d
    refine ⟨_, pss_cons (ps_if (pt_cmpR (op_in_kd kd) (pe_fld (pv 0) rfl) (pe_glob (v := .ref dS) rfl D.g rfl) (by rfl))
        (pss_one (ps_ret (pe_lst (pa_cons (pe_joined (.cons (pe_fmt (pe_fld (pv 0) rfl)) (.cons pe_str (.cons (pe_fmt (pe_ix ix_kdict (pe_glob (v := .ref dS) rfl D.g rfl) (pe_fld (pv 0) rfl) (fun _ _ => rfl))) (.cons pe_str (.cons (pe_fmtOwn (E := E0) (pe_fld (pv 0) rfl) GT T.at_ T.fn fm ob T.b pass0 hr) .nil)))))) pa_nil)))) pss_nil)
      (pss_cons ps_never (pss_cons ps_never (pss_one ps_never))), ?_⟩
    obtain ⟨xs, f⟩ := ro.fld
    have lt3 := kiS_lt kk z m
    have rc := r.c _ (Nat.lt_trans lt3 (by decide))
    obtain ⟨a, dx, T', I, q1, q2, own, ys, bs, ks, rfl, ha, _, _, _, _, _, _, e, ne, rfl, ok, ex, _⟩ := f
    have xp := r.xp _ lt3
    have nm := r.nm _ lt3
    obtain ⟨tk, at_⟩ := D.at_ _ lt3
    have sl := sg_len (kiR (.set kk z m))
    generalize ek : kiR (.set kk z m) = ki at *
    have zl := ok.len
    refine ⟨_, rfl, a, cR ki, dx, _, _, rfl, ha, rc.cl, rc.kind, rfl, _, _, rfl, rfl, at_, _, rfl, iteT ?_⟩
    refine ⟨_, rfl, a, cR ki, dx, _, _, rfl, ha, rc.cl, nm, rfl, .inl ⟨z, rfl, by rw [sizeLine_eq]; omega, ?_⟩⟩
    have l0 : (Str.empty ++ z).length ≤ 4 := by rw [len_app, empty_len]; omega
    refine ⟨z, rfl, by rw [sizeLine_eq]; omega, ?_⟩
    have s1 : (" " : Str).length = 1 := by decide +kernel
    have l1 : (Str.empty ++ z ++ " ").length ≤ 5 := by rw [len_app, s1]; omega
    refine ⟨_, rfl, by rw [sizeLine_eq]; omega, ?_⟩
    refine ⟨_, rfl, a, cR ki, dx, _, _, rfl, ha, rc.cl, rc.kind, rfl, dS, _, .str (sgN ki), rfl, rfl, ⟨es, nn, _, kd.at_, kd.lit, at_, ⟨_, rfl⟩⟩, .inl ⟨sgN ki, rfl, by rw [sizeLine_eq]; omega, ?_⟩⟩
    have l2 : (Str.empty ++ z ++ " " ++ sgN ki).length ≤ 7 := by rw [len_app]; omega
    refine ⟨_, rfl, by rw [sizeLine_eq]; omega, ?_⟩
    have l3 : (Str.empty ++ z ++ " " ++ sgN ki ++ " ").length ≤ 8 := by rw [len_app, s1]; omega
    refine ⟨_, rfl, by rw [sizeLine_eq]; omega, ?_⟩
    obtain ⟨b, d2, fs2, rfl, hb⟩ := ex.ins
    refine ⟨_, rfl, a, cR ki, dx, _, _, rfl, ha, rc.cl, xp, rfl, b, d2, _, rfl, hb, m, _, rfl, exR_low ex few, by omega, fun y H1 hy s1 => ⟨y, rfl, y, rfl, ?_, ?_⟩⟩
    · have e1 : y.length = (cp m).length := by rw [TL.len_tl, hy]
      rw [len_app, sizeLine_eq]
      omega
    · refine ⟨by show 1 ≤ sizeLine; decide, fun p hp => ?_⟩
      exact q p y _ hy (s1.trans (same_new hp)) upd_same
theorem scRStr : FnScope ["self"] ["self"] (defScope sRowStr) := ⟨rfl, rfl, rfl, by decide +kernel, rfl, by decide +kernel, by decide +kernel⟩
theorem ok_rowStr0 {C cS fL f : Addr} {cR : Nat → Addr} {fdL fd : FuncData} {k n : Nat} (L : Df K mg "row_lines" sRowLines fL fdL ["row"]) (GL : FnOk P w K mg base CX0 n fL fdL ["row"] (spLines0 K C cS cR k)) (F : Fun K "__str__" "Row.__str__" sRowStr f fd) : FnOk P w K mg base CX0 (n + 1) f fd ["self"] (spRowStr0 K C cS cR k) := by
  refine F.ok scRStr (fun vs H Q E h => ?_) (fun cdv A outer s H vs Q E hr h => ?_)
  · obtain ⟨v, n, kk, z, m, rfl, _⟩ := h
    rfl
  · obtain ⟨v, n', kk, z, m, rfl, ro, few, short, q⟩ := h
    refine ⟨_, pss_one (ps_ret (pe_join pe_str (pe_call GL hr rfl L.g L.F.kp L.b .nil pass0 (pa_cons (pv 0) pa_nil)))), ?_⟩
    refine ⟨⟨_, rfl⟩, _, rfl, v, n', kk, z, m, rfl, ro, few, short, fun p y H' hy s1 hp => ⟨_, _, [lineS (kiR (.set kk z m)) z y], rfl, rfl, .inl (SqL.of hp), ?_, ?_⟩⟩
    · have e1 : y.length = (cp m).length := by rw [TL.len_tl, hy]
      have zl : z.length ≤ 4 := by
        obtain ⟨xs, a, dx, T', I, q1, q2, own, ys, bs, ks, rfl, ha, _, _, _, _, _, _, e, ne, rfl, ok, _⟩ := ro.fld
        exact ok.len
      have sl := sg_len (kiR (.set kk z m))
      have s2 : (" " : Str).length = 1 := by decide +kernel
      have : (lineS (kiR (.set kk z m)) z y).length ≤ 600 := by
        unfold lineS
        rw [len_app, len_app, len_app, len_app, len_app, empty_len, s2]
        omega
      simp only [List.map_cons, List.map_nil, List.sum_cons, List.sum_nil, List.length_cons, List.length_nil]
      have nl : ("\n" : Str).length = 1 := by decide +kernel
      rw [nl]
      omega
    · have e : Txt.join "\n" [lineS (kiR (.set kk z m)) z y] = lineS (kiR (.set kk z m)) z y := by
        refine str_cps ?_
        show TL.tl _ = TL.tl _
        rw [TL.join_eq, TL.tl_join]
        rfl
      rw [e]
      exact q y H' hy s1
end
end LK

namespace LK
open PySem PySem.Spec PyProof.Rows L2 LR
/-! ### what stands, the source aside -/
def Dl (l c : Addr) (H : Hp) : Hp := L2.del (L2.del H l) c
section
variable {l c b : Addr} {H H' : Hp}
theorem dl_at (n1 : b ≠ l) (n2 : b ≠ c) : Dl l c H b = H b := by
  unfold Dl
  rw [del_ne n2, del_ne n1]
theorem dl_some {o : HO} (h : Dl l c H b = some o) : b ≠ l ∧ b ≠ c ∧ H b = some o := by
  unfold Dl at h
  by_cases h2 : b = c
  · rw [h2, del_same] at h
    cases h
  rw [del_ne h2] at h
  by_cases h1 : b = l
  · rw [h1, del_same] at h
    cases h
  rw [del_ne h1] at h
  exact ⟨h1, h2, h⟩
theorem dl_same : Same (Dl l c H) H := fun b o e => (dl_some e).2.2
theorem dl_kp (k : Kp l c H H') : Same (Dl l c H) (Dl l c H') := fun b o e => by
  obtain ⟨n1, n2, h⟩ := dl_some e
  rw [dl_at n1 n2]
  exact k b o n1 n2 h
theorem dl_up (s : Same H H') : Same (Dl l c H) (Dl l c H') := dl_kp (Kp.same s)
theorem dl_tr (f : Deal H l c) : Tr H (Dl l c H) := by
  obtain ⟨ns, d, h1, h2, _⟩ := f
  exact ⟨fun b C dx fs h => by rw [dl_at (ne_of h h1 (by intro z; cases z)) (ne_of h h2 (by intro z; cases z))]; exact h, fun b xs h => by rw [dl_at (ne_of h h1 (by intro z; cases z)) (ne_of h h2 (by intro z; cases z))]; exact h, fun b o xs h => by rw [dl_at (ne_of h h1 (by intro z; cases z)) (ne_of h h2 (by intro z; cases z))]; exact h⟩
end
/-! ### values that do not fit -/
/-- no name -/
def NN (K : PySem.W.Frag) (H : Hp) (v : V) : Prop := Seen K H v ∧ nameB v = false
/-- what is known of the built-in types beside a class -/
structure Out (K : PySem.W.Frag) (C : Addr) : Prop where
  i : PySem.W.kitOne K (.type "int") (.ref C) = some false
  b : PySem.W.kitOne K (.type "bool") (.ref C) = some false
  n : PySem.W.kitOne K (.type "NoneType") (.ref C) = some false
  s : PySem.W.kitOne K (.type "str") (.ref C) = some false
  t : PySem.W.kitOne K (.type "tuple") (.ref C) = some false
  l : PySem.W.kitOne K (.type "list") (.ref C) = some false
section
variable {K : PySem.W.Frag} {mg : Str → Option Value} {C cS cRow : Addr} {cR : Nat → Addr} {H H' : Hp}
theorem NN.same {v : V} (s : Same H H') (h : NN K H v) : NN K H' v := ⟨seen_same s h.1, h.2⟩
theorem seen_int (i : Int) : Seen K H (.int i) := .inr ⟨(fun z e => by cases e), _, .base (.int i), kit_ty (by decide +kernel)⟩
theorem seen_bl (b : Bool) : Seen K H (.bl b) := .inr ⟨(fun z e => by cases e), _, .base (.bl b), kit_ty (by decide +kernel)⟩
theorem seen_non : Seen K H .non := .inr ⟨(fun z e => by cases e), _, .base .non, kit_ty (by decide +kernel)⟩
theorem seen_tup {a : Addr} {xs : List V} (h : SqT K H a xs) : Seen K H (.ref a) := .inr ⟨(fun z e => by cases e), _, sqT_ty h, kit_ty (by decide +kernel)⟩
theorem seen_lst {a : Addr} {xs : List V} (h : H a = some (.lst xs)) : Seen K H (.ref a) := .inr ⟨(fun z e => by cases e), _, .base (.lst h), kit_ty (by decide +kernel)⟩
theorem seen_exp (c : OwnCl K mg "Expr" C) {n : Nat} {m : Md} {v : V} (h : ExR K C cS n H m v) : Seen K H v := by
  obtain ⟨a, dx, fs, rfl, ha⟩ := h.ins
  exact .inr ⟨(fun z e => by cases e), _, c.ty ha, c.ns⟩
theorem seen_row (k : RwK K mg C cS cRow cR) {n : Nat} {r : Rw} {v : V} (h : RwO K C cS cR n H r v) : Seen K H v := by
  obtain ⟨xs, f⟩ := h.fld
  obtain ⟨a, dx, fs, rfl, ha⟩ := f.ins
  exact .inr ⟨(fun z e => by cases e), _, k.ty (kiR_lt r) ha, k.nst _ (kiR_lt r)⟩
theorem NN.int (i : Int) : NN K H (.int i) := ⟨seen_int i, rfl⟩
theorem NN.bl (b : Bool) : NN K H (.bl b) := ⟨seen_bl b, rfl⟩
theorem NN.non : NN K H .non := ⟨seen_non, rfl⟩
theorem NN.str {z : Str} (l : z.length ≤ 1000) (h : nameB (.str z) = false) : NN K H (.str z) := ⟨seen_str l, h⟩
theorem NN.tup {a : Addr} {xs : List V} (h : SqT K H a xs) : NN K H (.ref a) := ⟨seen_tup h, rfl⟩
theorem NN.lst {a : Addr} {xs : List V} (h : H a = some (.lst xs)) : NN K H (.ref a) := ⟨seen_lst h, rfl⟩
theorem NN.exp (c : OwnCl K mg "Expr" C) {n : Nat} {m : Md} {v : V} (h : ExR K C cS n H m v) : NN K H v := ⟨seen_exp c h, by
  obtain ⟨a, dx, fs, rfl, ha⟩ := h.ins
  rfl⟩
theorem NN.row (k : RwK K mg C cS cRow cR) {n : Nat} {r : Rw} {v : V} (h : RwO K C cS cR n H r v) : NN K H v := ⟨seen_row k h, by
  obtain ⟨xs, f⟩ := h.fld
  obtain ⟨a, dx, fs, rfl, ha⟩ := f.ins
  rfl⟩
variable (o : Out K C)
include o
theorem EvBad.int (i : Int) : EvBad K C H (.int i) := ⟨_, .base (.int i), o.i, seen_int i, rfl⟩
theorem EvBad.bl (b : Bool) : EvBad K C H (.bl b) := ⟨_, .base (.bl b), o.b, seen_bl b, rfl⟩
theorem EvBad.non : EvBad K C H .non := ⟨_, .base .non, o.n, seen_non, rfl⟩
theorem EvBad.str {z : Str} (l : z.length ≤ 1000) (h : nameB (.str z) = false) : EvBad K C H (.str z) := ⟨_, .base (.str z), o.s, seen_str l, h⟩
theorem EvBad.tup {a : Addr} {xs : List V} (h : SqT K H a xs) : EvBad K C H (.ref a) := ⟨_, sqT_ty h, o.t, seen_tup h, rfl⟩
theorem EvBad.lst {a : Addr} {xs : List V} (h : H a = some (.lst xs)) : EvBad K C H (.ref a) := ⟨_, .base (.lst h), o.l, seen_lst h, rfl⟩
omit o in
theorem EvBad.row (k : RwK K mg C cS cRow cR) {n : Nat} {r : Rw} {v : V} (h : RwO K C cS cR n H r v) : EvBad K C H v := by
  obtain ⟨xs, f⟩ := h.fld
  obtain ⟨a, dx, fs, rfl, ha⟩ := f.ins
  exact ⟨_, k.ty (kiR_lt r) ha, k.nE _ (kiR_lt r), seen_row k h, rfl⟩
end
section
variable {K : PySem.W.Frag} {mg : Str → Option Value} {C cS cRow : Addr} {cR : Nat → Addr} {H H' : Hp}
theorem no_seq {v : V} {t : Value} (ty : TyX K H v t) (h1 : PySem.W.kitOne K t (.type "list") = some false) (h2 : PySem.W.kitOne K t (.type "tuple") = some false) : RowsBad K cRow H v := .inl ⟨t, ty, kitLT h1 h2⟩
theorem RowsBad.non : RowsBad K cRow H .non := no_seq (.base .non) (kit_ty (by decide +kernel)) (kit_ty (by decide +kernel))
theorem RowsBad.int (i : Int) : RowsBad K cRow H (.int i) := no_seq (.base (.int i)) (kit_ty (by decide +kernel)) (kit_ty (by decide +kernel))
theorem RowsBad.bl (b : Bool) : RowsBad K cRow H (.bl b) := no_seq (.base (.bl b)) (kit_ty (by decide +kernel)) (kit_ty (by decide +kernel))
theorem RowsBad.str (z : Str) : RowsBad K cRow H (.str z) := no_seq (.base (.str z)) (kit_ty (by decide +kernel)) (kit_ty (by decide +kernel))
theorem RowsBad.exp (c : OwnCl K mg "Expr" C) {n : Nat} {m : Md} {v : V} (h : ExR K C cS n H m v) : RowsBad K cRow H v := by
  obtain ⟨a, dx, fs, rfl, ha⟩ := h.ins
  exact no_seq (c.ty ha) c.nl c.nt
theorem RowsBad.row (k : RwK K mg C cS cRow cR) {n : Nat} {r : Rw} {v : V} (h : RwO K C cS cR n H r v) : RowsBad K cRow H v := by
  obtain ⟨xs, f⟩ := h.fld
  obtain ⟨a, dx, fs, rfl, ha⟩ := f.ins
  exact no_seq (k.ty (kiR_lt r) ha) (k.nli _ (kiR_lt r)) (k.ntu _ (kiR_lt r))
/-- a sequence with something that is no row -/
theorem RowsBad.seq {a : Addr} {xs : List V} (bs : List Bool) (h : SeqV K H a xs) (few : xs.length ≤ 1000) (lb : bs.length = xs.length) (g : ∀ (i : Nat) x b, xs[i]? = some x → bs[i]? = some b → RowIs K cRow H x b) (no : bs.all id = false) : RowsBad K cRow H (.ref a) := .inr ⟨a, xs, bs, rfl, h, few, lb, g, no⟩
theorem RowsBad.one {a : Addr} {x : V} (h : SeqV K H a [x]) (g : RowIs K cRow H x false) : RowsBad K cRow H (.ref a) :=
  RowsBad.seq [false] h (by show 1 ≤ 1000; decide) rfl (fun i y b h1 h2 => by
    match i with
    | 0 => cases h1; cases h2; exact g
    | i + 1 => simp at h1) rfl
theorem RowsBad.two {a : Addr} {x y : V} {b1 b2 : Bool} (h : SeqV K H a [x, y]) (g1 : RowIs K cRow H x b1) (g2 : RowIs K cRow H y b2) (no : (b1 && b2) = false) : RowsBad K cRow H (.ref a) :=
  RowsBad.seq [b1, b2] h (by show 2 ≤ 1000; decide) rfl (fun i y b h1 h2 => by
    match i with
    | 0 => cases h1; cases h2; exact g1
    | 1 => cases h1; cases h2; exact g2
    | i + 2 => simp at h1) (by cases b1 <;> cases b2 <;> first | rfl | cases no)
end
/-! ### texts that are no names -/
theorem nameB_eq (z : Str) : nameB (.str z) = (decide ((1 : Int) ≤ z.length) && (decide ((z.length : Int) ≤ 4) && (!inV (.str z) keptW && lowB z))) := rfl
theorem long_no {z : Str} (h : 4 < z.length) : nameB (.str z) = false := by
  rw [nameB_eq, decide_eq_false (show ¬ (z.length : Int) ≤ 4 by omega)]
  simp
theorem high_no {z : Str} {ch : Nat} (h : ch ∈ TL.tl z) (no : ch ∉ TL.tl letters) : nameB (.str z) = false := by
  have e : lowB z = false := by
    unfold lowB
    rw [List.all_eq_false]
    exact ⟨ch, h, by simpa [TL.tl] using no⟩
  rw [nameB_eq, e]
  simp
end LK

namespace LK
open PySem PySem.Spec PyProof.Rows L2 LR
def spNoNames (K : PySem.W.Frag) (C cS : Addr) (cR : Nat → Addr) : Sp := fun vs H Q _ => ∃ (l c : Addr) (z : Str) (ev rv : V) (n n' : Nat) (m : Md) (r : Rw), vs = [.ref l, .str z, ev, rv] ∧ Deal H l c ∧ NameOk z ∧ ExR K C cS n (Dl l c H) m ev ∧ RwO K C cS cR n' (Dl l c H) r rv ∧
  ∀ (p : Addr) (xs : List V) H', Same H H' → H p = none → H' p = some (.lst xs) → xs.length = 18 → (∀ x ∈ xs, NN K (Dl l c H') x) → Q (.ref p) H'
def spNoExprs (K : PySem.W.Frag) (C cS : Addr) (cR : Nat → Addr) : Sp := fun vs H Q _ => ∃ (l c : Addr) (z : Str) (ev rv : V) (n n' : Nat) (m : Md) (r : Rw), vs = [.ref l, .str z, ev, rv] ∧ Deal H l c ∧ NameOk z ∧ ExR K C cS n (Dl l c H) m ev ∧ RwO K C cS cR n' (Dl l c H) r rv ∧
  ∀ (p : Addr) (xs : List V) H', Same H H' → H p = none → H' p = some (.lst xs) → xs.length = 11 → (∀ x ∈ xs, EvBad K C (Dl l c H') x) → Q (.ref p) H'
def spNoRows (K : PySem.W.Frag) (C cS cRow : Addr) (cR : Nat → Addr) (k : Nat) : Sp := fun vs H Q _ => ∃ (l c : Addr) (z : Str) (ev rv : V) (n n' : Nat) (m : Md) (zr : Str) (mr : Md), vs = [.ref l, .str z, ev, rv] ∧ Deal H l c ∧ NameOk z ∧ ExR K C cS n (Dl l c H) m ev ∧ RwO K C cS cR n' (Dl l c H) (.set 1 zr mr) rv ∧ sz mr ≤ k ∧ (cp mr).length ≤ 500 ∧
  ∀ (p : Addr) (xs : List V) H', Same H H' → H p = none → H' p = some (.lst xs) → xs.length = 13 → (∀ x ∈ xs, RowsBad K cRow (Dl l c H') x) → Q (.ref p) H'
theorem mem_tl {z : Str} {a : Nat} {r : List Nat} (h : TL.tl z = a :: r) : a ∈ TL.tl z := by rw [h]; exact List.mem_cons_self
section
variable {P : Program} {w : World} {K : PySem.W.Frag} {mg : Str → Option Value} {base : Heap}
def p4 : List Str := ["_law_deal", "_law_name", "_law_expr", "_law_row"]
theorem scNN : FnScope p4 p4 (defScope sNoNames) := ⟨rfl, rfl, rfl, by decide +kernel, rfl, by decide +kernel, by decide +kernel⟩
theorem ok_noNames {C cS cRow f : Addr} {cR : Nat → Addr} {fd : FuncData} (k : RwK K mg C cS cRow cR) (cE : OwnCl K mg "Expr" C) (F : Fun K "_law_no_names" "_law_no_names" sNoNames f fd) : FnOk P w K mg base CX0 1 f fd p4 (spNoNames K C cS cR) := by
  refine F.ok scNN (fun vs H Q E h => ?_) (fun cdv A outer s H vs Q E hr h => ?_)
  · obtain ⟨_, _, _, _, _, _, _, _, _, rfl, _⟩ := h
    rfl
  · obtain ⟨l, c, z, ev, rv, n, n', m, r, rfl, hf, ok, ex, ro, q⟩ := h
    refine ⟨_, pss_one (ps_ret (pe_lst (pa_cons pe_int (pa_cons (pe_un un_neg pe_int) (pa_cons pe_bl (pa_cons pe_non (pa_cons pe_str (pa_cons (pe_op op_add_str (pv 1) pe_str) (pa_cons (pe_op op_add_str (pe_slice sl_str (pv 1) po_none (po_some pe_int)) pe_str) (pa_cons pe_str (pa_cons pe_str (pa_cons pe_str (pa_cons pe_str (pa_cons pe_str (pa_cons pe_str (pa_cons pe_str
      (pa_cons (pe_tup (pa_cons (pv 1) pa_nil)) (pa_cons (pe_lst (pa_cons (pv 1) pa_nil)) (pa_cons (pv 2) (pa_cons (pv 3) pa_nil)))))))))))))))))))), ?_⟩
    have zl := ok.len
    have l4 : ("abcd" : Str).length = 4 := by decide +kernel
    have l1 : ("A" : Str).length = 1 := by decide +kernel
    have cl := cutS_length z none (some 3)
    refine ⟨1, rfl, _, rfl, _, _, rfl, rfl, by rw [l4, sizeLine_eq]; omega, _, rfl, 3, rfl, z, rfl, by rw [sizeLine_eq]; omega, _, _, rfl, rfl, by rw [l1, sizeLine_eq]; omega, _, rfl, by show 1 ≤ sizeLine; decide, fun T hT => ⟨_, rfl, by show 1 ≤ sizeLine; decide, fun L hL => ⟨_, rfl, _, rfl, by show 18 ≤ sizeLine; decide, fun p hp => ?_⟩⟩⟩
    have s1 := same_new (o := .tup [.str z]) hT
    have hT1 : (upd H T (.tup [.str z])) T = some (.tup [.str z]) := upd_same
    have f1 := hf.same s1
    generalize upd H T (.tup [.str z]) = H1 at s1 hT1 f1 hL hp ⊢
    have nL := f1.ne hL
    have s2 := same_new (o := .lst [.str z]) hL
    have hL2 : (upd H1 L (.lst [.str z])) L = some (.lst [.str z]) := upd_same
    have f2 := f1.same s2
    have hT2 := s2 _ _ hT1
    have s12 := s1.trans s2
    generalize upd H1 L (.lst [.str z]) = H2 at s12 hT2 hL2 f2 hp ⊢
    have s3 := s12.trans (same_new (o := .lst [.int 5, .int (-1), .bl true, .non, .str "", .str (z ++ "abcd"), .str (cutS z none (some 3) ++ "A"), .str "if", .str "else", .str "end", .str "a1", .str " a", .str "a ", .str "a\n", .ref T, .ref L, ev, rv]) hp)
    refine q p _ _ s3 (s12.free hp) upd_same rfl fun x hx => NN.same (H := Dl l c H2) (dl_up (same_new hp)) ?_
    simp only [List.mem_cons, List.not_mem_nil, or_false] at hx
    have e3 := exR_tr (Tr.same (dl_up (l := l) (c := c) s12)) ex
    have r3 := rwO_tr (Tr.same (dl_up (l := l) (c := c) s12)) ro
    rcases hx with rfl | rfl | rfl | rfl | rfl | rfl | rfl | rfl | rfl | rfl | rfl | rfl | rfl | rfl | rfl | rfl | rfl | rfl
    · exact NN.int _
    · exact NN.int _
    · exact NN.bl _
    · exact NN.non
    · exact NN.str (by decide +kernel) (by decide +kernel)
    · have e : (z ++ "abcd").length = z.length + 4 := by rw [len_app, l4]
      have := ok.pos
      exact NN.str (by omega) (long_no (by omega))
    · have e : (cutS z none (some 3) ++ "A").length = (cutS z none (some 3)).length + 1 := by rw [len_app, l1]
      refine NN.str (by omega) (high_no (ch := 65) ?_ (by decide +kernel))
      rw [tl_app]
      exact List.mem_append_right _ (by decide +kernel)
    · exact NN.str (by decide +kernel) (by decide +kernel)
    · exact NN.str (by decide +kernel) (by decide +kernel)
    · exact NN.str (by decide +kernel) (by decide +kernel)
    · exact NN.str (by decide +kernel) (by decide +kernel)
    · exact NN.str (by decide +kernel) (by decide +kernel)
    · exact NN.str (by decide +kernel) (by decide +kernel)
    · exact NN.str (by decide +kernel) (by decide +kernel)
    · exact NN.tup (SqT.of ((dl_tr f2).tup _ _ hT2))
    · exact NN.lst ((dl_at nL.1 nL.2).trans hL2)
    · exact NN.exp cE e3
    · exact NN.row k r3
theorem scNE : FnScope p4 p4 (defScope sNoExprs) := ⟨rfl, rfl, rfl, by decide +kernel, rfl, by decide +kernel, by decide +kernel⟩
theorem ok_noExprs {C cS cRow f : Addr} {cR : Nat → Addr} {fd : FuncData} (k : RwK K mg C cS cRow cR) (o : Out K C) (F : Fun K "_law_no_exprs" "_law_no_exprs" sNoExprs f fd) : FnOk P w K mg base CX0 1 f fd p4 (spNoExprs K C cS cR) := by
  refine F.ok scNE (fun vs H Q E h => ?_) (fun cdv A outer s H vs Q E hr h => ?_)
  · obtain ⟨_, _, _, _, _, _, _, _, _, rfl, _⟩ := h
    rfl
  · obtain ⟨l, c, z, ev, rv, n, n', m, r, rfl, hf, ok, ex, ro, q⟩ := h
    refine ⟨_, pss_one (ps_ret (pe_lst (pa_cons pe_int (pa_cons pe_bl (pa_cons pe_non (pa_cons pe_str (pa_cons (pe_op op_add_str (pv 1) pe_str) (pa_cons pe_str (pa_cons pe_str (pa_cons (pe_op op_add_str (pv 1) pe_str)
      (pa_cons (pe_tup (pa_cons (pv 2) pa_nil)) (pa_cons (pe_lst (pa_cons (pv 2) pa_nil)) (pa_cons (pv 3) pa_nil))))))))))))), ?_⟩
    have zl := ok.len
    have l4 : ("abcd" : Str).length = 4 := by decide +kernel
    have l1 : (" " : Str).length = 1 := by decide +kernel
    refine ⟨_, rfl, _, _, rfl, rfl, by rw [l4, sizeLine_eq]; omega, _, rfl, _, _, rfl, rfl, by rw [l1, sizeLine_eq]; omega, _, rfl, by show 1 ≤ sizeLine; decide, fun T hT => ⟨_, rfl, by show 1 ≤ sizeLine; decide, fun L hL => ⟨_, rfl, by show 11 ≤ sizeLine; decide, fun p hp => ?_⟩⟩⟩
    have s1 := same_new (o := .tup [ev]) hT
    have hT1 : (upd H T (.tup [ev])) T = some (.tup [ev]) := upd_same
    have f1 := hf.same s1
    generalize upd H T (.tup [ev]) = H1 at s1 hT1 f1 hL hp ⊢
    have nL := f1.ne hL
    have s2 := same_new (o := .lst [ev]) hL
    have hL2 : (upd H1 L (.lst [ev])) L = some (.lst [ev]) := upd_same
    have f2 := f1.same s2
    have hT2 := s2 _ _ hT1
    have s12 := s1.trans s2
    generalize upd H1 L (.lst [ev]) = H2 at s12 hT2 hL2 f2 hp ⊢
    have s3 := s12.trans (same_new (o := .lst [.int 7, .bl false, .non, .str "", .str (z ++ "abcd"), .str "if", .str "f(x)", .str (z ++ " "), .ref T, .ref L, rv]) hp)
    refine q p _ _ s3 (s12.free hp) upd_same rfl fun x hx => EvBad.same (H := Dl l c H2) (dl_up (same_new hp)) ?_
    simp only [List.mem_cons, List.not_mem_nil, or_false] at hx
    have r3 := rwO_tr (Tr.same (dl_up (l := l) (c := c) s12)) ro
    rcases hx with rfl | rfl | rfl | rfl | rfl | rfl | rfl | rfl | rfl | rfl | rfl
    · exact EvBad.int o _
    · exact EvBad.bl o _
    · exact EvBad.non o
    · exact EvBad.str o (by decide +kernel) (by decide +kernel)
    · have e : (z ++ "abcd").length = z.length + 4 := by rw [len_app, l4]
      have := ok.pos
      exact EvBad.str o (by omega) (long_no (by omega))
    · exact EvBad.str o (by decide +kernel) (by decide +kernel)
    · exact EvBad.str o (by decide +kernel) (by decide +kernel)
    · have e : (z ++ " ").length = z.length + 1 := by rw [len_app, l1]
      refine EvBad.str o (by omega) (high_no (ch := 32) ?_ (by decide +kernel))
      rw [tl_app]
      exact List.mem_append_right _ (by decide +kernel)
    · exact EvBad.tup o (SqT.of ((dl_tr f2).tup _ _ hT2))
    · exact EvBad.lst o ((dl_at nL.1 nL.2).trans hL2)
    · exact EvBad.row k r3
theorem scNR : FnScope p4 p4 (defScope sNoRows) := ⟨rfl, rfl, rfl, by decide +kernel, rfl, by decide +kernel, by decide +kernel⟩
theorem ok_noRows {C cS cRow fS f : Addr} {cR : Nat → Addr} {fdS fd : FuncData} {kk n : Nat} (S : Std mg) (k : RwK K mg C cS cRow cR) (cE : OwnCl K mg "Expr" C) (o : Out K cRow) (oE : PySem.W.kitOne K (.ref C) (.ref cRow) = some false) (hs : PySem.W.findIn K (.ref (cR 1)) "__str__" = some (some (.ref fS))) (hf' : PySem.W.isFn K (.ref fS) = true) (bS : Binds K fdS ["self"] [])
    (GS : FnOk P w K mg base CX0 n fS fdS ["self"] (spRowStr0 K C cS cR kk)) (F : Fun K "_law_no_rows" "_law_no_rows" sNoRows f fd) : FnOk P w K mg base CX0 (n + 3) f fd p4 (spNoRows K C cS cRow cR kk) := by
  refine F.ok scNR (fun vs H Q E h => ?_) (fun cdv A outer s H vs Q E hr h => ?_)
  · obtain ⟨_, _, _, _, _, _, _, _, _, _, rfl, _⟩ := h
    rfl
  · obtain ⟨l, c, z, ev, rv, n1, n', m, zr, mr, rfl, hf, ok, ex, ro, few, short, q⟩ := h
    refine ⟨_, pss_one (ps_ret (pe_lst (pa_cons pe_non (pa_cons pe_int (pa_cons pe_bl (pa_cons pe_str (pa_cons (pe_callTy (call_strOwn (E := E0) GS hs hf' bS pass0 hr) (by rfl) S.str (by decide +kernel) (pa_cons (pv 3) pa_nil)) (pa_cons (pv 3) (pa_cons (pv 2) (pa_cons (pe_lst (pa_cons (pv 2) pa_nil)) (pa_cons (pe_lst (pa_cons (pv 3) (pa_cons pe_non pa_nil)))
      (pa_cons (pe_tup (pa_cons pe_non (pa_cons (pv 3) pa_nil))) (pa_cons (pe_lst (pa_cons (pe_lst (pa_cons (pv 3) pa_nil)) pa_nil)) (pa_cons (pe_tup (pa_cons (pe_callTy (call_strOwn (E := E0) GS hs hf' bS pass0 hr) (by rfl) S.str (by decide +kernel) (pa_cons (pv 3) pa_nil)) pa_nil)) (pa_cons (pe_lst (pa_cons (pv 3) (pa_cons pe_int pa_nil))) pa_nil))))))))))))))), ?_⟩
    obtain ⟨xs0, f0⟩ := ro.fld
    obtain ⟨a, dx, fs, rfl, ha0⟩ := f0.ins
    have ha : H a = some (.ins (cR 1) dx fs) := dl_same _ _ ha0
    have roH : RwO K C cS cR n' H (.set 1 zr mr) (.ref a) := ro.same dl_same
    refine ⟨_, rfl, a, dx, fs, rfl, ha, _, n', 1, zr, mr, rfl, roH, few, short, fun y H1 hy s1 => ⟨_, rfl, ?_⟩⟩
    have f1 := hf.same s1
    refine ⟨_, rfl, _, rfl, _, rfl, by show 1 ≤ sizeLine; decide, fun L1 hL1 => ?_⟩
    have n1' := f1.ne hL1
    have s2 := s1.trans (same_new (o := .lst [ev]) hL1)
    have g1 : (upd H1 L1 (.lst [ev])) L1 = some (.lst [ev]) := upd_same
    have f2 := f1.same (same_new (o := .lst [ev]) hL1)
    generalize upd H1 L1 (.lst [ev]) = H2 at s2 g1 f2 ⊢
    refine ⟨_, rfl, by show 2 ≤ sizeLine; decide, fun L2 hL2 => ?_⟩
    have n2' := f2.ne hL2
    have s3 := s2.trans (same_new (o := .lst [.ref a, .non]) hL2)
    have g2 : (upd H2 L2 (.lst [.ref a, .non])) L2 = some (.lst [.ref a, .non]) := upd_same
    have g1 := same_new (o := .lst [.ref a, .non]) hL2 _ _ g1
    have f3 := f2.same (same_new (o := .lst [.ref a, .non]) hL2)
    generalize upd H2 L2 (.lst [.ref a, .non]) = H3 at s3 g1 g2 f3 ⊢
    refine ⟨_, rfl, by show 2 ≤ sizeLine; decide, fun T1 hT1 => ?_⟩
    have s4 := s3.trans (same_new (o := .tup [.non, .ref a]) hT1)
    have t1 : (upd H3 T1 (.tup [.non, .ref a])) T1 = some (.tup [.non, .ref a]) := upd_same
    have g1 := same_new (o := .tup [.non, .ref a]) hT1 _ _ g1
    have g2 := same_new (o := .tup [.non, .ref a]) hT1 _ _ g2
    have f4 := f3.same (same_new (o := .tup [.non, .ref a]) hT1)
    generalize upd H3 T1 (.tup [.non, .ref a]) = H4 at s4 g1 g2 t1 f4 ⊢
    refine ⟨_, rfl, by show 1 ≤ sizeLine; decide, fun L3 hL3 => ?_⟩
    have n3' := f4.ne hL3
    have s5 := s4.trans (same_new (o := .lst [.ref a]) hL3)
    have g3 : (upd H4 L3 (.lst [.ref a])) L3 = some (.lst [.ref a]) := upd_same
    have g1 := same_new (o := .lst [.ref a]) hL3 _ _ g1
    have g2 := same_new (o := .lst [.ref a]) hL3 _ _ g2
    have t1 := same_new (o := .lst [.ref a]) hL3 _ _ t1
    have f5 := f4.same (same_new (o := .lst [.ref a]) hL3)
    generalize upd H4 L3 (.lst [.ref a]) = H5 at s5 g1 g2 g3 t1 f5 ⊢
    refine ⟨by show 1 ≤ sizeLine; decide, fun L4 hL4 => ?_⟩
    have n4' := f5.ne hL4
    have s6 := s5.trans (same_new (o := .lst [.ref L3]) hL4)
    have g4 : (upd H5 L4 (.lst [.ref L3])) L4 = some (.lst [.ref L3]) := upd_same
    have g1 := same_new (o := .lst [.ref L3]) hL4 _ _ g1
    have g2 := same_new (o := .lst [.ref L3]) hL4 _ _ g2
    have g3 := same_new (o := .lst [.ref L3]) hL4 _ _ g3
    have t1 := same_new (o := .lst [.ref L3]) hL4 _ _ t1
    have f6 := f5.same (same_new (o := .lst [.ref L3]) hL4)
    generalize upd H5 L4 (.lst [.ref L3]) = H6 at s6 g1 g2 g3 g4 t1 f6 ⊢
    refine ⟨_, rfl, a, dx, fs, rfl, s6 _ _ ha, _, n', 1, zr, mr, rfl, roH.same s6, few, short, fun y2 H7 hy2 s7 => ⟨_, rfl, ?_⟩⟩
    have s67 := s6.trans s7
    have f7 := f6.same s7
    have g1 := s7 _ _ g1
    have g2 := s7 _ _ g2
    have g3 := s7 _ _ g3
    have g4 := s7 _ _ g4
    have t1 := s7 _ _ t1
    refine ⟨by show 1 ≤ sizeLine; decide, fun T2 hT2 => ?_⟩
    generalize lineS (kiR (.set 1 zr mr)) zr y2 = u2
    have s8 := s67.trans (same_new (o := .tup [.str u2]) hT2)
    have t2 : (upd H7 T2 (.tup [.str u2])) T2 = some (.tup [.str u2]) := upd_same
    have g1 := same_new (o := .tup [.str u2]) hT2 _ _ g1
    have g2 := same_new (o := .tup [.str u2]) hT2 _ _ g2
    have g3 := same_new (o := .tup [.str u2]) hT2 _ _ g3
    have g4 := same_new (o := .tup [.str u2]) hT2 _ _ g4
    have t1 := same_new (o := .tup [.str u2]) hT2 _ _ t1
    have f8 := f7.same (same_new (o := .tup [.str u2]) hT2)
    generalize upd H7 T2 (.tup [.str u2]) = H8 at s8 g1 g2 g3 g4 t1 t2 f8 ⊢
    refine ⟨_, rfl, by show 2 ≤ sizeLine; decide, fun L5 hL5 => ?_⟩
    have n5' := f8.ne hL5
    have s9 := s8.trans (same_new (o := .lst [.ref a, .int 5]) hL5)
    have g5 : (upd H8 L5 (.lst [.ref a, .int 5])) L5 = some (.lst [.ref a, .int 5]) := upd_same
    have g1 := same_new (o := .lst [.ref a, .int 5]) hL5 _ _ g1
    have g2 := same_new (o := .lst [.ref a, .int 5]) hL5 _ _ g2
    have g3 := same_new (o := .lst [.ref a, .int 5]) hL5 _ _ g3
    have g4 := same_new (o := .lst [.ref a, .int 5]) hL5 _ _ g4
    have t1 := same_new (o := .lst [.ref a, .int 5]) hL5 _ _ t1
    have t2 := same_new (o := .lst [.ref a, .int 5]) hL5 _ _ t2
    have f9 := f8.same (same_new (o := .lst [.ref a, .int 5]) hL5)
    generalize upd H8 L5 (.lst [.ref a, .int 5]) = H9 at s9 g1 g2 g3 g4 g5 t1 t2 f9 ⊢
    generalize lineS (kiR (.set 1 zr mr)) zr y = u1
    refine ⟨by show 13 ≤ sizeLine; decide, fun p hp => ?_⟩
    have s10 := s9.trans (same_new (o := .lst [.non, .int 0, .bl true, .str "", .str u1, .ref a, ev, .ref L1, .ref L2, .ref T1, .ref L4, .ref T2, .ref L5]) hp)
    refine q p _ _ s10 (s9.free hp) upd_same rfl fun x hx => RowsBad.same (H := Dl l c H9) (dl_up (same_new hp)) ?_
    simp only [List.mem_cons, List.not_mem_nil, or_false] at hx
    have e3 := exR_tr (Tr.same (dl_up (l := l) (c := c) s9)) ex
    have r3 := rwO_tr (Tr.same (dl_up (l := l) (c := c) s9)) ro
    have isR := k.isRow r3
    have isN : RowIs K cRow (Dl l c H9) .non false := ⟨_, .base .non, o.n⟩
    have isI : RowIs K cRow (Dl l c H9) (.int 5) false := ⟨_, .base (.int 5), o.i⟩
    rcases hx with rfl | rfl | rfl | rfl | rfl | rfl | rfl | rfl | rfl | rfl | rfl | rfl | rfl
    · exact RowsBad.non
    · exact RowsBad.int _
    · exact RowsBad.bl _
    · exact RowsBad.str _
    · exact RowsBad.str _
    · exact RowsBad.row k r3
    · exact RowsBad.exp cE e3
    · refine RowsBad.one (.inl ((dl_at n1'.1 n1'.2).trans g1)) ?_
      obtain ⟨b, d2, fs2, rfl, hb⟩ := e3.ins
      exact ⟨_, cE.ty hb, oE⟩
    · exact RowsBad.two (.inl ((dl_at n2'.1 n2'.2).trans g2)) isR isN rfl
    · exact RowsBad.two (.inr (SqT.of ((dl_tr f9).tup _ _ t1))) isN isR rfl
    · exact RowsBad.one (.inl ((dl_at n4'.1 n4'.2).trans g4)) ⟨_, .base (.lst ((dl_at n3'.1 n3'.2).trans g3)), o.l⟩
    · exact RowsBad.one (.inr (SqT.of ((dl_tr f9).tup _ _ t2))) ⟨_, .base (.str u2), o.s⟩
    · exact RowsBad.two (.inl ((dl_at n5'.1 n5'.2).trans g5)) isR isI rfl
end
end LK

namespace LK
open PySem PySem.Spec PyProof.Rows L2 LR
/-! ### rows that no loop has -/
def LBad (K : PySem.W.Frag) (C cS : Addr) (cR : Nat → Addr) (H : Hp) (v : V) : Prop := ∃ xs rs, RowsOk K C cS cR 2 H v xs rs ∧ rs.length < 64 ∧ (decide (1 ≤ rs.length) && decide (rs.length ≤ 3) && rs.all mayB) = false
theorem LBad.same {K : PySem.W.Frag} {C cS : Addr} {cR : Nat → Addr} {H H' : Hp} {v : V} (s : Same H H') (h : LBad K C cS cR H v) : LBad K C cS cR H' v := by
  obtain ⟨xs, rs, a, b, c⟩ := h
  exact ⟨xs, rs, a.same s, b, c⟩
theorem PartR.noNon {K : PySem.W.Frag} {C cS : Addr} {n : Nat} {H : Hp} {y : V} {m : Md} (h : PartR K C cS n H y m) : (!decide (y = V.non)) = true := by
  rcases h with h | ⟨z, rfl, _⟩
  · obtain ⟨a, dx, fs, rfl, ha⟩ := h.ins
    rfl
  · rfl
theorem call1_read {K : PySem.W.Frag} {C cS a : Addr} {H : Hp} {z y : Str} {v : V} {m : Md} {n : Nat} {R : V → Hp → Prop} (h : HdS cS H (.st a z y)) (l1 : y.length = 1) (p : PartR K C cS n H v m) (few : sz m ≤ 20) (q : ∀ v' H', Same H H' → ExR K C cS (n + 1) H' (.ap (.st a z y) [m]) v' → R v' H') :
    ∃ (a' : Addr) (v0 v1 v2 : V) (z' y' : Str) (n' : Nat) (xs : List (V × Md)), [V.ref a, v, .non, .non] = [.ref a', v0, v1, v2] ∧ HdS cS H (.st a' z' y') ∧ thereB [v0, v1, v2] = wantB y'.length ∧
      [v0, v1, v2].take y'.length = xs.map (fun e => e.1) ∧ (∀ x ∈ xs, PartR K C cS n' H x.1 x.2) ∧ sz (.ap (.st a' z' y') (xs.map (·.2))) < 64 ∧ ∀ v' H', Same H H' → ExR K C cS (n' + 1) H' (.ap (.st a' z' y') (xs.map (·.2))) v' → R v' H' := by
  refine ⟨a, v, .non, .non, z, y, n, [(v, m)], rfl, h, ?_, ?_, fun x hx => by rw [List.mem_singleton.mp hx]; exact p, ?_, q⟩
  · rw [l1]
    show [!decide (v = V.non), _, _] = _
    rw [p.noNon]
    rfl
  · rw [l1]
    rfl
  · show sz (.ap (.st a z y) [m]) < 64
    rw [sz, szL, szL]
    omega
section
variable {K : PySem.W.Frag} {C cS : Addr} {cR : Nat → Addr} {H : Hp} {n : Nat}
theorem rows0 {a : Addr} (h : SeqV K H a []) : RowsOk K C cS cR n H (.ref a) [] [] := ⟨a, rfl, h, rfl, fun i r x h1 => by simp at h1⟩
theorem rows1 {a : Addr} {x : V} {r : Rw} (h : SeqV K H a [x]) (g : RwO K C cS cR n H r x) : RowsOk K C cS cR n H (.ref a) [x] [r] := ⟨a, rfl, h, rfl, fun i r' y h1 h2 => by
  match i with
  | 0 => cases h1; cases h2; exact g
  | i + 1 => simp at h1⟩
theorem rows2 {a : Addr} {x y : V} {r s : Rw} (h : SeqV K H a [x, y]) (g : RwO K C cS cR n H r x) (g2 : RwO K C cS cR n H s y) : RowsOk K C cS cR n H (.ref a) [x, y] [r, s] := ⟨a, rfl, h, rfl, fun i r' y h1 h2 => by
  match i with
  | 0 => cases h1; cases h2; exact g
  | 1 => cases h1; cases h2; exact g2
  | i + 2 => simp at h1⟩
theorem rows3 {a : Addr} {x y z : V} {r s t : Rw} (h : SeqV K H a [x, y, z]) (g : RwO K C cS cR n H r x) (g2 : RwO K C cS cR n H s y) (g3 : RwO K C cS cR n H t z) : RowsOk K C cS cR n H (.ref a) [x, y, z] [r, s, t] := ⟨a, rfl, h, rfl, fun i r' y h1 h2 => by
  match i with
  | 0 => cases h1; cases h2; exact g
  | 1 => cases h1; cases h2; exact g2
  | 2 => cases h1; cases h2; exact g3
  | i + 3 => simp at h1⟩
theorem rows4 {a : Addr} {x : V} {r : Rw} (h : SeqV K H a [x, x, x, x]) (g : RwO K C cS cR n H r x) : RowsOk K C cS cR n H (.ref a) [x, x, x, x] [r, r, r, r] := ⟨a, rfl, h, rfl, fun i r' y h1 h2 => by
  match i with
  | 0 => cases h1; cases h2; exact g
  | 1 => cases h1; cases h2; exact g
  | 2 => cases h1; cases h2; exact g
  | 3 => cases h1; cases h2; exact g
  | i + 4 => simp at h1⟩
end
/-- what has been made so far -/
structure NL (K : PySem.W.Frag) (C cS : Addr) (cR : Nat → Addr) (l c : Addr) (h1 h2 : Hd) (H0 : Hp) (ls ts : List (Addr × List V)) (rs : List (Rw × V)) (H : Hp) : Prop where
  s : Same H0 H
  f : Deal H l c
  ls : ∀ t ∈ ls, H t.1 = some (.lst t.2) ∧ t.1 ≠ l ∧ t.1 ≠ c
  ts : ∀ t ∈ ts, H t.1 = some (.tup t.2)
  rs : ∀ r ∈ rs, RwO K C cS cR 2 H r.1 r.2
  a1 : HdS cS H h1
  a2 : HdS cS H h2
section
variable {K : PySem.W.Frag} {C cS : Addr} {cR : Nat → Addr} {l c : Addr} {h1 h2 : Hd} {H0 H H' : Hp} {ls ts : List (Addr × List V)} {rs : List (Rw × V)}
theorem NL.same (h : NL K C cS cR l c h1 h2 H0 ls ts rs H) (s : Same H H') : NL K C cS cR l c h1 h2 H0 ls ts rs H' :=
  ⟨h.s.trans s, h.f.same s, fun t ht => ⟨s _ _ (h.ls t ht).1, (h.ls t ht).2⟩, fun t ht => s _ _ (h.ts t ht), fun r hr => (h.rs r hr).same s, hdS_tr (Tr.same s) h.a1, hdS_tr (Tr.same s) h.a2⟩
theorem NL.newL (h : NL K C cS cR l c h1 h2 H0 ls ts rs H) {p : Addr} {xs : List V} (hp : H p = none) : NL K C cS cR l c h1 h2 H0 ((p, xs) :: ls) ts rs (upd H p (.lst xs)) :=
  have g := h.same (same_new (o := .lst xs) hp)
  ⟨g.s, g.f, fun t ht => (List.mem_cons.mp ht).elim (fun e => by rw [e]; exact ⟨upd_same, h.f.ne hp⟩) (g.ls t), g.ts, g.rs, g.a1, g.a2⟩
theorem NL.newT (h : NL K C cS cR l c h1 h2 H0 ls ts rs H) {p : Addr} {xs : List V} (hp : H p = none) : NL K C cS cR l c h1 h2 H0 ls ((p, xs) :: ts) rs (upd H p (.tup xs)) :=
  have g := h.same (same_new (o := .tup xs) hp)
  ⟨g.s, g.f, g.ls, fun t ht => (List.mem_cons.mp ht).elim (fun e => by rw [e]; exact upd_same) (g.ts t), g.rs, g.a1, g.a2⟩
theorem NL.row (h : NL K C cS cR l c h1 h2 H0 ls ts rs H) {r : Rw} {v : V} {n : Nat} (hn : n ≤ 2) (g : RwO K C cS cR n H r v) : NL K C cS cR l c h1 h2 H0 ls ts ((r, v) :: rs) H :=
  ⟨h.s, h.f, h.ls, h.ts, fun t ht => (List.mem_cons.mp ht).elim (fun e => by rw [e]; exact g.up hn) (h.rs t), h.a1, h.a2⟩
theorem NL.lat (h : NL K C cS cR l c h1 h2 H0 ls ts rs H) {p : Addr} {xs : List V} (m : (p, xs) ∈ ls) : SeqV K (Dl l c H) p xs := .inl ((dl_at (h.ls _ m).2.1 (h.ls _ m).2.2).trans (h.ls _ m).1)
theorem NL.tat (h : NL K C cS cR l c h1 h2 H0 ls ts rs H) {p : Addr} {xs : List V} (m : (p, xs) ∈ ts) : SeqV K (Dl l c H) p xs := .inr (SqT.of ((dl_tr h.f).tup _ _ (h.ts _ m)))
theorem NL.rat (h : NL K C cS cR l c h1 h2 H0 ls ts rs H) {r : Rw} {v : V} (m : (r, v) ∈ rs) : RwO K C cS cR 2 (Dl l c H) r v := rwO_tr (dl_tr h.f) (h.rs _ m)
end
def spNoLoops (K : PySem.W.Frag) (C cS : Addr) (cR : Nat → Addr) : Sp := fun vs H Q _ => ∃ (l c : Addr) (z : Str) (ev : V) (sA fA : Addr) (zs zf yf : Str), vs = [.str z, ev, .ref sA, .ref fA] ∧ Deal H l c ∧ NameOk z ∧ HdS cS H (.st sA zs "+") ∧ HdS cS H (.st fA zf yf) ∧ yf.length = 1 ∧ risB yf = false ∧
  ∀ (p : Addr) (xs : List V) H', Same H H' → H p = none → H' p = some (.lst xs) → xs.length = 12 → (∀ x ∈ xs, LBad K C cS cR (Dl l c H') x) → Q (.ref p) H'
/-- what a good row asks of Put, Raise, Lower -/
theorem set_good {K : PySem.W.Frag} {C0 C cS : Addr} {cR : Nat → Addr} {k : Nat} {H : Hp} {z : Str} {e : V} {m : Md} {n : Nat} {R : Addr → Hp → Prop} {E : XK} (ok : NameOk z) (pr : PartR K C cS n H e m) (few : sz m ≤ 20) (q : ∀ x H', Same H H' → RwO K C cS cR 1 H' (.set k z m) (.ref x) → R x H') (x dx : Addr) (nx : H x = none) (nd : H dx = none) :
    spSetI K C0 C cS cR k (V.ref x :: ([.str z, e] ++ [])) (upd (upd H dx (.own x)) x (.ins (cR k) dx [])) (fun v H2 => v = .non ∧ R x H2) E :=
  ⟨x, dx, .str z, e, H, rfl, Mkg.new nx nd, seen_str (by have := ok.len; omega), .inr (.inr ⟨z, n, m, rfl, ok, pr, few, fun H' ro s' => ⟨rfl, q x H' s' ro⟩⟩)⟩
/-- the methods that the rows of this law ask for -/
structure MkAll (K : PySem.W.Frag) (mg : Str → Option Value) (cR f : Nat → Addr) (fd : Nat → FuncData) : Prop where
  m0 : RwMk K mg "Put" (cR 0) (f 0) (fd 0) ["self", "name", "expr"]
  m1 : RwMk K mg "Raise" (cR 1) (f 1) (fd 1) ["self", "name", "expr"]
  m2 : RwMk K mg "Lower" (cR 2) (f 2) (fd 2) ["self", "name", "expr"]
  m3 : RwMk K mg "Refuse" (cR 3) (f 3) (fd 3) ["self", "word"]
  m4 : RwMk K mg "If" (cR 4) (f 4) (fd 4) ["self", "left", "right", "rows", "others"]
  m5 : RwMk K mg "Still" (cR 5) (f 5) (fd 5) ["self", "rows"]
/-- .. and their promises -/
structure InAll (P : Program) (w : World) (K : PySem.W.Frag) (mg : Str → Option Value) (base : Heap) (C0 C cS cRow : Addr) (cR f : Nat → Addr) (fd : Nat → FuncData) : Prop where
  g0 : FnOk P w K mg base (L2N.CX P w) 7 (f 0) (fd 0) ["self", "name", "expr"] (spSetI K C0 C cS cR 0)
  g1 : FnOk P w K mg base (L2N.CX P w) 7 (f 1) (fd 1) ["self", "name", "expr"] (spSetI K C0 C cS cR 1)
  g2 : FnOk P w K mg base (L2N.CX P w) 7 (f 2) (fd 2) ["self", "name", "expr"] (spSetI K C0 C cS cR 2)
  g3 : FnOk P w K mg base (L2N.CX P w) 4 (f 3) (fd 3) ["self", "word"] (spRefI K C0 C cS cR)
  g4 : FnOk P w K mg base (L2N.CX P w) 7 (f 4) (fd 4) ["self", "left", "right", "rows", "others"] (spIfI K C0 C cS cRow cR)
  g5 : FnOk P w K mg base (L2N.CX P w) 4 (f 5) (fd 5) ["self", "rows"] (spStillI K C0 C cS cRow cR mayB)
theorem passF {X : Cx} {P : Program} {w : World} (e : L2N.CX X.prog X.w = L2N.CX P w) : Passes (L2N.CX P w) X (fun _ _ _ => False) := by
  rw [← e]
  exact L2N.passes_call tk0 fun _ _ _ _ h => h
end LK

/-! x & y, x | y by the methods of an own class, the other operand of this class or a text -/
namespace LR
open PySem PySem.W PySem.Calls PySem.Spec PyProof.Rows
theorem none_fill {T nm : String} (h1 : typeLookup (.type T) (dunder nm) = pure none) (h2 : typeLookup (.type T) (dunderR nm) = pure none) : fillsNumberSlot (.type T) nm = pure false := by
  simp only [fillsNumberSlot, h1, h2, pure_bind]
  rfl
theorem str_and : fillsNumberSlot (.type "str") "and" = pure false := none_fill (by rw [typeLookup_type, builtinLookup_eq_fast]; kernel_rfl) (by rw [typeLookup_type, builtinLookup_eq_fast]; kernel_rfl)
theorem str_or : fillsNumberSlot (.type "str") "or" = pure false := none_fill (by rw [typeLookup_type, builtinLookup_eq_fast]; kernel_rfl) (by rw [typeLookup_type, builtinLookup_eq_fast]; kernel_rfl)
section
variable {prog : Program} {w : World} {A : Around} {E : Value → Shared → Prop} {s : Shared} {K : Frag} {x C L f : Addr} {h₀ : Heap} {m : Str → Option Value} {ox : Obj} {od : Option Obj} {op : Operator} {z : Str} {t : Tok}
theorem head_self {K : Frag} {C : Addr} (h : selfFirst K C = true) : ∃ cd rest, clsIn K C = some cd ∧ cd.mro = .ref C :: rest := by
  obtain ⟨cd, e, q⟩ := any_some h
  cases r : cd.mro with
  | nil =>
    rw [r] at q
    cases q
  | cons c l =>
    rw [r, List.head?_cons] at q
    cases beq_iff_eq.mp q
    exact ⟨cd, l, e, r⟩
/-- own object, then a text -/
theorem bin1_text {nm : String} {Q : Option Value → Shared → Prop} (F : Fr h₀ L s.heap m) (X₀ : K.In h₀) (I : InstAt s.heap x ox C od) (hc : selfFirst K C = true) (no : fillsNumberSlot (.type "str") nm = pure false) (hs : findIn K (.ref C) (PySem.dunder nm) = some (some (.ref f))) (hf : isFn K (.ref f) = true)
    (h : wpAny (model prog w) A (call (.ref f) [.ref x, .str z t]) (W.CmpBack fun v => Q (some v)) E s) : wpAny (model prog w) A (binaryOp1 nm (.ref x) (.str z t)) Q E s := by
  have X := X₀.keeps F.keep
  obtain ⟨cd, rest, e1, e2⟩ := head_self hc
  unfold binaryOp1
  refine wpAny_bind (I.type.here (wpAny_bind (wpAny_pure (wpAny_bind ((fills_K X e1 e2 hs).here ?_)))))
  rw [if_neg (by simp), no]
  refine wpAny_bind (wpAny_pure ?_)
  simp only [Bool.and_false, Bool.false_and, Bool.false_eq_true, if_false, if_true]
  refine wpAny_bind (wpAny_pure ?_)
  simp only [Bool.false_eq_true, if_false]
  refine wpAny_bind (m := tryMethod (.ref x) _ (.str z t)) ?_
  unfold tryMethod
  refine wpAny_bind (special_fn X I hs (beq_iff_eq.mp hf) (wpAny_mono h (fun v s' hv => ?_) fun _ _ e => e))
  cases v <;> first | exact hv.elim | exact wpAny_pure (wpAny_pure hv)
/-- a text, then an own object -/
theorem text_bin1 {nm : String} {Q : Option Value → Shared → Prop} (F : Fr h₀ L s.heap m) (X₀ : K.In h₀) (I : InstAt s.heap x ox C od) (hc : selfFirst K C = true) (no : fillsNumberSlot (.type "str") nm = pure false) {g : Addr} (hs : findIn K (.ref C) (PySem.dunder nm) = some (some (.ref g))) (hr : findIn K (.ref C) (PySem.dunderR nm) = some (some (.ref f))) (hf : isFn K (.ref f) = true)
    (h : wpAny (model prog w) A (call (.ref f) [.ref x, .str z t]) (W.CmpBack fun v => Q (some v)) E s) : wpAny (model prog w) A (binaryOp1 nm (.str z t) (.ref x)) Q E s := by
  have X := X₀.keeps F.keep
  obtain ⟨cd, rest, e1, e2⟩ := head_self hc
  unfold binaryOp1
  refine wpAny_bind (wpAny_pure (wpAny_bind (I.type.here ?_)))
  rw [no]
  refine wpAny_bind (wpAny_pure ?_)
  rw [if_neg (by simp)]
  refine wpAny_bind ((fills_K X e1 e2 hs).here ?_)
  simp only [Bool.and_true, Bool.false_and, Bool.false_eq_true, if_false, if_true, Bool.not_false]
  refine wpAny_bind (wpAny_pure ?_)
  simp only [Bool.false_eq_true, if_false]
  refine wpAny_bind (m := tryMethod (.ref x) _ (.str z t)) ?_
  unfold tryMethod
  refine wpAny_bind (special_fn X I hr (beq_iff_eq.mp hf) (wpAny_mono h (fun v s' hv => ?_) fun _ _ e => e))
  cases v <;> first | exact hv.elim | exact wpAny_pure (wpAny_bind (wpAny_rule (wpAny_pure hv)))
theorem bin_of1 {a b : Value} {Q : Value → Shared → Prop} (h : wpAny (model prog w) A (binaryOp1 op.info.2 a b) (fun v s' => ∃ u, v = some u ∧ Q u s') E s) : wpAny (model prog w) A (binaryOp op a b) Q E s := by
  unfold binaryOp
  apply wpAny_holding
  refine wpAny_bind (m := binaryOp1 op.info.2 a b) (wpAny_mono h (fun v s' hv => ?_) fun _ _ e => e)
  obtain ⟨u, rfl, q⟩ := hv
  exact wpAny_pure q
end
end LR

namespace LR
open PySem PySem.Spec PyProof.Rows L2
section
variable {X : Cx} {CX : CXT} {n : Nat} {f C : Addr} {fd : FuncData} {ps : List Str} {sp : Sp} {E : XK} {op : Operator}
/-- an object of the class C stands at v -/
def AnIns (C : Addr) (H : Hp) (v : V) : Prop := ∃ b dx fs, v = .ref b ∧ H b = some (.ins C dx fs)
/-- x op y by an own method, y of the same class or a text -/
theorem op_binOwn (F : FnOk X.prog X.w X.K X.mg X.base CX n f fd ps sp) (hc : PySem.W.selfFirst X.K C = true) (no : fillsNumberSlot (.type "str") op.info.2 = pure false) (hs : PySem.W.findIn X.K (.ref C) (PySem.dunder op.info.2) = some (some (.ref f))) (hf : PySem.W.isFn X.K (.ref f) = true)
    (hb : Binds X.K fd ps []) (hx : Passes CX X E) (hr : Room n X.A) :
    OpR X (binaryOp op) (fun x y H Q => AnIns C H x ∧ ((∃ z, y = V.str z) ∨ AnIns C H y) ∧ sp [x, y] H (fun v H' => (∃ r, v = V.ref r) ∧ Q v H') E) := by
  intro pins s σ H x y v u Q I rx ry h
  obtain ⟨⟨a, dx, fs, rfl, ha⟩, hy, h⟩ := h
  cases rx
  obtain ⟨mA, J, _⟩ := ins_get I.hok ha
  obtain ⟨od, J, _⟩ := J.look
  obtain ⟨m, hF⟩ := I.fr
  have run : wpAny (model X.prog X.w) X.A (call (.ref f) [.ref a, u]) (fun w' s' => ∃ r, w' = Value.ref r ∧ EP X pins σ Q w' s') X.xe s := by
    refine wpAny_mono (call_run (A := X.A) ⟨hr, rfl⟩ F hb hx I (.cons (show RelV (V.ref a) (Value.ref a) from rfl) (.cons ry .nil)) h) (fun v s' q => ?_) fun _ _ z => z
    obtain ⟨y', H', I', ry', ⟨r, rfl⟩, q⟩ := q
    cases ry'
    exact ⟨r, rfl, .ref r, H', I', rfl, q⟩
  rcases hy with ⟨z, rfl⟩ | ⟨b, dx', fs', rfl, hb'⟩
  · obtain ⟨t, rfl⟩ := ry
    refine bin_of1 (bin1_text hF I.ok.mod.kin J hc no hs hf (wpAny_mono run (fun v s' q => ?_) fun _ _ z => z))
    obtain ⟨r, rfl, q⟩ := q
    exact ⟨_, rfl, q⟩
  · cases ry
    obtain ⟨mB, J2, _⟩ := ins_get I.hok hb'
    obtain ⟨od2, J2, _⟩ := J2.look
    refine PySem.W.binop_K hF I.ok.mod.kin J J2.type hc hs hf (wpAny_mono run (fun v s' q => ?_) fun _ _ z => z)
    obtain ⟨r, rfl, q⟩ := q
    exact q
/-- x op y by the reflected method of y's class, x a text -/
theorem op_binRef {g : Addr} (F : FnOk X.prog X.w X.K X.mg X.base CX n f fd ps sp) (hc : PySem.W.selfFirst X.K C = true) (no : fillsNumberSlot (.type "str") op.info.2 = pure false) (hs : PySem.W.findIn X.K (.ref C) (PySem.dunder op.info.2) = some (some (.ref g))) (hl : PySem.W.findIn X.K (.ref C) (PySem.dunderR op.info.2) = some (some (.ref f))) (hf : PySem.W.isFn X.K (.ref f) = true)
    (hb : Binds X.K fd ps []) (hx : Passes CX X E) (hr : Room n X.A) :
    OpR X (binaryOp op) (fun x y H Q => AnIns C H y ∧ (∃ z, x = V.str z) ∧ sp [y, x] H (fun v H' => (∃ r, v = V.ref r) ∧ Q v H') E) := by
  intro pins s σ H x y v u Q I rx ry h
  obtain ⟨⟨a, dx, fs, rfl, ha⟩, ⟨z, rfl⟩, h⟩ := h
  cases ry
  obtain ⟨t, rfl⟩ := rx
  obtain ⟨mA, J, _⟩ := ins_get I.hok ha
  obtain ⟨od, J, _⟩ := J.look
  obtain ⟨m, hF⟩ := I.fr
  refine bin_of1 (text_bin1 hF I.ok.mod.kin J hc no hs hl hf (wpAny_mono (call_run (A := X.A) ⟨hr, rfl⟩ F hb hx I (.cons (show RelV (V.ref a) (Value.ref a) from rfl) (.cons (show RelV (V.str z) (Value.str z t) from ⟨t, rfl⟩) .nil)) h) (fun v s' q => ?_) fun _ _ z => z))
  obtain ⟨y', H', I', ry', ⟨r, rfl⟩, q⟩ := q
  cases ry'
  exact ⟨_, rfl, .ref r, H', I', rfl, q⟩
end
end LR

namespace LK
open PySem PySem.Spec PyProof.Rows L2 LR
theorem hd_ins {cS a : Addr} {H : Hp} {z y : Str} (h : HdS cS H (.st a z y)) : ∃ dx fs, H a = some (.ins cS dx fs) := by
  obtain ⟨⟨dx, h⟩, _⟩ := h
  exact ⟨dx, _, h⟩
theorem nm_part {K : PySem.W.Frag} {C cS : Addr} {H : Hp} {z : Str} (ok : NameOk z) : PartR K C cS 1 H (.str z) (.nm z) := .inr ⟨z, rfl, rfl, ok, Nat.le_refl 1⟩
theorem PartR.up {K : PySem.W.Frag} {C cS : Addr} {n n' : Nat} {H : Hp} {y : V} {m : Md} (h : PartR K C cS n H y m) (l : n ≤ n') : PartR K C cS n' H y m := h.imp (ExR.up l) fun ⟨z, a, b, c, d⟩ => ⟨z, a, b, c, by omega⟩
theorem ex_ins {K : PySem.W.Frag} {C cS : Addr} {n : Nat} {H : Hp} {y : V} {m : Md} (h : ExR K C cS n H m y) : AnIns C H y := h.ins
theorem ex_ref {K : PySem.W.Frag} {C cS : Addr} {n : Nat} {H : Hp} {y : V} {m : Md} (h : ExR K C cS n H m y) : ∃ r, y = .ref r := by
  obtain ⟨a, _, _, e, _⟩ := h.ins
  exact ⟨a, e⟩
abbrev mS (sA : Addr) (zs z : Str) : Md := .ap (.st sA zs "+") [.nm z]
abbrev mSS (sA : Addr) (zs z : Str) : Md := .ap (.st sA zs "+") [mS sA zs z]
theorem low1 {K : PySem.W.Frag} {C cS : Addr} {cR : Nat → Addr} {H : Hp} {n k : Nat} {z : Str} {m : Md} {v : V} (h : RwO K C cS cR n H (.set k z m) v) : RwO K C cS cR 1 H (.set k z m) v := by
  match n, h with
  | n + 1, ⟨xs, f, l, g⟩ => exact ⟨xs, f, l, fun i r' x h1 _ => by simp [inR] at h1⟩
theorem may1' {sA : Addr} {zs z : Str} : mayB (.set 1 z (mS sA zs z)) = true := by
  show (risB "+" && ([Md.nm z]).all isNm) = true
  rw [show risB "+" = true by decide +kernel]
  rfl
section
variable {sA fA : Addr} {zs z zf yf : Str}
theorem may1 : (decide (1 ≤ ([Rw.set 1 z (mS sA zs z)]).length) && decide (([Rw.set 1 z (mS sA zs z)]).length ≤ 3) && ([Rw.set 1 z (mS sA zs z)]).all mayB) = true := by
  rw [List.all_cons, may1']
  rfl
theorem fit1 : FitsR (.sti [.set 1 z (mS sA zs z)]) := ⟨[z], [(zs, "+")], fun k hk => by simpa [lvsR, lvsRs, lvs, lvsL] using hk, fun k hk => by simpa [stsR, stsRs, sts, stsL, hdK] using hk, by show (0 + 1) * 1 < 63; decide, by show (0 + 1) * 1 < 1000; decide, by show 0 + 1 < 64; decide⟩
theorem fit2 : FitsR (.iff (.nm z) (.nm z) [] [.set 1 z (mS sA zs z)]) := ⟨[z], [(zs, "+")], fun k hk => by simpa [lvsR, lvsRs, lvs, lvsL] using hk, fun k hk => by simpa [stsR, stsRs, sts, stsL, hdK] using hk, by show (2 + 1) * 1 < 63; decide, by show (2 + 1) * 1 < 1000; decide, by show 2 + 1 < 64; decide⟩
theorem no2 : (decide (1 ≤ ([Rw.set 1 z (mS sA zs z), .set 2 z (mS sA zs z)]).length) && decide (([Rw.set 1 z (mS sA zs z), .set 2 z (mS sA zs z)]).length ≤ 3) && ([Rw.set 1 z (mS sA zs z), .set 2 z (mS sA zs z)]).all mayB) = false := by
  rw [List.all_cons, List.all_cons, show mayB (.set 2 z (mS sA zs z)) = false from rfl, Bool.false_and, Bool.and_false, Bool.and_false]
theorem no3 : (decide (1 ≤ ([Rw.set 1 z (mS sA zs z), .set 1 z (mS sA zs z), .set 1 z (mSS sA zs z)]).length) && decide (([Rw.set 1 z (mS sA zs z), .set 1 z (mS sA zs z), .set 1 z (mSS sA zs z)]).length ≤ 3) && ([Rw.set 1 z (mS sA zs z), .set 1 z (mS sA zs z), .set 1 z (mSS sA zs z)]).all mayB) = false := by
  rw [List.all_cons, List.all_cons, List.all_cons, show mayB (.set 1 z (mSS sA zs z)) = false from by show (risB "+" && ([mS sA zs z]).all isNm) = false; rw [show ([mS sA zs z]).all isNm = false from rfl, Bool.and_false], Bool.false_and, Bool.and_false, Bool.and_false, Bool.and_false]
theorem no4 (ry : risB yf = false) : (decide (1 ≤ ([Rw.set 1 z (.ap (.st fA zf yf) [.nm z]), .set 1 z (mS sA zs z)]).length) && decide (([Rw.set 1 z (.ap (.st fA zf yf) [.nm z]), .set 1 z (mS sA zs z)]).length ≤ 3) && ([Rw.set 1 z (.ap (.st fA zf yf) [.nm z]), .set 1 z (mS sA zs z)]).all mayB) = false := by
  rw [List.all_cons, show mayB (.set 1 z (.ap (.st fA zf yf) [.nm z])) = false from by show (risB yf && _) = false; rw [ry, Bool.false_and], Bool.false_and, Bool.and_false]
theorem no5 : (decide (1 ≤ ([Rw.set 1 z (mS sA zs z), .set 1 z (.ap .le [mS sA zs z, .nm z])]).length) && decide (([Rw.set 1 z (mS sA zs z), .set 1 z (.ap .le [mS sA zs z, .nm z])]).length ≤ 3) && ([Rw.set 1 z (mS sA zs z), .set 1 z (.ap .le [mS sA zs z, .nm z])]).all mayB) = false := by
  rw [List.all_cons, List.all_cons, show mayB (.set 1 z (.ap .le [mS sA zs z, .nm z])) = false from rfl, Bool.false_and, Bool.and_false, Bool.and_false]
theorem no6 : (decide (1 ≤ ([Rw.set 1 z (mS sA zs z), .iff (.nm z) (.nm z) [] [.set 1 z (mS sA zs z)]]).length) && decide (([Rw.set 1 z (mS sA zs z), .iff (.nm z) (.nm z) [] [.set 1 z (mS sA zs z)]]).length ≤ 3) && ([Rw.set 1 z (mS sA zs z), .iff (.nm z) (.nm z) [] [.set 1 z (mS sA zs z)]]).all mayB) = false := by
  rw [List.all_cons, List.all_cons, show mayB (.iff (.nm z) (.nm z) [] [.set 1 z (mS sA zs z)]) = false from rfl, Bool.false_and, Bool.and_false, Bool.and_false]
end
/-- & and | of expressions -/
structure OpA (K : PySem.W.Frag) (C fA fO : Addr) (dA dO : FuncData) : Prop where
  sf : PySem.W.selfFirst K C = true
  a : PySem.W.findIn K (.ref C) "__and__" = some (some (.ref fA))
  o : PySem.W.findIn K (.ref C) "__or__" = some (some (.ref fO))
  fa : PySem.W.isFn K (.ref fA) = true
  fo : PySem.W.isFn K (.ref fO) = true
  ba : Binds K dA ["self", "other"] []
  bo : Binds K dO ["self", "other"] []
section
variable {P : Program} {w : World} {K : PySem.W.Frag} {mg : Str → Option Value} {base : Heap}
def nNLo : List Str := ["_law_name", "_law_expr", "_law_step", "_law_falling", "_law_good", "_law_loops"]
theorem scNLo : FnScope nNLo ["_law_name", "_law_expr", "_law_step", "_law_falling"] (defScope sNoLoops) := ⟨rfl, rfl, rfl, by decide +kernel, rfl, by decide +kernel, by decide +kernel⟩
theorem ok_noLoops {C0 C cS cRow fC f gA gO : Addr} {cR ff : Nat → Addr} {fd dC dA dO : FuncData} {ffd : Nat → FuncData} (A : MkAll K mg cR ff ffd) (I : InAll P w K mg base C0 C cS cRow cR ff ffd) (CM : CallM K cS fC dC) (GC : FnOk P w K mg base CX0 7 fC dC ["self", "first", "second", "third"] (spCallX K C cS))
    (O : OpA K C gA gO dA dO) (GA : FnOk P w K mg base CX0 7 gA dA ["self", "other"] (spBinX K C cS .le false)) (F : Fun K "_law_no_loops" "_law_no_loops" sNoLoops f fd) : FnOk P w K mg base CX0 9 f fd ["_law_name", "_law_expr", "_law_step", "_law_falling"] (spNoLoops K C cS cR) := by
  have C1 : FnR P w K mg base CX0 7 fC (fun vs H Q E => spCallX K C cS (vs ++ [V.non, V.non]) H Q E) := GC.raw CM.b2 (.cons rfl (.cons rfl .nil))
  refine F.ok scNLo (fun vs H Q E h => ?_) (fun cdv A' outer s H vs Q E hr h => ?_)
  · obtain ⟨_, _, _, _, _, _, _, _, _, rfl, _⟩ := h
    rfl
  · obtain ⟨l, c, z, ev, sA, fA, zs, zf, yf, rfl, hf, ok, a1, a2, lf, ry, q⟩ := h
    have rm7 : Room 7 _ := hr.mono (by decide)
    have rm5 : Room 5 _ := hr.mono (by decide)
    refine ⟨_, pss_cons (ps_set (i := 4) scNLo.nd rfl (Or.inl rfl) (pe_make (E := fun _ _ _ => False) A.m1.M I.g1 hr rfl A.m1.g A.m1.b .nil (passF rfl) (pa_cons (pv 0) (pa_cons (StX.pe_callO (E := E0) (pv 2) CM.o C1 rm7 pass0 (pa_cons (pv 0) pa_nil)) pa_nil))))
      (pss_cons (ps_set (i := 5) scNLo.nd rfl (Or.inl rfl) (pe_lst (pa_cons (pe_lst pa_nil) (pa_cons (pe_tup pa_nil) (pa_cons (pe_op op_rep (pe_lst (pa_cons (pv 4) pa_nil)) pe_int) (pa_cons (pe_lst (pa_cons (pe_make (E := fun _ _ _ => False) A.m0.M I.g0 hr rfl A.m0.g A.m0.b .nil (passF rfl) (pa_cons (pv 0) (pa_cons (StX.pe_callO (E := E0) (pv 2) CM.o C1 rm7 pass0 (pa_cons (pv 0) pa_nil)) pa_nil))) pa_nil)) (pa_cons (pe_lst (pa_cons (pv 4) (pa_cons (pe_make (E := fun _ _ _ => False) A.m2.M I.g2 hr rfl A.m2.g A.m2.b .nil (passF rfl) (pa_cons (pv 0) (pa_cons (StX.pe_callO (E := E0) (pv 2) CM.o C1 rm7 pass0 (pa_cons (pv 0) pa_nil)) pa_nil))) pa_nil))) (pa_cons (pe_lst (pa_cons (pe_make (E := fun _ _ _ => False) A.m1.M I.g1 hr rfl A.m1.g A.m1.b .nil (passF rfl) (pa_cons (pv 0) (pa_cons (pv 0) pa_nil))) pa_nil)) pa_nil))))))))
      (pss_cons (ps_set (i := 5) scNLo.nd rfl (Or.inl rfl) (pe_op op_cat (pv 5) (pe_lst (pa_cons (pe_lst (pa_cons (pv 4) (pa_cons (pv 4) (pa_cons (pe_make (E := fun _ _ _ => False) A.m1.M I.g1 hr rfl A.m1.g A.m1.b .nil (passF rfl) (pa_cons (pv 0) (pa_cons (StX.pe_callO (E := E0) (pv 2) CM.o C1 rm7 pass0 (pa_cons (StX.pe_callO (E := E0) (pv 2) CM.o C1 rm7 pass0 (pa_cons (pv 0) pa_nil)) pa_nil)) pa_nil))) pa_nil)))) (pa_cons (pe_lst (pa_cons (pe_make (E := fun _ _ _ => False) A.m1.M I.g1 hr rfl A.m1.g A.m1.b .nil (passF rfl) (pa_cons (pv 0) (pa_cons (StX.pe_callO (E := E0) (pv 3) CM.o C1 rm7 pass0 (pa_cons (pv 0) pa_nil)) pa_nil))) (pa_cons (pv 4) pa_nil))) (pa_cons (pe_lst (pa_cons (pe_make (E := fun _ _ _ => False) A.m3.M I.g3 rm5 rfl A.m3.g A.m3.b .nil (passF rfl) (pa_cons (pv 0) pa_nil)) pa_nil)) pa_nil))))))
      (pss_one (ps_ret (pe_op op_cat (pv 5) (pe_lst (pa_cons (pe_lst (pa_cons (pe_make (E := fun _ _ _ => False) A.m5.M I.g5 rm5 rfl A.m5.g A.m5.b .nil (passF rfl) (pa_cons (pe_lst (pa_cons (pv 4) pa_nil)) pa_nil)) pa_nil)) (pa_cons (pe_lst (pa_cons (pv 4) (pa_cons (pe_make (E := fun _ _ _ => False) A.m1.M I.g1 hr rfl A.m1.g A.m1.b .nil (passF rfl) (pa_cons (pv 0) (pa_cons (pe_op (op_binOwn (C := C) (E := E0) GA O.sf str_and O.a O.fa O.ba pass0 rm7) (StX.pe_callO (E := E0) (pv 2) CM.o C1 rm7 pass0 (pa_cons (pv 0) pa_nil)) (pv 0)) pa_nil))) pa_nil))) (pa_cons (pe_lst (pa_cons (pv 4) (pa_cons (pe_make (E := fun _ _ _ => False) A.m4.M I.g4 hr rfl A.m4.g A.m4.b .nil (passF rfl) (pa_cons (pv 0) (pa_cons (pv 0) (pa_cons (pe_lst pa_nil) (pa_cons (pe_lst (pa_cons (pv 4) pa_nil)) pa_nil))))) pa_nil))) pa_nil))))))))), ?_⟩
    have st : NL K C cS cR l c (.st sA zs "+") (.st fA zf yf) H [] [] [] H := ⟨Same.refl H, hf, (fun _ h => nomatch h), (fun _ h => nomatch h), (fun _ h => nomatch h), a1, a2⟩
    refine ⟨_, rfl, _, rfl, sA, rfl, _, rfl, .inr (hd_ins st.a1), call1_read st.a1 rfl (nm_part ok) (by simp [sz, szL]) fun e1 H1 s1 ex1 => fun g dx1 nx1 nd1 ne1 => ⟨g, dx1, .str z, e1, _, rfl, Mkg.new nx1 nd1, seen_str (by have := ok.len; omega), .inr (.inr ⟨z, _, _, rfl, ok, .inl ex1, by simp [sz, szL], fun H2 ro1 t1 => ⟨rfl, ?_⟩⟩)⟩⟩
    have st := ((st.same s1).same t1).row (by decide) ro1
    refine ⟨(by show 0 ≤ sizeLine; decide), fun La hLa => ?_⟩
    have st := st.newL (xs := []) hLa
    generalize upd H2 La (.lst []) = H3 at st ⊢
    refine ⟨(by show 0 ≤ sizeLine; decide), fun Ta hTa => ?_⟩
    have st := st.newT (xs := []) hTa
    generalize upd H3 Ta (.tup []) = H4 at st ⊢
    refine ⟨_, rfl, (by show 1 ≤ sizeLine; decide), fun Lb hLb => ⟨Lb, 4, _, rfl, rfl, upd_same, by decide, by decide, by show 1 * 4 ≤ sizeLine; decide, ?_⟩⟩
    have st := st.newL (xs := [V.ref g]) hLb
    generalize upd H4 Lb (.lst [V.ref g]) = H5 at st ⊢
    intro Lc hLc
    have st := st.newL (xs := [V.ref g, .ref g, .ref g, .ref g]) hLc
    rw [show (List.replicate (4 : Int).toNat [V.ref g]).flatten = [V.ref g, .ref g, .ref g, .ref g] from rfl]
    generalize upd H5 Lc (.lst [V.ref g, .ref g, .ref g, .ref g]) = H6 at st ⊢
    refine ⟨_, rfl, _, rfl, sA, rfl, _, rfl, .inr (hd_ins st.a1), call1_read st.a1 rfl (nm_part ok) (by simp [sz, szL]) fun e2 H7 s2 ex2 => fun r0 dx2 nx2 nd2 ne2 => ⟨r0, dx2, .str z, e2, _, rfl, Mkg.new nx2 nd2, seen_str (by have := ok.len; omega), .inr (.inr ⟨z, _, _, rfl, ok, .inl ex2, by simp [sz, szL], fun H8 ro2 t2 => ⟨rfl, ?_⟩⟩)⟩⟩
    have st := ((st.same s2).same t2).row (by decide) ro2
    refine ⟨(by show 1 ≤ sizeLine; decide), fun Ld hLd => ?_⟩
    have st := st.newL (xs := [V.ref r0]) hLd
    generalize upd H8 Ld (.lst [V.ref r0]) = H9 at st ⊢
    refine ⟨_, rfl, _, rfl, _, rfl, sA, rfl, _, rfl, .inr (hd_ins st.a1), call1_read st.a1 rfl (nm_part ok) (by simp [sz, szL]) fun e3 H10 s3 ex3 => fun r2 dx3 nx3 nd3 ne3 => ⟨r2, dx3, .str z, e3, _, rfl, Mkg.new nx3 nd3, seen_str (by have := ok.len; omega), .inr (.inr ⟨z, _, _, rfl, ok, .inl ex3, by simp [sz, szL], fun H11 ro3 t3 => ⟨rfl, ?_⟩⟩)⟩⟩
    have st := ((st.same s3).same t3).row (by decide) ro3
    refine ⟨(by show 2 ≤ sizeLine; decide), fun Le hLe => ?_⟩
    have st := st.newL (xs := [V.ref g, .ref r2]) hLe
    generalize upd H11 Le (.lst [V.ref g, .ref r2]) = H12 at st ⊢
    refine ⟨_, rfl, _, rfl, fun rn dx4 nx4 nd4 ne4 => ⟨rn, dx4, .str z, .str z, _, rfl, Mkg.new nx4 nd4, seen_str (by have := ok.len; omega), .inr (.inr ⟨z, _, _, rfl, ok, nm_part ok, by simp [sz, szL], fun H13 ro4 t4 => ⟨rfl, ?_⟩⟩)⟩⟩
    have st := (st.same t4).row (by decide) ro4
    refine ⟨(by show 1 ≤ sizeLine; decide), fun Lf hLf => ?_⟩
    have st := st.newL (xs := [V.ref rn]) hLf
    generalize upd H13 Lf (.lst [V.ref rn]) = H14 at st ⊢
    refine ⟨(by show 6 ≤ sizeLine; decide), fun Lo hLo => ?_⟩
    have st := st.newL (xs := [V.ref La, .ref Ta, .ref Lc, .ref Ld, .ref Le, .ref Lf]) hLo
    generalize upd H14 Lo (.lst [V.ref La, .ref Ta, .ref Lc, .ref Ld, .ref Le, .ref Lf]) = H15 at st ⊢
    refine ⟨_, rfl, _, rfl, _, rfl, _, rfl, _, rfl, sA, rfl, _, rfl, sA, rfl, _, rfl, .inr (hd_ins st.a1), call1_read st.a1 rfl (nm_part ok) (by simp [sz, szL]) fun e5 H16 s5 ex5 => ?_⟩
    have st := st.same s5
    refine ⟨.inr (hd_ins st.a1), call1_read st.a1 rfl (.inl ex5) (by simp [sz, szL]) fun f5 H17 u5 fx5 => fun rr dx5 nx5 nd5 ne5 => ⟨rr, dx5, .str z, f5, _, rfl, Mkg.new nx5 nd5, seen_str (by have := ok.len; omega), .inr (.inr ⟨z, _, _, rfl, ok, .inl fx5, by simp [sz, szL], fun H18 ro5 t5 => ⟨rfl, ?_⟩⟩)⟩⟩
    have st := ((st.same u5).same t5).row (by decide) ro5
    refine ⟨(by show 3 ≤ sizeLine; decide), fun Lg hLg => ?_⟩
    have st := st.newL (xs := [V.ref g, .ref g, .ref rr]) hLg
    generalize upd H18 Lg (.lst [V.ref g, .ref g, .ref rr]) = H19 at st ⊢
    refine ⟨_, rfl, _, rfl, fA, rfl, _, rfl, .inr (hd_ins st.a2), call1_read st.a2 lf (nm_part ok) (by simp [sz, szL]) fun e6 H20 s6 ex6 => fun rf dx6 nx6 nd6 ne6 => ⟨rf, dx6, .str z, e6, _, rfl, Mkg.new nx6 nd6, seen_str (by have := ok.len; omega), .inr (.inr ⟨z, _, _, rfl, ok, .inl ex6, by simp [sz, szL], fun H21 ro6 t6 => ⟨rfl, ?_⟩⟩)⟩⟩
    have st := ((st.same s6).same t6).row (by decide) ro6
    refine ⟨_, rfl, (by show 2 ≤ sizeLine; decide), fun Lh hLh => ?_⟩
    have st := st.newL (xs := [V.ref rf, .ref g]) hLh
    generalize upd H21 Lh (.lst [V.ref rf, .ref g]) = H22 at st ⊢
    refine ⟨_, rfl, fun x7 dx7 nx7 nd7 ne7 => ⟨x7, dx7, .str z, _, rfl, Mkg.new nx7 nd7, seen_str (by have := ok.len; omega), .inr ⟨z, rfl, ok, fun H23 ro7 t7 => ⟨rfl, ?_⟩⟩⟩⟩
    have st := (st.same t7).row (by decide) ro7
    refine ⟨(by show 1 ≤ sizeLine; decide), fun Li hLi => ?_⟩
    have st := st.newL (xs := [V.ref x7]) hLi
    generalize upd H23 Li (.lst [V.ref x7]) = H24 at st ⊢
    refine ⟨(by show 3 ≤ sizeLine; decide), fun Lp hLp => ?_⟩
    have st := st.newL (xs := [V.ref Lg, .ref Lh, .ref Li]) hLp
    generalize upd H24 Lp (.lst [V.ref Lg, .ref Lh, .ref Li]) = H25 at st ⊢
    refine ⟨Lo, Lp, [V.ref La, .ref Ta, .ref Lc, .ref Ld, .ref Le, .ref Lf], [V.ref Lg, .ref Lh, .ref Li], rfl, rfl, (st.ls (Lo, [V.ref La, .ref Ta, .ref Lc, .ref Ld, .ref Le, .ref Lf]) (by simp)).1, (st.ls (Lp, [V.ref Lg, .ref Lh, .ref Li]) (by simp)).1, by show 9 ≤ sizeLine; decide, fun Lq hLq => ?_⟩
    have st := st.newL (xs := [V.ref La, .ref Ta, .ref Lc, .ref Ld, .ref Le, .ref Lf, .ref Lg, .ref Lh, .ref Li]) hLq
    rw [show [V.ref La, .ref Ta, .ref Lc, .ref Ld, .ref Le, .ref Lf] ++ [V.ref Lg, .ref Lh, .ref Li] = [V.ref La, .ref Ta, .ref Lc, .ref Ld, .ref Le, .ref Lf, .ref Lg, .ref Lh, .ref Li] from rfl]
    generalize upd H25 Lq (.lst [V.ref La, .ref Ta, .ref Lc, .ref Ld, .ref Le, .ref Lf, .ref Lg, .ref Lh, .ref Li]) = H26 at st ⊢
    refine ⟨_, rfl, _, rfl, (by show 1 ≤ sizeLine; decide), fun Ls hLs => ?_⟩
    have st := st.newL (xs := [V.ref g]) hLs
    generalize upd H26 Ls (.lst [V.ref g]) = H27 at st ⊢
    refine (fun x8 dx8 nx8 nd8 ne8 => ⟨x8, dx8, .ref Ls, _, rfl, Mkg.new nx8 nd8, .inr ⟨1, [V.ref g], [.set 1 z (mS sA zs z)], rows1 (.inl (st.ls (Ls, [V.ref g]) (by simp)).1) (low1 (st.rs (.set 1 z (mS sA zs z), .ref g) (by simp))), by show 1 < 64; decide, .inr ⟨may1, fit1, fun H28 ro8 t8 => ⟨rfl, ?_⟩⟩⟩⟩)
    have st := (st.same t8).row (by decide) ro8
    refine ⟨(by show 1 ≤ sizeLine; decide), fun Lt hLt => ?_⟩
    have st := st.newL (xs := [V.ref x8]) hLt
    generalize upd H28 Lt (.lst [V.ref x8]) = H29 at st ⊢
    refine ⟨_, rfl, _, rfl, _, rfl, sA, rfl, _, rfl, .inr (hd_ins st.a1), call1_read st.a1 rfl (nm_part ok) (by simp [sz, szL]) fun e9 H30 s9 ex9 => ?_⟩
    have st := st.same s9
    refine ⟨_, rfl, ex_ins ex9, .inl ⟨z, rfl⟩, e9, .str z, 2, _, .nm z, rfl, ex9, (nm_part ok).up (by decide), by simp [sz, szL], fun f9 H31 u9 fx9 => ⟨ex_ref fx9, fun ra dx9 nx9 nd9 ne9 => ⟨ra, dx9, .str z, f9, _, rfl, Mkg.new nx9 nd9, seen_str (by have := ok.len; omega), .inr (.inr ⟨z, _, _, rfl, ok, .inl fx9, by simp [sz, szL], fun H32 ro9 t9 => ⟨rfl, ?_⟩⟩)⟩⟩⟩
    have st := ((st.same u9).same t9).row (by decide) ro9
    refine ⟨(by show 2 ≤ sizeLine; decide), fun Lu hLu => ?_⟩
    have st := st.newL (xs := [V.ref g, .ref ra]) hLu
    generalize upd H32 Lu (.lst [V.ref g, .ref ra]) = H33 at st ⊢
    refine ⟨_, rfl, _, rfl, _, rfl, (by show 0 ≤ sizeLine; decide), fun Lv hLv => ?_⟩
    have st := st.newL (xs := []) hLv
    generalize upd H33 Lv (.lst []) = H34 at st ⊢
    refine ⟨_, rfl, (by show 1 ≤ sizeLine; decide), fun Lw hLw => ?_⟩
    have st := st.newL (xs := [V.ref g]) hLw
    generalize upd H34 Lw (.lst [V.ref g]) = H35 at st ⊢
    refine (fun x10 dx10 nx10 nd10 ne10 => ⟨x10, dx10, .str z, .str z, .ref Lv, .ref Lw, _, rfl, Mkg.new nx10 nd10, .inr ⟨1, .nm z, nm_part ok, .inr ⟨1, .nm z, nm_part ok, .inr ⟨1, [], [], rows0 (.inl (st.ls (Lv, []) (by simp)).1), by decide, .inr ⟨[V.ref g], [.set 1 z (mS sA zs z)], rows1 (.inl (st.ls (Lw, [V.ref g]) (by simp)).1) (low1 (st.rs (.set 1 z (mS sA zs z), .ref g) (by simp))), by show 1 < 64; decide, fit2, fun H36 ro10 t10 => ⟨rfl, ?_⟩⟩⟩⟩⟩⟩)
    have st := (st.same t10).row (by decide) ro10
    refine ⟨(by show 2 ≤ sizeLine; decide), fun Lx hLx => ?_⟩
    have st := st.newL (xs := [V.ref g, .ref x10]) hLx
    generalize upd H36 Lx (.lst [V.ref g, .ref x10]) = H37 at st ⊢
    refine ⟨(by show 3 ≤ sizeLine; decide), fun Ly hLy => ?_⟩
    have st := st.newL (xs := [V.ref Lt, .ref Lu, .ref Lx]) hLy
    generalize upd H37 Ly (.lst [V.ref Lt, .ref Lu, .ref Lx]) = H38 at st ⊢
    refine ⟨Lq, Ly, [V.ref La, .ref Ta, .ref Lc, .ref Ld, .ref Le, .ref Lf, .ref Lg, .ref Lh, .ref Li], [V.ref Lt, .ref Lu, .ref Lx], rfl, rfl, (st.ls (Lq, [V.ref La, .ref Ta, .ref Lc, .ref Ld, .ref Le, .ref Lf, .ref Lg, .ref Lh, .ref Li]) (by simp)).1, (st.ls (Ly, [V.ref Lt, .ref Lu, .ref Lx]) (by simp)).1, by show 12 ≤ sizeLine; decide, fun p hp => ?_⟩
    refine q p [V.ref La, .ref Ta, .ref Lc, .ref Ld, .ref Le, .ref Lf, .ref Lg, .ref Lh, .ref Li, .ref Lt, .ref Lu, .ref Lx] _ (st.s.trans (same_new hp)) (st.s.free hp) upd_same rfl fun v hv => LBad.same (H := Dl l c H38) (dl_up (same_new hp)) ?_
    simp only [List.mem_cons, List.not_mem_nil, or_false] at hv
    rcases hv with rfl | rfl | rfl | rfl | rfl | rfl | rfl | rfl | rfl | rfl | rfl | rfl
    · exact ⟨_, _, rows0 (st.lat (p := La) (xs := []) (by simp)), by simp, rfl⟩
    · exact ⟨_, _, rows0 (st.tat (p := Ta) (xs := []) (by simp)), by decide, rfl⟩
    · exact ⟨_, _, rows4 (st.lat (p := Lc) (xs := [V.ref g, .ref g, .ref g, .ref g]) (by simp)) (st.rat (r := .set 1 z (mS sA zs z)) (v := .ref g) (by simp)), by simp, rfl⟩
    · exact ⟨_, _, rows1 (st.lat (p := Ld) (xs := [V.ref r0]) (by simp)) (st.rat (r := .set 0 z (mS sA zs z)) (v := .ref r0) (by simp)), by simp, rfl⟩
    · exact ⟨_, _, rows2 (st.lat (p := Le) (xs := [V.ref g, .ref r2]) (by simp)) (st.rat (r := .set 1 z (mS sA zs z)) (v := .ref g) (by simp)) (st.rat (r := .set 2 z (mS sA zs z)) (v := .ref r2) (by simp)), by simp, no2⟩
    · exact ⟨_, _, rows1 (st.lat (p := Lf) (xs := [V.ref rn]) (by simp)) (st.rat (r := .set 1 z (.nm z)) (v := .ref rn) (by simp)), by simp, rfl⟩
    · exact ⟨_, _, rows3 (st.lat (p := Lg) (xs := [V.ref g, .ref g, .ref rr]) (by simp)) (st.rat (r := .set 1 z (mS sA zs z)) (v := .ref g) (by simp)) (st.rat (r := .set 1 z (mS sA zs z)) (v := .ref g) (by simp)) (st.rat (r := .set 1 z (mSS sA zs z)) (v := .ref rr) (by simp)), by simp, no3⟩
    · exact ⟨_, _, rows2 (st.lat (p := Lh) (xs := [V.ref rf, .ref g]) (by simp)) (st.rat (r := .set 1 z (.ap (.st fA zf yf) [.nm z])) (v := .ref rf) (by simp)) (st.rat (r := .set 1 z (mS sA zs z)) (v := .ref g) (by simp)), by simp, no4 ry⟩
    · exact ⟨_, _, rows1 (st.lat (p := Li) (xs := [V.ref x7]) (by simp)) (st.rat (r := .rfs z) (v := .ref x7) (by simp)), by simp, rfl⟩
    · exact ⟨_, _, rows1 (st.lat (p := Lt) (xs := [V.ref x8]) (by simp)) (st.rat (r := .sti [.set 1 z (mS sA zs z)]) (v := .ref x8) (by simp)), by simp, rfl⟩
    · exact ⟨_, _, rows2 (st.lat (p := Lu) (xs := [V.ref g, .ref ra]) (by simp)) (st.rat (r := .set 1 z (mS sA zs z)) (v := .ref g) (by simp)) (st.rat (r := .set 1 z (.ap .le [mS sA zs z, .nm z])) (v := .ref ra) (by simp)), by simp, no5⟩
    · exact ⟨_, _, rows2 (st.lat (p := Lx) (xs := [V.ref g, .ref x10]) (by simp)) (st.rat (r := .set 1 z (mS sA zs z)) (v := .ref g) (by simp)) (st.rat (r := .iff (.nm z) (.nm z) [] [.set 1 z (mS sA zs z)]) (v := .ref x10) (by simp)), by simp, no6⟩
end
end LK

namespace LK
open PySem PySem.Spec PyProof.Rows L2 LR
/-- what stands once all is drawn -/
structure LS (K : PySem.W.Frag) (C cS cRow : Addr) (cR : Nat → Addr) (l c : Addr) (z : Str) (n : Nat) (m : Md) (sA fA : Addr) (zs zf yf : Str) (ev : V) (rv Ln Le Lr : Addr) (xn xe xr : List V) (H : Hp) : Prop where
  f : Deal H l c
  e : ExR K C cS n (Dl l c H) m ev
  r : RwO K C cS cR 1 (Dl l c H) (.set 1 z (mS sA zs z)) (.ref rv)
  a1 : HdS cS (Dl l c H) (.st sA zs "+")
  a2 : HdS cS (Dl l c H) (.st fA zf yf)
  hn : Dl l c H Ln = some (.lst xn)
  he : Dl l c H Le = some (.lst xe)
  hr : Dl l c H Lr = some (.lst xr)
  gn : ∀ x ∈ xn, NN K (Dl l c H) x
  ge : ∀ x ∈ xe, EvBad K C (Dl l c H) x
  gr : ∀ x ∈ xr, RowsBad K cRow (Dl l c H) x
section
variable {K : PySem.W.Frag} {C cS cRow : Addr} {cR : Nat → Addr} {l c : Addr} {z : Str} {n : Nat} {m : Md} {sA fA : Addr} {zs zf yf : Str} {ev : V} {rv Ln Le Lr : Addr} {xn xe xr : List V} {H H' : Hp}
theorem LS.mv (h : LS K C cS cRow cR l c z n m sA fA zs zf yf ev rv Ln Le Lr xn xe xr H) (f : Deal H' l c) (k : Kp l c H H') : LS K C cS cRow cR l c z n m sA fA zs zf yf ev rv Ln Le Lr xn xe xr H' :=
  have s := dl_kp k
  ⟨f, h.e.same s, h.r.same s, hdS_tr (Tr.same s) h.a1, hdS_tr (Tr.same s) h.a2, s _ _ h.hn, s _ _ h.he, s _ _ h.hr, fun x hx => (h.gn x hx).same s, fun x hx => (h.ge x hx).same s, fun x hx => (h.gr x hx).same s⟩
theorem LS.same (h : LS K C cS cRow cR l c z n m sA fA zs zf yf ev rv Ln Le Lr xn xe xr H) (s : Same H H') : LS K C cS cRow cR l c z n m sA fA zs zf yf ev rv Ln Le Lr xn xe xr H' := h.mv (h.f.same s) (Kp.same s)
end
section
variable {sA : Addr} {zs z : Str} {m : Md}
theorem fitA (lm : sz m ≤ 5) : FitsR (.iff (.nm z) m [] [.set 1 z (mS sA zs z)]) :=
  ⟨z :: lvs m, (zs, "+") :: sts m, fun k hk => by simp [lvsR, lvsRs, lvs, lvsL] at hk ⊢; exact hk.elim .inl fun h => h.symm, fun k hk => by simp [stsR, stsRs, sts, stsL, hdK] at hk ⊢; exact hk.symm,
    by have := lvs_le m; show (2 + 1) * (lvs m).length.succ < 63; omega, by have := sts_le m; show (2 + 1) * (sts m).length.succ < 1000; omega, by show 2 + 1 < 64; decide⟩
theorem fit3 : FitsR (.sti [.set 1 z (mS sA zs z), .set 1 z (mS sA zs z), .set 1 z (mS sA zs z)]) := ⟨[z], [(zs, "+")], fun k hk => by simpa [lvsR, lvsRs, lvs, lvsL] using hk, fun k hk => by simpa [stsR, stsRs, sts, stsL, hdK] using hk, by show (0 + 3) * 1 < 63; decide, by show (0 + 3) * 1 < 1000; decide, by show 0 + 3 < 64; decide⟩
theorem may3 : (decide (1 ≤ ([Rw.set 1 z (mS sA zs z), .set 1 z (mS sA zs z), .set 1 z (mS sA zs z)]).length) && decide (([Rw.set 1 z (mS sA zs z), .set 1 z (mS sA zs z), .set 1 z (mS sA zs z)]).length ≤ 3) && ([Rw.set 1 z (mS sA zs z), .set 1 z (mS sA zs z), .set 1 z (mS sA zs z)]).all mayB) = true := by
  rw [List.all_cons, List.all_cons, List.all_cons, may1']
  rfl
end

def spLaw (K : PySem.W.Frag) : Sp := fun vs H Q _ => ∃ (a : Addr) (ns : List Int), vs = [.ref a] ∧ SqL K H a (ns.map V.int) ∧ ns.length ≤ 63 ∧ ∀ H', Q (.bl true) H'
def nLaw14 : List Str := ["_law_script", "_law_deal", "_law_words", "_law_name", "_law_step", "_law_falling", "_law_expr", "_law_row", "_law_names", "_law_exprs", "_law_rows", "_law_turn", "_law_bad", "_law_found", "_law_kind", "_law_one", "_law_other"]
theorem scLaw14 : FnScope nLaw14 ["_law_script"] (defScope sLaw) := ⟨rfl, rfl, rfl, by decide +kernel, rfl, by decide +kernel, by decide +kernel⟩
section
variable {P : Program} {w : World} {K : PySem.W.Frag} {mg : Str → Option Value} {base : Heap}
theorem ok_law14 {C0 C cS cRow iS fC gA gO fSr fW fD fP fNm fN1 fN2 fN3 fN4 fR1 fR2 fR3 f : Addr} {cR ff : Nat → Addr} {ffd : Nat → FuncData} {jS dC dA dO dSr dW dD dP dNm dN1 dN2 dN3 dN4 dR1 dR2 dR3 fd : FuncData}
    (S : Std mg) (A : MkAll K mg cR ff ffd) (I : InAll P w K mg base C0 C cS cRow cR ff ffd) (CM : CallM K cS fC dC) (GC : FnOk P w K mg base CX0 7 fC dC ["self", "first", "second", "third"] (spCallX K C cS))
    (O : OpA K C gA gO dA dO) (GO : FnOk P w K mg base CX0 7 gO dO ["self", "other"] (spBinX K C cS .gr false)) (cSt : OwnCl K mg "Step" cS) (MS : Mk K cS iS) (GS0 : FnOk P w K mg base CX0 2 iS jS ["self", "name", "ways"] (spStInit cS)) (bS : Binds K jS ["self", "name", "ways"] [])
    (SR : Df K mg "_law_source" sSource fSr dSr ["_law_script", "_law_base"]) (WD : Df K mg "_law_drawn_words" sDWords fW dW ["_law_deal", "_law_many"]) (DR : Df K mg "_law_draw" sDrawR fD dD ["_law_deal", "_law_many"]) (PK : Df K mg "_law_pick" sPickR fP dP ["_law_deal", "_law_some"])
    (NM : Df K mg "named" sNamed fNm dNm ["word"]) (GM : FnOk P w K mg base CX0 4 fNm dNm ["word"] (spNamedX K C cS))
    (NN_ : Df K mg "_law_no_names" sNoNames fN1 dN1 p4) (GNN : FnOk P w K mg base CX0 1 fN1 dN1 p4 (spNoNames K C cS cR)) (NE_ : Df K mg "_law_no_exprs" sNoExprs fN2 dN2 p4) (GNE : FnOk P w K mg base CX0 1 fN2 dN2 p4 (spNoExprs K C cS cR))
    (NR_ : Df K mg "_law_no_rows" sNoRows fN3 dN3 p4) (GNR : FnOk P w K mg base CX0 16 fN3 dN3 p4 (spNoRows K C cS cRow cR 2)) (NL_ : Df K mg "_law_no_loops" sNoLoops fN4 dN4 ["_law_name", "_law_expr", "_law_step", "_law_falling"]) (GNL : FnOk P w K mg base CX0 9 fN4 dN4 ["_law_name", "_law_expr", "_law_step", "_law_falling"] (spNoLoops K C cS cR))
    (PR : Df K mg "_law_put_refused" sPutRef fR1 dR1 ["_law_kind", "_law_name", "_law_expr"]) (GPR : FnOk P w K mg base CX0 9 fR1 dR1 ["_law_kind", "_law_name", "_law_expr"] (spPutRef K C)) (IR : Df K mg "_law_if_refused" sIfRef fR2 dR2 ["_law_left", "_law_right", "_law_rows", "_law_others"]) (GIR : FnOk P w K mg base CX0 9 fR2 dR2 ["_law_left", "_law_right", "_law_rows", "_law_others"] (spIfRef K C cS cRow cR))
    (OR : Df K mg "_law_one_refused" sOneRef fR3 dR3 ["_law_is_loop", "_law_value"]) (GOR : FnOk P w K mg base CX0 9 fR3 dR3 ["_law_is_loop", "_law_value"] (spOneRef K C cS cRow cR))
    (F : Fun K "law" "law" sLaw f fd) : FnOk P w K mg base CX0 18 f fd ["_law_script"] (spLaw K) := by
  have C1 : FnR P w K mg base CX0 7 fC (fun vs H Q E => spCallX K C cS (vs ++ [V.non, V.non]) H Q E) := GC.raw CM.b2 (.cons rfl (.cons rfl .nil))
  have GSr : FnOk P w K mg base CX0 1 fSr dSr ["_law_script", "_law_base"] (spSource K) := ok_source S SR.F
  have GD : FnOk P w K mg base CX0 1 fD dD ["_law_deal", "_law_many"] spDrawR := ok_drawR S DR.F
  have GP : FnOk P w K mg base CX0 2 fP dP ["_law_deal", "_law_some"] (spPickR K) := ok_pickR S PK.F DR
  have GW : FnOk P w K mg base CX0 2 fW dW ["_law_deal", "_law_many"] spDWords := ok_dwords S WD.F DR
  refine F.ok scLaw14 (fun vs H Q E h => ?_) (fun cdv A' outer s H vs Q E hr h => ?_)
  · obtain ⟨a, ns, rfl, _⟩ := h
    rfl
  · obtain ⟨a, ns, rfl, hSc, hlen, q⟩ := h
    have hr1 : Room 1 _ := hr.mono (by decide)
    have hr2 : Room 2 _ := hr.mono (by decide)
    have hr3 : Room 3 _ := hr.mono (by decide)
    have hr4 : Room 4 _ := hr.mono (by decide)
    have hr7 : Room 7 _ := hr.mono (by decide)
    have hr8 : Room 8 _ := hr.mono (by decide)
    have hr9 : Room 9 _ := hr.mono (by decide)
    have hr16 : Room 16 _ := hr.mono (by decide)
    refine ⟨_, pss_cons (ps_set (i := 1) scLaw14.nd rfl (Or.inr rfl) (pe_call GSr hr1 rfl SR.g SR.F.kp SR.b .nil pass0 (pa_cons (pv 0) (pa_cons pe_int pa_nil))))
        (pss_cons (ps_set (i := 2) scLaw14.nd rfl (Or.inl rfl) (pe_call GW hr2 rfl WD.g WD.F.kp WD.b .nil pass0 (pa_cons (pv 1) (pa_cons pe_int pa_nil))))
        (pss_cons (ps_asg (pe_tup (pa_cons (pe_ix ix_list (pv 2) pe_int (fun _ _ => rfl)) (pa_cons (pe_make MS GS0 hr3 rfl cSt.g bS .nil pass0 (pa_cons (pe_ix ix_list (pv 2) pe_int (fun _ _ => rfl)) (pa_cons pe_str pa_nil))) (pa_cons (pe_make MS GS0 hr3 rfl cSt.g bS .nil pass0 (pa_cons (pe_ix ix_list (pv 2) pe_int (fun _ _ => rfl)) (pa_cons (pe_call GP hr2 rfl PK.g PK.F.kp PK.b .nil pass0 (pa_cons (pv 1) (pa_cons (pe_lst (pa_cons pe_str (pa_cons pe_str pa_nil))) pa_nil))) pa_nil))) pa_nil)))) (pg_tup rfl (pgs_cons (pg_name (i := 3) scLaw14.nd rfl (Or.inr rfl)) (pgs_cons (pg_name (i := 4) scLaw14.nd rfl (Or.inl rfl)) (pgs_cons (pg_name (i := 5) scLaw14.nd rfl (Or.inl rfl)) pgs_nil)))))
        (pss_cons (ps_set (i := 6) scLaw14.nd rfl (Or.inr rfl) (pe_ifExp (pt_cmpR op_eq (pe_call GD hr1 rfl DR.g DR.F.kp DR.b .nil pass0 (pa_cons (pv 1) (pa_cons pe_int pa_nil))) pe_int (nomark _)) (pe_call GM hr4 rfl NM.g NM.F.kp NM.b .nil pass0 (pa_cons (pv 3) pa_nil)) (pe_op (op_binOwn (C := C) (E := E0) GO O.sf str_or O.o O.fo O.bo pass0 hr7) (StX.pe_callO (E := E0) (pv 4) CM.o C1 hr7 pass0 (pa_cons (pv 3) pa_nil)) (StX.pe_callO (E := E0) (pv 5) CM.o C1 hr7 pass0 (pa_cons (pv 3) pa_nil)))))
        (pss_cons (ps_set (i := 7) scLaw14.nd rfl (Or.inl rfl) (pe_make (E := fun _ _ _ => False) A.m1.M I.g1 hr8 rfl A.m1.g A.m1.b .nil (passF rfl) (pa_cons (pv 3) (pa_cons (StX.pe_callO (E := E0) (pv 4) CM.o C1 hr7 pass0 (pa_cons (pv 3) pa_nil)) pa_nil))))
        (pss_cons (ps_asg (pe_tup (pa_cons (pe_call GNN hr1 rfl NN_.g NN_.F.kp NN_.b .nil pass0 (pa_cons (pv 1) (pa_cons (pv 3) (pa_cons (pv 6) (pa_cons (pv 7) pa_nil))))) (pa_cons (pe_call GNE hr1 rfl NE_.g NE_.F.kp NE_.b .nil pass0 (pa_cons (pv 1) (pa_cons (pv 3) (pa_cons (pv 6) (pa_cons (pv 7) pa_nil))))) pa_nil))) (pg_tup rfl (pgs_cons (pg_name (i := 8) scLaw14.nd rfl (Or.inl rfl)) (pgs_cons (pg_name (i := 9) scLaw14.nd rfl (Or.inr rfl)) pgs_nil))))
        (pss_cons (ps_set (i := 10) scLaw14.nd rfl (Or.inl rfl) (pe_call GNR hr16 rfl NR_.g NR_.F.kp NR_.b .nil pass0 (pa_cons (pv 1) (pa_cons (pv 3) (pa_cons (pv 6) (pa_cons (pv 7) pa_nil))))))
        (pss_cons (ps_for PassesOwn.never rfl (pi_range1 (by rfl) S.range (pa_cons pe_int pa_nil)) (pg_name (i := 11) scLaw14.nd rfl (Or.inl rfl)) (pss_cons (ps_for PassesOwn.never rfl (pi_list (pv 8)) (pg_name (i := 12) scLaw14.nd rfl (Or.inr rfl)) (pss_cons (ps_setLc (i := 13) (own := [("_law_kind", 14)]) (g := gName 14) (tt := tYes) rfl scLaw14.nd rfl rfl rfl (pi_range1 (by rfl) S.range (pa_cons pe_int pa_nil)) (blkOk_by (N := nLaw14) (sc := defScope sLaw) (by decide +kernel)) (fun _ _ _ _ _ => pg_name (i := 14) scLaw14.nd rfl (Or.inl rfl)) (fun _ _ _ _ _ => pts_nil) (fun _ _ _ _ _ => (pe_call GPR hr9 rfl PR.g PR.F.kp PR.b .nil pass0 (pa_cons (pv 14) (pa_cons (pv 12) (pa_cons (pe_call GP hr2 rfl PK.g PK.F.kp PK.b .nil pass0 (pa_cons (pv 1) (pa_cons (pe_op op_cat (pv 9) (pe_lst (pa_cons (pv 6) pa_nil))) pa_nil))) pa_nil))))))
        (pss_one (ps_if (PW.pt (pw_or (pt_cmpR (show OpR _ _ (rNeD K) from op_neD hr.units) (pv 13) (pe_op op_rep (pe_lst (pa_cons pe_str pa_nil)) pe_int) (nomark _)) (pw_or1 (pt_cmpR op_ne (pe_call GOR hr9 rfl OR.g OR.F.kp OR.b .nil pass0 (pa_cons pe_bl (pa_cons (pv 12) pa_nil))) pe_str (nomark _))))) (pss_one (ps_ret pe_bl)) pss_nil))))
        (pss_cons (ps_for PassesOwn.never rfl (pi_list (pv 9)) (pg_name (i := 12) scLaw14.nd rfl (Or.inr rfl)) (pss_cons (ps_setLc (i := 13) (own := [("_law_kind", 14)]) (g := gName 14) (tt := tYes) rfl scLaw14.nd rfl rfl rfl (pi_range1 (by rfl) S.range (pa_cons pe_int pa_nil)) (blkOk_by (N := nLaw14) (sc := defScope sLaw) (by decide +kernel)) (fun _ _ _ _ _ => pg_name (i := 14) scLaw14.nd rfl (Or.inl rfl)) (fun _ _ _ _ _ => pts_nil) (fun _ _ _ _ _ => (pe_call GPR hr9 rfl PR.g PR.F.kp PR.b .nil pass0 (pa_cons (pv 14) (pa_cons (pv 3) (pa_cons (pv 12) pa_nil))))))
        (pss_cons (ps_par (i := 15) (j := 16) rfl scLaw14.nd rfl rfl (by decide) rfl rfl (pa_cons (pe_call GP hr2 rfl PK.g PK.F.kp PK.b .nil pass0 (pa_cons (pv 1) (pa_cons (pe_op op_cat (pv 10) (pe_lst (pa_cons (pe_lst (pa_cons (pv 7) pa_nil)) pa_nil))) pa_nil))) (pa_cons (pe_call GP hr2 rfl PK.g PK.F.kp PK.b .nil pass0 (pa_cons (pv 1) (pa_cons (pe_op op_cat (pv 10) (pe_lst (pa_cons (pe_tup pa_nil) pa_nil))) pa_nil))) pa_nil)) rfl)
        (pss_cons (ps_set (i := 13) scLaw14.nd rfl (Or.inl rfl) (pe_op op_cat (pv 13) (pe_lst (pa_cons (pe_call GIR hr9 rfl IR.g IR.F.kp IR.b .nil pass0 (pa_cons (pv 12) (pa_cons (pv 6) (pa_cons (pv 15) (pa_cons (pv 16) pa_nil))))) (pa_cons (pe_call GIR hr9 rfl IR.g IR.F.kp IR.b .nil pass0 (pa_cons (pv 3) (pa_cons (pv 12) (pa_cons (pv 15) (pa_cons (pv 16) pa_nil))))) pa_nil)))))
        (pss_one (ps_if (pt_cmpR (show OpR _ _ (rNeD K) from op_neD hr.units) (pv 13) (pe_op op_rep (pe_lst (pa_cons pe_str pa_nil)) pe_int) (nomark _)) (pss_one (ps_ret pe_bl)) pss_nil))))))
        (pss_cons (ps_for PassesOwn.never rfl (pi_list (pv 10)) (pg_name (i := 12) scLaw14.nd rfl (Or.inr rfl)) (pss_cons (ps_set (i := 13) scLaw14.nd rfl (Or.inl rfl) (pe_lst (pa_cons (pe_call GIR hr9 rfl IR.g IR.F.kp IR.b .nil pass0 (pa_cons (pv 6) (pa_cons (pv 3) (pa_cons (pv 12) (pa_cons (pe_call GP hr2 rfl PK.g PK.F.kp PK.b .nil pass0 (pa_cons (pv 1) (pa_cons (pe_op op_cat (pv 10) (pe_lst (pa_cons (pe_lst (pa_cons (pv 7) pa_nil)) pa_nil))) pa_nil))) pa_nil))))) (pa_cons (pe_call GOR hr9 rfl OR.g OR.F.kp OR.b .nil pass0 (pa_cons pe_bl (pa_cons (pv 12) pa_nil))) pa_nil))))
        (pss_one (ps_if (pt_cmpR (show OpR _ _ (rNeD K) from op_neD hr.units) (pe_op op_cat (pv 13) (pe_lst (pa_cons (pe_call GIR hr9 rfl IR.g IR.F.kp IR.b .nil pass0 (pa_cons (pv 3) (pa_cons (pv 6) (pa_cons (pe_lst (pa_cons (pv 7) pa_nil)) (pa_cons (pv 12) pa_nil))))) pa_nil))) (pe_op op_rep (pe_lst (pa_cons pe_str pa_nil)) pe_int) (nomark _)) (pss_one (ps_ret pe_bl)) pss_nil))))
        (pss_cons (ps_for PassesOwn.never rfl (pi_list (pe_call GNL hr9 rfl NL_.g NL_.F.kp NL_.b .nil pass0 (pa_cons (pv 3) (pa_cons (pv 6) (pa_cons (pv 4) (pa_cons (pv 5) pa_nil)))))) (pg_name (i := 12) scLaw14.nd rfl (Or.inr rfl)) (pss_one (ps_if (pt_cmpR op_ne (pe_call GOR hr9 rfl OR.g OR.F.kp OR.b .nil pass0 (pa_cons pe_bl (pa_cons (pv 12) pa_nil))) pe_str (nomark _)) (pss_one (ps_ret pe_bl)) pss_nil)))
        (pss_one (ps_if (PW.pt (pw_or (pt_cmp (pc_notN (pe_call GIR hr9 rfl IR.g IR.F.kp IR.b .nil pass0 (pa_cons (pv 3) (pa_cons (pv 6) (pa_cons (pe_lst pa_nil) (pa_cons (pe_lst (pa_cons (pv 7) pa_nil)) pa_nil))))))) (pw_or1 (pt_cmp (pc_notN (pe_call GOR hr9 rfl OR.g OR.F.kp OR.b .nil pass0 (pa_cons pe_bl (pa_cons (pe_op op_repU (pe_tup (pa_cons (pv 7) pa_nil)) pe_int) pa_nil)))))))) (pss_one (ps_ret pe_bl)) pss_nil)))))))
        (pss_one (ps_ret pe_bl))))))))), ?_⟩
    refine ⟨_, rfl, a, ns, rfl, hSc, hlen, fun l c H1 hl hc f1 s1 => ?_⟩
    refine ⟨_, rfl, l, c, 3, rfl, by decide, f1, fun W ws H2 hW d2 lw gw f2 k2 => ?_⟩
    obtain ⟨z, z1, z2, rfl⟩ : ∃ z z1 z2, ws = [z, z1, z2] := by
      match ws, lw with
      | [z, z1, z2], _ => exact ⟨z, z1, z2, rfl⟩
    have oz := gw z (by simp)
    have o1 := gw z1 (by simp)
    have o2 := gw z2 (by simp)
    have nW : W ≠ l ∧ W ≠ c := f1.ne hW
    refine ⟨_, rfl, W, _, 0, .str z, rfl, rfl, SqL.of d2, at_of (j := 0) rfl rfl, _, rfl, W, _, 1, .str z1, rfl, rfl, SqL.of d2, at_of (j := 1) rfl rfl, ?_⟩
    intro sA dA nsA ndA neA
    refine ⟨sA, dA, z1, _, rfl, upd_same, o1, plusOk, fun H3 st3 kp3 => ⟨rfl, ?_⟩⟩
    have s3 := same_of_keep (H1 := H2) nsA ndA kp3
    clear kp3
    refine ⟨_, rfl, W, _, 2, .str z2, rfl, rfl, SqL.of (s3 _ _ d2), at_of (j := 2) rfl rfl, _, rfl, (by show 2 ≤ sizeLine; decide), fun p hp => ?_⟩
    have s4 := s3.trans (same_new (o := .lst [V.str "-", .str "?"]) hp)
    have f4 := f2.same s4
    have np : p ≠ l ∧ p ≠ c := (f2.same s3).ne hp
    refine ⟨l, c, p, _, rfl, f4, .inl ⟨upd_same, np.1, np.2⟩, by decide, by decide, fun v H5 hv f5 k5 => ?_⟩
    obtain ⟨yf, rfl, oy, ly, ry⟩ : ∃ yf, v = .str yf ∧ WaysOk yf ∧ yf.length = 1 ∧ risB yf = false := by
      rcases List.mem_cons.mp hv with rfl | hv
      · exact ⟨_, rfl, ⟨by decide +kernel, by decide +kernel, by decide +kernel⟩, by decide +kernel, by decide +kernel⟩
      · rw [List.mem_singleton.mp hv]
        exact ⟨_, rfl, ⟨by decide +kernel, by decide +kernel, by decide +kernel⟩, by decide +kernel, by decide +kernel⟩
    have k05 : Kp l c H2 H5 := (Kp.same s4).trans k5
    have a13 : HdS cS H3 (.st sA z1 "+") := ⟨st3, o1, plusOk⟩
    have a15 : HdS cS (Dl l c H5) (.st sA z1 "+") := hdS_tr (Tr.same (dl_kp k5)) (hdS_tr (dl_tr f4) (hdS_tr (Tr.same (same_new hp)) a13))
    intro fA dF nsF ndF neF
    refine ⟨fA, dF, z2, yf, rfl, upd_same, o2, oy, fun H6 st6 kp6 => ⟨rfl, ?_⟩⟩
    have s6 := same_of_keep (H1 := H5) nsF ndF kp6
    clear kp6
    have f6 := f5.same s6
    have a16 := hdS_tr (Tr.same (dl_up (l := l) (c := c) s6)) a15
    have a26 : HdS cS (Dl l c H6) (.st fA z2 yf) := hdS_tr (dl_tr f6) ⟨st6, o2, oy⟩
    have k06 : Kp l c H2 H6 := k05.trans (Kp.same s6)
    refine ⟨(by show 3 ≤ sizeLine; decide), fun T hT => ⟨T, _, rfl, SqT.of upd_same, rfl, _, _, rfl, _, _, rfl, _, _, rfl, rfl, ?_⟩⟩
    have sT := same_new (o := .tup [V.str z, .ref sA, .ref fA]) hT
    have f7 := f6.same sT
    have a17 := hdS_tr (Tr.same (dl_up (l := l) (c := c) sT)) a16
    have a27 := hdS_tr (Tr.same (dl_up (l := l) (c := c) sT)) a26
    generalize upd H6 T (.tup [V.str z, .ref sA, .ref fA]) = H7 at f7 a17 a27 ⊢
    clear a13 a15 a16 a26 st3 st6 s4 s3 sT s6 f6 f5 k5 k05 k06 hv f4
    dsimp only [List.set]
    refine seq_key (fun σ' H8 => ∃ n m ev, σ' = [some (.ref a), some (.ref l), some (.ref W), some (.str z), some (.ref sA), some (.ref fA), some ev, none, none, none, none, none, none, none, none, none, none] ∧ Deal H8 l c ∧ Kp l c H7 H8 ∧ ExR K C cS n (Dl l c H8) m ev ∧ n ≤ 3 ∧ sz m ≤ 5) (fun key => ?_) (fun σ' H8 h => ?_)
    · refine ⟨_, rfl, l, c, 2, rfl, f7, by decide, by decide, fun d H8 d0 d1 f8 k8 => ?_⟩
      have c1 : HdS cS H8 (.st sA z1 "+") := hdS_tr (Tr.same dl_same) (hdS_tr (Tr.same (dl_kp k8)) a17)
      have c2 : HdS cS H8 (.st fA z2 yf) := hdS_tr (Tr.same dl_same) (hdS_tr (Tr.same (dl_kp k8)) a27)
      refine ⟨rfl, _, rfl, ite2 (fun cc => ?_) (fun cc => ?_)⟩
      · exact ⟨_, rfl, z, rfl, oz, fun v H9 s9 ex => key _ _ ⟨1, .nm z, v, rfl, f8.same s9, k8.trans (Kp.same s9), exR_tr (dl_tr (f8.same s9)) ex, by decide, by simp [sz]⟩⟩
      · refine ⟨_, rfl, sA, rfl, _, rfl, .inr (hd_ins c1), call1_read c1 rfl (nm_part oz) (by simp [sz, szL]) fun e1 H9 s9 ex1 => ?_⟩
        have c2 := hdS_tr (Tr.same s9) c2
        refine ⟨_, rfl, fA, rfl, _, rfl, .inr (hd_ins c2), call1_read c2 ly (nm_part oz) (by simp [sz, szL]) fun e2 H10 s10 ex2 => ?_⟩
        have ex1 := ex1.same s10
        refine ⟨ex_ins ex1, .inr (ex_ins ex2), e1, e2, 2, _, _, rfl, ex1, .inl ex2, by simp [sz, szL], fun v H11 s11 ex => ⟨ex_ref ex, ?_⟩⟩
        have s := (s9.trans s10).trans s11
        exact key _ _ ⟨3, _, v, rfl, f8.same s, k8.trans (Kp.same s), exR_tr (dl_tr (f8.same s)) ex, by decide, by simp [sz, szL]⟩
    obtain ⟨n, m, ev, rfl, f8, k8, ex, ln, lm⟩ := h
    have a18 := hdS_tr (Tr.same (dl_kp k8)) a17
    have a28 := hdS_tr (Tr.same (dl_kp k8)) a27
    have c1 : HdS cS H8 (.st sA z1 "+") := hdS_tr (Tr.same dl_same) a18
    clear a17 a27 k8 f7
    -- the row
    refine ⟨_, rfl, _, rfl, sA, rfl, _, rfl, .inr (hd_ins c1), call1_read c1 rfl (nm_part oz) (by simp [sz, szL]) fun e1 H9 s9 ex1 => fun rv dr nr nd ne => ⟨rv, dr, .str z, e1, _, rfl, Mkg.new nr nd, seen_str (by have := oz.len; omega), .inr (.inr ⟨z, _, _, rfl, oz, .inl ex1, by simp [sz, szL], fun H10 ro s10 => ⟨rfl, ?_⟩⟩)⟩⟩
    have s8 := s9.trans s10
    have fA' := f8.same s8
    have ds := dl_up (l := l) (c := c) s8
    have rA : RwO K C cS cR 1 (Dl l c H10) (.set 1 z (mS sA z1 z)) (.ref rv) := rwO_tr (dl_tr fA') ro
    have exA := ex.same ds
    have a1A := hdS_tr (Tr.same ds) a18
    have a2A := hdS_tr (Tr.same ds) a28
    clear ro s9 s10 s8 ds c1 ex1 f8 a18 a28 ex nr nd ne
    -- the values that do not fit
    refine gN_key ?_
    dsimp only [List.set]
    refine ⟨_, rfl, _, rfl, _, rfl, _, rfl, l, c, z, ev, .ref rv, n, 1, m, _, rfl, fA', oz, exA, rA, fun Ln xn H11 s11 nLn dLn ln18 gn => ?_⟩
    have f11 := fA'.same s11
    have e11 := exA.same (dl_up s11)
    have r11 := rwO_tr (Tr.same (dl_up (l := l) (c := c) s11)) rA
    have neN := fA'.ne nLn
    refine ⟨_, rfl, _, rfl, _, rfl, _, rfl, l, c, z, ev, .ref rv, n, 1, m, _, rfl, f11, oz, e11, r11, fun Le xe H12 s12 nLe dLe le11 ge => ?_⟩
    have neE := f11.ne nLe
    refine ⟨(by show 2 ≤ sizeLine; decide), fun T2 hT2 => ⟨T2, _, rfl, SqT.of upd_same, rfl, _, _, rfl, _, _, rfl, rfl, ?_⟩⟩
    have s13 := s12.trans (same_new (o := .tup [V.ref Ln, .ref Le]) hT2)
    have dLe := (same_new (o := .tup [V.ref Ln, .ref Le]) hT2) _ _ dLe
    have ge' : ∀ x ∈ xe, EvBad K C (Dl l c (upd H12 T2 (.tup [V.ref Ln, .ref Le]))) x := fun x hx => (ge x hx).same (dl_up (same_new hT2))
    generalize upd H12 T2 (.tup [V.ref Ln, .ref Le]) = H13 at s13 dLe ge' ⊢
    have dLn := s13 _ _ dLn
    have f13 := f11.same s13
    have e13 := e11.same (dl_up s13)
    have r13 := rwO_tr (Tr.same (dl_up (l := l) (c := c) s13)) r11
    have gn' : ∀ x ∈ xn, NN K (Dl l c H13) x := fun x hx => (gn x hx).same (dl_up s13)
    have a13 := hdS_tr (Tr.same (dl_up (l := l) (c := c) (s11.trans s13))) a1A
    have a23 := hdS_tr (Tr.same (dl_up (l := l) (c := c) (s11.trans s13))) a2A
    clear s11 s12 s13 fA' exA rA a1A a2A f11 e11 r11 gn ge hT2 nLn nLe
    dsimp only [List.set]
    refine ⟨_, rfl, _, rfl, _, rfl, _, rfl, l, c, z, ev, .ref rv, n, 1, m, z, _, rfl, f13, oz, e13, r13, by simp [sz, szL], ?_, fun Lr xr H14 s14 nLr dLr lr13 gr => ?_⟩
    · have l1 := o1.len
      have l2 := oz.len
      have e1 : (TL.tl z).length = z.length := rfl
      have e2 : (TL.tl (hdW (.st sA z1 "+"))).length = z1.length := rfl
      rw [cp_ap, List.length_append, List.length_cons, List.length_append, List.length_singleton, e2]
      have e3 : TL.joinL [44, 32] (cpL [Md.nm z]) = TL.tl z := by rw [cpL, cpL, cp]; rfl
      rw [e3, e1]
      omega
    have neR := f13.ne nLr
    have st : LS K C cS cRow cR l c z n m sA fA z1 z2 yf ev rv Ln Le Lr xn xe xr H14 :=
      ⟨f13.same s14, e13.same (dl_up s14), rwO_tr (Tr.same (dl_up s14)) r13, hdS_tr (Tr.same (dl_up s14)) a13, hdS_tr (Tr.same (dl_up s14)) a23, (dl_at neN.1 neN.2).trans (s14 _ _ dLn), (dl_at neE.1 neE.2).trans (s14 _ _ dLe), (dl_at neR.1 neR.2).trans dLr,
        fun x hx => (gn' x hx).same (dl_up s14), fun x hx => (ge' x hx).same (dl_up s14), gr⟩
    clear f13 e13 r13 a13 a23 dLn dLe dLr neN neE neR gn' ge' gr s14 nLr
    refine gN_key ?_
    dsimp only [List.set]
    refine ⟨2, rfl, by decide, by decide, for_range (lo := 0) (n := 2) (fun i σ' H' => (∃ v11 v12 v13 v14 v15 v16, σ' = [some (.ref a), some (.ref l), some (.ref W), some (.str z), some (.ref sA), some (.ref fA), some ev, some (.ref rv), some (.ref Ln), some (.ref Le), some (.ref Lr), v11, v12, v13, v14, v15, v16]) ∧ LS K C cS cRow cR l c z n m sA fA z1 z2 yf ev rv Ln Le Lr xn xe xr H')
      ⟨⟨_, _, _, _, _, _, rfl⟩, st⟩ (fun i σ' H' lt h => ?_) (fun σ' H' h => q H')⟩
    clear st
    obtain ⟨⟨v11, v12, v13, v14, v15, v16, rfl⟩, st⟩ := h
    refine gN_key ?_
    dsimp only [List.set]
    refine ⟨_, rfl, Ln, rfl, ⟨xn, SqL.of (dl_same _ _ st.hn)⟩, for_list (xs := xn) (fun i1 σ' H' => (∃ v12 v13 v14 v15 v16, σ' = [some (.ref a), some (.ref l), some (.ref W), some (.str z), some (.ref sA), some (.ref fA), some ev, some (.ref rv), some (.ref Ln), some (.ref Le), some (.ref Lr), some (.int (0 + (i : Int))), v12, v13, v14, v15, v16]) ∧ LS K C cS cRow cR l c z n m sA fA z1 z2 yf ev rv Ln Le Lr xn xe xr H')
      ⟨⟨_, _, _, _, _, rfl⟩, st⟩ (fun i1 σ' H' _ h => SqL.of (dl_same _ _ h.2.hn)) (fun i1 x σ' H1 hx h => ?_) (fun σ' H1 h => ?_)⟩
    · clear st
      obtain ⟨⟨v12, v13, v14, v15, v16, rfl⟩, st⟩ := h
      have hx := List.mem_of_getElem? hx
      refine gN_key ?_
      dsimp only [List.set]
      refine ⟨3, rfl, by decide, by decide, fun D hD => lc_range (lo := 0) (n := 3) (fun i2 H2 => Deal H2 l c ∧ Kp l c H1 H2 ∧ H2 D = some (.lst (List.replicate i2 (V.str "name")))) ⟨st.f.same (same_new hD), Kp.new hD, upd_same⟩ (fun i2 H2 lt h => ?_) (fun H2 h => ?_)⟩
      · obtain ⟨f2, k2, d2⟩ := h
        have st2 := st.mv f2 k2
        have nD := st.f.ne hD
        refine ⟨rfl, _, rfl, _, rfl, _, rfl, _, rfl, _, rfl, (by show 1 ≤ sizeLine; decide), fun p hp => ⟨Le, p, xe, [ev], rfl, rfl, (same_new hp) _ _ (dl_same _ _ st2.he), upd_same, by rw [le11]; show 12 ≤ sizeLine; decide, fun p2 hp2 => ?_⟩⟩
        have s3 := (same_new (o := .lst [ev]) hp).trans (same_new (o := .lst (xe ++ [ev])) hp2)
        have np := (f2.same (same_new (o := .lst [ev]) hp)).ne hp2
        refine ⟨l, c, p2, _, rfl, f2.same s3, .inl ⟨upd_same, np.1, np.2⟩, by rw [List.length_append, le11]; show 0 < 12; decide, by rw [List.length_append, le11]; show 12 ≤ 1000; decide, fun v H5 hv f5 k5 => ?_⟩
        have st5 := (st2.same s3).mv f5 k5
        have nn := (st5.gn x hx).same dl_same
        refine ⟨_, x, v, rfl, nn.1, .inl ⟨nn.2, fun H6 s6 => ?_⟩⟩
        refine ⟨_, s6 _ _ (k5 _ _ nD.1 nD.2 (s3 _ _ d2)), by rw [List.length_replicate, sizeLine_eq]; omega, (f5.same s6).put nD, Kp.put (((k2.trans (Kp.same s3)).trans k5).trans (Kp.same s6)) hD, by rw [upd_same, List.replicate_succ']⟩
      · obtain ⟨f2, k2, d2⟩ := h
        have st2 := st.mv f2 k2
        have d2 : H2 D = some (.lst [.str "name", .str "name", .str "name"]) := d2
        refine gN_key ?_
        dsimp only [List.set]
        refine ⟨_, rfl, (by show 1 ≤ sizeLine; decide), fun p hp => ⟨p, 3, [.str "name"], rfl, rfl, upd_same, by decide, by decide, by show 1 * 3 ≤ sizeLine; decide, fun p2 hp2 => ?_⟩⟩
        have s3 := (same_new (o := .lst [V.str "name"]) hp).trans (same_new (o := .lst [V.str "name", .str "name", .str "name"]) hp2)
        refine ⟨.list [.str "name", .str "name", .str "name"], .list [.str "name", .str "name", .str "name"], .lst (SqL.of (s3 _ _ d2)) (.cons (.str _) (.cons (.str _) (.cons (.str _) .nil))), .lst (SqL.of upd_same) (.cons (.str _) (.cons (.str _) (.cons (.str _) .nil))), by decide +kernel, by decide +kernel, ?_⟩
        have st3 := st2.same s3
        have nn := (st3.gn x hx).same dl_same
        exact ⟨false, congrArg V.bl (by decide +kernel), iteF ⟨_, rfl, false, x, rfl, .inl ⟨rfl, nn.1, nn.2, fun H5 s5 => ⟨rfl, false, congrArg V.bl (by decide +kernel), iteF ⟨⟨_, _, _, _, _, rfl⟩, st3.same s5⟩⟩⟩⟩⟩
    clear st
    obtain ⟨⟨v12, v13, v14, v15, v16, rfl⟩, st⟩ := h
    refine ⟨_, rfl, Le, rfl, ⟨xe, SqL.of (dl_same _ _ st.he)⟩, for_list (xs := xe) (fun i1 σ' H' => (∃ v12 v13 v14 v15 v16, σ' = [some (.ref a), some (.ref l), some (.ref W), some (.str z), some (.ref sA), some (.ref fA), some ev, some (.ref rv), some (.ref Ln), some (.ref Le), some (.ref Lr), some (.int (0 + (i : Int))), v12, v13, v14, v15, v16]) ∧ LS K C cS cRow cR l c z n m sA fA z1 z2 yf ev rv Ln Le Lr xn xe xr H')
      ⟨⟨_, _, _, _, _, rfl⟩, st⟩ (fun i1 σ' H' _ h => SqL.of (dl_same _ _ h.2.he)) (fun i1 x σ' H1 hx h => ?_) (fun σ' H1 h => ?_)⟩
    · clear st
      obtain ⟨⟨v12, v13, v14, v15, v16, rfl⟩, st⟩ := h
      have hx := List.mem_of_getElem? hx
      refine gN_key ?_
      dsimp only [List.set]
      refine ⟨3, rfl, by decide, by decide, fun D hD => lc_range (lo := 0) (n := 3) (fun i2 H2 => Same H1 H2 ∧ H2 D = some (.lst (List.replicate i2 (V.str "expr")))) ⟨same_new hD, upd_same⟩ (fun i2 H2 lt h => ?_) (fun H2 h => ?_)⟩
      · obtain ⟨s2, d2⟩ := h
        have st2 := st.same s2
        have nn := (st2.ge x hx).same dl_same
        refine ⟨rfl, _, rfl, _, rfl, _, rfl, _, .str z, x, rfl, seen_str (by have := oz.len; omega), .inr ⟨z, rfl, oz, nn, fun H6 s6 => ?_⟩⟩
        exact ⟨_, s6 _ _ d2, by rw [List.length_replicate, sizeLine_eq]; omega, same_put hD (s2.trans s6), by rw [upd_same, List.replicate_succ']⟩
      · obtain ⟨s2, d2⟩ := h
        have st2 := st.same s2
        have d2 : H2 D = some (.lst [.str "expr", .str "expr", .str "expr"]) := d2
        have nD := st.f.ne hD
        refine gN_key ?_
        dsimp only [List.set]
        clear st hD
        -- two of the rows that do not fit, or rows that do
        refine ⟨_, rfl, _, rfl, _, rfl, (by show 1 ≤ sizeLine; decide), fun p hp => ⟨(by show 1 ≤ sizeLine; decide), fun p2 hp2 => ?_⟩⟩
        have s3 := (same_new (o := .lst [V.ref rv]) hp).trans (same_new (o := .lst [V.ref p]) hp2)
        have st3 := st2.same s3
        have dp := (same_new (o := .lst [V.ref p]) hp2) _ _ (@upd_same H2 p (.lst [V.ref rv]))
        have dp2 := @upd_same (upd H2 p (.lst [V.ref rv])) p2 (.lst [V.ref p])
        have np := st2.f.ne hp
        have d3 := s3 _ _ d2
        generalize upd (upd H2 p (.lst [V.ref rv])) p2 (.lst [V.ref p]) = H3 at st3 dp dp2 d3 ⊢
        clear s3 hp hp2 st2 d2 s2
        refine ⟨Lr, p2, xr, [.ref p], rfl, rfl, dl_same _ _ st3.hr, dp2, by rw [lr13]; show 14 ≤ sizeLine; decide, fun p3 hp3 => ?_⟩
        have s4 := same_new (o := .lst (xr ++ [V.ref p])) hp3
        have n3 := st3.f.ne hp3
        refine ⟨l, c, p3, _, rfl, st3.f.same s4, .inl ⟨upd_same, n3.1, n3.2⟩, by rw [List.length_append, lr13]; show 0 < 14; decide, by rw [List.length_append, lr13]; show 14 ≤ 1000; decide, fun v15 H4 hv f4 k4 => ?_⟩
        have st4 := (st3.same s4).mv f4 k4
        have d4 := k4 _ _ nD.1 nD.2 (s4 _ _ d3)
        clear hv d3 dp2 np dp s4 k4 f4 st3 n3 hp3
        refine ⟨_, rfl, _, rfl, (by show 0 ≤ sizeLine; decide), fun p hp => ⟨(by show 1 ≤ sizeLine; decide), fun p2 hp2 => ?_⟩⟩
        have s3 := (same_new (o := .tup []) hp).trans (same_new (o := .lst [V.ref p]) hp2)
        have st3 := st4.same s3
        have dp2 := @upd_same (upd H4 p (.tup [])) p2 (.lst [V.ref p])
        have d3 := s3 _ _ d4
        generalize upd (upd H4 p (.tup [])) p2 (.lst [V.ref p]) = H5 at st3 dp2 d3 ⊢
        clear s3 hp hp2 st4 d4
        refine ⟨Lr, p2, xr, [.ref p], rfl, rfl, dl_same _ _ st3.hr, dp2, by rw [lr13]; show 14 ≤ sizeLine; decide, fun p3 hp3 => ?_⟩
        have s4 := same_new (o := .lst (xr ++ [V.ref p])) hp3
        have n3 := st3.f.ne hp3
        refine ⟨l, c, p3, _, rfl, st3.f.same s4, .inl ⟨upd_same, n3.1, n3.2⟩, by rw [List.length_append, lr13]; show 0 < 14; decide, by rw [List.length_append, lr13]; show 14 ≤ 1000; decide, fun v16 H6 hv f6 k6 => ⟨_, _, rfl, ?_⟩⟩
        have st6 := (st3.same s4).mv f6 k6
        have d6 := k6 _ _ nD.1 nD.2 (s4 _ _ d3)
        clear hv d3 dp2 s4 k6 f6 st3 n3 hp3
        dsimp only [List.set]
        refine ⟨_, rfl, _, rfl, _, rfl, _, rfl, _, rfl, x, ev, v15, v16, rfl, .inl ⟨(st6.ge x hx).same dl_same, fun H7 s7 => ?_⟩⟩
        have st7 := st6.same s7
        have d7 := s7 _ _ d6
        clear st6 d6 s7
        refine ⟨_, rfl, _, rfl, _, rfl, _, rfl, .str z, x, v15, v16, rfl, .inr ⟨1, .nm z, nm_part oz, .inl ⟨(st7.ge x hx).same dl_same, fun H8 s8 => ⟨(by show 2 ≤ sizeLine; decide), fun p hp => ?_⟩⟩⟩⟩
        have s9 := s8.trans (same_new (o := .lst [V.str "expr", .str "expr"]) hp)
        refine ⟨D, p, _, _, rfl, rfl, s9 _ _ d7, upd_same, by show 5 ≤ sizeLine; decide, fun p2 hp2 => ?_⟩
        have st8 := st7.same (s9.trans (same_new (o := .lst [V.str "expr", .str "expr", .str "expr", .str "expr", .str "expr"]) hp2))
        refine gN_key ?_
        dsimp only [List.set]
        refine ⟨_, rfl, (by show 1 ≤ sizeLine; decide), fun p3 hp3 => ⟨p3, 5, [.str "expr"], rfl, rfl, upd_same, by decide, by decide, by show 1 * 5 ≤ sizeLine; decide, fun p4 hp4 => ?_⟩⟩
        have sA := (same_new (o := .lst [V.str "expr"]) hp3).trans (same_new (o := .lst [V.str "expr", .str "expr", .str "expr", .str "expr", .str "expr"]) hp4)
        refine ⟨.list [.str "expr", .str "expr", .str "expr", .str "expr", .str "expr"], .list [.str "expr", .str "expr", .str "expr", .str "expr", .str "expr"], .lst (SqL.of (sA _ _ upd_same)) (.cons (.str _) (.cons (.str _) (.cons (.str _) (.cons (.str _) (.cons (.str _) .nil))))), .lst (SqL.of upd_same) (.cons (.str _) (.cons (.str _) (.cons (.str _) (.cons (.str _) (.cons (.str _) .nil))))), by decide +kernel, by decide +kernel, ?_⟩
        exact ⟨false, congrArg V.bl (by decide +kernel), iteF ⟨⟨_, _, _, _, _, rfl⟩, st8.same sA⟩⟩
    clear st
    obtain ⟨⟨v12, v13, v14, v15, v16, rfl⟩, st⟩ := h
    refine ⟨_, rfl, Lr, rfl, ⟨xr, SqL.of (dl_same _ _ st.hr)⟩, for_list (xs := xr) (fun i1 σ' H' => (∃ v12 v13 v14 v15 v16, σ' = [some (.ref a), some (.ref l), some (.ref W), some (.str z), some (.ref sA), some (.ref fA), some ev, some (.ref rv), some (.ref Ln), some (.ref Le), some (.ref Lr), some (.int (0 + (i : Int))), v12, v13, v14, v15, v16]) ∧ LS K C cS cRow cR l c z n m sA fA z1 z2 yf ev rv Ln Le Lr xn xe xr H')
      ⟨⟨_, _, _, _, _, rfl⟩, st⟩ (fun i1 σ' H' _ h => SqL.of (dl_same _ _ h.2.hr)) (fun i1 x σ' H1 hx h => ?_) (fun σ' H1 h => ?_)⟩
    · clear st
      obtain ⟨⟨v12, v13, v14, v15, v16, rfl⟩, st⟩ := h
      have hx := List.mem_of_getElem? hx
      refine gN_key ?_
      dsimp only [List.set]
      refine ⟨_, rfl, _, rfl, _, rfl, _, rfl, _, rfl, _, rfl, (by show 1 ≤ sizeLine; decide), fun p hp => ⟨(by show 1 ≤ sizeLine; decide), fun p2 hp2 => ?_⟩⟩
      have s3 := (same_new (o := .lst [V.ref rv]) hp).trans (same_new (o := .lst [V.ref p]) hp2)
      have st3 := st.same s3
      have dp2 := @upd_same (upd H1 p (.lst [V.ref rv])) p2 (.lst [V.ref p])
      generalize upd (upd H1 p (.lst [V.ref rv])) p2 (.lst [V.ref p]) = H3 at st3 dp2 ⊢
      clear s3 hp hp2 st
      refine ⟨Lr, p2, xr, [.ref p], rfl, rfl, dl_same _ _ st3.hr, dp2, by rw [lr13]; show 14 ≤ sizeLine; decide, fun p3 hp3 => ?_⟩
      have s4 := same_new (o := .lst (xr ++ [V.ref p])) hp3
      have n3 := st3.f.ne hp3
      refine ⟨l, c, p3, _, rfl, st3.f.same s4, .inl ⟨upd_same, n3.1, n3.2⟩, by rw [List.length_append, lr13]; show 0 < 14; decide, by rw [List.length_append, lr13]; show 14 ≤ 1000; decide, fun v H4 hv f4 k4 => ?_⟩
      have st4 := (st3.same s4).mv f4 k4
      clear hv dp2 s4 k4 f4 st3 n3 hp3
      refine ⟨ev, .str z, x, v, rfl, .inr ⟨n, m, .inl (st4.e.same dl_same), .inr ⟨1, .nm z, nm_part oz, .inl ⟨(st4.gr x hx).same dl_same, fun H5 s5 => ?_⟩⟩⟩⟩
      have st5 := st4.same s5
      clear st4 s5
      refine ⟨_, rfl, true, x, rfl, .inr ⟨rfl, .inl ⟨(st5.gr x hx).same dl_same, fun H6 s6 => ⟨(by show 2 ≤ sizeLine; decide), fun D hD => ?_⟩⟩⟩⟩
      have st6 := st5.same (s6.trans (same_new (o := .lst [V.str "row", .str "row"]) hD))
      have dD := @upd_same H6 D (.lst [V.str "row", .str "row"])
      generalize upd H6 D (.lst [V.str "row", .str "row"]) = H7 at st6 dD ⊢
      clear st5 s6 hD
      refine gN_key ?_
      dsimp only [List.set]
      refine ⟨_, rfl, _, rfl, _, rfl, _, rfl, (by show 1 ≤ sizeLine; decide), fun p hp => ?_⟩
      have s8 := same_new (o := .lst [V.ref rv]) hp
      have st8 := st6.same s8
      refine ⟨_, rfl, .str z, ev, .ref p, x, rfl, .inr ⟨1, .nm z, nm_part oz, .inr ⟨n, m, .inl (st8.e.same dl_same), .inr ⟨1, [.ref rv], [.set 1 z (mS sA z1 z)], rows1 (.inl upd_same) (st8.r.same dl_same), (by show 1 < 64; decide), .inl ⟨(st8.gr x hx).same dl_same, fun H9 s9 => ⟨(by show 1 ≤ sizeLine; decide), fun p2 hp2 => ?_⟩⟩⟩⟩⟩⟩
      have sA := (s8.trans s9).trans (same_new (o := .lst [V.str "row"]) hp2)
      refine ⟨D, p2, _, _, rfl, rfl, sA _ _ dD, upd_same, by show 3 ≤ sizeLine; decide, fun p3 hp3 => ?_⟩
      have sB := sA.trans (same_new (o := .lst [V.str "row", .str "row", .str "row"]) hp3)
      refine ⟨(by show 1 ≤ sizeLine; decide), fun p4 hp4 => ⟨p4, 3, [.str "row"], rfl, rfl, upd_same, by decide, by decide, by show 1 * 3 ≤ sizeLine; decide, fun p5 hp5 => ?_⟩⟩
      have sC := (same_new (o := .lst [V.str "row"]) hp4).trans (same_new (o := .lst [V.str "row", .str "row", .str "row"]) hp5)
      refine ⟨.list [.str "row", .str "row", .str "row"], .list [.str "row", .str "row", .str "row"], .lst (SqL.of (sC _ _ upd_same)) (.cons (.str _) (.cons (.str _) (.cons (.str _) .nil))), .lst (SqL.of upd_same) (.cons (.str _) (.cons (.str _) (.cons (.str _) .nil))), by decide +kernel, by decide +kernel, ?_⟩
      exact ⟨false, congrArg V.bl (by decide +kernel), iteF ⟨⟨_, _, _, _, _, rfl⟩, st6.same (sB.trans sC)⟩⟩
    clear st
    obtain ⟨⟨v12, v13, v14, v15, v16, rfl⟩, st⟩ := h
    refine ⟨_, rfl, _, rfl, _, rfl, _, rfl, l, c, z, ev, sA, fA, z1, z2, yf, rfl, st.f, oz, hdS_tr (Tr.same dl_same) st.a1, hdS_tr (Tr.same dl_same) st.a2, ly, ry, fun p xl H2 s2 hp dp l12 gl => ?_⟩
    have st2 := st.same s2
    clear st s2 hp
    refine ⟨p, rfl, ⟨xl, SqL.of dp⟩, for_list (xs := xl) (fun i1 σ' H' => (∃ v12 v13 v14 v15 v16, σ' = [some (.ref a), some (.ref l), some (.ref W), some (.str z), some (.ref sA), some (.ref fA), some ev, some (.ref rv), some (.ref Ln), some (.ref Le), some (.ref Lr), some (.int (0 + (i : Int))), v12, v13, v14, v15, v16]) ∧ Same H2 H')
      ⟨⟨_, _, _, _, _, rfl⟩, Same.refl _⟩ (fun i1 σ' H' _ h => SqL.of (h.2 _ _ dp)) (fun i1 x σ' H3 hx h => ?_) (fun σ' H3 h => ?_)⟩
    · obtain ⟨⟨v12, v13, v14, v15, v16, rfl⟩, s3⟩ := h
      obtain ⟨xs, rs, okA, few, no⟩ := ((gl x (List.mem_of_getElem? hx)).same dl_same).same s3
      refine gN_key ?_
      dsimp only [List.set]
      exact ⟨_, rfl, true, x, rfl, .inr ⟨rfl, .inr ⟨2, xs, rs, okA, few, .inl ⟨no, fun H4 s4 => ⟨rfl, false, congrArg V.bl (by decide +kernel), iteF ⟨⟨_, _, _, _, _, rfl⟩, s3.trans s4⟩⟩⟩⟩⟩⟩
    obtain ⟨⟨v12, v13, v14, v15, v16, rfl⟩, s3⟩ := h
    have st := st2.same s3
    clear st2 s3 dp gl
    refine ⟨_, rfl, _, rfl, (by show 0 ≤ sizeLine; decide), fun p1 hp1 => ⟨_, rfl, (by show 1 ≤ sizeLine; decide), fun p2 hp2 => ?_⟩⟩
    have s3 := (same_new (o := .lst []) hp1).trans (same_new (o := .lst [V.ref rv]) hp2)
    have st3 := st.same s3
    refine ⟨.str z, ev, .ref p1, .ref p2, rfl, .inr ⟨1, .nm z, nm_part oz, .inr ⟨n, m, .inl (st3.e.same dl_same), .inr ⟨1, [], [], rows0 (.inl ((same_new hp2) _ _ upd_same)), by decide, .inr ⟨[.ref rv], [.set 1 z (mS sA z1 z)], rows1 (.inl upd_same) (st3.r.same dl_same), (by show 1 < 64; decide), fitA lm, fun H4 s4 => ?_⟩⟩⟩⟩⟩
    have st4 := st3.same s4
    clear st3 s3 s4 hp1 hp2 st
    refine ⟨false, congrArg V.bl (by decide +kernel), iteF ⟨_, rfl, (by show 1 ≤ sizeLine; decide), fun p hp => ⟨p, 3, [.ref rv], rfl, rfl, SqT.of upd_same, by decide, by decide, (by show 1 ≤ 1000; decide), fun p2 hp2 => ?_, fun e => absurd e (by simp)⟩⟩⟩
    have s5 := (same_new (o := .tup [V.ref rv]) hp).trans (same_new (o := .tup [V.ref rv, .ref rv, .ref rv]) hp2)
    have st5 := st4.same s5
    have r5 := st5.r.same dl_same
    exact ⟨true, .ref p2, rfl, .inr ⟨rfl, .inr ⟨1, [.ref rv, .ref rv, .ref rv], _, rows3 (.inr (SqT.of upd_same)) r5 r5 r5, (by show 3 < 64; decide), .inr ⟨may3, fit3, fun H6 s6 => ⟨false, congrArg V.bl (by decide +kernel), iteF ⟨⟨_, _, _, _, _, _, rfl⟩, st5.same s6⟩⟩⟩⟩⟩⟩

end
end LK

namespace LK
open PySem PySem.Spec PyProof.Rows L2 LR
/-! ### the end -/
theorem rows12 {p : Nat → Prop} (h0 : p 0) (h1 : p 1) (h2 : p 2) (h3 : p 3) (h4 : p 4) (h5 : p 5) (h6 : p 6) (h7 : p 7) (h8 : p 8) (h9 : p 9) (h10 : p 10) (h11 : p 11) : ∀ i, i < 12 → p i
  | 0, _ => h0
  | 1, _ => h1
  | 2, _ => h2
  | 3, _ => h3
  | 4, _ => h4
  | 5, _ => h5
  | 6, _ => h6
  | 7, _ => h7
  | 8, _ => h8
  | 9, _ => h9
  | 10, _ => h10
  | 11, _ => h11
  | n + 12, h => absurd h (by omega)
theorem rows11 {p : Nat → Prop} (h0 : p 0) (h1 : p 1) (h2 : p 2) (h3 : p 3) (h4 : p 4) (h5 : p 5) (h6 : p 6) (h7 : p 7) (h8 : p 8) (h9 : p 9) (h10 : p 10) : ∀ i, i < 11 → p i
  | 0, _ => h0
  | 1, _ => h1
  | 2, _ => h2
  | 3, _ => h3
  | 4, _ => h4
  | 5, _ => h5
  | 6, _ => h6
  | 7, _ => h7
  | 8, _ => h8
  | 9, _ => h9
  | 10, _ => h10
  | n + 11, h => absurd h (by omega)
theorem upto6 {p : Nat → Prop} (h0 : p 0) (h1 : p 1) (h2 : p 2) (h3 : p 3) (h4 : p 4) (h5 : p 5) : ∀ i, i < 6 → p i
  | 0, _ => h0
  | 1, _ => h1
  | 2, _ => h2
  | 3, _ => h3
  | 4, _ => h4
  | 5, _ => h5
  | n + 6, h => absurd h (by omega)
theorem upto3 {p : Nat → Prop} (h0 : p 0) (h1 : p 1) (h2 : p 2) : ∀ i, i < 3 → p i
  | 0, _ => h0
  | 1, _ => h1
  | 2, _ => h2
  | n + 3, h => absurd h (by omega)
theorem all_mk {l : PySem.W.OpenLaw} {w : World} {K : PySem.W.Frag} {h : Heap} {mg : Str → Option Value} {fa : Addr} (X : K.In h) (G : h.Ns mainGlobals mg) (hfa : mg "law" = some (.ref fa))
    {flaw_source : Addr} {odlaw_source anlaw_source : Option Addr} {sllaw_source : Array (Option Value)} {oclaw_source kVlaw_source dclaw_source pmlaw_source cdlaw_source ctlaw_source : Value}
    {flaw_draw : Addr} {odlaw_draw anlaw_draw : Option Addr} {sllaw_draw : Array (Option Value)} {oclaw_draw kVlaw_draw dclaw_draw pmlaw_draw cdlaw_draw ctlaw_draw : Value}
    {flaw_pick : Addr} {odlaw_pick anlaw_pick : Option Addr} {sllaw_pick : Array (Option Value)} {oclaw_pick kVlaw_pick dclaw_pick pmlaw_pick cdlaw_pick ctlaw_pick : Value}
    {flaw_drawn_words : Addr} {odlaw_drawn_words anlaw_drawn_words : Option Addr} {sllaw_drawn_words : Array (Option Value)} {oclaw_drawn_words kVlaw_drawn_words dclaw_drawn_words pmlaw_drawn_words cdlaw_drawn_words ctlaw_drawn_words : Value}
    {flaw_told : Addr} {odlaw_told anlaw_told : Option Addr} {sllaw_told : Array (Option Value)} {oclaw_told kVlaw_told dclaw_told pmlaw_told cdlaw_told ctlaw_told : Value}
    {flaw_put_refused : Addr} {odlaw_put_refused anlaw_put_refused : Option Addr} {sllaw_put_refused : Array (Option Value)} {oclaw_put_refused kVlaw_put_refused dclaw_put_refused pmlaw_put_refused cdlaw_put_refused ctlaw_put_refused : Value}
    {flaw_if_refused : Addr} {odlaw_if_refused anlaw_if_refused : Option Addr} {sllaw_if_refused : Array (Option Value)} {oclaw_if_refused kVlaw_if_refused dclaw_if_refused pmlaw_if_refused cdlaw_if_refused ctlaw_if_refused : Value}
    {flaw_one_refused : Addr} {odlaw_one_refused anlaw_one_refused : Option Addr} {sllaw_one_refused : Array (Option Value)} {oclaw_one_refused kVlaw_one_refused dclaw_one_refused pmlaw_one_refused cdlaw_one_refused ctlaw_one_refused : Value}
    {flaw_no_names : Addr} {odlaw_no_names anlaw_no_names : Option Addr} {sllaw_no_names : Array (Option Value)} {oclaw_no_names kVlaw_no_names dclaw_no_names pmlaw_no_names cdlaw_no_names ctlaw_no_names : Value}
    {flaw_no_exprs : Addr} {odlaw_no_exprs anlaw_no_exprs : Option Addr} {sllaw_no_exprs : Array (Option Value)} {oclaw_no_exprs kVlaw_no_exprs dclaw_no_exprs pmlaw_no_exprs cdlaw_no_exprs ctlaw_no_exprs : Value}
    {flaw_no_rows : Addr} {odlaw_no_rows anlaw_no_rows : Option Addr} {sllaw_no_rows : Array (Option Value)} {oclaw_no_rows kVlaw_no_rows dclaw_no_rows pmlaw_no_rows cdlaw_no_rows ctlaw_no_rows : Value}
    {flaw_no_loops : Addr} {odlaw_no_loops anlaw_no_loops : Option Addr} {sllaw_no_loops : Array (Option Value)} {oclaw_no_loops kVlaw_no_loops dclaw_no_loops pmlaw_no_loops cdlaw_no_loops ctlaw_no_loops : Value}
    {flaw : Addr} {odlaw anlaw : Option Addr} {sllaw : Array (Option Value)} {oclaw kVlaw dclaw pmlaw cdlaw ctlaw : Value}
    {fis_name : Addr} {odis_name anis_name : Option Addr} {slis_name : Array (Option Value)} {ocis_name kVis_name dcis_name pmis_name cdis_name ctis_name : Value}
    {fnamed : Addr} {odnamed annamed : Option Addr} {slnamed : Array (Option Value)} {ocnamed kVnamed dcnamed pmnamed cdnamed ctnamed : Value}
    {fapplied : Addr} {odapplied anapplied : Option Addr} {slapplied : Array (Option Value)} {ocapplied kVapplied dcapplied pmapplied cdapplied ctapplied : Value}
    {fas_expr : Addr} {odas_expr anas_expr : Option Addr} {slas_expr : Array (Option Value)} {ocas_expr kVas_expr dcas_expr pmas_expr cdas_expr ctas_expr : Value}
    {fpart_expr : Addr} {odpart_expr anpart_expr : Option Addr} {slpart_expr : Array (Option Value)} {ocpart_expr kVpart_expr dcpart_expr pmpart_expr cdpart_expr ctpart_expr : Value}
    {flesser : Addr} {odlesser anlesser : Option Addr} {sllesser : Array (Option Value)} {oclesser kVlesser dclesser pmlesser cdlesser ctlesser : Value}
    {fgreater : Addr} {odgreater angreater : Option Addr} {slgreater : Array (Option Value)} {ocgreater kVgreater dcgreater pmgreater cdgreater ctgreater : Value}
    {ftext : Addr} {odtext antext : Option Addr} {sltext : Array (Option Value)} {octext kVtext dctext pmtext cdtext cttext : Value}
    {fare_ways : Addr} {odare_ways anare_ways : Option Addr} {slare_ways : Array (Option Value)} {ocare_ways kVare_ways dcare_ways pmare_ways cdare_ways ctare_ways : Value}
    {fset_name : Addr} {odset_name anset_name : Option Addr} {slset_name : Array (Option Value)} {ocset_name kVset_name dcset_name pmset_name cdset_name ctset_name : Value}
    {frow_expr : Addr} {odrow_expr anrow_expr : Option Addr} {slrow_expr : Array (Option Value)} {ocrow_expr kVrow_expr dcrow_expr pmrow_expr cdrow_expr ctrow_expr : Value}
    {fchecked_rows : Addr} {odchecked_rows anchecked_rows : Option Addr} {slchecked_rows : Array (Option Value)} {occhecked_rows kVchecked_rows dcchecked_rows pmchecked_rows cdchecked_rows ctchecked_rows : Value}
    {fmay_loop : Addr} {odmay_loop anmay_loop : Option Addr} {slmay_loop : Array (Option Value)} {ocmay_loop kVmay_loop dcmay_loop pmmay_loop cdmay_loop ctmay_loop : Value}
    {frow_lines : Addr} {odrow_lines anrow_lines : Option Addr} {slrow_lines : Array (Option Value)} {ocrow_lines kVrow_lines dcrow_lines pmrow_lines cdrow_lines ctrow_lines : Value}
    {fall_names : Addr} {odall_names anall_names : Option Addr} {slall_names : Array (Option Value)} {ocall_names kVall_names dcall_names pmall_names cdall_names ctall_names : Value}
    {Tall_names tall_names : Addr} {oTall_names : Value} {dTall_names : Option Addr} {nTall_names : Nat} {sTall_names : Array (Option Value)}
    {fall_steps : Addr} {odall_steps anall_steps : Option Addr} {slall_steps : Array (Option Value)} {ocall_steps kVall_steps dcall_steps pmall_steps cdall_steps ctall_steps : Value}
    {Tall_steps tall_steps : Addr} {oTall_steps : Value} {dTall_steps : Option Addr} {nTall_steps : Nat} {sTall_steps : Array (Option Value)}
    {o2all_steps : Option Addr} {n2all_steps : Nat} {s2all_steps : Array (Option Value)}
    {kw : Addr} {tL tM tk1 tk2 tk3 : Tok} {dKW : Option Addr} {nKW : Nat} {sKW : Array (Option Value)}
    {tY tS : Tok}
    {gS : Addr}
    {fiS : Addr} {odiS aniS : Option Addr} {sliS : Array (Option Value)} {ociS kViS dciS pmiS cdiS ctiS : Value}
    {gE : Addr}
    {fiE : Addr} {odiE aniE : Option Addr} {sliE : Array (Option Value)} {ociE kViE dciE pmiE cdiE ctiE : Value}
    {flS : Addr} {odlS anlS : Option Addr} {sllS : Array (Option Value)} {oclS kVlS dclS pmlS cdlS ctlS : Value}
    {fsE : Addr} {odsE ansE : Option Addr} {slsE : Array (Option Value)} {ocsE kVsE dcsE pmsE cdsE ctsE : Value}
    {fcS : Addr} {odcS ancS : Option Addr} {slcS : Array (Option Value)} {occS kVcS dccS pmcS cdcS ctcS : Value}
    {TcS : Addr} {oTcS : Value} {dTcS : Option Addr} {nTcS : Nat} {sTcS : Array (Option Value)}
    {faE : Addr} {odaE anaE : Option Addr} {slaE : Array (Option Value)} {ocaE kVaE dcaE pmaE cdaE ctaE : Value}
    {foE : Addr} {odoE anoE : Option Addr} {sloE : Array (Option Value)} {ocoE kVoE dcoE pmoE cdoE ctoE : Value}
    {gR : Addr}
    {fR : Addr} {odR anR : Option Addr} {slR : Array (Option Value)} {ocR kVR dcR pmR cdR ctR : Value}
    {TR tR tRU tRV : Addr} {oTR : Value} {dTR o2R o2RU o2RV : Option Addr} {nTR n2R n2RU n2RV : Nat} {sTR s2R s2RU s2RV : Array (Option Value)}
    {gr0 : Addr}
    {fir0 : Addr} {odir0 anir0 : Option Addr} {slir0 : Array (Option Value)} {ocir0 kVir0 dcir0 pmir0 cdir0 ctir0 : Value}
    {gr1 : Addr}
    {fir1 : Addr} {odir1 anir1 : Option Addr} {slir1 : Array (Option Value)} {ocir1 kVir1 dcir1 pmir1 cdir1 ctir1 : Value}
    {gr2 : Addr}
    {fir2 : Addr} {odir2 anir2 : Option Addr} {slir2 : Array (Option Value)} {ocir2 kVir2 dcir2 pmir2 cdir2 ctir2 : Value}
    {gr3 : Addr}
    {fir3 : Addr} {odir3 anir3 : Option Addr} {slir3 : Array (Option Value)} {ocir3 kVir3 dcir3 pmir3 cdir3 ctir3 : Value}
    {gr4 : Addr}
    {fir4 : Addr} {odir4 anir4 : Option Addr} {slir4 : Array (Option Value)} {ocir4 kVir4 dcir4 pmir4 cdir4 ctir4 : Value}
    {Tir4 tir4 : Addr} {oTir4 : Value} {dTir4 : Option Addr} {nTir4 : Nat} {sTir4 : Array (Option Value)}
    {gr5 : Addr}
    {fir5 : Addr} {odir5 anir5 : Option Addr} {slir5 : Array (Option Value)} {ocir5 kVir5 dcir5 pmir5 cdir5 ctir5 : Value}
    {fsR : Addr} {odsR ansR : Option Addr} {slsR : Array (Option Value)} {ocsR kVsR dcsR pmsR cdsR ctsR : Value}
    {gRW : Addr} {tw1 tw2 tw3 tw4 : Tok} {dRW : Option Addr} {nRW : Nat} {sRW : Array (Option Value)}
    {dSG : Addr} {ts0 ts1 ts2 : Tok} {nSG : Nat} {esSG : Array DictEntry}
    {gx3 : Addr}
    {nmx3 qx3 : Str} {Nx3 : Addr} {bsx3 bmx3 : List Value} {snx3 : List Str} {subx3 : List Value} {abx3 : Bool} {colx3 : Option Bool} {ddx3 : Option Addr} {z0x3 z1x3 z2x3 z3x3 z5x3 : Option Value}
    {fx3 : Addr} {odx3 anx3 : Option Addr} {slx3 : Array (Option Value)} {ocx3 kVx3 dcx3 pmx3 cdx3 ctx3 : Value}
    {gB : Addr}
    {gw0 : Addr}
    {gw1 : Addr}
    {gw2 : Addr}
    {gw3 : Addr}
    {gw4 : Addr}
    {gw5 : Addr}
    {gw6 : Addr}
    (b_len : PySem.W.nsIn K mainGlobals "len" = some none)
    (b_abs : PySem.W.nsIn K mainGlobals "abs" = some none)
    (b_int : PySem.W.nsIn K mainGlobals "int" = some none)
    (b_range : PySem.W.nsIn K mainGlobals "range" = some none)
    (b_isinstance : PySem.W.nsIn K mainGlobals "isinstance" = some none)
    (b_tuple : PySem.W.nsIn K mainGlobals "tuple" = some none)
    (b_list : PySem.W.nsIn K mainGlobals "list" = some none)
    (b_all : PySem.W.nsIn K mainGlobals "all" = some none)
    (b_zip : PySem.W.nsIn K mainGlobals "zip" = some none)
    (b_bool : PySem.W.nsIn K mainGlobals "bool" = some none)
    (b_str : PySem.W.nsIn K mainGlobals "str" = some none)
    (b_set : PySem.W.nsIn K mainGlobals "set" = some none)
    (b_sorted : PySem.W.nsIn K mainGlobals "sorted" = some none)
    (b_sum : PySem.W.nsIn K mainGlobals "sum" = some none)
    (b_any : PySem.W.nsIn K mainGlobals "any" = some none)
    (b_enumerate : PySem.W.nsIn K mainGlobals "enumerate" = some none)
    (b_min : PySem.W.nsIn K mainGlobals "min" = some none)
    (b_max : PySem.W.nsIn K mainGlobals "max" = some none)
    (alaw_source : PySem.W.nsIn K mainGlobals "_law_source" = some (some (.ref flaw_source)))
    (llaw_source : K.lookup flaw_source = some ⟨oclaw_source, odlaw_source, .func (PySem.W.fnOf "_law_source" "_law_source" (defArgs sSource) (defBody sSource) (defScope sSource) .none kVlaw_source dclaw_source pmlaw_source anlaw_source cdlaw_source ctlaw_source), sllaw_source⟩)
    (claw_source : PySem.W.codeIn K cdlaw_source "_law_source" = true)
    (klaw_source : PySem.W.keepIn K (.ref flaw_source) = true)
    (alaw_draw : PySem.W.nsIn K mainGlobals "_law_draw" = some (some (.ref flaw_draw)))
    (llaw_draw : K.lookup flaw_draw = some ⟨oclaw_draw, odlaw_draw, .func (PySem.W.fnOf "_law_draw" "_law_draw" (defArgs sDrawR) (defBody sDrawR) (defScope sDrawR) .none kVlaw_draw dclaw_draw pmlaw_draw anlaw_draw cdlaw_draw ctlaw_draw), sllaw_draw⟩)
    (claw_draw : PySem.W.codeIn K cdlaw_draw "_law_draw" = true)
    (klaw_draw : PySem.W.keepIn K (.ref flaw_draw) = true)
    (alaw_pick : PySem.W.nsIn K mainGlobals "_law_pick" = some (some (.ref flaw_pick)))
    (llaw_pick : K.lookup flaw_pick = some ⟨oclaw_pick, odlaw_pick, .func (PySem.W.fnOf "_law_pick" "_law_pick" (defArgs sPickR) (defBody sPickR) (defScope sPickR) .none kVlaw_pick dclaw_pick pmlaw_pick anlaw_pick cdlaw_pick ctlaw_pick), sllaw_pick⟩)
    (claw_pick : PySem.W.codeIn K cdlaw_pick "_law_pick" = true)
    (klaw_pick : PySem.W.keepIn K (.ref flaw_pick) = true)
    (alaw_drawn_words : PySem.W.nsIn K mainGlobals "_law_drawn_words" = some (some (.ref flaw_drawn_words)))
    (llaw_drawn_words : K.lookup flaw_drawn_words = some ⟨oclaw_drawn_words, odlaw_drawn_words, .func (PySem.W.fnOf "_law_drawn_words" "_law_drawn_words" (defArgs sDWords) (defBody sDWords) (defScope sDWords) .none kVlaw_drawn_words dclaw_drawn_words pmlaw_drawn_words anlaw_drawn_words cdlaw_drawn_words ctlaw_drawn_words), sllaw_drawn_words⟩)
    (claw_drawn_words : PySem.W.codeIn K cdlaw_drawn_words "_law_drawn_words" = true)
    (klaw_drawn_words : PySem.W.keepIn K (.ref flaw_drawn_words) = true)
    (alaw_told : PySem.W.nsIn K mainGlobals "_law_told" = some (some (.ref flaw_told)))
    (llaw_told : K.lookup flaw_told = some ⟨oclaw_told, odlaw_told, .func (PySem.W.fnOf "_law_told" "_law_told" (defArgs sToldE) (defBody sToldE) (defScope sToldE) .none kVlaw_told dclaw_told pmlaw_told anlaw_told cdlaw_told ctlaw_told), sllaw_told⟩)
    (claw_told : PySem.W.codeIn K cdlaw_told "_law_told" = true)
    (klaw_told : PySem.W.keepIn K (.ref flaw_told) = true)
    (alaw_put_refused : PySem.W.nsIn K mainGlobals "_law_put_refused" = some (some (.ref flaw_put_refused)))
    (llaw_put_refused : K.lookup flaw_put_refused = some ⟨oclaw_put_refused, odlaw_put_refused, .func (PySem.W.fnOf "_law_put_refused" "_law_put_refused" (defArgs sPutRef) (defBody sPutRef) (defScope sPutRef) .none kVlaw_put_refused dclaw_put_refused pmlaw_put_refused anlaw_put_refused cdlaw_put_refused ctlaw_put_refused), sllaw_put_refused⟩)
    (claw_put_refused : PySem.W.codeIn K cdlaw_put_refused "_law_put_refused" = true)
    (klaw_put_refused : PySem.W.keepIn K (.ref flaw_put_refused) = true)
    (alaw_if_refused : PySem.W.nsIn K mainGlobals "_law_if_refused" = some (some (.ref flaw_if_refused)))
    (llaw_if_refused : K.lookup flaw_if_refused = some ⟨oclaw_if_refused, odlaw_if_refused, .func (PySem.W.fnOf "_law_if_refused" "_law_if_refused" (defArgs sIfRef) (defBody sIfRef) (defScope sIfRef) .none kVlaw_if_refused dclaw_if_refused pmlaw_if_refused anlaw_if_refused cdlaw_if_refused ctlaw_if_refused), sllaw_if_refused⟩)
    (claw_if_refused : PySem.W.codeIn K cdlaw_if_refused "_law_if_refused" = true)
    (klaw_if_refused : PySem.W.keepIn K (.ref flaw_if_refused) = true)
    (alaw_one_refused : PySem.W.nsIn K mainGlobals "_law_one_refused" = some (some (.ref flaw_one_refused)))
    (llaw_one_refused : K.lookup flaw_one_refused = some ⟨oclaw_one_refused, odlaw_one_refused, .func (PySem.W.fnOf "_law_one_refused" "_law_one_refused" (defArgs sOneRef) (defBody sOneRef) (defScope sOneRef) .none kVlaw_one_refused dclaw_one_refused pmlaw_one_refused anlaw_one_refused cdlaw_one_refused ctlaw_one_refused), sllaw_one_refused⟩)
    (claw_one_refused : PySem.W.codeIn K cdlaw_one_refused "_law_one_refused" = true)
    (klaw_one_refused : PySem.W.keepIn K (.ref flaw_one_refused) = true)
    (alaw_no_names : PySem.W.nsIn K mainGlobals "_law_no_names" = some (some (.ref flaw_no_names)))
    (llaw_no_names : K.lookup flaw_no_names = some ⟨oclaw_no_names, odlaw_no_names, .func (PySem.W.fnOf "_law_no_names" "_law_no_names" (defArgs sNoNames) (defBody sNoNames) (defScope sNoNames) .none kVlaw_no_names dclaw_no_names pmlaw_no_names anlaw_no_names cdlaw_no_names ctlaw_no_names), sllaw_no_names⟩)
    (claw_no_names : PySem.W.codeIn K cdlaw_no_names "_law_no_names" = true)
    (klaw_no_names : PySem.W.keepIn K (.ref flaw_no_names) = true)
    (alaw_no_exprs : PySem.W.nsIn K mainGlobals "_law_no_exprs" = some (some (.ref flaw_no_exprs)))
    (llaw_no_exprs : K.lookup flaw_no_exprs = some ⟨oclaw_no_exprs, odlaw_no_exprs, .func (PySem.W.fnOf "_law_no_exprs" "_law_no_exprs" (defArgs sNoExprs) (defBody sNoExprs) (defScope sNoExprs) .none kVlaw_no_exprs dclaw_no_exprs pmlaw_no_exprs anlaw_no_exprs cdlaw_no_exprs ctlaw_no_exprs), sllaw_no_exprs⟩)
    (claw_no_exprs : PySem.W.codeIn K cdlaw_no_exprs "_law_no_exprs" = true)
    (klaw_no_exprs : PySem.W.keepIn K (.ref flaw_no_exprs) = true)
    (alaw_no_rows : PySem.W.nsIn K mainGlobals "_law_no_rows" = some (some (.ref flaw_no_rows)))
    (llaw_no_rows : K.lookup flaw_no_rows = some ⟨oclaw_no_rows, odlaw_no_rows, .func (PySem.W.fnOf "_law_no_rows" "_law_no_rows" (defArgs sNoRows) (defBody sNoRows) (defScope sNoRows) .none kVlaw_no_rows dclaw_no_rows pmlaw_no_rows anlaw_no_rows cdlaw_no_rows ctlaw_no_rows), sllaw_no_rows⟩)
    (claw_no_rows : PySem.W.codeIn K cdlaw_no_rows "_law_no_rows" = true)
    (klaw_no_rows : PySem.W.keepIn K (.ref flaw_no_rows) = true)
    (alaw_no_loops : PySem.W.nsIn K mainGlobals "_law_no_loops" = some (some (.ref flaw_no_loops)))
    (llaw_no_loops : K.lookup flaw_no_loops = some ⟨oclaw_no_loops, odlaw_no_loops, .func (PySem.W.fnOf "_law_no_loops" "_law_no_loops" (defArgs sNoLoops) (defBody sNoLoops) (defScope sNoLoops) .none kVlaw_no_loops dclaw_no_loops pmlaw_no_loops anlaw_no_loops cdlaw_no_loops ctlaw_no_loops), sllaw_no_loops⟩)
    (claw_no_loops : PySem.W.codeIn K cdlaw_no_loops "_law_no_loops" = true)
    (klaw_no_loops : PySem.W.keepIn K (.ref flaw_no_loops) = true)
    (alaw : PySem.W.nsIn K mainGlobals "law" = some (some (.ref flaw)))
    (llaw : K.lookup flaw = some ⟨oclaw, odlaw, .func (PySem.W.fnOf "law" "law" (defArgs sLaw) (defBody sLaw) (defScope sLaw) .none kVlaw dclaw pmlaw anlaw cdlaw ctlaw), sllaw⟩)
    (claw : PySem.W.codeIn K cdlaw "law" = true)
    (klaw : PySem.W.keepIn K (.ref flaw) = true)
    (ais_name : PySem.W.nsIn K mainGlobals "is_name" = some (some (.ref fis_name)))
    (lis_name : K.lookup fis_name = some ⟨ocis_name, odis_name, .func (PySem.W.fnOf "is_name" "is_name" (defArgs sIsName) (defBody sIsName) (defScope sIsName) .none kVis_name dcis_name pmis_name anis_name cdis_name ctis_name), slis_name⟩)
    (cis_name : PySem.W.codeIn K cdis_name "is_name" = true)
    (kis_name : PySem.W.keepIn K (.ref fis_name) = true)
    (anamed : PySem.W.nsIn K mainGlobals "named" = some (some (.ref fnamed)))
    (lnamed : K.lookup fnamed = some ⟨ocnamed, odnamed, .func (PySem.W.fnOf "named" "named" (defArgs sNamed) (defBody sNamed) (defScope sNamed) .none kVnamed dcnamed pmnamed annamed cdnamed ctnamed), slnamed⟩)
    (cnamed : PySem.W.codeIn K cdnamed "named" = true)
    (knamed : PySem.W.keepIn K (.ref fnamed) = true)
    (aapplied : PySem.W.nsIn K mainGlobals "applied" = some (some (.ref fapplied)))
    (lapplied : K.lookup fapplied = some ⟨ocapplied, odapplied, .func (PySem.W.fnOf "applied" "applied" (defArgs sApplied) (defBody sApplied) (defScope sApplied) .none kVapplied dcapplied pmapplied anapplied cdapplied ctapplied), slapplied⟩)
    (capplied : PySem.W.codeIn K cdapplied "applied" = true)
    (kapplied : PySem.W.keepIn K (.ref fapplied) = true)
    (aas_expr : PySem.W.nsIn K mainGlobals "as_expr" = some (some (.ref fas_expr)))
    (las_expr : K.lookup fas_expr = some ⟨ocas_expr, odas_expr, .func (PySem.W.fnOf "as_expr" "as_expr" (defArgs sAsExpr) (defBody sAsExpr) (defScope sAsExpr) .none kVas_expr dcas_expr pmas_expr anas_expr cdas_expr ctas_expr), slas_expr⟩)
    (cas_expr : PySem.W.codeIn K cdas_expr "as_expr" = true)
    (kas_expr : PySem.W.keepIn K (.ref fas_expr) = true)
    (apart_expr : PySem.W.nsIn K mainGlobals "part_expr" = some (some (.ref fpart_expr)))
    (lpart_expr : K.lookup fpart_expr = some ⟨ocpart_expr, odpart_expr, .func (PySem.W.fnOf "part_expr" "part_expr" (defArgs sPartExpr) (defBody sPartExpr) (defScope sPartExpr) .none kVpart_expr dcpart_expr pmpart_expr anpart_expr cdpart_expr ctpart_expr), slpart_expr⟩)
    (cpart_expr : PySem.W.codeIn K cdpart_expr "part_expr" = true)
    (kpart_expr : PySem.W.keepIn K (.ref fpart_expr) = true)
    (alesser : PySem.W.nsIn K mainGlobals "_lesser" = some (some (.ref flesser)))
    (llesser : K.lookup flesser = some ⟨oclesser, odlesser, .func (PySem.W.fnOf "_lesser" "_lesser" (defArgs sLesser) (defBody sLesser) (defScope sLesser) .none kVlesser dclesser pmlesser anlesser cdlesser ctlesser), sllesser⟩)
    (clesser : PySem.W.codeIn K cdlesser "_lesser" = true)
    (klesser : PySem.W.keepIn K (.ref flesser) = true)
    (agreater : PySem.W.nsIn K mainGlobals "_greater" = some (some (.ref fgreater)))
    (lgreater : K.lookup fgreater = some ⟨ocgreater, odgreater, .func (PySem.W.fnOf "_greater" "_greater" (defArgs sGreater) (defBody sGreater) (defScope sGreater) .none kVgreater dcgreater pmgreater angreater cdgreater ctgreater), slgreater⟩)
    (cgreater : PySem.W.codeIn K cdgreater "_greater" = true)
    (kgreater : PySem.W.keepIn K (.ref fgreater) = true)
    (atext : PySem.W.nsIn K mainGlobals "_text" = some (some (.ref ftext)))
    (ltext : K.lookup ftext = some ⟨octext, odtext, .func (PySem.W.fnOf "_text" "_text" (defArgs sTextE) (defBody sTextE) (defScope sTextE) .none kVtext dctext pmtext antext cdtext cttext), sltext⟩)
    (ctext : PySem.W.codeIn K cdtext "_text" = true)
    (ktext : PySem.W.keepIn K (.ref ftext) = true)
    (aare_ways : PySem.W.nsIn K mainGlobals "_are_ways" = some (some (.ref fare_ways)))
    (lare_ways : K.lookup fare_ways = some ⟨ocare_ways, odare_ways, .func (PySem.W.fnOf "_are_ways" "_are_ways" (defArgs sAreWays) (defBody sAreWays) (defScope sAreWays) .none kVare_ways dcare_ways pmare_ways anare_ways cdare_ways ctare_ways), slare_ways⟩)
    (care_ways : PySem.W.codeIn K cdare_ways "_are_ways" = true)
    (kare_ways : PySem.W.keepIn K (.ref fare_ways) = true)
    (aset_name : PySem.W.nsIn K mainGlobals "_set_name" = some (some (.ref fset_name)))
    (lset_name : K.lookup fset_name = some ⟨ocset_name, odset_name, .func (PySem.W.fnOf "_set_name" "_set_name" (defArgs sSetName) (defBody sSetName) (defScope sSetName) .none kVset_name dcset_name pmset_name anset_name cdset_name ctset_name), slset_name⟩)
    (cset_name : PySem.W.codeIn K cdset_name "_set_name" = true)
    (kset_name : PySem.W.keepIn K (.ref fset_name) = true)
    (arow_expr : PySem.W.nsIn K mainGlobals "_row_expr" = some (some (.ref frow_expr)))
    (lrow_expr : K.lookup frow_expr = some ⟨ocrow_expr, odrow_expr, .func (PySem.W.fnOf "_row_expr" "_row_expr" (defArgs sRowExpr) (defBody sRowExpr) (defScope sRowExpr) .none kVrow_expr dcrow_expr pmrow_expr anrow_expr cdrow_expr ctrow_expr), slrow_expr⟩)
    (crow_expr : PySem.W.codeIn K cdrow_expr "_row_expr" = true)
    (krow_expr : PySem.W.keepIn K (.ref frow_expr) = true)
    (achecked_rows : PySem.W.nsIn K mainGlobals "checked_rows" = some (some (.ref fchecked_rows)))
    (lchecked_rows : K.lookup fchecked_rows = some ⟨occhecked_rows, odchecked_rows, .func (PySem.W.fnOf "checked_rows" "checked_rows" (defArgs sCheckedRows) (defBody sCheckedRows) (defScope sCheckedRows) .none kVchecked_rows dcchecked_rows pmchecked_rows anchecked_rows cdchecked_rows ctchecked_rows), slchecked_rows⟩)
    (cchecked_rows : PySem.W.codeIn K cdchecked_rows "checked_rows" = true)
    (kchecked_rows : PySem.W.keepIn K (.ref fchecked_rows) = true)
    (amay_loop : PySem.W.nsIn K mainGlobals "may_loop" = some (some (.ref fmay_loop)))
    (lmay_loop : K.lookup fmay_loop = some ⟨ocmay_loop, odmay_loop, .func (PySem.W.fnOf "may_loop" "may_loop" (defArgs sMayLoop) (defBody sMayLoop) (defScope sMayLoop) .none kVmay_loop dcmay_loop pmmay_loop anmay_loop cdmay_loop ctmay_loop), slmay_loop⟩)
    (cmay_loop : PySem.W.codeIn K cdmay_loop "may_loop" = true)
    (kmay_loop : PySem.W.keepIn K (.ref fmay_loop) = true)
    (arow_lines : PySem.W.nsIn K mainGlobals "row_lines" = some (some (.ref frow_lines)))
    (lrow_lines : K.lookup frow_lines = some ⟨ocrow_lines, odrow_lines, .func (PySem.W.fnOf "row_lines" "row_lines" (defArgs sRowLines) (defBody sRowLines) (defScope sRowLines) .none kVrow_lines dcrow_lines pmrow_lines anrow_lines cdrow_lines ctrow_lines), slrow_lines⟩)
    (crow_lines : PySem.W.codeIn K cdrow_lines "row_lines" = true)
    (krow_lines : PySem.W.keepIn K (.ref frow_lines) = true)
    (aall_names : PySem.W.nsIn K mainGlobals "all_names" = some (some (.ref fall_names)))
    (lall_names : K.lookup fall_names = some ⟨ocall_names, odall_names, .func (PySem.W.fnOf "all_names" "all_names" (defArgs sAllNames) (defBody sAllNames) (defScope sAllNames) (.ref Tall_names) kVall_names dcall_names pmall_names anall_names cdall_names ctall_names), slall_names⟩)
    (call_names : PySem.W.codeIn K cdall_names "all_names" = true)
    (kall_names : PySem.W.keepIn K (.ref fall_names) = true)
    (eall_names : K.lookup Tall_names = some ⟨oTall_names, dTall_names, .seq #[.ref tall_names] nTall_names, sTall_names⟩)
    (aall_steps : PySem.W.nsIn K mainGlobals "all_steps" = some (some (.ref fall_steps)))
    (lall_steps : K.lookup fall_steps = some ⟨ocall_steps, odall_steps, .func (PySem.W.fnOf "all_steps" "all_steps" (defArgs sAllSteps) (defBody sAllSteps) (defScope sAllSteps) (.ref Tall_steps) kVall_steps dcall_steps pmall_steps anall_steps cdall_steps ctall_steps), slall_steps⟩)
    (call_steps : PySem.W.codeIn K cdall_steps "all_steps" = true)
    (kall_steps : PySem.W.keepIn K (.ref fall_steps) = true)
    (eall_steps : K.lookup Tall_steps = some ⟨oTall_steps, dTall_steps, .seq #[.ref tall_steps] nTall_steps, sTall_steps⟩)
    (mall_steps : K.lookup tall_steps = some ⟨.type "tuple", o2all_steps, .seq #[] n2all_steps, s2all_steps⟩)
    (w1 : PySem.W.nsIn K mainGlobals "LONGEST_NAME" = some (some (.int 4 tL)))
    (w2 : PySem.W.nsIn K mainGlobals "LETTERS" = some (some (.str "abcdefghijklmnopqrstuvwxyz" tM)))
    (w3 : PySem.W.nsIn K mainGlobals "KEPT_WORDS" = some (some (.ref kw)))
    (w4 : K.lookup kw = some ⟨.type "tuple", dKW, .seq #[.str "if" tk1, .str "else" tk2, .str "end" tk3] nKW, sKW⟩)
    (w5 : PySem.W.nsIn K mainGlobals "MOST_ARGUMENTS" = some (some (.int 3 tY)))
    (w6 : PySem.W.nsIn K mainGlobals "WAYS" = some (some (.str "+-?" tS)))
    (so : PySem.W.specialIn K (.builtin "object.__class__") "__get__" = some (some (.builtin "getset_descriptor.__get__")))
    (tk : PySem.W.takesIn K (.builtin "object.__class__") = some true)
    (gSa : PySem.W.nsIn K mainGlobals "Step" = some (some (.ref gS)))
    (gS1 : PySem.W.plainGet K gS Str.empty = true)
    (gS2 : PySem.W.hasDictIn K gS = true)
    (gS3 : PySem.W.plainOver K gS = true)
    (gS4 : PySem.W.findIn K (.ref gS) "__setattr__" = some (some (.builtin "object.__setattr__")))
    (gS5 : PySem.W.findIn K (.ref gS) "__class__" = some (some (.builtin "object.__class__")))
    (gS6 : PySem.W.mroIn K gS (.type "object") = some true)
    (gSk0 : PySem.W.kitOne K (.ref gS) (.type "tuple") = some false)
    (gSk1 : PySem.W.kitOne K (.ref gS) (.type "list") = some false)
    (gSk2 : PySem.W.kitOne K (.ref gS) (.type "bool") = some false)
    (gSk3 : PySem.W.kitOne K (.ref gS) (.type "str") = some false)
    (gS7 : PySem.W.makesIn K gS = true)
    (gS8 : PySem.W.keepIn K (.ref gS) = true)
    (aiS : PySem.W.findIn K (.ref gS) "__init__" = some (some (.ref fiS)))
    (niS : PySem.W.isFn K (.ref fiS) = true)
    (liS : K.lookup fiS = some ⟨ociS, odiS, .func (PySem.W.fnOf "__init__" "Step.__init__" (defArgs sStepInit) (defBody sStepInit) (defScope sStepInit) .none kViS dciS pmiS aniS cdiS ctiS), sliS⟩)
    (ciS : PySem.W.codeIn K cdiS "Step.__init__" = true)
    (kiS : PySem.W.keepIn K (.ref fiS) = true)
    (gS_name : PySem.W.findIn K (.ref gS) "name" = some none)
    (gS_ways : PySem.W.findIn K (.ref gS) "ways" = some none)
    (gEa : PySem.W.nsIn K mainGlobals "Expr" = some (some (.ref gE)))
    (gE1 : PySem.W.plainGet K gE Str.empty = true)
    (gE2 : PySem.W.hasDictIn K gE = true)
    (gE3 : PySem.W.plainOver K gE = true)
    (gE4 : PySem.W.findIn K (.ref gE) "__setattr__" = some (some (.builtin "object.__setattr__")))
    (gE5 : PySem.W.findIn K (.ref gE) "__class__" = some (some (.builtin "object.__class__")))
    (gE6 : PySem.W.mroIn K gE (.type "object") = some true)
    (gEk0 : PySem.W.kitOne K (.ref gE) (.type "tuple") = some false)
    (gEk1 : PySem.W.kitOne K (.ref gE) (.type "list") = some false)
    (gEk2 : PySem.W.kitOne K (.ref gE) (.type "bool") = some false)
    (gEk3 : PySem.W.kitOne K (.ref gE) (.type "str") = some false)
    (gE7 : PySem.W.makesIn K gE = true)
    (gE8 : PySem.W.keepIn K (.ref gE) = true)
    (aiE : PySem.W.findIn K (.ref gE) "__init__" = some (some (.ref fiE)))
    (niE : PySem.W.isFn K (.ref fiE) = true)
    (liE : K.lookup fiE = some ⟨ociE, odiE, .func (PySem.W.fnOf "__init__" "Expr.__init__" (defArgs sExprInit) (defBody sExprInit) (defScope sExprInit) .none kViE dciE pmiE aniE cdiE ctiE), sliE⟩)
    (ciE : PySem.W.codeIn K cdiE "Expr.__init__" = true)
    (kiE : PySem.W.keepIn K (.ref fiE) = true)
    (gE_kind : PySem.W.findIn K (.ref gE) "kind" = some none)
    (gE_word : PySem.W.findIn K (.ref gE) "word" = some none)
    (gE_step : PySem.W.findIn K (.ref gE) "step" = some none)
    (gE_parts : PySem.W.findIn K (.ref gE) "parts" = some none)
    (gE_names : PySem.W.findIn K (.ref gE) "names" = some none)
    (gE_steps : PySem.W.findIn K (.ref gE) "steps" = some none)
    (gE_size : PySem.W.findIn K (.ref gE) "size" = some none)
    (gE_applied : PySem.W.findIn K (.ref gE) "applied" = some none)
    (alS : PySem.W.findIn K (.ref gS) "__len__" = some (some (.ref flS)))
    (nlS : PySem.W.isFn K (.ref flS) = true)
    (llS : K.lookup flS = some ⟨oclS, odlS, .func (PySem.W.fnOf "__len__" "Step.__len__" (defArgs sStepLen) (defBody sStepLen) (defScope sStepLen) .none kVlS dclS pmlS anlS cdlS ctlS), sllS⟩)
    (clS : PySem.W.codeIn K cdlS "Step.__len__" = true)
    (klS : PySem.W.keepIn K (.ref flS) = true)
    (asE : PySem.W.findIn K (.ref gE) "__str__" = some (some (.ref fsE)))
    (nsE : PySem.W.isFn K (.ref fsE) = true)
    (lsE : K.lookup fsE = some ⟨ocsE, odsE, .func (PySem.W.fnOf "__str__" "Expr.__str__" (defArgs sExprStr) (defBody sExprStr) (defScope sExprStr) .none kVsE dcsE pmsE ansE cdsE ctsE), slsE⟩)
    (csE : PySem.W.codeIn K cdsE "Expr.__str__" = true)
    (ksE : PySem.W.keepIn K (.ref fsE) = true)
    (fmE : PySem.W.findIn K (.ref gE) "__format__" = some (some (.builtin "object.__format__")))
    (hne : gS ≠ gE)
    (kes : PySem.W.kitOne K (.type "str") (.ref gE) = some false)
    (acS : PySem.W.findIn K (.ref gS) "__call__" = some (some (.ref fcS)))
    (ncS : PySem.W.isFn K (.ref fcS) = true)
    (icS : PySem.W.fnIn K fcS = true)
    (lcS : K.lookup fcS = some ⟨occS, odcS, .func (PySem.W.fnOf "__call__" "Step.__call__" (defArgs sStepCall) (defBody sStepCall) (defScope sStepCall) (.ref TcS) kVcS dccS pmcS ancS cdcS ctcS), slcS⟩)
    (ccS : PySem.W.codeIn K cdcS "Step.__call__" = true)
    (kcS : PySem.W.keepIn K (.ref fcS) = true)
    (ecS : K.lookup TcS = some ⟨oTcS, dTcS, .seq #[.none, .none] nTcS, sTcS⟩)
    (aaE : PySem.W.findIn K (.ref gE) "__and__" = some (some (.ref faE)))
    (naE : PySem.W.isFn K (.ref faE) = true)
    (laE : K.lookup faE = some ⟨ocaE, odaE, .func (PySem.W.fnOf "__and__" "Expr.__and__" (defArgs sExprAnd) (defBody sExprAnd) (defScope sExprAnd) .none kVaE dcaE pmaE anaE cdaE ctaE), slaE⟩)
    (caE : PySem.W.codeIn K cdaE "Expr.__and__" = true)
    (kaE : PySem.W.keepIn K (.ref faE) = true)
    (aoE : PySem.W.findIn K (.ref gE) "__or__" = some (some (.ref foE)))
    (noE : PySem.W.isFn K (.ref foE) = true)
    (loE : K.lookup foE = some ⟨ocoE, odoE, .func (PySem.W.fnOf "__or__" "Expr.__or__" (defArgs sExprOr) (defBody sExprOr) (defScope sExprOr) .none kVoE dcoE pmoE anoE cdoE ctoE), sloE⟩)
    (coE : PySem.W.codeIn K cdoE "Expr.__or__" = true)
    (koE : PySem.W.keepIn K (.ref foE) = true)
    (sfE : PySem.W.selfFirst K gE = true)
    (gRa : PySem.W.nsIn K mainGlobals "Row" = some (some (.ref gR)))
    (rR1 : PySem.W.readsIn K gR (.type "type") = true)
    (rR2 : PySem.W.specialIn K (.ref gR) "__getattribute__" = some (some (.builtin "type.__getattribute__")))
    (rR3 : PySem.W.findCls K (.ref gR) (.type "type") "__init__" = some (.val (.ref fR)))
    (lR : K.lookup fR = some ⟨ocR, odR, .func (PySem.W.fnOf "__init__" "Row.__init__" (defArgs sRowInit) (defBody sRowInit) (defScope sRowInit) (.ref TR) kVR dcR pmR anR cdR ctR), slR⟩)
    (cR : PySem.W.codeIn K cdR "Row.__init__" = true)
    (kR : PySem.W.keepIn K (.ref fR) = true)
    (eR : K.lookup TR = some ⟨oTR, dTR, .seq #[.ref tR, .ref tRU, .ref tRV] nTR, sTR⟩)
    (mR : K.lookup tR = some ⟨.type "tuple", o2R, .seq #[] n2R, s2R⟩)
    (mRU : K.lookup tRU = some ⟨.type "tuple", o2RU, .seq #[] n2RU, s2RU⟩)
    (mRV : K.lookup tRV = some ⟨.type "tuple", o2RV, .seq #[] n2RV, s2RV⟩)
    (gr0a : PySem.W.nsIn K mainGlobals "Put" = some (some (.ref gr0)))
    (gr01 : PySem.W.plainGet K gr0 Str.empty = true)
    (gr02 : PySem.W.hasDictIn K gr0 = true)
    (gr03 : PySem.W.plainOver K gr0 = true)
    (gr04 : PySem.W.findIn K (.ref gr0) "__setattr__" = some (some (.builtin "object.__setattr__")))
    (gr05 : PySem.W.findIn K (.ref gr0) "__class__" = some (some (.builtin "object.__class__")))
    (gr06 : PySem.W.mroIn K gr0 (.type "object") = some true)
    (gr0k0 : PySem.W.kitOne K (.ref gr0) (.type "str") = some false)
    (gr0k1 : PySem.W.kitOne K (.ref gr0) (.type "list") = some false)
    (gr0k2 : PySem.W.kitOne K (.ref gr0) (.type "tuple") = some false)
    (gr0kR : PySem.W.kitOne K (.ref gr0) (.ref gR) = some true)
    (gr0kE : PySem.W.kitOne K (.ref gr0) (.ref gE) = some false)
    (gr07 : PySem.W.makesIn K gr0 = true)
    (gr08 : PySem.W.keepIn K (.ref gr0) = true)
    (gr0_kind : PySem.W.findIn K (.ref gr0) "kind" = some none)
    (gr0_told : PySem.W.findIn K (.ref gr0) "told" = some none)
    (gr0_inner : PySem.W.findIn K (.ref gr0) "inner" = some none)
    (gr0_size : PySem.W.findIn K (.ref gr0) "size" = some none)
    (gr0_names : PySem.W.findIn K (.ref gr0) "names" = some none)
    (gr0_steps : PySem.W.findIn K (.ref gr0) "steps" = some none)
    (gr0_name : PySem.W.findIn K (.ref gr0) "name" = some none)
    (gr0_expr : PySem.W.findIn K (.ref gr0) "expr" = some none)
    (gr0nE : gr0 ≠ gE)
    (gr0nS : gr0 ≠ gS)
    (air0 : PySem.W.findIn K (.ref gr0) "__init__" = some (some (.ref fir0)))
    (nir0 : PySem.W.isFn K (.ref fir0) = true)
    (lir0 : K.lookup fir0 = some ⟨ocir0, odir0, .func (PySem.W.fnOf "__init__" "Put.__init__" (defArgs sPutInit) (defBody sPutInit) (defScope sPutInit) .none kVir0 dcir0 pmir0 anir0 cdir0 ctir0), slir0⟩)
    (cir0 : PySem.W.codeIn K cdir0 "Put.__init__" = true)
    (kir0 : PySem.W.keepIn K (.ref fir0) = true)
    (gr1a : PySem.W.nsIn K mainGlobals "Raise" = some (some (.ref gr1)))
    (gr11 : PySem.W.plainGet K gr1 Str.empty = true)
    (gr12 : PySem.W.hasDictIn K gr1 = true)
    (gr13 : PySem.W.plainOver K gr1 = true)
    (gr14 : PySem.W.findIn K (.ref gr1) "__setattr__" = some (some (.builtin "object.__setattr__")))
    (gr15 : PySem.W.findIn K (.ref gr1) "__class__" = some (some (.builtin "object.__class__")))
    (gr16 : PySem.W.mroIn K gr1 (.type "object") = some true)
    (gr1k0 : PySem.W.kitOne K (.ref gr1) (.type "str") = some false)
    (gr1k1 : PySem.W.kitOne K (.ref gr1) (.type "list") = some false)
    (gr1k2 : PySem.W.kitOne K (.ref gr1) (.type "tuple") = some false)
    (gr1kR : PySem.W.kitOne K (.ref gr1) (.ref gR) = some true)
    (gr1kE : PySem.W.kitOne K (.ref gr1) (.ref gE) = some false)
    (gr17 : PySem.W.makesIn K gr1 = true)
    (gr18 : PySem.W.keepIn K (.ref gr1) = true)
    (gr1_kind : PySem.W.findIn K (.ref gr1) "kind" = some none)
    (gr1_told : PySem.W.findIn K (.ref gr1) "told" = some none)
    (gr1_inner : PySem.W.findIn K (.ref gr1) "inner" = some none)
    (gr1_size : PySem.W.findIn K (.ref gr1) "size" = some none)
    (gr1_names : PySem.W.findIn K (.ref gr1) "names" = some none)
    (gr1_steps : PySem.W.findIn K (.ref gr1) "steps" = some none)
    (gr1_name : PySem.W.findIn K (.ref gr1) "name" = some none)
    (gr1_expr : PySem.W.findIn K (.ref gr1) "expr" = some none)
    (gr1nE : gr1 ≠ gE)
    (gr1nS : gr1 ≠ gS)
    (air1 : PySem.W.findIn K (.ref gr1) "__init__" = some (some (.ref fir1)))
    (nir1 : PySem.W.isFn K (.ref fir1) = true)
    (lir1 : K.lookup fir1 = some ⟨ocir1, odir1, .func (PySem.W.fnOf "__init__" "Raise.__init__" (defArgs sRaiseInit) (defBody sRaiseInit) (defScope sRaiseInit) .none kVir1 dcir1 pmir1 anir1 cdir1 ctir1), slir1⟩)
    (cir1 : PySem.W.codeIn K cdir1 "Raise.__init__" = true)
    (kir1 : PySem.W.keepIn K (.ref fir1) = true)
    (gr2a : PySem.W.nsIn K mainGlobals "Lower" = some (some (.ref gr2)))
    (gr21 : PySem.W.plainGet K gr2 Str.empty = true)
    (gr22 : PySem.W.hasDictIn K gr2 = true)
    (gr23 : PySem.W.plainOver K gr2 = true)
    (gr24 : PySem.W.findIn K (.ref gr2) "__setattr__" = some (some (.builtin "object.__setattr__")))
    (gr25 : PySem.W.findIn K (.ref gr2) "__class__" = some (some (.builtin "object.__class__")))
    (gr26 : PySem.W.mroIn K gr2 (.type "object") = some true)
    (gr2k0 : PySem.W.kitOne K (.ref gr2) (.type "str") = some false)
    (gr2k1 : PySem.W.kitOne K (.ref gr2) (.type "list") = some false)
    (gr2k2 : PySem.W.kitOne K (.ref gr2) (.type "tuple") = some false)
    (gr2kR : PySem.W.kitOne K (.ref gr2) (.ref gR) = some true)
    (gr2kE : PySem.W.kitOne K (.ref gr2) (.ref gE) = some false)
    (gr27 : PySem.W.makesIn K gr2 = true)
    (gr28 : PySem.W.keepIn K (.ref gr2) = true)
    (gr2_kind : PySem.W.findIn K (.ref gr2) "kind" = some none)
    (gr2_told : PySem.W.findIn K (.ref gr2) "told" = some none)
    (gr2_inner : PySem.W.findIn K (.ref gr2) "inner" = some none)
    (gr2_size : PySem.W.findIn K (.ref gr2) "size" = some none)
    (gr2_names : PySem.W.findIn K (.ref gr2) "names" = some none)
    (gr2_steps : PySem.W.findIn K (.ref gr2) "steps" = some none)
    (gr2_name : PySem.W.findIn K (.ref gr2) "name" = some none)
    (gr2_expr : PySem.W.findIn K (.ref gr2) "expr" = some none)
    (gr2nE : gr2 ≠ gE)
    (gr2nS : gr2 ≠ gS)
    (air2 : PySem.W.findIn K (.ref gr2) "__init__" = some (some (.ref fir2)))
    (nir2 : PySem.W.isFn K (.ref fir2) = true)
    (lir2 : K.lookup fir2 = some ⟨ocir2, odir2, .func (PySem.W.fnOf "__init__" "Lower.__init__" (defArgs sLowerInit) (defBody sLowerInit) (defScope sLowerInit) .none kVir2 dcir2 pmir2 anir2 cdir2 ctir2), slir2⟩)
    (cir2 : PySem.W.codeIn K cdir2 "Lower.__init__" = true)
    (kir2 : PySem.W.keepIn K (.ref fir2) = true)
    (gr3a : PySem.W.nsIn K mainGlobals "Refuse" = some (some (.ref gr3)))
    (gr31 : PySem.W.plainGet K gr3 Str.empty = true)
    (gr32 : PySem.W.hasDictIn K gr3 = true)
    (gr33 : PySem.W.plainOver K gr3 = true)
    (gr34 : PySem.W.findIn K (.ref gr3) "__setattr__" = some (some (.builtin "object.__setattr__")))
    (gr35 : PySem.W.findIn K (.ref gr3) "__class__" = some (some (.builtin "object.__class__")))
    (gr36 : PySem.W.mroIn K gr3 (.type "object") = some true)
    (gr3k0 : PySem.W.kitOne K (.ref gr3) (.type "str") = some false)
    (gr3k1 : PySem.W.kitOne K (.ref gr3) (.type "list") = some false)
    (gr3k2 : PySem.W.kitOne K (.ref gr3) (.type "tuple") = some false)
    (gr3kR : PySem.W.kitOne K (.ref gr3) (.ref gR) = some true)
    (gr3kE : PySem.W.kitOne K (.ref gr3) (.ref gE) = some false)
    (gr37 : PySem.W.makesIn K gr3 = true)
    (gr38 : PySem.W.keepIn K (.ref gr3) = true)
    (gr3_kind : PySem.W.findIn K (.ref gr3) "kind" = some none)
    (gr3_told : PySem.W.findIn K (.ref gr3) "told" = some none)
    (gr3_inner : PySem.W.findIn K (.ref gr3) "inner" = some none)
    (gr3_size : PySem.W.findIn K (.ref gr3) "size" = some none)
    (gr3_names : PySem.W.findIn K (.ref gr3) "names" = some none)
    (gr3_steps : PySem.W.findIn K (.ref gr3) "steps" = some none)
    (gr3_word : PySem.W.findIn K (.ref gr3) "word" = some none)
    (gr3nE : gr3 ≠ gE)
    (gr3nS : gr3 ≠ gS)
    (air3 : PySem.W.findIn K (.ref gr3) "__init__" = some (some (.ref fir3)))
    (nir3 : PySem.W.isFn K (.ref fir3) = true)
    (lir3 : K.lookup fir3 = some ⟨ocir3, odir3, .func (PySem.W.fnOf "__init__" "Refuse.__init__" (defArgs sRefuseInit) (defBody sRefuseInit) (defScope sRefuseInit) .none kVir3 dcir3 pmir3 anir3 cdir3 ctir3), slir3⟩)
    (cir3 : PySem.W.codeIn K cdir3 "Refuse.__init__" = true)
    (kir3 : PySem.W.keepIn K (.ref fir3) = true)
    (gr4a : PySem.W.nsIn K mainGlobals "If" = some (some (.ref gr4)))
    (gr41 : PySem.W.plainGet K gr4 Str.empty = true)
    (gr42 : PySem.W.hasDictIn K gr4 = true)
    (gr43 : PySem.W.plainOver K gr4 = true)
    (gr44 : PySem.W.findIn K (.ref gr4) "__setattr__" = some (some (.builtin "object.__setattr__")))
    (gr45 : PySem.W.findIn K (.ref gr4) "__class__" = some (some (.builtin "object.__class__")))
    (gr46 : PySem.W.mroIn K gr4 (.type "object") = some true)
    (gr4k0 : PySem.W.kitOne K (.ref gr4) (.type "str") = some false)
    (gr4k1 : PySem.W.kitOne K (.ref gr4) (.type "list") = some false)
    (gr4k2 : PySem.W.kitOne K (.ref gr4) (.type "tuple") = some false)
    (gr4kR : PySem.W.kitOne K (.ref gr4) (.ref gR) = some true)
    (gr4kE : PySem.W.kitOne K (.ref gr4) (.ref gE) = some false)
    (gr47 : PySem.W.makesIn K gr4 = true)
    (gr48 : PySem.W.keepIn K (.ref gr4) = true)
    (gr4_kind : PySem.W.findIn K (.ref gr4) "kind" = some none)
    (gr4_told : PySem.W.findIn K (.ref gr4) "told" = some none)
    (gr4_inner : PySem.W.findIn K (.ref gr4) "inner" = some none)
    (gr4_size : PySem.W.findIn K (.ref gr4) "size" = some none)
    (gr4_names : PySem.W.findIn K (.ref gr4) "names" = some none)
    (gr4_steps : PySem.W.findIn K (.ref gr4) "steps" = some none)
    (gr4_left : PySem.W.findIn K (.ref gr4) "left" = some none)
    (gr4_right : PySem.W.findIn K (.ref gr4) "right" = some none)
    (gr4_rows : PySem.W.findIn K (.ref gr4) "rows" = some none)
    (gr4_others : PySem.W.findIn K (.ref gr4) "others" = some none)
    (gr4nE : gr4 ≠ gE)
    (gr4nS : gr4 ≠ gS)
    (air4 : PySem.W.findIn K (.ref gr4) "__init__" = some (some (.ref fir4)))
    (nir4 : PySem.W.isFn K (.ref fir4) = true)
    (lir4 : K.lookup fir4 = some ⟨ocir4, odir4, .func (PySem.W.fnOf "__init__" "If.__init__" (defArgs sIfInit) (defBody sIfInit) (defScope sIfInit) (.ref Tir4) kVir4 dcir4 pmir4 anir4 cdir4 ctir4), slir4⟩)
    (cir4 : PySem.W.codeIn K cdir4 "If.__init__" = true)
    (kir4 : PySem.W.keepIn K (.ref fir4) = true)
    (eir4 : K.lookup Tir4 = some ⟨oTir4, dTir4, .seq #[.ref tir4] nTir4, sTir4⟩)
    (gr5a : PySem.W.nsIn K mainGlobals "Still" = some (some (.ref gr5)))
    (gr51 : PySem.W.plainGet K gr5 Str.empty = true)
    (gr52 : PySem.W.hasDictIn K gr5 = true)
    (gr53 : PySem.W.plainOver K gr5 = true)
    (gr54 : PySem.W.findIn K (.ref gr5) "__setattr__" = some (some (.builtin "object.__setattr__")))
    (gr55 : PySem.W.findIn K (.ref gr5) "__class__" = some (some (.builtin "object.__class__")))
    (gr56 : PySem.W.mroIn K gr5 (.type "object") = some true)
    (gr5k0 : PySem.W.kitOne K (.ref gr5) (.type "str") = some false)
    (gr5k1 : PySem.W.kitOne K (.ref gr5) (.type "list") = some false)
    (gr5k2 : PySem.W.kitOne K (.ref gr5) (.type "tuple") = some false)
    (gr5kR : PySem.W.kitOne K (.ref gr5) (.ref gR) = some true)
    (gr5kE : PySem.W.kitOne K (.ref gr5) (.ref gE) = some false)
    (gr57 : PySem.W.makesIn K gr5 = true)
    (gr58 : PySem.W.keepIn K (.ref gr5) = true)
    (gr5_kind : PySem.W.findIn K (.ref gr5) "kind" = some none)
    (gr5_told : PySem.W.findIn K (.ref gr5) "told" = some none)
    (gr5_inner : PySem.W.findIn K (.ref gr5) "inner" = some none)
    (gr5_size : PySem.W.findIn K (.ref gr5) "size" = some none)
    (gr5_names : PySem.W.findIn K (.ref gr5) "names" = some none)
    (gr5_steps : PySem.W.findIn K (.ref gr5) "steps" = some none)
    (gr5_rows : PySem.W.findIn K (.ref gr5) "rows" = some none)
    (gr5nE : gr5 ≠ gE)
    (gr5nS : gr5 ≠ gS)
    (air5 : PySem.W.findIn K (.ref gr5) "__init__" = some (some (.ref fir5)))
    (nir5 : PySem.W.isFn K (.ref fir5) = true)
    (lir5 : K.lookup fir5 = some ⟨ocir5, odir5, .func (PySem.W.fnOf "__init__" "Still.__init__" (defArgs sStillInit) (defBody sStillInit) (defScope sStillInit) .none kVir5 dcir5 pmir5 anir5 cdir5 ctir5), slir5⟩)
    (cir5 : PySem.W.codeIn K cdir5 "Still.__init__" = true)
    (kir5 : PySem.W.keepIn K (.ref fir5) = true)
    (y0_0 : PySem.W.kitOne K (.ref gr0) (.ref gr0) = some true)
    (y0_1 : PySem.W.kitOne K (.ref gr0) (.ref gr1) = some false)
    (y0_2 : PySem.W.kitOne K (.ref gr0) (.ref gr2) = some false)
    (y0_3 : PySem.W.kitOne K (.ref gr0) (.ref gr3) = some false)
    (y0_4 : PySem.W.kitOne K (.ref gr0) (.ref gr4) = some false)
    (y0_5 : PySem.W.kitOne K (.ref gr0) (.ref gr5) = some false)
    (y1_0 : PySem.W.kitOne K (.ref gr1) (.ref gr0) = some false)
    (y1_1 : PySem.W.kitOne K (.ref gr1) (.ref gr1) = some true)
    (y1_2 : PySem.W.kitOne K (.ref gr1) (.ref gr2) = some false)
    (y1_3 : PySem.W.kitOne K (.ref gr1) (.ref gr3) = some false)
    (y1_4 : PySem.W.kitOne K (.ref gr1) (.ref gr4) = some false)
    (y1_5 : PySem.W.kitOne K (.ref gr1) (.ref gr5) = some false)
    (y2_0 : PySem.W.kitOne K (.ref gr2) (.ref gr0) = some false)
    (y2_1 : PySem.W.kitOne K (.ref gr2) (.ref gr1) = some false)
    (y2_2 : PySem.W.kitOne K (.ref gr2) (.ref gr2) = some true)
    (y2_3 : PySem.W.kitOne K (.ref gr2) (.ref gr3) = some false)
    (y2_4 : PySem.W.kitOne K (.ref gr2) (.ref gr4) = some false)
    (y2_5 : PySem.W.kitOne K (.ref gr2) (.ref gr5) = some false)
    (y3_0 : PySem.W.kitOne K (.ref gr3) (.ref gr0) = some false)
    (y3_1 : PySem.W.kitOne K (.ref gr3) (.ref gr1) = some false)
    (y3_2 : PySem.W.kitOne K (.ref gr3) (.ref gr2) = some false)
    (y3_3 : PySem.W.kitOne K (.ref gr3) (.ref gr3) = some true)
    (y3_4 : PySem.W.kitOne K (.ref gr3) (.ref gr4) = some false)
    (y3_5 : PySem.W.kitOne K (.ref gr3) (.ref gr5) = some false)
    (y4_0 : PySem.W.kitOne K (.ref gr4) (.ref gr0) = some false)
    (y4_1 : PySem.W.kitOne K (.ref gr4) (.ref gr1) = some false)
    (y4_2 : PySem.W.kitOne K (.ref gr4) (.ref gr2) = some false)
    (y4_3 : PySem.W.kitOne K (.ref gr4) (.ref gr3) = some false)
    (y4_4 : PySem.W.kitOne K (.ref gr4) (.ref gr4) = some true)
    (y4_5 : PySem.W.kitOne K (.ref gr4) (.ref gr5) = some false)
    (y5_0 : PySem.W.kitOne K (.ref gr5) (.ref gr0) = some false)
    (y5_1 : PySem.W.kitOne K (.ref gr5) (.ref gr1) = some false)
    (y5_2 : PySem.W.kitOne K (.ref gr5) (.ref gr2) = some false)
    (y5_3 : PySem.W.kitOne K (.ref gr5) (.ref gr3) = some false)
    (y5_4 : PySem.W.kitOne K (.ref gr5) (.ref gr4) = some false)
    (y5_5 : PySem.W.kitOne K (.ref gr5) (.ref gr5) = some true)
    (asR : PySem.W.findIn K (.ref gr1) "__str__" = some (some (.ref fsR)))
    (nsR : PySem.W.isFn K (.ref fsR) = true)
    (lsR : K.lookup fsR = some ⟨ocsR, odsR, .func (PySem.W.fnOf "__str__" "Row.__str__" (defArgs sRowStr) (defBody sRowStr) (defScope sRowStr) .none kVsR dcsR pmsR ansR cdsR ctsR), slsR⟩)
    (csR : PySem.W.codeIn K cdsR "Row.__str__" = true)
    (ksR : PySem.W.keepIn K (.ref fsR) = true)
    (oER : PySem.W.kitOne K (.ref gE) (.ref gR) = some false)
    (oOuEi : PySem.W.kitOne K (.type "int") (.ref gE) = some false)
    (oOuEb : PySem.W.kitOne K (.type "bool") (.ref gE) = some false)
    (oOuEn : PySem.W.kitOne K (.type "NoneType") (.ref gE) = some false)
    (oOuEs : PySem.W.kitOne K (.type "str") (.ref gE) = some false)
    (oOuEt : PySem.W.kitOne K (.type "tuple") (.ref gE) = some false)
    (oOuEl : PySem.W.kitOne K (.type "list") (.ref gE) = some false)
    (oOuRi : PySem.W.kitOne K (.type "int") (.ref gR) = some false)
    (oOuRb : PySem.W.kitOne K (.type "bool") (.ref gR) = some false)
    (oOuRn : PySem.W.kitOne K (.type "NoneType") (.ref gR) = some false)
    (oOuRs : PySem.W.kitOne K (.type "str") (.ref gR) = some false)
    (oOuRt : PySem.W.kitOne K (.type "tuple") (.ref gR) = some false)
    (oOuRl : PySem.W.kitOne K (.type "list") (.ref gR) = some false)
    (v1 : PySem.W.nsIn K mainGlobals "MOST_LOOP_ROWS" = some (some (.int 3 tw4)))
    (v2 : PySem.W.nsIn K mainGlobals "RISING_WAYS" = some (some (.ref gRW)))
    (v3 : K.lookup gRW = some ⟨.type "tuple", dRW, .seq #[.str "+" tw1, .str "++" tw2, .str "+++" tw3] nRW, sRW⟩)
    (u1 : PySem.W.nsIn K mainGlobals "SETTING_SIGNS" = some (some (.ref dSG)))
    (u2 : K.lookup dSG = some ⟨.type "dict", none, .dict esSG nSG, #[]⟩)
    (u3 : PySem.W.KeysLit w.params esSG.toList)
    (u4 : (dSG == sysModules) = false)
    (us0 : PySem.W.nsIn K dSG "put" = some (some (.str "=" ts0)))
    (us1 : PySem.W.nsIn K dSG "raise" = some (some (.str "|=" ts1)))
    (us2 : PySem.W.nsIn K dSG "lower" = some (some (.str "&=" ts2)))
    (un0 : PySem.W.nsIn K dSG "refuse" = some none)
    (un1 : PySem.W.nsIn K dSG "if" = some none)
    (un2 : PySem.W.nsIn K dSG "still" = some none)
    (gx3a : PySem.W.nsIn K mainGlobals "InvalidRow" = some (some (.ref gx3)))
    (gx3_c : K.lookup gx3 = some (excClassObj nmx3 qx3 gx3 Nx3 bsx3 bmx3 true snx3 subx3 abx3 colx3 ddx3 z0x3 z1x3 z2x3 z3x3 z5x3 "ValueError.__new__"))
    (gx3_r : PySem.HandSPX.refsVE bmx3 = true)
    (gx3_1 : PySem.W.findIn K (.ref gx3) "__setattr__" = some (some (.builtin "object.__setattr__")))
    (gx3_2 : PySem.W.subIn K (.ref gx3) (.type "BaseException") = some true)
    (gx3_3 : PySem.W.typeIn K (.ref gx3) = some (.type "type"))
    (gx3_4 : PySem.W.keepIn K (.ref gx3) = true)
    (gx3_5 : PySem.W.findIn K (.ref gx3) "__getattribute__" = some (some (.builtin "BaseException.__getattribute__")))
    (gx3_6 : PySem.W.findIn K (.ref gx3) "__getattr__" = some none)
    (gx3_7 : PySem.W.hasDictIn K gx3 = true)
    (gx3_8 : PySem.W.findIn K (.ref gx3) "__class__" = some (some (.builtin "object.__class__")))
    (gx3_9 : PySem.W.mroIn K gx3 (.type "object") = some true)
    (ax3 : PySem.W.findIn K (.ref gx3) "__init__" = some (some (.ref fx3)))
    (tx3 : PySem.W.typeIn K (.ref fx3) = some (.type "function"))
    (lx3 : K.lookup fx3 = some ⟨ocx3, odx3, .func (PySem.W.fnOf "__init__" "InvalidRow.__init__" (defArgs (eS 3)) (defBody (eS 3)) (defScope (eS 3)) .none kVx3 dcx3 pmx3 anx3 cdx3 ctx3), slx3⟩)
    (cx3 : PySem.W.codeIn K cdx3 "InvalidRow.__init__" = true)
    (kx3 : PySem.W.keepIn K (.ref fx3) = true)
    (nx3 : PySem.W.findIn K (.ref gx3) "word" = some none)
    (gBa : PySem.W.nsIn K mainGlobals "WaysError" = some (some (.ref gB)))
    (xm : PySem.W.exmOne K (.ref gx3) (.ref gB) = some true)
    (b_ve : PySem.W.nsIn K mainGlobals "ValueError" = some none)
    (xv : PySem.W.kitOne K (.ref gx3) (.type "ValueError") = some true)
    (gw0a : PySem.W.nsIn K mainGlobals "InvalidClaim" = some (some (.ref gw0)))
    (xw0 : PySem.W.kitOne K (.ref gx3) (.ref gw0) = some false)
    (gw1a : PySem.W.nsIn K mainGlobals "InvalidExpr" = some (some (.ref gw1)))
    (xw1 : PySem.W.kitOne K (.ref gx3) (.ref gw1) = some false)
    (gw2a : PySem.W.nsIn K mainGlobals "InvalidStart" = some (some (.ref gw2)))
    (xw2 : PySem.W.kitOne K (.ref gx3) (.ref gw2) = some false)
    (gw3a : PySem.W.nsIn K mainGlobals "InvalidStep" = some (some (.ref gw3)))
    (xw3 : PySem.W.kitOne K (.ref gx3) (.ref gw3) = some false)
    (gw4a : PySem.W.nsIn K mainGlobals "InvalidText" = some (some (.ref gw4)))
    (xw4 : PySem.W.kitOne K (.ref gx3) (.ref gw4) = some false)
    (gw5a : PySem.W.nsIn K mainGlobals "InvalidTrait" = some (some (.ref gw5)))
    (xw5 : PySem.W.kitOne K (.ref gx3) (.ref gw5) = some false)
    (gw6a : PySem.W.nsIn K mainGlobals "NoRow" = some (some (.ref gw6)))
    (xw6 : PySem.W.kitOne K (.ref gx3) (.ref gw6) = some false)
    : ∃ fd : FuncData, (∀ (s : Shared) (v : Value), BindsTo s fd ⟨[v], []⟩ [("_law_script", v)]) ∧ ∀ base : Heap, K.In base → base.Ns mainGlobals mg → FnOk l.prog w K mg base CX0 18 fa fd ["_law_script"] (spLaw K) := by
  have e := hfa.symm.trans (PySem.W.mg_of X G alaw)
  cases e
  have S : Std mg := ⟨PySem.W.mg_none_of X G b_len, PySem.W.mg_none_of X G b_abs, PySem.W.mg_none_of X G b_int, PySem.W.mg_none_of X G b_range, PySem.W.mg_none_of X G b_isinstance, PySem.W.mg_none_of X G b_tuple, PySem.W.mg_none_of X G b_list, PySem.W.mg_none_of X G b_all, PySem.W.mg_none_of X G b_zip, PySem.W.mg_none_of X G b_bool, PySem.W.mg_none_of X G b_str, PySem.W.mg_none_of X G b_set, PySem.W.mg_none_of X G b_sorted, PySem.W.mg_none_of X G b_sum, PySem.W.mg_none_of X G b_any, PySem.W.mg_none_of X G b_enumerate, PySem.W.mg_none_of X G b_min, PySem.W.mg_none_of X G b_max⟩
  have Flaw_source := fun_mk (st := sSource) llaw_source claw_source klaw_source
  have Dlaw_source : Df K mg "_law_source" sSource _ _ ["_law_script", "_law_base"] := ⟨Flaw_source, Flaw_source.binds (ps := ["_law_script", "_law_base"]) fun _ _ _ _ _ _ us hl => match us, hl with | [_, _], _ => rfl, PySem.W.mg_of X G alaw_source⟩
  have Flaw_draw := fun_mk (st := sDrawR) llaw_draw claw_draw klaw_draw
  have Dlaw_draw : Df K mg "_law_draw" sDrawR _ _ ["_law_deal", "_law_many"] := ⟨Flaw_draw, Flaw_draw.binds (ps := ["_law_deal", "_law_many"]) fun _ _ _ _ _ _ us hl => match us, hl with | [_, _], _ => rfl, PySem.W.mg_of X G alaw_draw⟩
  have Flaw_pick := fun_mk (st := sPickR) llaw_pick claw_pick klaw_pick
  have Dlaw_pick : Df K mg "_law_pick" sPickR _ _ ["_law_deal", "_law_some"] := ⟨Flaw_pick, Flaw_pick.binds (ps := ["_law_deal", "_law_some"]) fun _ _ _ _ _ _ us hl => match us, hl with | [_, _], _ => rfl, PySem.W.mg_of X G alaw_pick⟩
  have Flaw_drawn_words := fun_mk (st := sDWords) llaw_drawn_words claw_drawn_words klaw_drawn_words
  have Dlaw_drawn_words : Df K mg "_law_drawn_words" sDWords _ _ ["_law_deal", "_law_many"] := ⟨Flaw_drawn_words, Flaw_drawn_words.binds (ps := ["_law_deal", "_law_many"]) fun _ _ _ _ _ _ us hl => match us, hl with | [_, _], _ => rfl, PySem.W.mg_of X G alaw_drawn_words⟩
  have Flaw_told := fun_mk (st := sToldE) llaw_told claw_told klaw_told
  have Dlaw_told : Df K mg "_law_told" sToldE _ _ ["_law_error"] := ⟨Flaw_told, Flaw_told.binds (ps := ["_law_error"]) fun _ _ _ _ _ _ us hl => match us, hl with | [_], _ => rfl, PySem.W.mg_of X G alaw_told⟩
  have Flaw_put_refused := fun_mk (st := sPutRef) llaw_put_refused claw_put_refused klaw_put_refused
  have Dlaw_put_refused : Df K mg "_law_put_refused" sPutRef _ _ ["_law_kind", "_law_name", "_law_expr"] := ⟨Flaw_put_refused, Flaw_put_refused.binds (ps := ["_law_kind", "_law_name", "_law_expr"]) fun _ _ _ _ _ _ us hl => match us, hl with | [_, _, _], _ => rfl, PySem.W.mg_of X G alaw_put_refused⟩
  have Flaw_if_refused := fun_mk (st := sIfRef) llaw_if_refused claw_if_refused klaw_if_refused
  have Dlaw_if_refused : Df K mg "_law_if_refused" sIfRef _ _ ["_law_left", "_law_right", "_law_rows", "_law_others"] := ⟨Flaw_if_refused, Flaw_if_refused.binds (ps := ["_law_left", "_law_right", "_law_rows", "_law_others"]) fun _ _ _ _ _ _ us hl => match us, hl with | [_, _, _, _], _ => rfl, PySem.W.mg_of X G alaw_if_refused⟩
  have Flaw_one_refused := fun_mk (st := sOneRef) llaw_one_refused claw_one_refused klaw_one_refused
  have Dlaw_one_refused : Df K mg "_law_one_refused" sOneRef _ _ ["_law_is_loop", "_law_value"] := ⟨Flaw_one_refused, Flaw_one_refused.binds (ps := ["_law_is_loop", "_law_value"]) fun _ _ _ _ _ _ us hl => match us, hl with | [_, _], _ => rfl, PySem.W.mg_of X G alaw_one_refused⟩
  have Flaw_no_names := fun_mk (st := sNoNames) llaw_no_names claw_no_names klaw_no_names
  have Dlaw_no_names : Df K mg "_law_no_names" sNoNames _ _ ["_law_deal", "_law_name", "_law_expr", "_law_row"] := ⟨Flaw_no_names, Flaw_no_names.binds (ps := ["_law_deal", "_law_name", "_law_expr", "_law_row"]) fun _ _ _ _ _ _ us hl => match us, hl with | [_, _, _, _], _ => rfl, PySem.W.mg_of X G alaw_no_names⟩
  have Flaw_no_exprs := fun_mk (st := sNoExprs) llaw_no_exprs claw_no_exprs klaw_no_exprs
  have Dlaw_no_exprs : Df K mg "_law_no_exprs" sNoExprs _ _ ["_law_deal", "_law_name", "_law_expr", "_law_row"] := ⟨Flaw_no_exprs, Flaw_no_exprs.binds (ps := ["_law_deal", "_law_name", "_law_expr", "_law_row"]) fun _ _ _ _ _ _ us hl => match us, hl with | [_, _, _, _], _ => rfl, PySem.W.mg_of X G alaw_no_exprs⟩
  have Flaw_no_rows := fun_mk (st := sNoRows) llaw_no_rows claw_no_rows klaw_no_rows
  have Dlaw_no_rows : Df K mg "_law_no_rows" sNoRows _ _ ["_law_deal", "_law_name", "_law_expr", "_law_row"] := ⟨Flaw_no_rows, Flaw_no_rows.binds (ps := ["_law_deal", "_law_name", "_law_expr", "_law_row"]) fun _ _ _ _ _ _ us hl => match us, hl with | [_, _, _, _], _ => rfl, PySem.W.mg_of X G alaw_no_rows⟩
  have Flaw_no_loops := fun_mk (st := sNoLoops) llaw_no_loops claw_no_loops klaw_no_loops
  have Dlaw_no_loops : Df K mg "_law_no_loops" sNoLoops _ _ ["_law_name", "_law_expr", "_law_step", "_law_falling"] := ⟨Flaw_no_loops, Flaw_no_loops.binds (ps := ["_law_name", "_law_expr", "_law_step", "_law_falling"]) fun _ _ _ _ _ _ us hl => match us, hl with | [_, _, _, _], _ => rfl, PySem.W.mg_of X G alaw_no_loops⟩
  have Flaw := fun_mk (st := sLaw) llaw claw klaw
  have Dlaw : Df K mg "law" sLaw _ _ ["_law_script"] := ⟨Flaw, Flaw.binds (ps := ["_law_script"]) fun _ _ _ _ _ _ us hl => match us, hl with | [_], _ => rfl, PySem.W.mg_of X G alaw⟩
  have Fis_name := fun_mk (st := sIsName) lis_name cis_name kis_name
  have Dis_name : Df K mg "is_name" sIsName _ _ ["value"] := ⟨Fis_name, Fis_name.binds (ps := ["value"]) fun _ _ _ _ _ _ us hl => match us, hl with | [_], _ => rfl, PySem.W.mg_of X G ais_name⟩
  have Fnamed := fun_mk (st := sNamed) lnamed cnamed knamed
  have Dnamed : Df K mg "named" sNamed _ _ ["word"] := ⟨Fnamed, Fnamed.binds (ps := ["word"]) fun _ _ _ _ _ _ us hl => match us, hl with | [_], _ => rfl, PySem.W.mg_of X G anamed⟩
  have Fapplied := fun_mk (st := sApplied) lapplied capplied kapplied
  have Dapplied : Df K mg "applied" sApplied _ _ ["step", "parts"] := ⟨Fapplied, Fapplied.binds (ps := ["step", "parts"]) fun _ _ _ _ _ _ us hl => match us, hl with | [_, _], _ => rfl, PySem.W.mg_of X G aapplied⟩
  have Fas_expr := fun_mk (st := sAsExpr) las_expr cas_expr kas_expr
  have Das_expr : Df K mg "as_expr" sAsExpr _ _ ["value"] := ⟨Fas_expr, Fas_expr.binds (ps := ["value"]) fun _ _ _ _ _ _ us hl => match us, hl with | [_], _ => rfl, PySem.W.mg_of X G aas_expr⟩
  have Fpart_expr := fun_mk (st := sPartExpr) lpart_expr cpart_expr kpart_expr
  have Dpart_expr : Df K mg "part_expr" sPartExpr _ _ ["value"] := ⟨Fpart_expr, Fpart_expr.binds (ps := ["value"]) fun _ _ _ _ _ _ us hl => match us, hl with | [_], _ => rfl, PySem.W.mg_of X G apart_expr⟩
  have Flesser := fun_mk (st := sLesser) llesser clesser klesser
  have Dlesser : Df K mg "_lesser" sLesser _ _ ["left", "right"] := ⟨Flesser, Flesser.binds (ps := ["left", "right"]) fun _ _ _ _ _ _ us hl => match us, hl with | [_, _], _ => rfl, PySem.W.mg_of X G alesser⟩
  have Fgreater := fun_mk (st := sGreater) lgreater cgreater kgreater
  have Dgreater : Df K mg "_greater" sGreater _ _ ["left", "right"] := ⟨Fgreater, Fgreater.binds (ps := ["left", "right"]) fun _ _ _ _ _ _ us hl => match us, hl with | [_, _], _ => rfl, PySem.W.mg_of X G agreater⟩
  have Ftext := fun_mk (st := sTextE) ltext ctext ktext
  have Dtext : Df K mg "_text" sTextE _ _ ["expr"] := ⟨Ftext, Ftext.binds (ps := ["expr"]) fun _ _ _ _ _ _ us hl => match us, hl with | [_], _ => rfl, PySem.W.mg_of X G atext⟩
  have Fare_ways := fun_mk (st := sAreWays) lare_ways care_ways kare_ways
  have Dare_ways : Df K mg "_are_ways" sAreWays _ _ ["value"] := ⟨Fare_ways, Fare_ways.binds (ps := ["value"]) fun _ _ _ _ _ _ us hl => match us, hl with | [_], _ => rfl, PySem.W.mg_of X G aare_ways⟩
  have Fset_name := fun_mk (st := sSetName) lset_name cset_name kset_name
  have Dset_name : Df K mg "_set_name" sSetName _ _ ["value"] := ⟨Fset_name, Fset_name.binds (ps := ["value"]) fun _ _ _ _ _ _ us hl => match us, hl with | [_], _ => rfl, PySem.W.mg_of X G aset_name⟩
  have Frow_expr := fun_mk (st := sRowExpr) lrow_expr crow_expr krow_expr
  have Drow_expr : Df K mg "_row_expr" sRowExpr _ _ ["value"] := ⟨Frow_expr, Frow_expr.binds (ps := ["value"]) fun _ _ _ _ _ _ us hl => match us, hl with | [_], _ => rfl, PySem.W.mg_of X G arow_expr⟩
  have Fchecked_rows := fun_mk (st := sCheckedRows) lchecked_rows cchecked_rows kchecked_rows
  have Dchecked_rows : Df K mg "checked_rows" sCheckedRows _ _ ["value"] := ⟨Fchecked_rows, Fchecked_rows.binds (ps := ["value"]) fun _ _ _ _ _ _ us hl => match us, hl with | [_], _ => rfl, PySem.W.mg_of X G achecked_rows⟩
  have Fmay_loop := fun_mk (st := sMayLoop) lmay_loop cmay_loop kmay_loop
  have Dmay_loop : Df K mg "may_loop" sMayLoop _ _ ["row"] := ⟨Fmay_loop, Fmay_loop.binds (ps := ["row"]) fun _ _ _ _ _ _ us hl => match us, hl with | [_], _ => rfl, PySem.W.mg_of X G amay_loop⟩
  have Frow_lines := fun_mk (st := sRowLines) lrow_lines crow_lines krow_lines
  have Drow_lines : Df K mg "row_lines" sRowLines _ _ ["row"] := ⟨Frow_lines, Frow_lines.binds (ps := ["row"]) fun _ _ _ _ _ _ us hl => match us, hl with | [_], _ => rfl, PySem.W.mg_of X G arow_lines⟩
  have Fall_names : FunD K "all_names" "all_names" (defArgs sAllNames) (defBody sAllNames) (defScope sAllNames) [V.ref tall_names] [] fall_names _ := ⟨⟨ocall_names, odall_names, .ref Tall_names, kVall_names, dcall_names, pmall_names, anall_names, cdall_names, ctall_names, slall_names, rfl, lall_names, call_names, .inr ⟨by simp, Tall_names, _, [.ref tall_names], nTall_names, rfl, eall_names, rfl, .cons rfl .nil⟩, .inl rfl⟩, kall_names⟩
  have Ball_names : Binds K (PySem.W.fnOf "all_names" "all_names" (defArgs sAllNames) (defBody sAllNames) (defScope sAllNames) (.ref Tall_names) kVall_names dcall_names pmall_names anall_names cdall_names ctall_names) ["holders", "more"] [] := by
    obtain ⟨ds, hd, hb⟩ := Fall_names.binds1 (ps := ["holders", "more"]) 2 1 (by simp) rfl fun T kV doc pm an cdv ct us its h1 h2 => match us, its, h1, h2 with | [_, _], [_], _, _ => ⟨_, rfl, rfl⟩
    cases hd
    exact hb
  have Dall_names : Dd K mg "all_names" sAllNames fall_names _ ["holders", "more"] := ⟨⟨tall_names, Fall_names⟩, Ball_names, PySem.W.mg_of X G aall_names, kall_names⟩
  have Fall_steps : FunD K "all_steps" "all_steps" (defArgs sAllSteps) (defBody sAllSteps) (defScope sAllSteps) [V.ref tall_steps] [] fall_steps _ := ⟨⟨ocall_steps, odall_steps, .ref Tall_steps, kVall_steps, dcall_steps, pmall_steps, anall_steps, cdall_steps, ctall_steps, slall_steps, rfl, lall_steps, call_steps, .inr ⟨by simp, Tall_steps, _, [.ref tall_steps], nTall_steps, rfl, eall_steps, rfl, .cons rfl .nil⟩, .inl rfl⟩, kall_steps⟩
  have Ball_steps : Binds K (PySem.W.fnOf "all_steps" "all_steps" (defArgs sAllSteps) (defBody sAllSteps) (defScope sAllSteps) (.ref Tall_steps) kVall_steps dcall_steps pmall_steps anall_steps cdall_steps ctall_steps) ["holders", "more"] [] := by
    obtain ⟨ds, hd, hb⟩ := Fall_steps.binds1 (ps := ["holders", "more"]) 2 1 (by simp) rfl fun T kV doc pm an cdv ct us its h1 h2 => match us, its, h1, h2 with | [_, _], [_], _, _ => ⟨_, rfl, rfl⟩
    cases hd
    exact hb
  have Dall_steps : Dd K mg "all_steps" sAllSteps fall_steps _ ["holders", "more"] := ⟨⟨tall_steps, Fall_steps⟩, Ball_steps, PySem.W.mg_of X G aall_steps, kall_steps⟩
  have B1all_steps : Binds K (PySem.W.fnOf "all_steps" "all_steps" (defArgs sAllSteps) (defBody sAllSteps) (defScope sAllSteps) (.ref Tall_steps) kVall_steps dcall_steps pmall_steps anall_steps cdall_steps ctall_steps) ["holders", "more"] [.ref tall_steps] := by
    obtain ⟨ds, hd, hb⟩ := Fall_steps.binds1 (ps := ["holders", "more"]) 1 0 (by simp) rfl fun T kV doc pm an cdv ct us its h1 h2 => match us, its, h1, h2 with | [_], [_], _, _ => ⟨_, rfl, rfl⟩
    cases hd with | cons r rs => cases r; cases rs; exact hb
  have Deall_steps : De K mg "all_steps" sAllSteps fall_steps _ ["holders", "more"] tall_steps := ⟨Dall_steps, B1all_steps, fun H => .inr ⟨_, _, _, mall_steps, rfl, rfl, by show 0 ≤ sizeLine; decide, .nil⟩⟩
  have W : Words K mg kw := ⟨⟨_, PySem.W.mg_of X G w1⟩, ⟨_, PySem.W.mg_of X G w2⟩, PySem.W.mg_of X G w3, fun H => .inr ⟨_, _, _, w4, rfl, rfl, by show 3 ≤ sizeLine; decide, .cons ⟨_, rfl⟩ (.cons ⟨_, rfl⟩ (.cons ⟨_, rfl⟩ .nil))⟩⟩
  have OS : OwnCl K mg "Step" gS := ⟨⟨gS1, gS2, gS3, gS4⟩, gS5, so, tk, gS6, gSk0, gSk1, gSk2, gSk3, PySem.W.mg_of X G gSa⟩
  have FiS := fun_mk (st := sStepInit) liS ciS kiS
  have biS := FiS.binds (ps := ["self", "name", "ways"]) fun _ _ _ _ _ _ us hl => match us, hl with | [_, _, _], _ => rfl
  have MS : Mk K gS fiS := ⟨gS7, aiS, niS, gS8⟩
  have OE : OwnCl K mg "Expr" gE := ⟨⟨gE1, gE2, gE3, gE4⟩, gE5, so, tk, gE6, gEk0, gEk1, gEk2, gEk3, PySem.W.mg_of X G gEa⟩
  have FiE := fun_mk (st := sExprInit) liE ciE kiE
  have biE := FiE.binds (ps := ["self", "kind", "word", "step", "parts"]) fun _ _ _ _ _ _ us hl => match us, hl with | [_, _, _, _, _], _ => rfl
  have ME : Mk K gE fiE := ⟨gE7, aiE, niE, gE8⟩
  have FlS := fun_mk (st := sStepLen) llS clS klS
  have blS := FlS.binds (ps := ["self"]) fun _ _ _ _ _ _ us hl => match us, hl with | [_], _ => rfl
  have LS : LenM K gS flS _ sStepLen "Step.__len__" := ⟨FlS, blS, alS, nlS⟩
  have FsE := fun_mk (st := sExprStr) lsE csE ksE
  have bsE := FsE.binds (ps := ["self"]) fun _ _ _ _ _ _ us hl => match us, hl with | [_], _ => rfl
  have SE : StrO K gE sExprStr "Expr.__str__" fsE _ := ⟨FsE, bsE, asE, nsE⟩
  have NX : ExN K gE := ⟨gE_kind, gE_word, gE_step, gE_parts, gE_names, gE_steps, gE_size, gE_applied, gS, hne, OS.cl, gS_name, gS_ways⟩
  have FcS : FunD K "__call__" "Step.__call__" (defArgs sStepCall) (defBody sStepCall) (defScope sStepCall) [V.non, V.non] [] fcS _ := ⟨⟨occS, odcS, .ref TcS, kVcS, dccS, pmcS, ancS, cdcS, ctcS, slcS, rfl, lcS, ccS, .inr ⟨by simp, TcS, _, [.none, .none], nTcS, rfl, ecS, rfl, .cons rfl (.cons rfl .nil)⟩, .inl rfl⟩, kcS⟩
  have bc0 : Binds K (PySem.W.fnOf "__call__" "Step.__call__" (defArgs sStepCall) (defBody sStepCall) (defScope sStepCall) (.ref TcS) kVcS dccS pmcS ancS cdcS ctcS) ["self", "first", "second", "third"] [] := by
    obtain ⟨ds, hd, hb⟩ := FcS.binds1 (ps := ["self", "first", "second", "third"]) 4 2 (by simp) rfl fun T kV doc pm an cdv ct us its h1 h2 => match us, its, h1, h2 with | [_, _, _, _], [_, _], _, _ => ⟨_, rfl, rfl⟩
    cases hd
    exact hb
  have bc1 : Binds K (PySem.W.fnOf "__call__" "Step.__call__" (defArgs sStepCall) (defBody sStepCall) (defScope sStepCall) (.ref TcS) kVcS dccS pmcS ancS cdcS ctcS) ["self", "first", "second", "third"] [.none] := by
    obtain ⟨ds, hd, hb⟩ := FcS.binds1 (ps := ["self", "first", "second", "third"]) 3 1 (by simp) rfl fun T kV doc pm an cdv ct us its h1 h2 => match us, its, h1, h2 with | [_, _, _], [_, _], _, _ => ⟨_, rfl, rfl⟩
    cases hd with | cons r rs => cases r; cases rs; exact hb
  have bc2 : Binds K (PySem.W.fnOf "__call__" "Step.__call__" (defArgs sStepCall) (defBody sStepCall) (defScope sStepCall) (.ref TcS) kVcS dccS pmcS ancS cdcS ctcS) ["self", "first", "second", "third"] [.none, .none] := by
    obtain ⟨ds, hd, hb⟩ := FcS.binds1 (ps := ["self", "first", "second", "third"]) 2 0 (by simp) rfl fun T kV doc pm an cdv ct us its h1 h2 => match us, its, h1, h2 with | [_, _], [_, _], _, _ => ⟨_, rfl, rfl⟩
    cases hd with | cons r rs => cases r; cases rs with | cons r rs => cases r; cases rs; exact hb
  have CM : CallM K gS fcS _ := ⟨FcS, bc0, bc1, bc2, ⟨acS, ncS, icS⟩⟩
  have FaE := fun_mk (st := sExprAnd) laE caE kaE
  have baE := FaE.binds (ps := ["self", "other"]) fun _ _ _ _ _ _ us hl => match us, hl with | [_, _], _ => rfl
  have FoE := fun_mk (st := sExprOr) loE coE koE
  have boE := FoE.binds (ps := ["self", "other"]) fun _ _ _ _ _ _ us hl => match us, hl with | [_, _], _ => rfl
  have OA : OpA K gE faE foE _ _ := ⟨sfE, aaE, aoE, naE, noE, baE, boE⟩
  have XM : ExMk K mg gE gS fiE fall_names fall_steps _ _ _ := ⟨OE.cl, NX, hne, OS.cl, gS_name, gS_ways, PySem.W.mg_of X G gEa, ME, FiE, biE, Dall_names, Dall_steps⟩
  have FR : FunD K "__init__" "Row.__init__" (defArgs sRowInit) (defBody sRowInit) (defScope sRowInit) [V.ref tR, V.ref tRU, V.ref tRV] [] fR _ := ⟨⟨ocR, odR, .ref TR, kVR, dcR, pmR, anR, cdR, ctR, slR, rfl, lR, cR, .inr ⟨by simp, TR, _, [.ref tR, .ref tRU, .ref tRV], nTR, rfl, eR, rfl, .cons rfl (.cons rfl (.cons rfl .nil))⟩, .inl rfl⟩, kR⟩
  have bR0 : Binds K (PySem.W.fnOf "__init__" "Row.__init__" (defArgs sRowInit) (defBody sRowInit) (defScope sRowInit) (.ref TR) kVR dcR pmR anR cdR ctR) pRow [] := by
    obtain ⟨ds, hd, hb⟩ := FR.binds1 (ps := pRow) 6 3 (by simp) rfl fun T kV doc pm an cdv ct us its h1 h2 => match us, its, h1, h2 with | [_, _, _, _, _, _], [_, _, _], _, _ => ⟨_, rfl, rfl⟩
    cases hd
    exact hb
  have bR1 : Binds K (PySem.W.fnOf "__init__" "Row.__init__" (defArgs sRowInit) (defBody sRowInit) (defScope sRowInit) (.ref TR) kVR dcR pmR anR cdR ctR) pRow [.ref tRV] := by
    obtain ⟨ds, hd, hb⟩ := FR.binds1 (ps := pRow) 5 2 (by simp) rfl fun T kV doc pm an cdv ct us its h1 h2 => match us, its, h1, h2 with | [_, _, _, _, _], [_, _, _], _, _ => ⟨_, rfl, rfl⟩
    cases hd with | cons r rs => cases r; cases rs; exact hb
  have bR3 : Binds K (PySem.W.fnOf "__init__" "Row.__init__" (defArgs sRowInit) (defBody sRowInit) (defScope sRowInit) (.ref TR) kVR dcR pmR anR cdR ctR) pRow [.ref tR, .ref tRU, .ref tRV] := by
    obtain ⟨ds, hd, hb⟩ := FR.binds1 (ps := pRow) 3 0 (by simp) rfl fun T kV doc pm an cdv ct us its h1 h2 => match us, its, h1, h2 with | [_, _, _], [_, _, _], _, _ => ⟨_, rfl, rfl⟩
    cases hd with | cons r rs => cases r; cases rs with | cons r rs => cases r; cases rs with | cons r rs => cases r; cases rs; exact hb
  have RM : RowM K mg gR (.type "type") fR _ tR tRU tRV := ⟨FR, bR0, bR1, bR3, fun H => .inr ⟨_, _, _, mR, rfl, rfl, by show 0 ≤ sizeLine; decide, .nil⟩, fun H => .inr ⟨_, _, _, mRU, rfl, rfl, by show 0 ≤ sizeLine; decide, .nil⟩, fun H => .inr ⟨_, _, _, mRV, rfl, rfl, by show 0 ≤ sizeLine; decide, .nil⟩, ⟨rR1, rR2⟩, ⟨rR3, rfl⟩, kR, PySem.W.mg_of X G gRa⟩
  have Fir0 := fun_mk (st := sPutInit) lir0 cir0 kir0
  have bir0 := Fir0.binds (ps := ["self", "name", "expr"]) fun _ _ _ _ _ _ us hl => match us, hl with | [_, _, _], _ => rfl
  have Cr0 : RwC K gE gS gr0 := ⟨⟨gr01, gr02, gr03, gr04⟩, gr0_kind, gr0_told, gr0_inner, gr0_size, gr0_names, gr0_steps, gr0nE, gr0nS⟩
  have Mr0 : RwMk K mg "Put" gr0 fir0 _ ["self", "name", "expr"] := ⟨⟨gr07, air0, nir0, gr08⟩, PySem.W.mg_of X G gr0a, bir0⟩
  have Fir1 := fun_mk (st := sRaiseInit) lir1 cir1 kir1
  have bir1 := Fir1.binds (ps := ["self", "name", "expr"]) fun _ _ _ _ _ _ us hl => match us, hl with | [_, _, _], _ => rfl
  have Cr1 : RwC K gE gS gr1 := ⟨⟨gr11, gr12, gr13, gr14⟩, gr1_kind, gr1_told, gr1_inner, gr1_size, gr1_names, gr1_steps, gr1nE, gr1nS⟩
  have Mr1 : RwMk K mg "Raise" gr1 fir1 _ ["self", "name", "expr"] := ⟨⟨gr17, air1, nir1, gr18⟩, PySem.W.mg_of X G gr1a, bir1⟩
  have Fir2 := fun_mk (st := sLowerInit) lir2 cir2 kir2
  have bir2 := Fir2.binds (ps := ["self", "name", "expr"]) fun _ _ _ _ _ _ us hl => match us, hl with | [_, _, _], _ => rfl
  have Cr2 : RwC K gE gS gr2 := ⟨⟨gr21, gr22, gr23, gr24⟩, gr2_kind, gr2_told, gr2_inner, gr2_size, gr2_names, gr2_steps, gr2nE, gr2nS⟩
  have Mr2 : RwMk K mg "Lower" gr2 fir2 _ ["self", "name", "expr"] := ⟨⟨gr27, air2, nir2, gr28⟩, PySem.W.mg_of X G gr2a, bir2⟩
  have Fir3 := fun_mk (st := sRefuseInit) lir3 cir3 kir3
  have bir3 := Fir3.binds (ps := ["self", "word"]) fun _ _ _ _ _ _ us hl => match us, hl with | [_, _], _ => rfl
  have Cr3 : RwC K gE gS gr3 := ⟨⟨gr31, gr32, gr33, gr34⟩, gr3_kind, gr3_told, gr3_inner, gr3_size, gr3_names, gr3_steps, gr3nE, gr3nS⟩
  have Mr3 : RwMk K mg "Refuse" gr3 fir3 _ ["self", "word"] := ⟨⟨gr37, air3, nir3, gr38⟩, PySem.W.mg_of X G gr3a, bir3⟩
  have Fir4 : FunD K "__init__" "If.__init__" (defArgs sIfInit) (defBody sIfInit) (defScope sIfInit) [V.ref tir4] [] fir4 _ := ⟨⟨ocir4, odir4, .ref Tir4, kVir4, dcir4, pmir4, anir4, cdir4, ctir4, slir4, rfl, lir4, cir4, .inr ⟨by simp, Tir4, _, [.ref tir4], nTir4, rfl, eir4, rfl, .cons rfl .nil⟩, .inl rfl⟩, kir4⟩
  have bir4 : Binds K (PySem.W.fnOf "__init__" "If.__init__" (defArgs sIfInit) (defBody sIfInit) (defScope sIfInit) (.ref Tir4) kVir4 dcir4 pmir4 anir4 cdir4 ctir4) ["self", "left", "right", "rows", "others"] [] := by
    obtain ⟨ds, hd, hb⟩ := Fir4.binds1 (ps := ["self", "left", "right", "rows", "others"]) 5 1 (by simp) rfl fun T kV doc pm an cdv ct us its h1 h2 => match us, its, h1, h2 with | [_, _, _, _, _], [_], _, _ => ⟨_, rfl, rfl⟩
    cases hd
    exact hb
  have Cr4 : RwC K gE gS gr4 := ⟨⟨gr41, gr42, gr43, gr44⟩, gr4_kind, gr4_told, gr4_inner, gr4_size, gr4_names, gr4_steps, gr4nE, gr4nS⟩
  have Mr4 : RwMk K mg "If" gr4 fir4 _ ["self", "left", "right", "rows", "others"] := ⟨⟨gr47, air4, nir4, gr48⟩, PySem.W.mg_of X G gr4a, bir4⟩
  have Fir5 := fun_mk (st := sStillInit) lir5 cir5 kir5
  have bir5 := Fir5.binds (ps := ["self", "rows"]) fun _ _ _ _ _ _ us hl => match us, hl with | [_, _], _ => rfl
  have Cr5 : RwC K gE gS gr5 := ⟨⟨gr51, gr52, gr53, gr54⟩, gr5_kind, gr5_told, gr5_inner, gr5_size, gr5_names, gr5_steps, gr5nE, gr5nS⟩
  have Mr5 : RwMk K mg "Still" gr5 fir5 _ ["self", "rows"] := ⟨⟨gr57, air5, nir5, gr58⟩, PySem.W.mg_of X G gr5a, bir5⟩
  let cRr : Nat → Addr := fun i => match i with | 0 => gr0 | 1 => gr1 | 2 => gr2 | 3 => gr3 | 4 => gr4 | _ => gr5
  have RK : RwK K mg gE gS gR cRr := ⟨(upto6 (p := fun i => RwC K gE gS (cRr i)) Cr0 Cr1 Cr2 Cr3 Cr4 Cr5), (upto6 (p := fun i => PySem.W.findIn K (.ref (cRr i)) "__class__" = some (some (.builtin "object.__class__"))) gr05 gr15 gr25 gr35 gr45 gr55), so, tk, (upto6 (p := fun i => PySem.W.mroIn K (cRr i) (.type "object") = some true) gr06 gr16 gr26 gr36 gr46 gr56), (upto6 (p := fun i => PySem.W.kitOne K (.ref (cRr i)) (.ref gR) = some true) gr0kR gr1kR gr2kR gr3kR gr4kR gr5kR), (fun i j hi hj => upto6 (p := fun i => ∀ j, j < 6 → PySem.W.kitOne K (.ref (cRr i)) (.ref (cRr j)) = some (decide (i = j))) (upto6 (p := fun j => PySem.W.kitOne K (.ref (cRr 0)) (.ref (cRr j)) = some (decide (0 = j))) y0_0 y0_1 y0_2 y0_3 y0_4 y0_5) (upto6 (p := fun j => PySem.W.kitOne K (.ref (cRr 1)) (.ref (cRr j)) = some (decide (1 = j))) y1_0 y1_1 y1_2 y1_3 y1_4 y1_5) (upto6 (p := fun j => PySem.W.kitOne K (.ref (cRr 2)) (.ref (cRr j)) = some (decide (2 = j))) y2_0 y2_1 y2_2 y2_3 y2_4 y2_5) (upto6 (p := fun j => PySem.W.kitOne K (.ref (cRr 3)) (.ref (cRr j)) = some (decide (3 = j))) y3_0 y3_1 y3_2 y3_3 y3_4 y3_5) (upto6 (p := fun j => PySem.W.kitOne K (.ref (cRr 4)) (.ref (cRr j)) = some (decide (4 = j))) y4_0 y4_1 y4_2 y4_3 y4_4 y4_5) (upto6 (p := fun j => PySem.W.kitOne K (.ref (cRr 5)) (.ref (cRr j)) = some (decide (5 = j))) y5_0 y5_1 y5_2 y5_3 y5_4 y5_5) i hi j hj), (upto6 (p := fun i => PySem.W.kitOne K (.ref (cRr i)) (.ref gE) = some false) gr0kE gr1kE gr2kE gr3kE gr4kE gr5kE), (upto6 (p := fun i => PySem.W.kitOne K (.ref (cRr i)) (.type "str") = some false) gr0k0 gr1k0 gr2k0 gr3k0 gr4k0 gr5k0), (upto6 (p := fun i => PySem.W.kitOne K (.ref (cRr i)) (.type "list") = some false) gr0k1 gr1k1 gr2k1 gr3k1 gr4k1 gr5k1), (upto6 (p := fun i => PySem.W.kitOne K (.ref (cRr i)) (.type "tuple") = some false) gr0k2 gr1k2 gr2k2 gr3k2 gr4k2 gr5k2), PySem.W.mg_of X G gRa, PySem.W.mg_of X G gr1a, (upto3 (p := fun i => NoAttr K (cRr i) "expr") gr0_expr gr1_expr gr2_expr), (upto3 (p := fun i => NoAttr K (cRr i) "name") gr0_name gr1_name gr2_name), gr3_word, gr4_left, gr4_right, gr4_rows, gr4_others, gr5_rows⟩
  have FsR := fun_mk (st := sRowStr) lsR csR ksR
  have bsR := FsR.binds (ps := ["self"]) fun _ _ _ _ _ _ us hl => match us, hl with | [_], _ => rfl
  have OuE : Out K gE := ⟨oOuEi, oOuEb, oOuEn, oOuEs, oOuEt, oOuEl⟩
  have OuR : Out K gR := ⟨oOuRi, oOuRb, oOuRn, oOuRs, oOuRt, oOuRl⟩
  have RI : Rising K mg gRW := ⟨PySem.W.mg_of X G v2, fun H => .inr ⟨_, _, _, v3, rfl, rfl, by show 3 ≤ sizeLine; decide, .cons ⟨_, rfl⟩ (.cons ⟨_, rfl⟩ (.cons ⟨_, rfl⟩ .nil))⟩⟩
  have SG : SgD K w mg dSG := ⟨PySem.W.mg_of X G u1, ⟨_, _, u2, u3, u4⟩, upto3 (p := fun k => ∃ t, PySem.W.nsIn K dSG (kdN k) = some (some (.str (sgN k) t))) ⟨_, us0⟩ ⟨_, us1⟩ ⟨_, us2⟩, fun k h3 h6 => match k, h3, h6 with
    | 3, _, _ => un0
    | 4, _, _ => un1
    | 5, _, _ => un2
    | k + 6, _, h => absurd h (by omega)⟩
  have Tx3 : OexC K gx3 := ⟨⟨_, _, _, _, _, _, _, _, _, _, _, _, _, _, _, gx3_c, gx3_r⟩, gx3_1, gx3_2, gx3_3, gx3_4⟩
  have Ex3 : ExcC K gx3 := ⟨gx3_5, gx3_6, gx3_2, gx3_7, gx3_8, so, tk, gx3_9⟩
  have Fx3 := fun_mk (st := eS 3) lx3 cx3 kx3
  have Rx3 : Er K mg 3 gx3 fx3 _ := ⟨PySem.W.mg_of X G gx3a, Tx3, ⟨gx3_5, gx3_6, gx3_2, gx3_7⟩, Ex3, ax3, tx3, Fx3, Fx3.binds (ps := ["self", "word"]) fun _ _ _ _ _ _ us hl => match us, hl with | [_, _], _ => rfl, nx3⟩
  have EK : ErK K mg gx3 gB fx3 _ gw0 gw1 gw2 gw3 gw4 gw5 gw6 := ⟨Rx3, PySem.W.mg_of X G gBa, xm, PySem.W.mg_none_of X G b_ve, xv, PySem.W.mg_of X G gw0a, PySem.W.mg_of X G gw1a, PySem.W.mg_of X G gw2a, PySem.W.mg_of X G gw3a, PySem.W.mg_of X G gw4a, PySem.W.mg_of X G gw5a, PySem.W.mg_of X G gw6a, fun u hu => by
    simp only [List.mem_cons, List.not_mem_nil, or_false] at hu
    rcases hu with rfl | rfl | rfl | rfl | rfl | rfl | rfl
    · exact xw0
    · exact xw1
    · exact xw2
    · exact xw3
    · exact xw4
    · exact xw5
    · exact xw6⟩
  exact ⟨PySem.W.fnOf "law" "law" (defArgs sLaw) (defBody sLaw) (defScope sLaw) .none kVlaw dclaw pmlaw anlaw cdlaw ctlaw, fun s v => .of_eq rfl, fun base _ _ => by
    have GS0 := ok_stInit (P := l.prog) (w := w) (base := base) S W Dis_name (PySem.W.mg_of X G w5) (PySem.W.mg_of X G w6) Dare_ways OS.cl gS_name gS_ways FiS
    have GM := ok_namedX (P := l.prog) (w := w) (base := base) S W Dis_name XM Fnamed
    have GAs := ok_asExprX (P := l.prog) (w := w) (base := base) S W OE kes Dis_name Dnamed GM Fas_expr
    have GAb := ok_asB (P := l.prog) (w := w) (base := base) S W OE kes Dis_name Dnamed GM Fas_expr
    have GPt := ok_partExX (P := l.prog) (w := w) (base := base) Das_expr GAs Fpart_expr
    have GAp := ok_appliedX (P := l.prog) (w := w) (base := base) S XM Fapplied
    have GLe := ok_lesserX (P := l.prog) (w := w) (base := base) S XM Flesser
    have GGr := ok_greaterX (P := l.prog) (w := w) (base := base) S XM Fgreater
    have GAn := ok_andX (P := l.prog) (w := w) (base := base) Dpart_expr GPt Dlesser GLe FaE
    have GOr := ok_orX (P := l.prog) (w := w) (base := base) Dpart_expr GPt Dgreater GGr FoE
    have GC := ok_callX (P := l.prog) (w := w) (base := base) S OS gS_ways LS (PySem.W.mg_of X G w5) Dpart_expr GPt Dapplied GAp CM
    have GSN := ok_setName (P := l.prog) (w := w) (base := base) S W Rx3 Dis_name Fset_name
    have GRE := ok_rowExpr (P := l.prog) (w := w) (base := base) Rx3 Das_expr GAb Frow_expr
    have GCK := ok_checked (P := l.prog) (w := w) (base := base) S (PySem.W.mg_of X G gRa) Rx3 Fchecked_rows
    have GRI := ok_rowInit (P := l.prog) (w := w) (base := base) (cR := cRr) S OE.cl NX OS.cl gS_name gS_ways RK.c RM Dall_names Deall_steps
    have GMY := ok_may (P := l.prog) (w := w) (base := base) S OE.cl NX OS.cl gS_ways RK RI Fmay_loop
    have I0 := ok_putI (P := l.prog) (w := w) (base := base) RK.c (RK.nm 0 (by decide)) (RK.xp 0 (by decide)) RM GRI Dset_name GSN Drow_expr GRE Fir0
    have I1 := ok_raiseI (P := l.prog) (w := w) (base := base) RK.c (RK.nm 1 (by decide)) (RK.xp 1 (by decide)) RM GRI Dset_name GSN Drow_expr GRE Fir1
    have I2 := ok_lowerI (P := l.prog) (w := w) (base := base) RK.c (RK.nm 2 (by decide)) (RK.xp 2 (by decide)) RM GRI Dset_name GSN Drow_expr GRE Fir2
    have I3 := ok_refuseI (P := l.prog) (w := w) (base := base) S W RK Rx3 Dis_name RM GRI Fir3
    have I4 := ok_ifI (P := l.prog) (w := w) (base := base) RK RM GRI Drow_expr GRE Dchecked_rows GCK Fir4
    have I5 := ok_stillI (P := l.prog) (w := w) (base := base) S (PySem.W.mg_of X G v1) RK Rx3 RM GRI Dchecked_rows GCK Dmay_loop GMY Fir5
    have GTo := ok_toldE (P := l.prog) (w := w) (base := base) S EK Flaw_told
    have GPR := ok_putRef (P := l.prog) (w := w) (base := base) (cR := cRr) EK Dlaw_told GTo Mr0 I0 Mr1 I1 Mr2 I2 Flaw_put_refused
    have GIR := ok_ifRef (P := l.prog) (w := w) (base := base) (cR := cRr) EK Dlaw_told GTo Mr4 I4 Flaw_if_refused
    have GOR := ok_oneRef (P := l.prog) (w := w) (base := base) (cR := cRr) EK Dlaw_told GTo Mr3 I3 Mr5 I5 Flaw_one_refused
    have GNN := ok_noNames (P := l.prog) (w := w) (base := base) RK OE Flaw_no_names
    have GNE := ok_noExprs (P := l.prog) (w := w) (base := base) RK OuE Flaw_no_exprs
    have GTx := ok_exStrR (P := l.prog) (w := w) (base := base) (C := gE) (cS := gS) S Dtext (ok_textR S OE.cl NX OS.cl gS_name SE Dtext 2) FsE
    have GLi := ok_lines0 (P := l.prog) (w := w) (base := base) S RK SG SE fmE gE6 GTx Frow_lines
    have GSt := ok_rowStr0 (P := l.prog) (w := w) (base := base) Drow_lines GLi FsR
    have GNR := ok_noRows (P := l.prog) (w := w) (base := base) S RK OE OuR oER asR nsR bsR GSt Flaw_no_rows
    let fR6 : Nat → Addr := fun i => match i with | 0 => fir0 | 1 => fir1 | 2 => fir2 | 3 => fir3 | 4 => fir4 | _ => fir5
    have MA : ∃ ffd, MkAll K mg cRr fR6 ffd ∧ InAll l.prog w K mg base gx3 gE gS gR cRr fR6 ffd := ⟨fun i => match i with | 0 => _ | 1 => _ | 2 => _ | 3 => _ | 4 => _ | _ => _, ⟨Mr0, Mr1, Mr2, Mr3, Mr4, Mr5⟩, ⟨I0, I1, I2, I3, I4, I5⟩⟩
    obtain ⟨ffd, MA, IA⟩ := MA
    have GNL := ok_noLoops (P := l.prog) (w := w) (base := base) MA IA CM GC OA GAn Flaw_no_loops
    exact ok_law14 S MA IA CM GC OA GOr OS MS GS0 biS Dlaw_source Dlaw_drawn_words Dlaw_draw Dlaw_pick Dnamed GM Dlaw_no_names GNN Dlaw_no_exprs GNE Dlaw_no_rows GNR Dlaw_no_loops GNL Dlaw_put_refused GPR Dlaw_if_refused GIR Dlaw_one_refused GOR Flaw⟩
theorem walk {l : PySem.W.OpenLaw} {q : Program} {loose : List Str} {XP : (Str → Option Value) → Heap → Prop} {YP : World → Heap → Prop} {d : DefRec} {K : Params → PySem.W.Frag} (hn : l.most = some 63) (hdf : d.params.defaults = [])
    (hY : ∀ (w : World) (h : Heap), YP w h → (K w.params).In h)
    (F : ∀ (w : World) (mg : Str → Option Value) (fa : Addr) (h : Heap), (K w.params).In h → h.Ns mainGlobals mg → mg d.name = some (.ref fa) →
      ∃ fd : FuncData, (∀ (s : Shared) (u : Value), BindsTo s fd ⟨[u], []⟩ [("_law_script", u)]) ∧ ∀ base : Heap, (K w.params).In base → base.Ns mainGlobals mg → FnOk l.prog w (K w.params) mg base CX0 18 fa fd ["_law_script"] (spLaw (K w.params))) :
    PySem.W.WalkO q loose XP YP l.row.toRowW d [] (fun f vs => PySem.call f vs) :=
  L2.walk_of (n := 63) (k := 18) (x := "_law_script") (CX := fun _ => CX0) (sp := fun w => spLaw (K w.params)) hn (by decide) hdf ⟨rfl, by decide, by decide⟩ hY F (fun _ _ a ns hl _ hS => ⟨a, ns, rfl, hS, hl, fun _ => rfl⟩) fun _ _ _ _ _ z => z
end LK

open PySem PySem.W PyProof.Rows
set_option maxHeartbeats 0
open_top head for PySem.Challenge.rw_knownways_k14_rows_refused
set_option maxRecDepth 100000 in
set_option maxHeartbeats 0 in
theorem PySem.Challenge.cw_knownways_k14_rows_refused_holds : PySem.Challenge.rw_knownways_k14_rows_refused.Holds := by
  refine head ?_
  k_fill
  refine LK.walk (l := PySem.Challenge.rw_knownways_k14_rows_refused) rfl rfl (fun w h Y => PySem.W.kIn_of Y) ?F
  case F =>
    intro w mg fa h KX G hmg
    refine' LK.all_mk KX G hmg ?b_len ?b_abs ?b_int ?b_range ?b_isinstance ?b_tuple ?b_list ?b_all ?b_zip ?b_bool ?b_str ?b_set ?b_sorted ?b_sum ?b_any ?b_enumerate ?b_min ?b_max ?alaw_source ?llaw_source ?claw_source ?klaw_source ?alaw_draw ?llaw_draw ?claw_draw ?klaw_draw ?alaw_pick ?llaw_pick ?claw_pick ?klaw_pick ?alaw_drawn_words ?llaw_drawn_words ?claw_drawn_words ?klaw_drawn_words ?alaw_told ?llaw_told ?claw_told ?klaw_told ?alaw_put_refused ?llaw_put_refused ?claw_put_refused ?klaw_put_refused ?alaw_if_refused ?llaw_if_refused ?claw_if_refused ?klaw_if_refused ?alaw_one_refused ?llaw_one_refused ?claw_one_refused ?klaw_one_refused ?alaw_no_names ?llaw_no_names ?claw_no_names ?klaw_no_names ?alaw_no_exprs ?llaw_no_exprs ?claw_no_exprs ?klaw_no_exprs ?alaw_no_rows ?llaw_no_rows ?claw_no_rows ?klaw_no_rows ?alaw_no_loops ?llaw_no_loops ?claw_no_loops ?klaw_no_loops ?alaw ?llaw ?claw ?klaw ?ais_name ?lis_name ?cis_name ?kis_name ?anamed ?lnamed ?cnamed ?knamed ?aapplied ?lapplied ?capplied ?kapplied ?aas_expr ?las_expr ?cas_expr ?kas_expr ?apart_expr ?lpart_expr ?cpart_expr ?kpart_expr ?alesser ?llesser ?clesser ?klesser ?agreater ?lgreater ?cgreater ?kgreater ?atext ?ltext ?ctext ?ktext ?aare_ways ?lare_ways ?care_ways ?kare_ways ?aset_name ?lset_name ?cset_name ?kset_name ?arow_expr ?lrow_expr ?crow_expr ?krow_expr ?achecked_rows ?lchecked_rows ?cchecked_rows ?kchecked_rows ?amay_loop ?lmay_loop ?cmay_loop ?kmay_loop ?arow_lines ?lrow_lines ?crow_lines ?krow_lines ?aall_names ?lall_names ?call_names ?kall_names ?eall_names ?aall_steps ?lall_steps ?call_steps ?kall_steps ?eall_steps ?mall_steps ?w1 ?w2 ?w3 ?w4 ?w5 ?w6 ?so ?tk ?gSa ?gS1 ?gS2 ?gS3 ?gS4 ?gS5 ?gS6 ?gSk0 ?gSk1 ?gSk2 ?gSk3 ?gS7 ?gS8 ?aiS ?niS ?liS ?ciS ?kiS ?gS_name ?gS_ways ?gEa ?gE1 ?gE2 ?gE3 ?gE4 ?gE5 ?gE6 ?gEk0 ?gEk1 ?gEk2 ?gEk3 ?gE7 ?gE8 ?aiE ?niE ?liE ?ciE ?kiE ?gE_kind ?gE_word ?gE_step ?gE_parts ?gE_names ?gE_steps ?gE_size ?gE_applied ?alS ?nlS ?llS ?clS ?klS ?asE ?nsE ?lsE ?csE ?ksE ?fmE ?hne ?kes ?acS ?ncS ?icS ?lcS ?ccS ?kcS ?ecS ?aaE ?naE ?laE ?caE ?kaE ?aoE ?noE ?loE ?coE ?koE ?sfE ?gRa ?rR1 ?rR2 ?rR3 ?lR ?cR ?kR ?eR ?mR ?mRU ?mRV ?gr0a ?gr01 ?gr02 ?gr03 ?gr04 ?gr05 ?gr06 ?gr0k0 ?gr0k1 ?gr0k2 ?gr0kR ?gr0kE ?gr07 ?gr08 ?gr0_kind ?gr0_told ?gr0_inner ?gr0_size ?gr0_names ?gr0_steps ?gr0_name ?gr0_expr ?gr0nE ?gr0nS ?air0 ?nir0 ?lir0 ?cir0 ?kir0 ?gr1a ?gr11 ?gr12 ?gr13 ?gr14 ?gr15 ?gr16 ?gr1k0 ?gr1k1 ?gr1k2 ?gr1kR ?gr1kE ?gr17 ?gr18 ?gr1_kind ?gr1_told ?gr1_inner ?gr1_size ?gr1_names ?gr1_steps ?gr1_name ?gr1_expr ?gr1nE ?gr1nS ?air1 ?nir1 ?lir1 ?cir1 ?kir1 ?gr2a ?gr21 ?gr22 ?gr23 ?gr24 ?gr25 ?gr26 ?gr2k0 ?gr2k1 ?gr2k2 ?gr2kR ?gr2kE ?gr27 ?gr28 ?gr2_kind ?gr2_told ?gr2_inner ?gr2_size ?gr2_names ?gr2_steps ?gr2_name ?gr2_expr ?gr2nE ?gr2nS ?air2 ?nir2 ?lir2 ?cir2 ?kir2 ?gr3a ?gr31 ?gr32 ?gr33 ?gr34 ?gr35 ?gr36 ?gr3k0 ?gr3k1 ?gr3k2 ?gr3kR ?gr3kE ?gr37 ?gr38 ?gr3_kind ?gr3_told ?gr3_inner ?gr3_size ?gr3_names ?gr3_steps ?gr3_word ?gr3nE ?gr3nS ?air3 ?nir3 ?lir3 ?cir3 ?kir3 ?gr4a ?gr41 ?gr42 ?gr43 ?gr44 ?gr45 ?gr46 ?gr4k0 ?gr4k1 ?gr4k2 ?gr4kR ?gr4kE ?gr47 ?gr48 ?gr4_kind ?gr4_told ?gr4_inner ?gr4_size ?gr4_names ?gr4_steps ?gr4_left ?gr4_right ?gr4_rows ?gr4_others ?gr4nE ?gr4nS ?air4 ?nir4 ?lir4 ?cir4 ?kir4 ?eir4 ?gr5a ?gr51 ?gr52 ?gr53 ?gr54 ?gr55 ?gr56 ?gr5k0 ?gr5k1 ?gr5k2 ?gr5kR ?gr5kE ?gr57 ?gr58 ?gr5_kind ?gr5_told ?gr5_inner ?gr5_size ?gr5_names ?gr5_steps ?gr5_rows ?gr5nE ?gr5nS ?air5 ?nir5 ?lir5 ?cir5 ?kir5 ?y0_0 ?y0_1 ?y0_2 ?y0_3 ?y0_4 ?y0_5 ?y1_0 ?y1_1 ?y1_2 ?y1_3 ?y1_4 ?y1_5 ?y2_0 ?y2_1 ?y2_2 ?y2_3 ?y2_4 ?y2_5 ?y3_0 ?y3_1 ?y3_2 ?y3_3 ?y3_4 ?y3_5 ?y4_0 ?y4_1 ?y4_2 ?y4_3 ?y4_4 ?y4_5 ?y5_0 ?y5_1 ?y5_2 ?y5_3 ?y5_4 ?y5_5 ?asR ?nsR ?lsR ?csR ?ksR ?oER ?oOuEi ?oOuEb ?oOuEn ?oOuEs ?oOuEt ?oOuEl ?oOuRi ?oOuRb ?oOuRn ?oOuRs ?oOuRt ?oOuRl ?v1 ?v2 ?v3 ?u1 ?u2 ?u3 ?u4 ?us0 ?us1 ?us2 ?un0 ?un1 ?un2 ?gx3a ?gx3_c ?gx3_r ?gx3_1 ?gx3_2 ?gx3_3 ?gx3_4 ?gx3_5 ?gx3_6 ?gx3_7 ?gx3_8 ?gx3_9 ?ax3 ?tx3 ?lx3 ?cx3 ?kx3 ?nx3 ?gBa ?xm ?b_ve ?xv ?gw0a ?xw0 ?gw1a ?xw1 ?gw2a ?xw2 ?gw3a ?xw3 ?gw4a ?xw4 ?gw5a ?xw5 ?gw6a ?xw6
    (case b_len => k_is)
    (case b_abs => k_is)
    (case b_int => k_is)
    (case b_range => k_is)
    (case b_isinstance => k_is)
    (case b_tuple => k_is)
    (case b_list => k_is)
    (case b_all => k_is)
    (case b_zip => k_is)
    (case b_bool => k_is)
    (case b_str => k_is)
    (case b_set => k_is)
    (case b_sorted => k_is)
    (case b_sum => k_is)
    (case b_any => k_is)
    (case b_enumerate => k_is)
    (case b_min => k_is)
    (case b_max => k_is)
    (case alaw_source => k_is)
    (case llaw_source => k_is)
    (case claw_source => k_is)
    (case klaw_source => k_is)
    (case alaw_draw => k_is)
    (case llaw_draw => k_is)
    (case claw_draw => k_is)
    (case klaw_draw => k_is)
    (case alaw_pick => k_is)
    (case llaw_pick => k_is)
    (case claw_pick => k_is)
    (case klaw_pick => k_is)
    (case alaw_drawn_words => k_is)
    (case llaw_drawn_words => k_is)
    (case claw_drawn_words => k_is)
    (case klaw_drawn_words => k_is)
    (case alaw_told => k_is)
    (case llaw_told => k_is)
    (case claw_told => k_is)
    (case klaw_told => k_is)
    (case alaw_put_refused => k_is)
    (case llaw_put_refused => k_is)
    (case claw_put_refused => k_is)
    (case klaw_put_refused => k_is)
    (case alaw_if_refused => k_is)
    (case llaw_if_refused => k_is)
    (case claw_if_refused => k_is)
    (case klaw_if_refused => k_is)
    (case alaw_one_refused => k_is)
    (case llaw_one_refused => k_is)
    (case claw_one_refused => k_is)
    (case klaw_one_refused => k_is)
    (case alaw_no_names => k_is)
    (case llaw_no_names => k_is)
    (case claw_no_names => k_is)
    (case klaw_no_names => k_is)
    (case alaw_no_exprs => k_is)
    (case llaw_no_exprs => k_is)
    (case claw_no_exprs => k_is)
    (case klaw_no_exprs => k_is)
    (case alaw_no_rows => k_is)
    (case llaw_no_rows => k_is)
    (case claw_no_rows => k_is)
    (case klaw_no_rows => k_is)
    (case alaw_no_loops => k_is)
    (case llaw_no_loops => k_is)
    (case claw_no_loops => k_is)
    (case klaw_no_loops => k_is)
    (case alaw => k_is)
    (case llaw => k_is)
    (case claw => k_is)
    (case klaw => k_is)
    (case ais_name => k_is)
    (case lis_name => k_is)
    (case cis_name => k_is)
    (case kis_name => k_is)
    (case anamed => k_is)
    (case lnamed => k_is)
    (case cnamed => k_is)
    (case knamed => k_is)
    (case aapplied => k_is)
    (case lapplied => k_is)
    (case capplied => k_is)
    (case kapplied => k_is)
    (case aas_expr => k_is)
    (case las_expr => k_is)
    (case cas_expr => k_is)
    (case kas_expr => k_is)
    (case apart_expr => k_is)
    (case lpart_expr => k_is)
    (case cpart_expr => k_is)
    (case kpart_expr => k_is)
    (case alesser => k_is)
    (case llesser => k_is)
    (case clesser => k_is)
    (case klesser => k_is)
    (case agreater => k_is)
    (case lgreater => k_is)
    (case cgreater => k_is)
    (case kgreater => k_is)
    (case atext => k_is)
    (case ltext => k_is)
    (case ctext => k_is)
    (case ktext => k_is)
    (case aare_ways => k_is)
    (case lare_ways => k_is)
    (case care_ways => k_is)
    (case kare_ways => k_is)
    (case aset_name => k_is)
    (case lset_name => k_is)
    (case cset_name => k_is)
    (case kset_name => k_is)
    (case arow_expr => k_is)
    (case lrow_expr => k_is)
    (case crow_expr => k_is)
    (case krow_expr => k_is)
    (case achecked_rows => k_is)
    (case lchecked_rows => k_is)
    (case cchecked_rows => k_is)
    (case kchecked_rows => k_is)
    (case amay_loop => k_is)
    (case lmay_loop => k_is)
    (case cmay_loop => k_is)
    (case kmay_loop => k_is)
    (case arow_lines => k_is)
    (case lrow_lines => k_is)
    (case crow_lines => k_is)
    (case krow_lines => k_is)
    (case aall_names => k_is)
    (case lall_names => k_is)
    (case call_names => k_is)
    (case kall_names => k_is)
    (case eall_names => k_is)
    (case aall_steps => k_is)
    (case lall_steps => k_is)
    (case call_steps => k_is)
    (case kall_steps => k_is)
    (case eall_steps => k_is)
    (case mall_steps => k_is)
    (case w1 => k_is)
    (case w2 => k_is)
    (case w3 => k_is)
    (case w4 => k_is)
    (case w5 => k_is)
    (case w6 => k_is)
    (case so => k_is)
    (case tk => k_is)
    (case gSa => k_is)
    (case gS1 => k_is)
    (case gS2 => k_is)
    (case gS3 => k_is)
    (case gS4 => k_is)
    (case gS5 => k_is)
    (case gS6 => k_is)
    (case gSk0 => kit_is)
    (case gSk1 => kit_is)
    (case gSk2 => kit_is)
    (case gSk3 => kit_is)
    (case gS7 => k_is)
    (case gS8 => k_is)
    (case aiS => k_is)
    (case niS => k_is)
    (case liS => k_is)
    (case ciS => k_is)
    (case kiS => k_is)
    (case gS_name => k_is)
    (case gS_ways => k_is)
    (case gEa => k_is)
    (case gE1 => k_is)
    (case gE2 => k_is)
    (case gE3 => k_is)
    (case gE4 => k_is)
    (case gE5 => k_is)
    (case gE6 => k_is)
    (case gEk0 => kit_is)
    (case gEk1 => kit_is)
    (case gEk2 => kit_is)
    (case gEk3 => kit_is)
    (case gE7 => k_is)
    (case gE8 => k_is)
    (case aiE => k_is)
    (case niE => k_is)
    (case liE => k_is)
    (case ciE => k_is)
    (case kiE => k_is)
    (case gE_kind => k_is)
    (case gE_word => k_is)
    (case gE_step => k_is)
    (case gE_parts => k_is)
    (case gE_names => k_is)
    (case gE_steps => k_is)
    (case gE_size => k_is)
    (case gE_applied => k_is)
    (case alS => k_is)
    (case nlS => k_is)
    (case llS => k_is)
    (case clS => k_is)
    (case klS => k_is)
    (case asE => k_is)
    (case nsE => k_is)
    (case lsE => k_is)
    (case csE => k_is)
    (case ksE => k_is)
    (case fmE => k_is)
    (case hne => decide)
    (case kes => kit_is)
    (case acS => k_is)
    (case ncS => k_is)
    (case icS => k_is)
    (case lcS => k_is)
    (case ccS => k_is)
    (case kcS => k_is)
    (case ecS => k_is)
    (case aaE => k_is)
    (case naE => k_is)
    (case laE => k_is)
    (case caE => k_is)
    (case kaE => k_is)
    (case aoE => k_is)
    (case noE => k_is)
    (case loE => k_is)
    (case coE => k_is)
    (case koE => k_is)
    (case sfE => k_is)
    (case gRa => k_is)
    (case rR1 => k_is)
    (case rR2 => k_is)
    (case rR3 => k_is)
    (case lR => k_is)
    (case cR => k_is)
    (case kR => k_is)
    (case eR => k_is)
    (case mR => k_is)
    (case mRU => k_is)
    (case mRV => k_is)
    (case gr0a => k_is)
    (case gr01 => k_is)
    (case gr02 => k_is)
    (case gr03 => k_is)
    (case gr04 => k_is)
    (case gr05 => k_is)
    (case gr06 => k_is)
    (case gr0k0 => kit_is)
    (case gr0k1 => kit_is)
    (case gr0k2 => kit_is)
    (case gr0kR => kit_is)
    (case gr0kE => kit_is)
    (case gr07 => k_is)
    (case gr08 => k_is)
    (case gr0_kind => k_is)
    (case gr0_told => k_is)
    (case gr0_inner => k_is)
    (case gr0_size => k_is)
    (case gr0_names => k_is)
    (case gr0_steps => k_is)
    (case gr0_name => k_is)
    (case gr0_expr => k_is)
    (case gr0nE => decide)
    (case gr0nS => decide)
    (case air0 => k_is)
    (case nir0 => k_is)
    (case lir0 => k_is)
    (case cir0 => k_is)
    (case kir0 => k_is)
    (case gr1a => k_is)
    (case gr11 => k_is)
    (case gr12 => k_is)
    (case gr13 => k_is)
    (case gr14 => k_is)
    (case gr15 => k_is)
    (case gr16 => k_is)
    (case gr1k0 => kit_is)
    (case gr1k1 => kit_is)
    (case gr1k2 => kit_is)
    (case gr1kR => kit_is)
    (case gr1kE => kit_is)
    (case gr17 => k_is)
    (case gr18 => k_is)
    (case gr1_kind => k_is)
    (case gr1_told => k_is)
    (case gr1_inner => k_is)
    (case gr1_size => k_is)
    (case gr1_names => k_is)
    (case gr1_steps => k_is)
    (case gr1_name => k_is)
    (case gr1_expr => k_is)
    (case gr1nE => decide)
    (case gr1nS => decide)
    (case air1 => k_is)
    (case nir1 => k_is)
    (case lir1 => k_is)
    (case cir1 => k_is)
    (case kir1 => k_is)
    (case gr2a => k_is)
    (case gr21 => k_is)
    (case gr22 => k_is)
    (case gr23 => k_is)
    (case gr24 => k_is)
    (case gr25 => k_is)
    (case gr26 => k_is)
    (case gr2k0 => kit_is)
    (case gr2k1 => kit_is)
    (case gr2k2 => kit_is)
    (case gr2kR => kit_is)
    (case gr2kE => kit_is)
    (case gr27 => k_is)
    (case gr28 => k_is)
    (case gr2_kind => k_is)
    (case gr2_told => k_is)
    (case gr2_inner => k_is)
    (case gr2_size => k_is)
    (case gr2_names => k_is)
    (case gr2_steps => k_is)
    (case gr2_name => k_is)
    (case gr2_expr => k_is)
    (case gr2nE => decide)
    (case gr2nS => decide)
    (case air2 => k_is)
    (case nir2 => k_is)
    (case lir2 => k_is)
    (case cir2 => k_is)
    (case kir2 => k_is)
    (case gr3a => k_is)
    (case gr31 => k_is)
    (case gr32 => k_is)
    (case gr33 => k_is)
    (case gr34 => k_is)
    (case gr35 => k_is)
    (case gr36 => k_is)
    (case gr3k0 => kit_is)
    (case gr3k1 => kit_is)
    (case gr3k2 => kit_is)
    (case gr3kR => kit_is)
    (case gr3kE => kit_is)
    (case gr37 => k_is)
    (case gr38 => k_is)
    (case gr3_kind => k_is)
    (case gr3_told => k_is)
    (case gr3_inner => k_is)
    (case gr3_size => k_is)
    (case gr3_names => k_is)
    (case gr3_steps => k_is)
    (case gr3_word => k_is)
    (case gr3nE => decide)
    (case gr3nS => decide)
    (case air3 => k_is)
    (case nir3 => k_is)
    (case lir3 => k_is)
    (case cir3 => k_is)
    (case kir3 => k_is)
    (case gr4a => k_is)
    (case gr41 => k_is)
    (case gr42 => k_is)
    (case gr43 => k_is)
    (case gr44 => k_is)
    (case gr45 => k_is)
    (case gr46 => k_is)
    (case gr4k0 => kit_is)
    (case gr4k1 => kit_is)
    (case gr4k2 => kit_is)
    (case gr4kR => kit_is)
    (case gr4kE => kit_is)
    (case gr47 => k_is)
    (case gr48 => k_is)
    (case gr4_kind => k_is)
    (case gr4_told => k_is)
    (case gr4_inner => k_is)
    (case gr4_size => k_is)
    (case gr4_names => k_is)
    (case gr4_steps => k_is)
    (case gr4_left => k_is)
    (case gr4_right => k_is)
    (case gr4_rows => k_is)
    (case gr4_others => k_is)
    (case gr4nE => decide)
    (case gr4nS => decide)
    (case air4 => k_is)
    (case nir4 => k_is)
    (case lir4 => k_is)
    (case cir4 => k_is)
    (case kir4 => k_is)
    (case eir4 => k_is)
    (case gr5a => k_is)
    (case gr51 => k_is)
    (case gr52 => k_is)
    (case gr53 => k_is)
    (case gr54 => k_is)
    (case gr55 => k_is)
    (case gr56 => k_is)
    (case gr5k0 => kit_is)
    (case gr5k1 => kit_is)
    (case gr5k2 => kit_is)
    (case gr5kR => kit_is)
    (case gr5kE => kit_is)
    (case gr57 => k_is)
    (case gr58 => k_is)
    (case gr5_kind => k_is)
    (case gr5_told => k_is)
    (case gr5_inner => k_is)
    (case gr5_size => k_is)
    (case gr5_names => k_is)
    (case gr5_steps => k_is)
    (case gr5_rows => k_is)
    (case gr5nE => decide)
    (case gr5nS => decide)
    (case air5 => k_is)
    (case nir5 => k_is)
    (case lir5 => k_is)
    (case cir5 => k_is)
    (case kir5 => k_is)
    (case y0_0 => kit_is)
    (case y0_1 => kit_is)
    (case y0_2 => kit_is)
    (case y0_3 => kit_is)
    (case y0_4 => kit_is)
    (case y0_5 => kit_is)
    (case y1_0 => kit_is)
    (case y1_1 => kit_is)
    (case y1_2 => kit_is)
    (case y1_3 => kit_is)
    (case y1_4 => kit_is)
    (case y1_5 => kit_is)
    (case y2_0 => kit_is)
    (case y2_1 => kit_is)
    (case y2_2 => kit_is)
    (case y2_3 => kit_is)
    (case y2_4 => kit_is)
    (case y2_5 => kit_is)
    (case y3_0 => kit_is)
    (case y3_1 => kit_is)
    (case y3_2 => kit_is)
    (case y3_3 => kit_is)
    (case y3_4 => kit_is)
    (case y3_5 => kit_is)
    (case y4_0 => kit_is)
    (case y4_1 => kit_is)
    (case y4_2 => kit_is)
    (case y4_3 => kit_is)
    (case y4_4 => kit_is)
    (case y4_5 => kit_is)
    (case y5_0 => kit_is)
    (case y5_1 => kit_is)
    (case y5_2 => kit_is)
    (case y5_3 => kit_is)
    (case y5_4 => kit_is)
    (case y5_5 => kit_is)
    (case asR => k_is)
    (case nsR => k_is)
    (case lsR => k_is)
    (case csR => k_is)
    (case ksR => k_is)
    (case oER => kit_is)
    (case oOuEi => kit_is)
    (case oOuEb => kit_is)
    (case oOuEn => kit_is)
    (case oOuEs => kit_is)
    (case oOuEt => kit_is)
    (case oOuEl => kit_is)
    (case oOuRi => kit_is)
    (case oOuRb => kit_is)
    (case oOuRn => kit_is)
    (case oOuRs => kit_is)
    (case oOuRt => kit_is)
    (case oOuRl => kit_is)
    (case v1 => k_is)
    (case v2 => k_is)
    (case v3 => k_is)
    (case u1 => k_is)
    (case u2 => k_is)
    (case u3 => k_keys)
    (case u4 => decide)
    (case us0 => k_is)
    (case us1 => k_is)
    (case us2 => k_is)
    (case un0 => k_is)
    (case un1 => k_is)
    (case un2 => k_is)
    (case gx3a => k_is)
    (case gx3_c => k_is)
    (case gx3_r => decide +kernel)
    (case gx3_1 => k_is)
    (case gx3_2 => k_is)
    (case gx3_3 => k_is)
    (case gx3_4 => k_is)
    (case gx3_5 => k_is)
    (case gx3_6 => k_is)
    (case gx3_7 => k_is)
    (case gx3_8 => k_is)
    (case gx3_9 => k_is)
    (case ax3 => k_is)
    (case tx3 => k_is)
    (case lx3 => k_is)
    (case cx3 => k_is)
    (case kx3 => k_is)
    (case nx3 => k_is)
    (case gBa => k_is)
    (case xm => kts_exm)
    (case b_ve => k_is)
    (case xv => kit_is)
    (case gw0a => k_is)
    (case xw0 => kit_is)
    (case gw1a => k_is)
    (case xw1 => kit_is)
    (case gw2a => k_is)
    (case xw2 => kit_is)
    (case gw3a => k_is)
    (case xw3 => kit_is)
    (case gw4a => k_is)
    (case xw4 => kit_is)
    (case gw5a => k_is)
    (case xw5 => kit_is)
    (case gw6a => k_is)
    (case xw6 => kit_is)
