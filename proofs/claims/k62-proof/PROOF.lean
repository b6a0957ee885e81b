import PyProof.Rows.All
import Wide.All
import OpenK.AllK
import Wide.FinOn
import HandS.ForMost
import HandS.Evl
import HandS.IsInst
import HandS.FStr
import HandS.TupAny
import HandS.Conv
import HandS.Wide
import KE.GoesEnum
import HandS.Walk
import HandS.Iter
import HandS.Defaults
import HandS.DictTup
import HandS.TupLen
import KE.KSortTupG
import KE.KDictSum
import HandS.NamedTupSort
import HandS.SortOrd
import HandS.List
import KE.SortKeyHeap
import HandS.Call
import HandS.Sort
import KE.KDictList
import KE.KDictWalk
import HandS.Gcd
import HandS.DictComp
import KE.KeyNested
import PyProof.Rows.SumAny
import PyProof.WalksMore
import KE.KDictKeyed
import HandS.Dict
import HandS.Deep
import HandS.TryOnly
import HandS.Lambda
import HandS.ListItems
import KE.KDictItemsList
import HandS.HeadHook4
import KE.KStateDown
import HandS.Head0
import HandS.Head1
import HandS.Head2
import HandS.HeadEnd
import HandS.HeadHook1
import HandS.HeadHook2
import HandS.TupMul
import HandS.ExcOwn
import HandS.WordsExc
import HandS.HeadWalk
import PySem.Challenge.RW_lostlines_k62_whole_swaps
set_option Elab.async false
set_option linter.all false
set_option maxRecDepth 100000
set_option maxHeartbeats 4000000
/-! Own layer over data (PyData): what an expression gives as DATA, whatever the addresses. -/
namespace Lb
open PySem L2 Evl PyProof.Rows

/-- the built-in names that the module leaves alone -/
structure Bi (mg : Str → Option Value) : Prop where
  len : mg "len" = none
  isinstance : mg "isinstance" = none
  tuple : mg "tuple" = none
  list : mg "list" = none
  int : mg "int" = none
  bool : mg "bool" = none
  str : mg "str" = none
  range : mg "range" = none
  enumerate : mg "enumerate" = none
  max : mg "max" = none
  all : mg "all" = none
  sorted : mg "sorted" = none

/-- a def of the text, called by its name -/
def Dfn (K : PySem.W.Frag) (mg : Str → Option Value) (x : Str) (st : Stmt) (ps : List Str) : Prop := ∃ f fd, Fun K x x st f fd ∧ mg x = some (.ref f) ∧ Binds K fd ps []
def Cal (P : Program) (w : World) (K : PySem.W.Frag) (mg : Str → Option Value) (base : Heap) (k : Nat) (x : Str) (ps : List Str) (sp : Sp) : Prop :=
  ∃ f fd, FnOk P w K mg base CX0 k f fd ps sp ∧ mg x = some (.ref f) ∧ PySem.W.keepIn K (.ref f) = true ∧ Binds K fd ps []
theorem Dfn.ok {P : Program} {w : World} {K : PySem.W.Frag} {mg : Str → Option Value} {base : Heap} {x : Str} {st : Stmt} {N ps : List Str} {k : Nat} {sp : Sp} (D : Dfn K mg x st ps) (S : FnScope N ps (defScope st)) (len : ∀ vs H Q E, sp vs H Q E → vs.length = ps.length)
    (hb : ∀ (f : Addr) (cdv : Value) (A : Around) (outer : List Env) (s : Shared) (H : Hp) (vs : List V) (Q : VK) (E : XK), Room k (A.deeper (envOfC x (defScope st) s.heap.objs.size f cdv)) → sp vs H Q E →
      ∃ t, PSs (cxOf CX0 P w K mg base N x (defScope st) f cdv A outer s H E).nox (defBody st) t ∧ t { nx := fun _ H' => Q .non H', rt := Q } (start N vs) H) : Cal P w K mg base (k + 1) x ps sp := by
  obtain ⟨f, fd, F, m, b⟩ := D
  exact ⟨f, fd, F.ok S len (fun cdv A outer s H vs Q E hr h => hb f cdv A outer s H vs Q E hr h), m, F.kp, b⟩
/-- a claim that nothing can ask -/
theorem Dfn.none {P : Program} {w : World} {K : PySem.W.Frag} {mg : Str → Option Value} {base : Heap} {x : Str} {st : Stmt} {ps : List Str} {k : Nat} {sp : Sp} (D : Dfn K mg x st ps) (no : ∀ vs H Q E, ¬ sp vs H Q E) : Cal P w K mg base k x ps sp := by
  obtain ⟨f, fd, F, m, b⟩ := D
  exact ⟨f, fd, ⟨fun vs H Q E h => absurd h (no vs H Q E), fun A outer s H args us vs Q E _ _ _ _ h => absurd h (no vs H Q E)⟩, m, F.kp, b⟩
theorem pe_cal {X : Cx} {k j : Nat} {x : Str} {ps : List Str} {sp : Sp} {p pos : Pos} {e : Expr} {es : List Expr} {t : TA} (C : Cal X.prog X.w X.K X.mg X.base k x ps sp) (hr : Room j X.A) (hk : k ≤ j) (hg : Gl X x) (ha : PA X (e :: es) t)
    (hd : (x == ("__debug__" : Str)) = false := by decide) (h1 : starEach (e :: es) X.env = (false, eval e X.env) :: starEach es X.env := by rfl) (h2 : (backTo pos (starEach es X.env)).any (·.1) = false := by rfl) :
    PE X (.Call (.Name x p) (e :: es) [] pos) (tCall sp [] E0 t) := by
  obtain ⟨f, fd, F, m, kp, b⟩ := C
  exact pe_call F (hr.mono hk) hg m kp b .nil pass0 ha hd h1 h2

theorem pe_fldK {X : Cx} {K : PySem.W.Frag} {e : Expr} {f : Str} {pos : Pos} {ta : TE} (he : PE X e ta) (hK : X.K = K := by rfl) (hb : attributeBase e f X.env (eval e X.env) = eval e X.env := by rfl) : PE X (.Attribute e f pos) (tFld K ta f) := by
  subst hK
  exact pe_fld he hb

/-! ### data -/
mutual
theorem dmono {K : PySem.W.Frag} {H H' : Hp} (e : Ex H H') : ∀ (d : PyData) (v : V), Dp K H v d → Dp K H' v d
  | .none, _, h => by cases h; exact .non
  | .bool b, _, h => by cases h; exact .bl b
  | .int i, _, h => by cases h; exact .int i
  | .str x, _, h => by cases h; exact .str x
  | .list ds, _, h => by
    cases h with
    | lst s a => exact .lst (ex_l e s) (dmonoAll e ds _ a)
  | .tuple ds, _, h => by
    cases h with
    | tup s a => exact .tup (ex_t e s) (dmonoAll e ds _ a)
  | .dict _, _, h => by cases h
theorem dmonoAll {K : PySem.W.Frag} {H H' : Hp} (e : Ex H H') : ∀ (ds : List PyData) (vs : List V), DpAll K H vs ds → DpAll K H' vs ds
  | [], _, h => by cases h; exact .nil
  | d :: ds, _, h => by
    cases h with
    | cons a b => exact .cons (dmono e d _ a) (dmonoAll e ds _ b)
end
end Lb
namespace L2
open PySem Evl PyProof.Rows
section
variable {K : PySem.W.Frag} {H H' : Hp}
theorem DpAll.len : ∀ {vs : List V} {ds : List PyData}, DpAll K H vs ds → vs.length = ds.length
  | _, _, .nil => rfl
  | _, _, .cons _ t => congrArg (· + 1) (DpAll.len t)
theorem DpAll.get : ∀ {vs : List V} {ds : List PyData} {i : Nat} {d : PyData}, DpAll K H vs ds → ds[i]? = some d → ∃ v, vs[i]? = some v ∧ Dp K H v d
  | _, _, 0, _, .cons a _, e => by
    simp at e
    subst e
    exact ⟨_, rfl, a⟩
  | _, _, i + 1, d, .cons _ t, e => by
    obtain ⟨v, h1, h2⟩ := DpAll.get (i := i) (d := d) t (by simpa using e)
    exact ⟨v, by simpa using h1, h2⟩
  | _, _, _, _, .nil, e => by simp at e
theorem DpAll.getV : ∀ {vs : List V} {ds : List PyData} {i : Nat} {v : V}, DpAll K H vs ds → vs[i]? = some v → ∃ d, ds[i]? = some d ∧ Dp K H v d
  | _, _, 0, _, .cons a _, e => by
    simp at e
    subst e
    exact ⟨_, rfl, a⟩
  | _, _, i + 1, d, .cons _ t, e => by
    obtain ⟨v, h1, h2⟩ := DpAll.getV (i := i) (v := d) t (by simpa using e)
    exact ⟨v, by simpa using h1, h2⟩
  | _, _, _, _, .nil, e => by simp at e
theorem DpAll.app : ∀ {vs ws : List V} {ds es : List PyData}, DpAll K H vs ds → DpAll K H ws es → DpAll K H (vs ++ ws) (ds ++ es)
  | _, _, _, _, .nil, b => b
  | _, _, _, _, .cons a t, b => .cons a (DpAll.app t b)
theorem DpAll.tk : ∀ {vs : List V} {ds : List PyData} (n : Nat), DpAll K H vs ds → DpAll K H (vs.take n) (ds.take n)
  | _, _, 0, _ => .nil
  | _, _, _ + 1, .nil => .nil
  | _, _, n + 1, .cons a t => .cons a (DpAll.tk n t)
theorem DpAll.dr : ∀ {vs : List V} {ds : List PyData} (n : Nat), DpAll K H vs ds → DpAll K H (vs.drop n) (ds.drop n)
  | _, _, 0, t => t
  | _, _, _ + 1, .nil => .nil
  | _, _, n + 1, .cons _ t => DpAll.dr n t
theorem Dp.tupD {v : V} {ds : List PyData} (h : Dp K H v (.tuple ds)) : ∃ a xs, v = .ref a ∧ SqT K H a xs ∧ DpAll K H xs ds := by
  cases h with
  | tup s a => exact ⟨_, _, rfl, s, a⟩
theorem Dp.lstD {v : V} {ds : List PyData} (h : Dp K H v (.list ds)) : ∃ a xs, v = .ref a ∧ SqL K H a xs ∧ DpAll K H xs ds := by
  cases h with
  | lst s a => exact ⟨_, _, rfl, s, a⟩
theorem Dp.intD {v : V} {i : Int} (h : Dp K H v (.int i)) : v = .int i := by cases h; rfl
theorem Dp.strD {v : V} {x : Str} (h : Dp K H v (.str x)) : v = .str x := by cases h; rfl
theorem Dp.boolD {v : V} {b : Bool} (h : Dp K H v (.bool b)) : v = .bl b := by cases h; rfl
theorem Dp.nonD {v : V} (h : Dp K H v .none) : v = .non := by cases h; rfl
/-- ints as they stand -/
theorem ints_D : ∀ (ns : List Int), DpAll K H (ns.map V.int) (ns.map PyData.int)
  | [] => .nil
  | n :: ns => .cons (.int n) (ints_D ns)
theorem strs_D : ∀ (ns : List Str), DpAll K H (ns.map V.str) (ns.map PyData.str)
  | [] => .nil
  | n :: ns => .cons (.str n) (strs_D ns)
theorem bls_D : ∀ (ns : List Bool), DpAll K H (ns.map V.bl) (ns.map PyData.bool)
  | [] => .nil
  | n :: ns => .cons (.bl n) (bls_D ns)
theorem D_ints : ∀ {ns : List Int} {vs : List V}, DpAll K H vs (ns.map PyData.int) → vs = ns.map V.int
  | [], _, h => by cases h; rfl
  | n :: ns, _, h => by
    cases h with
    | cons a t => rw [Dp.intD a, D_ints t]; rfl
theorem D_strs : ∀ {ns : List Str} {vs : List V}, DpAll K H vs (ns.map PyData.str) → vs = ns.map V.str
  | [], _, h => by cases h; rfl
  | n :: ns, _, h => by
    cases h with
    | cons a t => rw [Dp.strD a, D_strs t]; rfl
theorem D_bls : ∀ {ns : List Bool} {vs : List V}, DpAll K H vs (ns.map PyData.bool) → vs = ns.map V.bl
  | [], _, h => by cases h; rfl
  | n :: ns, _, h => by
    cases h with
    | cons a t => rw [Dp.boolD a, D_bls t]; rfl
/-- the length of what is read fits -/
theorem SqT.size {a : Addr} {xs : List V} (h : SqT K H a xs) (P : Program) (w : World) (hp : Heap) (ok : HOk P w H hp) : xs.length ≤ sizeLine := by
  rcases h with (h | ⟨o, h⟩) | ⟨o, its, n, _, _, _, hz, r⟩
  · exact (show ObjOk P w H hp a (.tup xs) from ok a _ h).1
  · exact (show ObjOk P w H hp a (.tup xs) from (ok a _ h).2).1
  · rw [Vals.length r]
    simpa using hz
end

end L2
namespace Lb
open PySem L2 Evl PyProof.Rows
/-! ### evaluation to data -/
section
variable {K : PySem.W.Frag} {σ : L2.St} {H H' : Hp} {ta tb te : TE} {t : TT} {d d1 d2 : PyData} {ds : List PyData} {v : V}
def EvD (K : PySem.W.Frag) (te : TE) (σ : L2.St) (H : Hp) (d : PyData) : Prop := ∀ H1, Ex H H1 → ∀ Q : VK, (∀ v H2, Ex H1 H2 → Dp K H2 v d → Q v H2) → te σ H1 Q
def EvAD (K : PySem.W.Frag) (ta : TA) (σ : L2.St) (H : Hp) (ds : List PyData) : Prop := ∀ H1, Ex H H1 → ∀ Q : List V → Hp → Prop, (∀ vs H2, Ex H1 H2 → DpAll K H2 vs ds → Q vs H2) → ta σ H1 Q
theorem EvD.mono (e : Ex H H') (h : EvD K te σ H d) : EvD K te σ H' d := fun H1 a Q q => h H1 (e.trans a) Q q
theorem EvAD.mono {ta : TA} (e : Ex H H') (h : EvAD K ta σ H ds) : EvAD K ta σ H' ds := fun H1 a Q q => h H1 (e.trans a) Q q
theorem ed_ev (h : Ev te σ H v) (hd : Dp K H v d) : EvD K te σ H d := fun H1 e Q q => h H1 e _ fun H2 e2 => q v H2 e2 (dmono (e.trans e2) d v hd)
theorem ed_var {i : Nat} (h : σ[i]? = some (some v)) (hd : Dp K H v d) : EvD K (tVar i) σ H d := ed_ev (ev_var h) hd
theorem ed_int {i : Int} (h : Ev te σ H (.int i)) : EvD K te σ H (.int i) := ed_ev h (.int i)
theorem ed_str {i : Str} (h : Ev te σ H (.str i)) : EvD K te σ H (.str i) := ed_ev h (.str i)
theorem ed_bl {i : Bool} (h : Ev te σ H (.bl i)) : EvD K te σ H (.bool i) := ed_ev h (.bl i)
theorem ed_non (h : Ev te σ H .non) : EvD K te σ H .none := ed_ev h .non
theorem ev_int {i : Int} (h : EvD K te σ H (.int i)) : Ev te σ H (.int i) := fun H1 e Q q => h H1 e _ fun v H2 e2 hd => by cases hd.intD; exact q H2 e2
theorem ev_str {i : Str} (h : EvD K te σ H (.str i)) : Ev te σ H (.str i) := fun H1 e Q q => h H1 e _ fun v H2 e2 hd => by cases hd.strD; exact q H2 e2
theorem ev_bl {i : Bool} (h : EvD K te σ H (.bool i)) : Ev te σ H (.bl i) := fun H1 e Q q => h H1 e _ fun v H2 e2 hd => by cases hd.boolD; exact q H2 e2
theorem ev_non (h : EvD K te σ H .none) : Ev te σ H .non := fun H1 e Q q => h H1 e _ fun v H2 e2 hd => by cases hd.nonD; exact q H2 e2
theorem ed_is (h : EvD K te σ H d1) (e : d1 = d2) : EvD K te σ H d2 := e ▸ h
theorem ead_nil : EvAD K tNil σ H [] := fun H1 _ _ q => q [] H1 (Ex.refl H1) .nil
theorem ead_cons {tr : TA} (h : EvD K ta σ H d) (hr : EvAD K tr σ H ds) : EvAD K (tCons ta tr) σ H (d :: ds) := fun H1 e _ q =>
  h H1 e _ fun v H2 e2 hv => hr H2 (e.trans e2) _ fun vs H3 e3 hvs => q (v :: vs) H3 (e2.trans e3) (.cons (dmono e3 d v hv) hvs)
theorem ed_tup {ta : TA} (h : EvAD K ta σ H ds) (hl : ds.length ≤ 100000) : EvD K (tTup ta) σ H (.tuple ds) := fun H1 e _ q =>
  h H1 e _ fun vs H2 e2 hv => ⟨by rw [hv.len]; exact sz_of hl, fun p hp => q (.ref p) _ (e2.trans (Ex.new hp)) (.tup (st_of upd_same) (dmonoAll (Ex.new hp) ds vs hv))⟩
theorem ed_lst {ta : TA} (h : EvAD K ta σ H ds) (hl : ds.length ≤ 100000) : EvD K (tLst ta) σ H (.list ds) := fun H1 e _ q =>
  h H1 e _ fun vs H2 e2 hv => ⟨by rw [hv.len]; exact sz_of hl, fun p hp => q (.ref p) _ (e2.trans (Ex.new hp)) (.lst (sq_of upd_same) (dmonoAll (Ex.new hp) ds vs hv))⟩
theorem atI_all {vs : List V} {i : Int} (h : DpAll K H vs ds) (ha : atI ds i = some d) : ∃ v, atI vs i = some v ∧ Dp K H v d := by
  unfold atI at ha ⊢
  rw [← h.len] at ha
  cases e : ixN vs.length i with
  | none => rw [e] at ha; cases ha
  | some j =>
    rw [e] at ha
    exact h.get ha
theorem ed_ix {i : Int} (ha : EvD K ta σ H (.tuple ds)) (hb : EvD K tb σ H (.int i)) (hi : atI ds i = some d) : EvD K (tOp (rIxT K) ta tb) σ H d := fun H1 e Q q =>
  ha H1 e _ fun v H2 e2 hv => hb H2 (e.trans e2) _ fun w H3 e3 hw => by
    obtain ⟨a, xs, rfl, s, al⟩ := Dp.tupD (dmono e3 _ _ hv)
    cases hw.intD
    obtain ⟨y, hy, hyd⟩ := atI_all al hi
    exact ⟨a, xs, i, y, rfl, rfl, s, hy, q y H3 (e2.trans e3) hyd⟩
theorem ed_ixL {i : Int} (ha : EvD K ta σ H (.list ds)) (hb : EvD K tb σ H (.int i)) (hi : atI ds i = some d) : EvD K (tOp (rIxL K) ta tb) σ H d := fun H1 e Q q =>
  ha H1 e _ fun v H2 e2 hv => hb H2 (e.trans e2) _ fun w H3 e3 hw => by
    obtain ⟨a, xs, rfl, s, al⟩ := Dp.lstD (dmono e3 _ _ hv)
    cases hw.intD
    obtain ⟨y, hy, hyd⟩ := atI_all al hi
    exact ⟨a, xs, i, y, rfl, rfl, s, hy, q y H3 (e2.trans e3) hyd⟩
theorem atD {n : Nat} (h : ds[n]? = some d) : atI ds (n : Int) = some d := atI_nat h
theorem ed_cat {es : List PyData} (ha : EvD K ta σ H (.tuple ds)) (hb : EvD K tb σ H (.tuple es)) (hl : ds.length + es.length ≤ 100000) : EvD K (tOp (rCatA K) ta tb) σ H (.tuple (ds ++ es)) := fun H1 e Q q =>
  ha H1 e _ fun v H2 e2 hv => hb H2 (e.trans e2) _ fun w H3 e3 hw => by
    obtain ⟨a, xs, rfl, s, al⟩ := Dp.tupD (dmono e3 _ _ hv)
    obtain ⟨b, ys, rfl, r, bl⟩ := Dp.tupD hw
    refine ⟨a, b, xs, ys, rfl, rfl, s, r, by rw [al.len, bl.len]; exact sz_of hl, fun z => ?_, fun z1 z2 => ?_, fun z1 z2 p hp => ?_⟩
    · subst z
      cases al
      exact q _ H3 (e2.trans e3) (.tup r bl)
    · subst z2
      cases bl
      rw [List.append_nil] at q
      exact q _ H3 (e2.trans e3) (.tup s al)
    · exact q _ _ ((e2.trans e3).trans (Ex.new hp)) (.tup (st_of upd_same) (dmonoAll (Ex.new hp) _ _ (al.app bl)))
def cutD (xs : List PyData) (lo hi : Option Int) : List PyData := (xs.drop (HT.sIx xs.length 0 lo)).take (HT.sIx xs.length xs.length hi - HT.sIx xs.length 0 lo)
theorem dcut {vs : List V} (h : DpAll K H vs ds) (lo hi : Option Int) : DpAll K H (cutV vs lo hi) (cutD ds lo hi) := by
  unfold cutV cutD
  rw [h.len]
  exact (h.dr _).tk _
theorem ed_sl {tl th : TO} {lo hi : Option Int} (h : EvD K te σ H (.tuple ds)) (h1 : EvO tl σ H lo) (h2 : EvO th σ H hi) : EvD K (tSl (rSlA K) te tl th) σ H (.tuple (cutD ds lo hi)) := fun H1 e Q q =>
  h H1 e _ fun v H2 e2 hv => h1 H2 (e.trans e2) _ fun H3 e3 => h2 H3 ((e.trans e2).trans e3) _ fun H4 e4 => by
    obtain ⟨a, xs, rfl, s, al⟩ := Dp.tupD (dmono (e3.trans e4) _ _ hv)
    refine ⟨a, xs, rfl, s, fun z => ?_, fun z p hp => ?_⟩
    · have w := dcut al lo hi
      have e0 : cutV xs lo hi = xs := by
        unfold cutV
        rw [z.1, z.2, List.drop_zero, Nat.sub_zero, List.take_length]
      rw [e0] at w
      exact q _ H4 ((e2.trans e3).trans e4) (.tup s w)
    · exact q _ _ (((e2.trans e3).trans e4).trans (Ex.new hp)) (.tup (st_of upd_same) (dmonoAll (Ex.new hp) _ _ (dcut al lo hi)))
/-- len(..) -/
def rLenA (K : PySem.W.Frag) : List V → Hp → VK → Prop := fun xs H Q => ∃ x n, xs = [x] ∧ LenV K x H n ∧ Q (.int n) H
theorem call_lenq {X : Cx} : CallR X (.builtin "len") (rLenA X.K) := call_len
theorem ev_lenT (h : EvD K ta σ H (.tuple ds)) : Ev (tCB (rLenA K) (tCons ta tNil)) σ H (.int (ds.length : Int)) := fun H1 e Q q =>
  h H1 e _ fun v H2 e2 hv => by
    obtain ⟨a, xs, rfl, s, al⟩ := Dp.tupD hv
    exact ⟨_, ds.length, rfl, Or.inr ⟨xs, s, al.len.symm⟩, q H2 e2⟩
theorem ev_lenLD (h : EvD K ta σ H (.list ds)) : Ev (tCB (rLenA K) (tCons ta tNil)) σ H (.int (ds.length : Int)) := fun H1 e Q q =>
  h H1 e _ fun v H2 e2 hv => by
    obtain ⟨a, xs, rfl, s, al⟩ := Dp.lstD hv
    exact ⟨_, ds.length, rfl, Or.inl ⟨xs, s, al.len.symm⟩, q H2 e2⟩
/-- tuple(..) of a list or a tuple -/
def rTupA (K : PySem.W.Frag) : List V → Hp → VK → Prop := fun xs H Q => ∃ p ys, xs = [.ref p] ∧ ((SqL K H p ys ∧ ∀ l, H l = none → Q (.ref l) (upd H l (.tup ys))) ∨ SqT K H p ys ∧ Q (.ref p) H)
theorem call_tupq {X : Cx} : CallR X (.type "tuple") (rTupA X.K) := call_tuple_of
theorem ed_tupL (h : EvD K ta σ H (.list ds)) : EvD K (tCB (rTupA K) (tCons ta tNil)) σ H (.tuple ds) := fun H1 e Q q =>
  h H1 e _ fun v H2 e2 hv => by
    obtain ⟨a, xs, rfl, s, al⟩ := Dp.lstD hv
    exact ⟨a, xs, rfl, Or.inl ⟨s, fun l hl => q _ _ (e2.trans (Ex.new hl)) (.tup (st_of upd_same) (dmonoAll (Ex.new hl) _ _ al))⟩⟩
/-- tuple(range(n)), list(range(n)) -/
theorem rg_D (n : Nat) : rgV 0 (n : Int) = (List.range n).map fun (i : Nat) => V.int (i : Int) := by
  unfold rgV
  rw [show ((n : Int) - 0).toNat = n by omega]
  refine List.map_congr_left fun i _ => ?_
  show V.int ((0 : Int) + (i : Int)) = V.int (i : Int)
  rw [Int.zero_add]
def rangeD (n : Nat) : List PyData := (List.range n).map fun (i : Nat) => PyData.int (i : Int)
theorem all_map {α : Type} {f : α → V} {g : α → PyData} : ∀ {l : List α}, (∀ x ∈ l, Dp K H (f x) (g x)) → DpAll K H (l.map f) (l.map g)
  | [], _ => .nil
  | x :: l, h => .cons (h x List.mem_cons_self) (all_map fun y hy => h y (List.mem_cons_of_mem _ hy))
theorem rangeD_at (n : Nat) : DpAll K H (rgV 0 (n : Int)) (rangeD n) := by
  rw [rg_D]
  exact all_map fun x _ => .int _
theorem ed_tupRg {n : Nat} (h : EvD K te σ H (.int (n : Int))) (hn : n ≤ 100000) : EvD K (tTupRg (tRg1 te)) σ H (.tuple (rangeD n)) := fun H1 e Q q =>
  h H1 e _ fun v H2 e2 hv => by
    cases hv.intD
    exact ⟨n, rfl, RgOk.of_le (Int.le_refl 0) (by omega) (by omega) (by omega), fun p hp => q _ _ (e2.trans (Ex.new hp)) (.tup (st_of upd_same) (rangeD_at n))⟩
/-- a test by data -/
theorem et_ev {b : Bool} (h : Ev te σ H (.bl b)) : EvT (tTest te) σ H b := et_test h
theorem ev_eqD {e1 e2 : PyData} (ha : EvD K ta σ H e1) (hb : EvD K tb σ H e2) (s1 : SeqAt.shaped e1 = true) (s2 : SeqAt.shaped e2 = true) : Ev (tOp (rEqD K) ta tb) σ H (.bl (PyData.eqv e1 e2)) := fun H1 e Q q =>
  ha H1 e _ fun v H2 x2 hv => hb H2 (e.trans x2) _ fun w H3 x3 hw => ⟨e1, e2, dmono x3 _ _ hv, hw, s1, s2, q H3 (x2.trans x3)⟩
theorem ev_neD {e1 e2 : PyData} (ha : EvD K ta σ H e1) (hb : EvD K tb σ H e2) (s1 : SeqAt.shaped e1 = true) (s2 : SeqAt.shaped e2 = true) : Ev (tOp (rNeD K) ta tb) σ H (.bl (!PyData.eqv e1 e2)) := fun H1 e Q q =>
  ha H1 e _ fun v H2 x2 hv => hb H2 (e.trans x2) _ fun w H3 x3 hw => ⟨e1, e2, dmono x3 _ _ hv, hw, s1, s2, q H3 (x2.trans x3)⟩
theorem ed_if {b : Bool} (h : EvT t σ H b) (h1 : b = true → EvD K ta σ H d) (h2 : b = false → EvD K tb σ H d) : EvD K (tIf t ta tb) σ H d := fun H1 e Q q => h H1 e _ fun H2 e2 => by
  cases b with
  | true =>
    show ta σ H2 Q
    exact h1 rfl H2 (e.trans e2) Q fun v H3 e3 => q v H3 (e2.trans e3)
  | false =>
    show tb σ H2 Q
    exact h2 rfl H2 (e.trans e2) Q fun v H3 e3 => q v H3 (e2.trans e3)
/-- is None -/
def isNon : PyData → Bool
  | .none => true
  | _ => false
theorem non_is {v : V} (h : Dp K H v d) : decide (v = V.non) = isNon d := by
  cases h <;> simp [isNon]
theorem ev_isN (ha : EvD K ta σ H d) : Ev (tOp (fun x y H Q => y = V.non ∧ Q (.bl (decide (x = V.non))) H) ta (tC .non)) σ H (.bl (isNon d)) := fun H1 e Q q =>
  ha H1 e _ fun v H2 e2 hv => ⟨rfl, by rw [non_is hv]; exact q H2 e2⟩
theorem ev_notN (ha : EvD K ta σ H d) : Ev (tOp (fun x y H Q => y = V.non ∧ Q (.bl (!decide (x = V.non))) H) ta (tC .non)) σ H (.bl (!isNon d)) := fun H1 e Q q =>
  ha H1 e _ fun v H2 e2 hv => ⟨rfl, by rw [non_is hv]; exact q H2 e2⟩
/-- isinstance of data -/
def tyD : PyData → String
  | .none => "NoneType"
  | .bool _ => "bool"
  | .int _ => "int"
  | .str _ => "str"
  | .list _ => "list"
  | .tuple _ => "tuple"
  | .dict _ => "dict"
theorem ty_of {v : V} (h : Dp K H v d) : TyX K H v (.type (tyD d)) := by
  cases h with
  | non => exact .base .non
  | bl b => exact .base (.bl b)
  | int i => exact .base (.int i)
  | str x => exact .base (.str x)
  | lst s _ =>
    rcases s with (h | ⟨o, h⟩) | ⟨o, its, n, h1, h2, _⟩
    · exact .base (.lst h)
    · exact .base (.frz h)
    · exact .kList h1 h2
  | tup s _ =>
    rcases s with (h | ⟨o, h⟩) | ⟨o, its, n, h1, h2, _⟩
    · exact .base (.tup h)
    · exact .fTuple h
    · exact .kTuple h1 h2
theorem ev_isi {T : String} {b : Bool} (ha : EvD K ta σ H d) (hk : kitB (tyD d) T = some b) : Ev (tCB (rIsi K) (tCons ta (tCons (tC (.ty T)) tNil))) σ H (.bl b) := fun H1 e Q q =>
  ha H1 e _ fun v H2 e2 hv => ⟨v, .ty T, _, _, b, rfl, .ty T, ty_of hv, kit_ty hk, q H2 e2⟩
theorem kit_two {a T U : String} {b c : Bool} (h1 : kitB a T = some b) (h2 : kitB a U = some c) : PySem.W.kitAny K (.type a) [.type T, .type U] = some (b || c) := by
  refine kitAny_cons (kit_ty h1) (fun hb => ?_) (fun hb => by rw [hb]; rfl)
  refine kitAny_cons (kit_ty h2) (fun hc => ?_) (fun hc => by rw [hb, hc]; rfl)
  rw [hb, hc]
  exact kitAny_nil
theorem ev_isi2 {T U : String} {b c : Bool} (ha : EvD K ta σ H d) (h1 : kitB (tyD d) T = some b) (h2 : kitB (tyD d) U = some c) :
    Ev (tCB (rIsiT K) (tCons ta (tCons (tTup (tCons (tC (.ty T)) (tCons (tC (.ty U)) tNil))) tNil))) σ H (.bl (b || c)) := fun H1 e Q q =>
  ha H1 e _ fun v H2 e2 hv => ⟨(by show 2 ≤ sizeLine; decide), fun p hp =>
    ⟨v, p, [.ty T, .ty U], _, [.type T, .type U], b || c, rfl, upd_same, .cons (.ty T) (.cons (.ty U) .nil), ty_of (dmono (Ex.new hp) _ _ hv), kit_two h1 h2, q _ (e2.trans (Ex.new hp))⟩⟩
/-- a call of a def that gives data -/
def SpD (K : PySem.W.Frag) (sp : Sp) (ds : List PyData) (d : PyData) : Prop := ∀ H vs, DpAll K H vs ds → ∀ (Q : VK) (E : XK), (∀ v H2, Ex H H2 → Dp K H2 v d → Q v H2) → sp vs H Q E
theorem ed_call {sp : Sp} {E : XK} {ta : TA} (h : EvAD K ta σ H ds) (hs : SpD K sp ds d) : EvD K (tCall sp [] E ta) σ H d := fun H1 e Q q =>
  h H1 e _ fun vs H2 e2 hv => by
    show sp (vs ++ []) H2 Q E
    rw [List.append_nil]
    exact hs H2 vs hv Q E fun v H3 e3 => q v H3 (e2.trans e3)
theorem ev_notD {a : Bool} (h : Ev ta σ H (.bl a)) : Ev (tNotV ta) σ H (.bl (!a)) := ev_notV h
/-! statements by data -/
variable {D : Ends} {tz tu tw : TS}
theorem sd_asg {i : Nat} (h : EvD K te σ H d) (k : ∀ v H1, Ex H H1 → Dp K H1 v d → D.nx (σ.set i (some v)) H1) : tAsg te (gName i) D σ H := h H (Ex.refl H) _ fun v H1 e hv => k v H1 e hv
theorem qd_asg {i : Nat} (h : EvD K te σ H d) (k : ∀ v H1, Ex H H1 → Dp K H1 v d → tz D (σ.set i (some v)) H1) : tSeq (tAsg te (gName i)) tz D σ H := sd_asg (D := { D with nx := tz D }) h k
theorem sd_ret (h : EvD K te σ H d) (k : ∀ v H1, Ex H H1 → Dp K H1 v d → D.rt v H1) : tRet te D σ H := h H (Ex.refl H) _ k
theorem qd_drop (h : EvD K te σ H d) (k : ∀ H1, Ex H H1 → tz D σ H1) : tSeq (tDrop te) tz D σ H := h H (Ex.refl H) _ fun v H1 e hv => k H1 e
theorem sd_drop (h : EvD K te σ H d) (k : ∀ H1, Ex H H1 → D.nx σ H1) : tDrop te D σ H := h H (Ex.refl H) _ fun v H1 e hv => k H1 e
theorem qd_par {i j : Nat} {ta tb : TE} (h1 : EvD K ta σ H d1) (h2 : EvD K tb σ H d2) (k : ∀ v w H1, Ex H H1 → Dp K H1 v d1 → Dp K H1 w d2 → tz D ((σ.set i (some v)).set j (some w)) H1) : tSeq (tPar i j (tCons ta (tCons tb tNil))) tz D σ H :=
  h1 H (Ex.refl H) _ fun v H1 e hv => h2 H1 e _ fun w H2 e2 hw => ⟨v, w, rfl, k v w H2 (e.trans e2) (dmono e2 _ _ hv) hw⟩
theorem sd_par {i j : Nat} {ta tb : TE} (h1 : EvD K ta σ H d1) (h2 : EvD K tb σ H d2) (k : ∀ v w H1, Ex H H1 → Dp K H1 v d1 → Dp K H1 w d2 → D.nx ((σ.set i (some v)).set j (some w)) H1) : tPar i j (tCons ta (tCons tb tNil)) D σ H :=
  h1 H (Ex.refl H) _ fun v H1 e hv => h2 H1 e _ fun w H2 e2 hw => ⟨v, w, rfl, k v w H2 (e.trans e2) (dmono e2 _ _ hv) hw⟩
/-- a, b = t; a, b, c = t -/
theorem qd_un2 {i j : Nat} (h : EvD K te σ H (.tuple [d1, d2])) (k : ∀ v w H1, Ex H H1 → Dp K H1 v d1 → Dp K H1 w d2 → tz D ((σ.set i (some v)).set j (some w)) H1) :
    tSeq (tAsg te (gTup K 2 (gCons (gName i) (gCons (gName j) gNil)))) tz D σ H := h H (Ex.refl H) _ fun v H1 e hv => by
  obtain ⟨a, xs, rfl, s, al⟩ := Dp.tupD hv
  cases al with
  | cons a1 t1 => cases t1 with
    | cons a2 t2 => cases t2; exact ⟨a, _, rfl, s, rfl, _, _, rfl, _, _, rfl, rfl, k _ _ H1 e a1 a2⟩
theorem qd_un3 {i j l : Nat} {d3 : PyData} (h : EvD K te σ H (.tuple [d1, d2, d3])) (k : ∀ v w x H1, Ex H H1 → Dp K H1 v d1 → Dp K H1 w d2 → Dp K H1 x d3 → tz D (((σ.set i (some v)).set j (some w)).set l (some x)) H1) :
    tSeq (tAsg te (gTup K 3 (gCons (gName i) (gCons (gName j) (gCons (gName l) gNil))))) tz D σ H := h H (Ex.refl H) _ fun v H1 e hv => by
  obtain ⟨a, xs, rfl, s, al⟩ := Dp.tupD hv
  cases al with
  | cons a1 t1 => cases t1 with
    | cons a2 t2 => cases t2 with
      | cons a3 t3 => cases t3; exact ⟨a, _, rfl, s, rfl, _, _, rfl, _, _, rfl, _, _, rfl, rfl, k _ _ _ H1 e a1 a2 a3⟩
/-- a way that raises is not gone -/
theorem qd_pass {b : Bool} (h : EvT t σ H b) (hb : b = false) (k : ∀ H1, Ex H H1 → tz D σ H1) : tSeq (tIfS t tu tNext) tz D σ H := q_when h (fun q => by rw [hb] at q; cases q) fun _ => k
theorem sd_pass {b : Bool} (h : EvT t σ H b) (hb : b = false) (k : ∀ H1, Ex H H1 → D.nx σ H1) : tIfS t tu tNext D σ H := s_when h (fun q => by rw [hb] at q; cases q) fun _ => k
end

end Lb

set_option Elab.async false
set_option linter.all false
set_option maxRecDepth 100000
set_option maxHeartbeats 4000000
/-! enumerate(t) of a tuple, walked by a for. -/
namespace Lb
open PySem L2 Evl PyProof.Rows

set_option maxHeartbeats 2000000 in
theorem en_new (t : Addr) (items : Array Value) :
    Meets (Builtin.«enumerate.__new__» ⟨[.type "enumerate", .ref t], []⟩) (fun _ R s => s.heap.IsTuple t items ∧
      R (.ok (.ret (.ref (s.heap.push { cls := .type "tuple_iterator", data := .fields #[.ref t, .int 0 0] }).objs.size)))
        { s with heap := (s.heap.push { cls := .type "tuple_iterator", data := .fields #[.ref t, .int 0 0] }).push { cls := .type "enumerate", data := .fields #[.none, .bool false, .ref s.heap.objs.size, rawInt 0, .none, .none] } }) :=
  .of_wp fun prog w A R s h => by
    obtain ⟨hp, g, d, tk, os⟩ := s
    obtain ⟨h1, h⟩ := h
    have hsub := sub_enumerate
    have q1 : ∀ {A' : Around} {E : Value → Shared → Prop} {Q : Value → Shared → Prop}, Q (.ref hp.objs.size) ⟨hp.push { cls := .type "tuple_iterator", data := .fields #[.ref t, .int 0 0] }, g, d, tk, os⟩ → wpAny (model prog w) A' (pyIter (.ref t)) Q E ⟨hp, g, d, tk, os⟩ :=
      fun q => (begins_tuple t items).iter prog w _ _ ⟨hp, g, d, tk, os⟩ _ h1 q
    wp_walk using q1
    refine wpAny_stack_any fun st => wpAny_pure ?_
    split
    · rename_i c _ _ _ _ _
      cases (c == Value.type "enumerate") <;> (wp_walk using q1; exact ⟨_, rfl, h⟩)
    · wp_walk using q1
      exact ⟨_, rfl, h⟩
section
variable {prog : Program} {w : World} {A : Around} {E : Value → Shared → Prop} {s : Shared}
theorem en_call {t : Addr} {items : Array Value} {Q : Value → Shared → Prop} (hT : s.heap.IsTuple t items)
    (h : ∀ h', IsEnum h' (s.heap.objs.size + 1) s.heap.objs.size 0 .none → h'.IsTupleIter s.heap.objs.size t 0 → (∀ b o, s.heap.get? b = some o → h'.get? b = some o) → Q (.ref (s.heap.objs.size + 1)) { s with heap := h' }) :
    wpAny (model prog w) A (call (.type "enumerate") [.ref t]) Q E s := by
  refine callType_new F.called_enumerate (by decide) (F.typeCall_enumerate_1 _) (F.newCall_enumerate_1 _) (fun ob => F.args_object_init_2 ob _) F.entry_enumerate_new (en_new t items) ⟨hT, ?_⟩
  have z : (s.heap.push { cls := .type "tuple_iterator", data := .fields #[.ref t, .int 0 0] }).objs.size = s.heap.objs.size + 1 := Heap.size_push ..
  show _ ∧ _
  rw [z]
  have he := Heap.get?_push_size (s.heap.push { cls := .type "tuple_iterator", data := .fields #[.ref t, .int 0 0] }) (o := { cls := .type "enumerate", data := .fields #[.none, .bool false, .ref s.heap.objs.size, rawInt 0, .none, .none] }) rfl
  rw [z] at he
  exact ⟨⟨_, he, rfl⟩, h _ he ⟨_, Heap.get?_push_of_some _ (Heap.get?_push_size _ rfl), rfl, rfl⟩ fun b o x => Heap.get?_push_of_some _ (Heap.get?_push_of_some _ x)⟩
end
/-- pairs of the place and the item of the tuple at a -/
def Iet (K : PySem.W.Frag) (a : Addr) : It :=
  ⟨fun i H => ∃ (xs : List V) (x : V), SqT K H a xs ∧ xs[i]? = some x, fun i H v H' => ∃ T x, v = .ref T ∧ H T = none ∧ H' = upd H T (.tup [.int (i : Nat), x]) ∧ ∀ xs, SqT K H a xs → xs[i]? = some x, fun i H => ∃ xs : List V, SqT K H a xs ∧ xs.length = i⟩
theorem turn_enT {P : Program} {w : World} {K : PySem.W.Frag} {elts : List Expr} {kk : Nat} {tpos : Pos} (a e it : Addr) :
    Turn P w K (.Tuple elts kk tpos) (Iet K a) [e, it] e (fun i h => (∃ old, IsEnum h e it ((i : Nat) : Int) old) ∧ h.IsTupleIter it a i ∧ e ≠ it) where
  mem := List.mem_cons_self
  obj := fun i h st b hb => by
    obtain ⟨⟨old, he⟩, ⟨o, ho, hc, hd⟩, _⟩ := st
    rcases (show b = e ∨ b = it by simpa using hb) with z | z
    · subst z
      exact ⟨_, he, fun v q => nomatch q⟩
    · subst z
      exact ⟨o, ho, fun v q => by rw [hd] at q; cases q⟩
  keep := fun i h h' st k => by
    obtain ⟨⟨old, he⟩, hi, hne⟩ := st
    exact ⟨⟨old, k e (by simp) _ he⟩, hi.at fun o q => k it (by simp) o q, hne⟩
  item := by
    intro X hP hw hK hc i pins s σ H E I hf st hg
    subst hP hw hK
    obtain ⟨⟨old, he⟩, hit, hne⟩ := st
    obtain ⟨xs, x, hq, hx⟩ := hg
    obtain ⟨its, rv, p, hz⟩ := I.tuple hq
    obtain ⟨u, hu, ru⟩ := rv.get hx
    have hel := Heap.lt_size he
    have hil : it < s.heap.objs.size := let ⟨_, q, _⟩ := hit; Heap.lt_size q
    obtain ⟨oa, hoa, _⟩ := id p
    have nai : a ≠ it := fun z => by
      obtain ⟨oi, ei, ci, _⟩ := hit
      obtain ⟨oa, ea, ca, _⟩ := p
      rw [z] at ea
      cases ei.symm.trans ea
      have cc := ci.symm.trans ca
      exact absurd cc (by decide)
    have nae : e ∉ [it, a] := fun z => by
      rcases (show e = it ∨ e = a by simpa using z) with z | z
      · exact hne z
      · obtain ⟨oa, ea, ca, _⟩ := p
        rw [← z] at ea
        cases he.symm.trans ea
        exact absurd (show Value.type "enumerate" = Value.type "tuple" from ca) (by decide)
    have D := Draws.tuple (prog := X.prog) (w := X.w) (A := X.A.in1) (I.ok.hd hc) it a nai its.toArray
    have hlt : i < its.toArray.size := by
      rw [List.size_toArray]
      exact (List.getElem?_eq_some_iff.mp hu).1
    refine wpAny_pyNext_enum_itemC D he ⟨hit, show s.heap.IsTuple a its.toArray from p⟩ hlt hne nae fun y h' tk hy ho st' hT hsz hk => ?_
    have ey : y = u := by
      have q1 : its.toArray[i]? = some y := hy
      rw [show its.toArray[i]? = some u by simpa using hu] at q1
      exact (Option.some.inj q1).symm
    subst ey
    refine ⟨_, rfl, wpAny_letOwnedTupleGo_enum (s := { s with heap := h', toks := tk + 1 }) ho fun h'' he' sb => ?_⟩
    have hT2 := (sb.2 _ (Nat.ne_of_gt hel)).trans hT
    have new : ObjOk X.prog X.w (upd H s.heap.objs.size (.tup [.int (i : Nat), x])) h'' s.heap.objs.size (.tup [.int (i : Nat), x]) :=
      ⟨by show 2 ≤ sizeLine; decide, [.int i tk, y], .cons ⟨_, rfl⟩ (.cons ru .nil), ⟨_, hT2, rfl, _, rfl⟩⟩
    have I1 : Inv X pins σ (upd H s.heap.objs.size (.tup [.int (i : Nat), x])) { s with heap := h'', toks := tk + 1 } :=
      I.turnedNew (ch := [e, it]) (fun b ob hb q => (sb.2 b (fun z => hb (by simp [z]))).trans (hk b ob (fun z => hb (by simp [z])) (fun z => hb (by simp [z])) q)) hf (Nat.le_refl _) new
    refine ⟨.ref s.heap.objs.size, _, I1, rfl, ⟨_, x, rfl, I.hok.fresh (Nat.le_refl _), rfl, fun ys hy => by rw [I.tuple_inj hy hq]; exact hx⟩, ⟨⟨y, ?_⟩, st'.1.at fun o q => (sb.2 it (Ne.symm hne)).trans q, hne⟩, fun b hb => ?_⟩
    · rw [show ((i + 1 : Nat) : Int) = (i : Int) + 1 by omega]
      exact he'
    · have hb' : b < s.heap.objs.size := by
        rcases (show b = e ∨ b = it by simpa using hb) with z | z
        · exact z ▸ hel
        · exact z ▸ hil
      rw [upd_ne (Nat.ne_of_lt hb')]
      exact (hf b hb).1
  done := by
    intro X hP hw hK hc i pins s σ H E I hf st hg
    subst hP hw hK
    obtain ⟨⟨old, he⟩, hit, hne⟩ := st
    obtain ⟨xs, hq, hx⟩ := hg
    obtain ⟨its, rv, p, hz⟩ := I.tuple hq
    obtain ⟨f0, f1, f2, f3, f4, f5⟩ := hf it (by simp)
    have hl := rv.length
    have nai : a ≠ it := fun z => by
      obtain ⟨oi, ei, ci, _⟩ := hit
      obtain ⟨oa, ea, ca, _⟩ := p
      rw [z] at ea
      cases ei.symm.trans ea
      exact absurd (ci.symm.trans ca) (by decide)
    have D := Draws.tuple (prog := X.prog) (w := X.w) (A := X.A.in1) (I.ok.hd hc) it a nai its.toArray
    refine wpAny_pyNext_enum_endD D he (show s.heap.IsTupleIter it a its.toArray.size ∧ s.heap.IsTuple a its.toArray from ⟨by rw [List.size_toArray, ← hl, hx]; exact hit, p⟩) fun h' eb => ⟨rfl, I.turned (t' := s.toks) (fun b o hb q => eb b o hb q) f0 f1 f3 f4 f5⟩
  self := fun A i s Q E st h => let ⟨⟨_, he⟩, _⟩ := st; wpAny_pyIter_enum he h
def iEnT (K : PySem.W.Frag) (ta : TA) : TI := fun σ H R => ta σ H fun vs H1 => ∃ a xs, vs = [.ref a] ∧ SqT K H1 a xs ∧ R (Iet K a) H1
theorem pi_enumT {X : Cx} {e : Expr} {ta : TA} {p pos tpos : Pos} {elts : List Expr} {kk : Nat} (hg : Gl X "enumerate") (hm : X.mg "enumerate" = none) (ha : PA X [e] ta) (hs : starEach [e] X.env = [(false, eval e X.env)] := by rfl) :
    PI X (.Tuple elts kk tpos) (.Call (.Name "enumerate" p) [e] [] pos) (iEnT X.K ta) := by
  constructor
  intro pins s σ H R I h
  refine Call_ (ld_blt I hg hm boot_enumerate (PyProof.Rows.callWith_type1 (thn (ha.run pos pins s σ H _ I h) fun us s1 hh => ?_) hs rfl))
  obtain ⟨vs, H1, I1, r1, a, xs, ex, hq, q⟩ := hh
  subst ex
  rcases r1 with _ | ⟨r, rr⟩
  cases rr
  cases r
  obtain ⟨its, rv, p', hz⟩ := I1.tuple hq
  refine en_call (show s1.heap.IsTuple a its.toArray from p') fun h' he hit hk => wpAny_pyIter_enum he ?_
  refine ⟨s1.heap.objs.size + 1, [s1.heap.objs.size + 1, s1.heap.objs.size], _, _, H1, rfl, I1.kept (t' := s1.toks) hk, turn_enT a (s1.heap.objs.size + 1) s1.heap.objs.size, ⟨⟨.none, he⟩, hit, Nat.succ_ne_self _⟩, fun b hb => ?_, q⟩
  have hle : s1.heap.objs.size ≤ b := by
    rcases (show b = s1.heap.objs.size + 1 ∨ b = s1.heap.objs.size by simpa using hb) with z | z
    · rw [z]; exact Nat.le_add_right _ _
    · rw [z]; exact Nat.le_refl _
  exact I1.fpOk hle (I1.hok.fresh hle)
section
variable {K : PySem.W.Frag} {a : Addr} {xs : List V} {g : TG} {tb : TS} {D : Ends} {σ : L2.St} {H : Hp}
theorem for_enT (Pv : Nat → L2.St → Hp → Prop) (h0 : Pv 0 σ H) (hG : ∀ i σ H, i ≤ xs.length → Pv i σ H → SqT K H a xs)
    (hs : ∀ i x T σ H, xs[i]? = some x → Pv i σ H → H T = none → g (.ref T) σ (upd H T (.tup [.int (i : Nat), x])) fun σ2 H2 => tb { D with nx := Pv (i + 1), ct := Pv (i + 1), bk := D.nx } σ2 H2) (hd : ∀ σ H, Pv xs.length σ H → D.nx σ H) :
    ∃ W : Nat → Nat → L2.St → Hp → Prop, (∃ m, W 0 m σ H) ∧ ∀ i m σ H, W i m σ H →
      ((Iet K a).stop i H ∧ D.nx σ H) ∨ ((Iet K a).go i H ∧ ∃ N : L2.St → Hp → Prop, (∀ σ' H', N σ' H' → ∃ m', m' < m ∧ W (i + 1) m' σ' H') ∧ ∀ x H', (Iet K a).yld i H x H' → g x σ H' fun σ2 H2 => tb { D with nx := N, ct := N, bk := D.nx } σ2 H2) := by
  refine ⟨fun i m σ H => m = xs.length - i ∧ i ≤ xs.length ∧ Pv i σ H, ⟨xs.length, by simp, Nat.zero_le _, h0⟩, ?_⟩
  rintro i m σ H ⟨rfl, hi, p⟩
  have q := hG i σ H hi p
  rcases Nat.lt_or_ge i xs.length with hlt | hge
  · refine .inr ⟨⟨xs, xs[i], q, by simp [hlt]⟩, Pv (i + 1), fun σ' H' p' => ⟨xs.length - (i + 1), by omega, rfl, hlt, p'⟩, fun v H' y => ?_⟩
    obtain ⟨T, x, rfl, h2, rfl, h4⟩ := y
    exact hs i x T σ H (h4 xs q) p h2
  · have e : i = xs.length := by omega
    subst e
    exact .inl ⟨⟨xs, q, rfl⟩, hd σ H p⟩
end
end Lb

set_option Elab.async false
set_option linter.all false
set_option maxRecDepth 100000
set_option maxHeartbeats 4000000
/-! Data made of tuples alone stays whatever is changed; comprehensions and loops by data. -/
namespace Lb
open PySem L2 Evl PyProof.Rows

/-- all tuples stay -/
def TK (K : PySem.W.Frag) (H H' : Hp) : Prop := ∀ a xs, SqT K H a xs → SqT K H' a xs
section
variable {K : PySem.W.Frag} {H H' H'' : Hp}
theorem TK.refl (H : Hp) : TK K H H := fun _ _ h => h
theorem TK.trans (a : TK K H H') (b : TK K H' H'') : TK K H H'' := fun x xs h => b x xs (a x xs h)
theorem TK.of (e : Ex H H') : TK K H H' := fun _ _ h => ex_t e h
theorem TK.put {p : Addr} {o : HO} (hp : ∀ xs, ¬ Rd H p (.tup xs)) : TK K H (upd H p o) := fun a xs h => by
  rcases h with h | h
  · have ne : a ≠ p := fun z => hp xs (z ▸ h)
    refine Or.inl ?_
    rcases h with h | ⟨q, h⟩
    · exact Or.inl (by rw [upd_ne ne]; exact h)
    · exact Or.inr ⟨q, by rw [upd_ne ne]; exact h⟩
  · exact Or.inr h
theorem no_rd {p : Addr} {o : HO} (h : H p = some o) (h1 : ∀ xs, o ≠ .tup xs) (h2 : ∀ q xs, o ≠ .frz q (.tup xs)) : ∀ xs, ¬ Rd H p (.tup xs) := fun xs z => by
  rcases z with z | ⟨q, z⟩
  · rw [h] at z
    exact h1 xs (Option.some.inj z)
  · rw [h] at z
    exact h2 q xs (Option.some.inj z)
theorem TK.lst {p : Addr} {ys : List V} {o : HO} (h : H p = some (.lst ys)) : TK K H (upd H p o) := TK.put (no_rd h (fun _ z => nomatch z) (fun _ _ z => nomatch z))
theorem TK.new {p : Addr} {o : HO} (h : H p = none) : TK K H (upd H p o) := TK.of (Ex.new h)
/-- all but what stands at r stays -/
def ExB (r : Addr) (H H' : Hp) : Prop := ∀ b o, H b = some o → b ≠ r → H' b = some o
theorem ExB.of {r : Addr} (e : Ex H H') : ExB r H H' := fun b o h _ => e b o h
theorem ExB.refl {r : Addr} : ExB r H H := fun _ _ h _ => h
theorem ExB.trans {r : Addr} (a : ExB r H H') (b : ExB r H' H'') : ExB r H H'' := fun c o h hc => b c o (a c o h hc) hc
theorem ExB.upd {r : Addr} {o : HO} : ExB r H (upd H r o) := fun b u h hb => by rw [upd_ne hb]; exact h
theorem ExB.tk {r : Addr} (e : ExB r H H') (hr : ∀ xs, ¬ Rd H r (.tup xs)) : TK K H H' := fun a xs h => by
  rcases h with h | h
  · have ne : a ≠ r := fun z => hr xs (z ▸ h)
    refine Or.inl ?_
    rcases h with h | ⟨q, h⟩
    · exact Or.inl (e _ _ h ne)
    · exact Or.inr ⟨q, e _ _ h ne⟩
  · exact Or.inr h
/-- old things, none of them r, stay -/
theorem Ex.but {r : Addr} (a : Ex H H') (hr : H r = none) (b : ExB r H' H'') : Ex H H'' := fun c o h => b c o (a c o h) (ne_of_none h hr)
end

mutual
def noL : PyData → Bool
  | .none | .bool _ | .int _ | .str _ => true
  | .list _ | .dict _ => false
  | .tuple ds => noLs ds
def noLs : List PyData → Bool
  | [] => true
  | d :: ds => noL d && noLs ds
end
theorem noL_tup (ds : List PyData) : noL (.tuple ds) = noLs ds := by rw [noL]
theorem noLs_iff : ∀ {ds : List PyData}, noLs ds = true ↔ ∀ d ∈ ds, noL d = true
  | [] => by simp [noLs]
  | d :: ds => by rw [noLs, Bool.and_eq_true, noLs_iff]; simp
mutual
theorem tmono {K : PySem.W.Frag} {H H' : Hp} (e : TK K H H') : ∀ (d : PyData) (v : V), noL d = true → Dp K H v d → Dp K H' v d
  | .none, _, _, h => by cases h; exact .non
  | .bool b, _, _, h => by cases h; exact .bl b
  | .int i, _, _, h => by cases h; exact .int i
  | .str x, _, _, h => by cases h; exact .str x
  | .list ds, _, n, h => by simp [noL] at n
  | .tuple ds, _, n, h => by
    cases h with
    | tup s a => exact .tup (e _ _ s) (tmonoAll e ds _ (by rw [noL_tup] at n; exact n) a)
  | .dict _, _, _, h => by cases h
theorem tmonoAll {K : PySem.W.Frag} {H H' : Hp} (e : TK K H H') : ∀ (ds : List PyData) (vs : List V), noLs ds = true → DpAll K H vs ds → DpAll K H' vs ds
  | [], _, _, h => by cases h; exact .nil
  | d :: ds, _, n, h => by
    rw [noLs, Bool.and_eq_true] at n
    cases h with
    | cons a b => exact .cons (tmono e d _ n.1 a) (tmonoAll e ds _ n.2 b)
end

/-! ### comprehensions -/
def givenD (n : Nat) (f : Nat → Bool) (out : Nat → PyData) : List PyData := ((List.range n).filter f).map out
theorem givenD_yes {n : Nat} {f : Nat → Bool} {out : Nat → PyData} (h : f n = true) : givenD (n + 1) f out = givenD n f out ++ [out n] := by
  unfold givenD
  rw [List.range_succ, List.filter_append, List.map_append, List.filter_cons, if_pos h]
  rfl
theorem givenD_no {n : Nat} {f : Nat → Bool} {out : Nat → PyData} (h : f n = false) : givenD (n + 1) f out = givenD n f out := by
  unfold givenD
  rw [List.range_succ, List.filter_append, List.map_append, List.filter_cons, if_neg (by rw [h]; decide)]
  exact List.append_nil _
theorem givenD_len (n : Nat) (f : Nat → Bool) (out : Nat → PyData) : (givenD n f out).length ≤ n := by
  unfold givenD
  rw [List.length_map]
  exact Nat.le_trans (List.length_filter_le f _) (by rw [List.length_range]; exact Nat.le_refl _)
theorem givenD_all (n : Nat) (out : Nat → PyData) : givenD n (fun _ => true) out = (List.range n).map out := by
  unfold givenD
  rw [List.filter_eq_self.mpr fun _ _ => rfl]
theorem givenD_nil (n : Nat) (out : Nat → PyData) : givenD n (fun _ => false) out = [] := by
  unfold givenD
  rw [List.filter_eq_nil_iff.mpr fun _ _ => by decide]
  rfl
theorem givenD_noL {n : Nat} {f : Nat → Bool} {out : Nat → PyData} (h : ∀ i, i < n → noL (out i) = true) : noLs (givenD n f out) = true := by
  refine noLs_iff.mpr fun d hd => ?_
  obtain ⟨i, hi, rfl⟩ := List.mem_map.mp hd
  exact h i (List.mem_range.mp (List.mem_filter.mp hi).1)
/-- what is made so far, at Dl -/
def Lw (K : PySem.W.Frag) (H : Hp) (out : List PyData) (Dl : Addr) (H' : Hp) : Prop := H Dl = none ∧ Ex H H' ∧ ∃ acc, H' Dl = some (.lst acc) ∧ DpAll K H' acc out
theorem wipe1 {σ : L2.St} {j : Nat} (x : V) : wipe ((wipe σ [j]).set j (some x)) [j] = wipe σ [j] := by
  simp [wipe, List.set_set]
section
variable {K : PySem.W.Frag} {σ : L2.St} {H H' : Hp} {tl te : TE} {tt : TT} {g : TG} {ds : List PyData} {vs : List Nat}
theorem lw_turn {σ2 : L2.St} {H1 H2 H' : Hp} {Dl : Addr} {n i : Nat} {f : Nat → Bool} {out : Nat → PyData} (p : Lw K H1 (givenD i f out) Dl H') (e : Ex H' H2) (hi : i < 50000) (hn : ∀ k, k ≤ i → noL (out k) = true) (ht : EvT tt σ2 H2 (f i)) (he : f i = true → EvD K te σ2 H2 (out i)) :
    tt σ2 H2 fun b H3 => if b = true then te σ2 H3 fun y H4 => ∃ acc, H4 Dl = some (.lst acc) ∧ acc.length < sizeLine ∧ Lw K H1 (givenD (i + 1) f out) Dl (upd H4 Dl (.lst (acc ++ [y]))) else Lw K H1 (givenD (i + 1) f out) Dl H3 := by
  obtain ⟨p1, p2, acc, p3, p4⟩ := p
  refine ht H2 (Ex.refl _) _ fun H3 e3 => ?_
  cases hf : f i with
  | true =>
    refine iteT (he hf H3 e3 _ fun y H4 e4 hy => ⟨acc, e4 Dl _ (e3 Dl _ (e Dl _ p3)), sz_lt (by have := givenD_len i f out; have := p4.len; omega), p1, Ex.mut (p2.trans ((e.trans e3).trans e4)) p1, acc ++ [y], upd_same, ?_⟩)
    have hD : H4 Dl = some (.lst acc) := e4 Dl _ (e3 Dl _ (e Dl _ p3))
    rw [givenD_yes hf]
    refine tmonoAll (TK.lst hD) _ _ ?_ ((dmonoAll ((e.trans e3).trans e4) _ _ p4).app (.cons hy .nil))
    refine noLs_iff.mpr fun d hd => ?_
    rcases List.mem_append.mp hd with hd | hd
    · exact noLs_iff.mp (givenD_noL fun k hk => hn k (Nat.le_of_lt hk)) d hd
    · rw [List.mem_singleton.mp hd]
      exact hn i (Nat.le_refl _)
  | false =>
    refine iteF ?_
    refine ⟨p1, p2.trans (e.trans e3), acc, e3 Dl _ (e Dl _ p3), ?_⟩
    rw [givenD_no hf]
    exact dmonoAll (e.trans e3) _ _ p4
/-- [te for g in a tuple if tt] -/
theorem ed_lcTg (f : Nat → Bool) (out : Nat → PyData) (h : EvD K tl σ H (.tuple ds)) (hz : ds.length ≤ 40000) (hn : ∀ i, i < ds.length → noL (out i) = true)
    (he : ∀ i d x H1, Ex H H1 → ds[i]? = some d → Dp K H1 x d → ∀ Q : L2.St → Hp → Prop, (∀ σ2 H2, Ex H1 H2 → wipe σ2 vs = wipe σ vs → EvT tt σ2 H2 (f i) → (f i = true → EvD K te σ2 H2 (out i)) → Q σ2 H2) → g x (wipe σ vs) H1 Q) :
    EvD K (tLc (iTup K tl) g tt te vs) σ H (.list (givenD ds.length f out)) := fun H0 e Q q => h H0 e _ fun v H1 e1 hv => by
  obtain ⟨a, xs, rfl, s, al⟩ := Dp.tupD hv
  refine ⟨a, rfl, ⟨xs, s⟩, fun Dl hD => ?_⟩
  refine lc_tup (xs := xs) (fun i H' => Lw K H1 (givenD i f out) Dl H') ⟨hD, Ex.new hD, [], upd_same, .nil⟩ (fun i H' _ p => ex_t p.2.1 s) (fun i x H' hi p => ?_) (fun H' p => ?_)
  · obtain ⟨d, hd, hx⟩ := al.getV hi
    have hlt := (List.getElem?_eq_some_iff.mp hd).1
    refine he i d x H' ((e.trans e1).trans p.2.1) hd (dmono p.2.1 _ _ hx) _ fun σ2 H2 e2 hw ht hte => ⟨hw, ?_⟩
    exact lw_turn (n := ds.length) p e2 (by omega) (fun k hk => hn k (by omega)) ht hte
  · obtain ⟨p1, p2, acc, p3, p4⟩ := p
    rw [al.len] at p4
    exact q _ H' (e1.trans p2) (.lst (sq_of p3) p4)
theorem ed_lcLg (f : Nat → Bool) (out : Nat → PyData) (h : EvD K tl σ H (.list ds)) (hz : ds.length ≤ 40000) (hn : ∀ i, i < ds.length → noL (out i) = true)
    (he : ∀ i d x H1, Ex H H1 → ds[i]? = some d → Dp K H1 x d → ∀ Q : L2.St → Hp → Prop, (∀ σ2 H2, Ex H1 H2 → wipe σ2 vs = wipe σ vs → EvT tt σ2 H2 (f i) → (f i = true → EvD K te σ2 H2 (out i)) → Q σ2 H2) → g x (wipe σ vs) H1 Q) :
    EvD K (tLc (iList K tl) g tt te vs) σ H (.list (givenD ds.length f out)) := fun H0 e Q q => h H0 e _ fun v H1 e1 hv => by
  obtain ⟨a, xs, rfl, s, al⟩ := Dp.lstD hv
  refine ⟨a, rfl, ⟨xs, s⟩, fun Dl hD => ?_⟩
  refine lc_list (xs := xs) (fun i H' => Lw K H1 (givenD i f out) Dl H') ⟨hD, Ex.new hD, [], upd_same, .nil⟩ (fun i H' _ p => ex_l p.2.1 s) (fun i x H' hi p => ?_) (fun H' p => ?_)
  · obtain ⟨d, hd, hx⟩ := al.getV hi
    have hlt := (List.getElem?_eq_some_iff.mp hd).1
    refine he i d x H' ((e.trans e1).trans p.2.1) hd (dmono p.2.1 _ _ hx) _ fun σ2 H2 e2 hw ht hte => ⟨hw, ?_⟩
    exact lw_turn (n := ds.length) p e2 (by omega) (fun k hk => hn k (by omega)) ht hte
  · obtain ⟨p1, p2, acc, p3, p4⟩ := p
    rw [al.len] at p4
    exact q _ H' (e1.trans p2) (.lst (sq_of p3) p4)
/-- [te for j in range(n) if tt] -/
theorem ed_lcRz {z : Int} {n j : Nat} {ti : TE} (f : Nat → Bool) (out : Nat → PyData) (h : EvD K ti σ H (.int z)) (hzn : z.toNat = n) (hz0 : -40000 ≤ z) (hz : n ≤ 40000) (hn : ∀ i, i < n → noL (out i) = true)
    (he : ∀ (i : Nat) H1, Ex H H1 → i < n → EvT tt ((wipe σ [j]).set j (some (.int (i : Int)))) H1 (f i) ∧ (f i = true → EvD K te ((wipe σ [j]).set j (some (.int (i : Int)))) H1 (out i))) :
    EvD K (tLc (iRng1 (tCons ti tNil)) (gName j) tt te [j]) σ H (.list (givenD n f out)) := fun H0 e Q q => h H0 e _ fun v H1 e1 hv => by
  cases hv.intD
  refine ⟨z, rfl, by omega, by omega, fun Dl hD => ?_⟩
  rw [hzn]
  refine lc_range (lo := 0) (n := n) (fun i H' => Lw K H1 (givenD i f out) Dl H') ⟨hD, Ex.new hD, [], upd_same, .nil⟩ (fun i H' hi p => ?_) (fun H' p => ?_)
  · have e0 : (0 : Int) + (i : Int) = (i : Int) := Int.zero_add _
    rw [e0]
    obtain ⟨h1, h2⟩ := he i H' ((e.trans e1).trans p.2.1) hi
    exact ⟨wipe1 _, lw_turn (n := n) p (Ex.refl _) (by omega) (fun k hk => hn k (by omega)) h1 h2⟩
  · obtain ⟨p1, p2, acc, p3, p4⟩ := p
    exact q _ H' (e1.trans p2) (.lst (sq_of p3) p4)
theorem ed_lcRg {n j : Nat} {ti : TE} (f : Nat → Bool) (out : Nat → PyData) (h : EvD K ti σ H (.int (n : Int))) (hz : n ≤ 40000) (hn : ∀ i, i < n → noL (out i) = true)
    (he : ∀ (i : Nat) H1, Ex H H1 → i < n → EvT tt ((wipe σ [j]).set j (some (.int (i : Int)))) H1 (f i) ∧ (f i = true → EvD K te ((wipe σ [j]).set j (some (.int (i : Int)))) H1 (out i))) :
    EvD K (tLc (iRng1 (tCons ti tNil)) (gName j) tt te [j]) σ H (.list (givenD n f out)) := ed_lcRz f out h (Int.toNat_natCast n) (by omega) hz hn he
theorem et_yes : EvT tYes σ H true := fun H1 _ Q q => q H1 (Ex.refl H1)
theorem map_range_ix {α : Type} (ds : List PyData) (f : PyData → α) : (List.range ds.length).map (fun i => f (ds.getD i .none)) = ds.map f := by
  refine List.ext_getElem (by simp) fun i h1 h2 => ?_
  have hi : i < ds.length := by simpa using h1
  simp [List.getD_eq_getElem?_getD, List.getElem?_eq_getElem hi]
/-- [te for x in a tuple] -/
theorem ed_lcT {j : Nat} (F : PyData → PyData) (h : EvD K tl σ H (.tuple ds)) (hz : ds.length ≤ 40000) (hn : ∀ d ∈ ds, noL (F d) = true)
    (he : ∀ d x H1, d ∈ ds → Ex H H1 → Dp K H1 x d → EvD K te ((wipe σ [j]).set j (some x)) H1 (F d)) :
    EvD K (tLc (iTup K tl) (gName j) tYes te [j]) σ H (.list (ds.map F)) := by
  have q := ed_lcTg (K := K) (σ := σ) (H := H) (tl := tl) (te := te) (tt := tYes) (g := gName j) (ds := ds) (vs := [j]) (fun _ => true) (fun i => F (ds.getD i .none)) h hz
    (fun i hi => hn _ (by simp [List.getD_eq_getElem?_getD, List.getElem?_eq_getElem hi])) (fun i d x H1 e hd hx Q q => ?_)
  · rw [givenD_all, map_range_ix] at q
    exact q
  · refine q _ H1 (Ex.refl _) (wipe1 x) et_yes fun _ => ?_
    rw [show ds.getD i .none = d by simp [List.getD_eq_getElem?_getD, hd]]
    exact he d x H1 (List.mem_of_getElem? hd) e hx
theorem ed_lcL {j : Nat} (F : PyData → PyData) (h : EvD K tl σ H (.list ds)) (hz : ds.length ≤ 40000) (hn : ∀ d ∈ ds, noL (F d) = true)
    (he : ∀ d x H1, d ∈ ds → Ex H H1 → Dp K H1 x d → EvD K te ((wipe σ [j]).set j (some x)) H1 (F d)) :
    EvD K (tLc (iList K tl) (gName j) tYes te [j]) σ H (.list (ds.map F)) := by
  have q := ed_lcLg (K := K) (σ := σ) (H := H) (tl := tl) (te := te) (tt := tYes) (g := gName j) (ds := ds) (vs := [j]) (fun _ => true) (fun i => F (ds.getD i .none)) h hz
    (fun i hi => hn _ (by simp [List.getD_eq_getElem?_getD, List.getElem?_eq_getElem hi])) (fun i d x H1 e hd hx Q q => ?_)
  · rw [givenD_all, map_range_ix] at q
    exact q
  · refine q _ H1 (Ex.refl _) (wipe1 x) et_yes fun _ => ?_
    rw [show ds.getD i .none = d by simp [List.getD_eq_getElem?_getD, hd]]
    exact he d x H1 (List.mem_of_getElem? hd) e hx
/-- [te for x in a tuple], the items told by things of one's own -/
theorem ed_lcM {α : Type} {j : Nat} {as : List α} (en F : α → PyData) (h : EvD K tl σ H (.tuple (as.map en))) (hz : as.length ≤ 40000) (hn : ∀ a ∈ as, noL (F a) = true)
    (he : ∀ a x H1, a ∈ as → Ex H H1 → Dp K H1 x (en a) → EvD K te ((wipe σ [j]).set j (some x)) H1 (F a)) :
    EvD K (tLc (iTup K tl) (gName j) tYes te [j]) σ H (.list (as.map F)) := by
  have q := ed_lcTg (K := K) (σ := σ) (H := H) (tl := tl) (te := te) (tt := tYes) (g := gName j) (ds := as.map en) (vs := [j]) (fun _ => true) (fun i => (as[i]?.map F).getD .none) h (by rw [List.length_map]; exact hz)
    (fun i hi => ?_) (fun i d x H1 e hd hx Q q => ?_)
  · have e : (List.range (as.map en).length).map (fun i => (as[i]?.map F).getD .none) = as.map F := by
      refine List.ext_getElem (by simp) fun i h1 h2 => ?_
      have hi : i < as.length := by simpa using h1
      simp [List.getElem?_eq_getElem hi]
    rw [givenD_all, e] at q
    exact q
  · rw [List.length_map] at hi
    rw [List.getElem?_eq_getElem hi]
    exact hn _ (List.getElem_mem hi)
  · refine q _ H1 (Ex.refl _) (wipe1 x) et_yes fun _ => ?_
    rw [List.getElem?_map] at hd
    cases hi : as[i]? with
    | none => rw [hi] at hd; cases hd
    | some a =>
      rw [hi] at hd
      cases hd
      exact he a x H1 (List.mem_of_getElem? hi) e hx
/-- all(..), max(..) of a list of data -/
theorem ev_all {ta : TE} {bs : List Bool} (h : EvD K ta σ H (.list (bs.map PyData.bool))) : Ev (tCB (rAll K) (tCons ta tNil)) σ H (.bl (bs.all id)) := fun H1 e Q q => h H1 e _ fun v H2 e2 hv => by
  obtain ⟨a, xs, rfl, s, al⟩ := Dp.lstD hv
  rw [D_bls al] at s
  exact ⟨a, bs, rfl, s, q H2 e2⟩
theorem ev_max {ta : TE} {ns : List Int} {m : Int} (h : EvD K ta σ H (.list (ns.map PyData.int))) (hm : m ∈ ns) (hb : ∀ y ∈ ns, y ≤ m) : Ev (tCB (rMax K) (tCons ta tNil)) σ H (.int m) := fun H1 e Q q => h H1 e _ fun v H2 e2 hv => by
  obtain ⟨a, xs, rfl, s, al⟩ := Dp.lstD hv
  rw [D_ints al] at s
  refine ⟨a, ns, rfl, s, List.length_pos_of_mem hm, fun z hz hzb => ?_⟩
  rw [show z = m from Int.le_antisymm (hb z hz) (hzb m hm)]
  exact q H2 e2
/-- x in a tuple of ints -/
theorem ev_inT {neg : Bool} {ta tb : TE} {i : Int} {ns : List Int} (ha : EvD K ta σ H (.int i)) (hb : EvD K tb σ H (.tuple (ns.map PyData.int))) : Ev (tOp (rIn K neg) ta tb) σ H (.bl (if neg then !decide (i ∈ ns) else decide (i ∈ ns))) := fun H1 e Q q => ha H1 e _ fun v H2 e2 hv => hb H2 (e.trans e2) _ fun w H3 e3 hw => by
  obtain ⟨a, xs, rfl, s, al⟩ := Dp.tupD hw
  rw [D_ints al] at s
  cases hv.intD
  have r : inV (.int i) (ns.map V.int) = decide (i ∈ ns) := by
    unfold inV
    rw [List.any_map]
    rw [Bool.eq_iff_iff, List.any_eq_true, decide_eq_true_iff]
    constructor
    · rintro ⟨y, hy, h⟩
      have h' : (y == i) = true := h
      rw [eq_of_beq h'] at hy
      exact hy
    · exact fun h => ⟨i, h, by show (i == i) = true; simp⟩
  refine ⟨a, ns.map V.int, rfl, Or.inr s, rfl, List.all_eq_true.mpr fun y hy => ?_, ?_⟩
  · obtain ⟨n, _, rfl⟩ := List.mem_map.mp hy
    rfl
  · rw [r]
    exact q H3 (e2.trans e3)
/-! ### loops -/
variable {D : Ends} {tu : TS}
/-- for g in a tuple -/
theorem sd_forT (h : EvD K tl σ H (.tuple ds))
    (k : ∀ H1 a xs, Ex H H1 → SqT K H1 a xs → DpAll K H1 xs ds → ∃ Pv : Nat → L2.St → Hp → Prop, Pv 0 σ H1 ∧ (∀ i σ' H', Pv i σ' H' → TK K H1 H') ∧
      (∀ i x d σ' H', xs[i]? = some x → ds[i]? = some d → Dp K H1 x d → Pv i σ' H' → g x σ' H' fun σ2 H2 => tu { D with nx := Pv (i + 1), ct := Pv (i + 1), bk := D.nx } σ2 H2) ∧ ∀ σ' H', Pv ds.length σ' H' → D.nx σ' H') : tFor (iTup K tl) g tu D σ H := h H (Ex.refl H) _ fun v H1 e hv => by
  obtain ⟨a, xs, rfl, s, al⟩ := Dp.tupD hv
  obtain ⟨Pv, h0, hk, hs, hd⟩ := k H1 a xs e s al
  refine ⟨a, rfl, ⟨xs, s⟩, for_tup (xs := xs) Pv h0 (fun i σ' H' _ p => hk i σ' H' p a xs s) (fun i x σ' H' hi p => ?_) (fun σ' H' p => hd σ' H' (al.len ▸ p))⟩
  obtain ⟨d, hdi, hx⟩ := al.getV hi
  exact hs i x d σ' H' hi hdi hx p
theorem sd_forL (h : EvD K tl σ H (.list ds))
    (k : ∀ H1 a xs, Ex H H1 → SqL K H1 a xs → DpAll K H1 xs ds → ∃ Pv : Nat → L2.St → Hp → Prop, Pv 0 σ H1 ∧ (∀ i σ' H', Pv i σ' H' → SqL K H' a xs) ∧
      (∀ i x d σ' H', xs[i]? = some x → ds[i]? = some d → Dp K H1 x d → Pv i σ' H' → g x σ' H' fun σ2 H2 => tu { D with nx := Pv (i + 1), ct := Pv (i + 1), bk := D.nx } σ2 H2) ∧ ∀ σ' H', Pv ds.length σ' H' → D.nx σ' H') : tFor (iList K tl) g tu D σ H := h H (Ex.refl H) _ fun v H1 e hv => by
  obtain ⟨a, xs, rfl, s, al⟩ := Dp.lstD hv
  obtain ⟨Pv, h0, hk, hs, hd⟩ := k H1 a xs e s al
  refine ⟨a, rfl, ⟨xs, s⟩, for_list (xs := xs) Pv h0 (fun i σ' H' _ p => hk i σ' H' p) (fun i x σ' H' hi p => ?_) (fun σ' H' p => hd σ' H' (al.len ▸ p))⟩
  obtain ⟨d, hdi, hx⟩ := al.getV hi
  exact hs i x d σ' H' hi hdi hx p
/-- for j, l in enumerate(a tuple) -/
theorem sd_forE {j l : Nat} (h : EvD K tl σ H (.tuple ds))
    (k : ∀ H1 a xs, Ex H H1 → SqT K H1 a xs → DpAll K H1 xs ds → ∃ Pv : Nat → L2.St → Hp → Prop, Pv 0 σ H1 ∧ (∀ i σ' H', Pv i σ' H' → TK K H1 H') ∧
      (∀ (i : Nat) x d T σ' H', xs[i]? = some x → ds[i]? = some d → Dp K H1 x d → Pv i σ' H' → H' T = none → tu { D with nx := Pv (i + 1), ct := Pv (i + 1), bk := D.nx } ((σ'.set j (some (.int (i : Nat)))).set l (some x)) (upd H' T (.tup [.int (i : Nat), x]))) ∧
      ∀ σ' H', Pv ds.length σ' H' → D.nx σ' H') : tFor (iEnT K (tCons tl tNil)) (gTup K 2 (gCons (gName j) (gCons (gName l) gNil))) tu D σ H := h H (Ex.refl H) _ fun v H1 e hv => by
  obtain ⟨a, xs, rfl, s, al⟩ := Dp.tupD hv
  obtain ⟨Pv, h0, hk, hs, hd⟩ := k H1 a xs e s al
  refine ⟨a, xs, rfl, s, for_enT (xs := xs) Pv h0 (fun i σ' H' _ p => hk i σ' H' p a xs s) (fun i x T σ' H' hi p hT => ?_) (fun σ' H' p => hd σ' H' (al.len ▸ p))⟩
  obtain ⟨d, hdi, hx⟩ := al.getV hi
  exact ⟨T, _, rfl, st_of upd_same, rfl, _, _, rfl, _, _, rfl, rfl, hs i x d T σ' H' hi hdi hx p hT⟩
/-- for j in range(n) -/
theorem sd_forR {j n : Nat} (h : EvD K tl σ H (.int (n : Int))) (hz : n ≤ 100000)
    (k : ∀ H1, Ex H H1 → ∃ Pv : Nat → L2.St → Hp → Prop, Pv 0 σ H1 ∧
      (∀ (i : Nat) σ' H', i < n → Pv i σ' H' → tu { D with nx := Pv (i + 1), ct := Pv (i + 1), bk := D.nx } (σ'.set j (some (.int (i : Int)))) H') ∧ ∀ σ' H', Pv n σ' H' → D.nx σ' H') : tFor (iRng1 (tCons tl tNil)) (gName j) tu D σ H := h H (Ex.refl H) _ fun v H1 e hv => by
  cases hv.intD
  obtain ⟨Pv, h0, hs, hd⟩ := k H1 e
  refine ⟨(n : Int), rfl, by omega, by omega, ?_⟩
  rw [Int.toNat_natCast]
  refine for_range (lo := 0) (n := n) Pv h0 (fun i σ' H' hi p => ?_) hd
  have e0 : (0 : Int) + (i : Int) = (i : Int) := Int.zero_add _
  rw [e0]
  exact hs i σ' H' hi p
end
end Lb

set_option Elab.async false
set_option linter.all false
set_option maxRecDepth 100000
set_option maxHeartbeats 4000000
/-! More readings over data. -/
namespace Lb
open PySem L2 Evl PyProof.Rows
/-- the tuple at an address is empty -/
def emptyAt (K : PySem.W.Frag) (a : Addr) : Bool := match K.lookup a with
  | some o => (match o.cls with
    | .type c => decide (c = "tuple")
    | _ => false) && (match o.data with
    | .seq its _ => decide (its = #[])
    | _ => false)
  | none => false
theorem emptyAt_ok {K : PySem.W.Frag} {a : Addr} (h : emptyAt K a = true) (H : Hp) : SqT K H a [] := by
  unfold emptyAt at h
  cases q : K.lookup a with
  | none => rw [q] at h; cases h
  | some o =>
    rw [q] at h
    obtain ⟨oc, od, dt, osl⟩ := o
    obtain ⟨h1, h2⟩ := Bool.and_eq_true_iff.mp h
    dsimp only at h1 h2
    cases oc with
    | type c =>
      cases dt with
      | seq its n =>
        have e1 : c = "tuple" := of_decide_eq_true h1
        have e2 : its = #[] := of_decide_eq_true h2
        subst e1 e2
        exact .inr ⟨_, #[], n, q, rfl, rfl, Nat.zero_le _, .nil⟩
      | _ => cases h2
    | _ => cases h1
section
variable {K : PySem.W.Frag} {σ : L2.St} {H H' : Hp} {ta tb te tl : TE} {tt : TT} {g : TG} {d : PyData} {ds : List PyData} {vs : List Nat}
/-- [te for x in a list], the items told by things of one's own -/
theorem ed_lcML {α : Type} {j : Nat} {as : List α} (en F : α → PyData) (h : EvD K tl σ H (.list (as.map en))) (hz : as.length ≤ 40000) (hn : ∀ a ∈ as, noL (F a) = true)
    (he : ∀ a x H1, a ∈ as → Ex H H1 → Dp K H1 x (en a) → EvD K te ((wipe σ [j]).set j (some x)) H1 (F a)) :
    EvD K (tLc (iList K tl) (gName j) tYes te [j]) σ H (.list (as.map F)) := by
  have q := ed_lcLg (K := K) (σ := σ) (H := H) (tl := tl) (te := te) (tt := tYes) (g := gName j) (ds := as.map en) (vs := [j]) (fun _ => true) (fun i => (as[i]?.map F).getD .none) h (by rw [List.length_map]; exact hz)
    (fun i hi => ?_) (fun i d x H1 e hd hx Q q => ?_)
  · have e : (List.range (as.map en).length).map (fun i => (as[i]?.map F).getD .none) = as.map F := by
      refine List.ext_getElem (by simp) fun i h1 h2 => ?_
      have hi : i < as.length := by simpa using h1
      simp [List.getElem?_eq_getElem hi]
    rw [givenD_all, e] at q
    exact q
  · rw [List.length_map] at hi
    rw [List.getElem?_eq_getElem hi]
    exact hn _ (List.getElem_mem hi)
  · refine q _ H1 (Ex.refl _) (wipe1 x) et_yes fun _ => ?_
    rw [List.getElem?_map] at hd
    cases hi : as[i]? with
    | none => rw [hi] at hd; cases hd
    | some a =>
      rw [hi] at hd
      cases hd
      exact he a x H1 (List.mem_of_getElem? hi) e hx
/-- a list's part -/
theorem ed_slL {tl th : TO} {lo hi : Option Int} (h : EvD K te σ H (.list ds)) (h1 : EvO tl σ H lo) (h2 : EvO th σ H hi) : EvD K (tSl (rSlL K) te tl th) σ H (.list (cutD ds lo hi)) := fun H1 e Q q =>
  h H1 e _ fun v H2 e2 hv => h1 H2 (e.trans e2) _ fun H3 e3 => h2 H3 ((e.trans e2).trans e3) _ fun H4 e4 => by
    obtain ⟨a, xs, rfl, s, al⟩ := Dp.lstD (dmono (e3.trans e4) _ _ hv)
    refine ⟨a, xs, rfl, s, fun p hp => ?_⟩
    exact q _ _ (((e2.trans e3).trans e4).trans (Ex.new hp)) (.lst (sq_of upd_same) (dmonoAll (Ex.new hp) _ _ (dcut al lo hi)))
/-- [te for j in range(n)], no test -/
theorem ed_lcRn {n j : Nat} {ti : TE} (out : Nat → PyData) (h : EvD K ti σ H (.int (n : Int))) (hz : n ≤ 40000) (hn : ∀ i, i < n → noL (out i) = true)
    (he : ∀ (i : Nat) H1, Ex H H1 → i < n → EvD K te ((wipe σ [j]).set j (some (.int (i : Int)))) H1 (out i)) :
    EvD K (tLc (iRng1 (tCons ti tNil)) (gName j) tYes te [j]) σ H (.list ((List.range n).map out)) := by
  have q := ed_lcRg (K := K) (σ := σ) (H := H) (ti := ti) (te := te) (tt := tYes) (n := n) (j := j) (fun _ => true) out h hz hn fun i H1 e hi => ⟨et_yes, fun _ => he i H1 e hi⟩
  rw [givenD_all] at q
  exact q
/-- [te for x, y in zip(xs, ys)], lists of one length -/
theorem ed_lcZ {α : Type} {j l : Nat} {as : List α} (en1 en2 F : α → PyData) (h1 : EvD K ta σ H (.list (as.map en1))) (h2 : EvD K tb σ H (.list (as.map en2))) (hz : as.length ≤ 40000) (hn : ∀ a ∈ as, noL (F a) = true)
    (hw : ∀ x y : V, wipe (((wipe σ [j, l]).set j (some x)).set l (some y)) [j, l] = wipe σ [j, l])
    (he : ∀ a x y H1, a ∈ as → Ex H H1 → Dp K H1 x (en1 a) → Dp K H1 y (en2 a) → EvD K te (((wipe σ [j, l]).set j (some x)).set l (some y)) H1 (F a)) :
    EvD K (tLc (iZip K (tCons ta (tCons tb tNil))) (gTup K 2 (gCons (gName j) (gCons (gName l) gNil))) tYes te [j, l]) σ H (.list (as.map F)) := fun H0 e Q q =>
  h1 H0 e _ fun v H1 e1 hv => h2 H1 (e.trans e1) _ fun v2 H2 e2 hv2 => by
    obtain ⟨a, xs, rfl, s1, al1⟩ := Dp.lstD (dmono e2 _ _ hv)
    obtain ⟨b, ys, rfl, s2, al2⟩ := Dp.lstD hv2
    have lx : xs.length = as.length := by rw [al1.len, List.length_map]
    have ly : ys.length = as.length := by rw [al2.len, List.length_map]
    refine ⟨a, b, xs, ys, rfl, s1, s2, fun Dl hD => ?_⟩
    refine lc_it (walk_zip (xs := xs) (ys := ys) (n := as.length) (by omega)) (fun i H' => Lw K H2 (givenD i (fun _ => true) fun i => (as[i]?.map F).getD .none) Dl H') ⟨hD, Ex.new hD, [], upd_same, .nil⟩ (fun i H' _ p => ⟨ex_l p.2.1 s1, ex_l p.2.1 s2⟩) (fun i x H' H3 hi p y => ?_) (fun H' p => ?_)
    · obtain ⟨T, x, y, rfl, hT, rfl, hx, hy⟩ := y
      have ha : as[i]? = some as[i] := List.getElem?_eq_getElem hi
      obtain ⟨d1, hd1, hxd⟩ := al1.getV hx
      obtain ⟨d2, hd2, hyd⟩ := al2.getV hy
      rw [List.getElem?_map, ha] at hd1 hd2
      cases hd1
      cases hd2
      have en := Ex.new (o := .tup [x, y]) hT
      have e3 := p.2.1.trans en
      have p' : Lw K H2 (givenD i (fun _ => true) fun i => (as[i]?.map F).getD .none) Dl (L2.upd H' T (.tup [x, y])) := by
        obtain ⟨p1, p2, acc, p3, p4⟩ := p
        exact ⟨p1, p2.trans en, acc, en _ _ p3, dmonoAll en _ _ p4⟩
      refine ⟨T, _, rfl, st_of upd_same, rfl, _, _, rfl, _, _, rfl, rfl, hw x y, ?_⟩
      refine lw_turn (n := as.length) p' (Ex.refl _) (by omega) (fun k hk => ?_) et_yes fun _ => ?_
      · rw [List.getElem?_eq_getElem (by omega)]
        exact hn _ (List.getElem_mem _)
      · rw [ha]
        exact he _ x y _ (List.getElem_mem hi) (((e.trans e1).trans e2).trans e3) (dmono e3 _ _ hxd) (dmono e3 _ _ hyd)
    · obtain ⟨p1, p2, acc, p3, p4⟩ := p
      have eq : givenD as.length (fun _ => true) (fun i => (as[i]?.map F).getD .none) = as.map F := by
        rw [givenD_all]
        refine List.ext_getElem (by simp) fun i h1 h2 => ?_
        have hi : i < as.length := by simpa using h1
        simp [List.getElem?_eq_getElem hi]
      rw [eq] at p4
      exact q _ H' ((e1.trans e2).trans p2) (.lst (sq_of p3) p4)
theorem ev_sumD {ns : List Int} (h : EvD K ta σ H (.list (ns.map PyData.int))) : Ev (tCB (rSum K) (tCons ta tNil)) σ H (.int ns.sum) := fun H1 e Q q => h H1 e _ fun v H2 e2 hv => by
  obtain ⟨a, xs, rfl, s, al⟩ := Dp.lstD hv
  rw [D_ints al] at s
  exact ⟨a, ns, rfl, s, q H2 e2⟩
/-! ### lists as they stand -/
def EvLi (K : PySem.W.Frag) (te : TE) (σ : L2.St) (H : Hp) (ds : List PyData) : Prop := ∀ H1, Ex H H1 → ∀ Q : VK, (∀ l xs H2, Ex H1 H2 → H2 l = some (.lst xs) → DpAll K H2 xs ds → Q (.ref l) H2) → te σ H1 Q
theorem EvLi.ed (h : EvLi K te σ H ds) : EvD K te σ H (.list ds) := fun H1 e Q q => h H1 e Q fun l xs H2 e2 hl al => q _ _ e2 (.lst (sq_of hl) al)
theorem EvLi.mono (e : Ex H H') (h : EvLi K te σ H ds) : EvLi K te σ H' ds := fun H1 a Q q => h H1 (e.trans a) Q q
theorem li_is {es : List PyData} (h : EvLi K te σ H ds) (e : ds = es) : EvLi K te σ H es := e ▸ h
theorem li_var {i : Nat} {l : Addr} {xs : List V} (h : σ[i]? = some (some (.ref l))) (hl : H l = some (.lst xs)) (al : DpAll K H xs ds) : EvLi K (tVar i) σ H ds := fun H1 e Q q => ⟨_, h, q l xs H1 (Ex.refl _) (e _ _ hl) (dmonoAll e _ _ al)⟩
theorem li_lst {ta : TA} (h : EvAD K ta σ H ds) (hz : ds.length ≤ 100000) : EvLi K (tLst ta) σ H ds := fun H1 e Q q => h H1 e _ fun vs H2 e2 hv =>
  ⟨by rw [hv.len]; exact sz_of hz, fun p hp => q p vs _ (e2.trans (Ex.new hp)) upd_same (dmonoAll (Ex.new hp) _ _ hv)⟩
theorem li_cat {es : List PyData} (ha : EvLi K ta σ H ds) (hb : EvLi K tb σ H es) (hz : ds.length + es.length ≤ 100000) : EvLi K (tOp rCat ta tb) σ H (ds ++ es) := fun H1 e Q q =>
  ha H1 e _ fun a xs H2 e2 h1 al => hb H2 (e.trans e2) _ fun b ys H3 e3 h2 bl =>
    ⟨a, b, xs, ys, rfl, rfl, e3 _ _ h1, h2, by rw [al.len, bl.len]; exact sz_of hz, fun p hp => q p _ _ ((e2.trans e3).trans (Ex.new hp)) upd_same (dmonoAll (Ex.new hp) _ _ ((dmonoAll e3 _ _ al).app bl))⟩
theorem li_sl {tl th : TO} {lo hi : Option Int} (h : EvD K te σ H (.list ds)) (h1 : EvO tl σ H lo) (h2 : EvO th σ H hi) : EvLi K (tSl (rSlL K) te tl th) σ H (cutD ds lo hi) := fun H1 e Q q =>
  h H1 e _ fun v H2 e2 hv => h1 H2 (e.trans e2) _ fun H3 e3 => h2 H3 ((e.trans e2).trans e3) _ fun H4 e4 => by
    obtain ⟨a, xs, rfl, s, al⟩ := Dp.lstD (dmono (e3.trans e4) _ _ hv)
    exact ⟨a, xs, rfl, s, fun p hp => q p _ _ (((e2.trans e3).trans e4).trans (Ex.new hp)) upd_same (dmonoAll (Ex.new hp) _ _ (dcut al lo hi))⟩
theorem li_asg {i : Nat} {D : Ends} (h : EvLi K te σ H ds) (k : ∀ l xs H1, Ex H H1 → H1 l = some (.lst xs) → DpAll K H1 xs ds → D.nx (σ.set i (some (.ref l))) H1) : tAsg te (gName i) D σ H := h H (Ex.refl H) _ fun l xs H1 e hl al => k l xs H1 e hl al
theorem qli_asg {i : Nat} {D : Ends} {tz : TS} (h : EvLi K te σ H ds) (k : ∀ l xs H1, Ex H H1 → H1 l = some (.lst xs) → DpAll K H1 xs ds → tz D (σ.set i (some (.ref l))) H1) : tSeq (tAsg te (gName i)) tz D σ H := li_asg (D := { D with nx := tz D }) h k
theorem li_lcTg (f : Nat → Bool) (out : Nat → PyData) (h : EvD K tl σ H (.tuple ds)) (hz : ds.length ≤ 40000) (hn : ∀ i, i < ds.length → noL (out i) = true)
    (he : ∀ i d x H1, Ex H H1 → ds[i]? = some d → Dp K H1 x d → ∀ Q : L2.St → Hp → Prop, (∀ σ2 H2, Ex H1 H2 → wipe σ2 vs = wipe σ vs → EvT tt σ2 H2 (f i) → (f i = true → EvD K te σ2 H2 (out i)) → Q σ2 H2) → g x (wipe σ vs) H1 Q) :
    EvLi K (tLc (iTup K tl) g tt te vs) σ H (givenD ds.length f out) := fun H0 e Q q => h H0 e _ fun v H1 e1 hv => by
  obtain ⟨a, xs, rfl, s, al⟩ := Dp.tupD hv
  refine ⟨a, rfl, ⟨xs, s⟩, fun Dl hD => ?_⟩
  refine lc_tup (xs := xs) (fun i H' => Lw K H1 (givenD i f out) Dl H') ⟨hD, Ex.new hD, [], upd_same, .nil⟩ (fun i H' _ p => ex_t p.2.1 s) (fun i x H' hi p => ?_) (fun H' p => ?_)
  · obtain ⟨d, hd, hx⟩ := al.getV hi
    have hlt := (List.getElem?_eq_some_iff.mp hd).1
    refine he i d x H' ((e.trans e1).trans p.2.1) hd (dmono p.2.1 _ _ hx) _ fun σ2 H2 e2 hw ht hte => ⟨hw, ?_⟩
    exact lw_turn (n := ds.length) p e2 (by omega) (fun k hk => hn k (by omega)) ht hte
  · obtain ⟨p1, p2, acc, p3, p4⟩ := p
    rw [al.len] at p4
    exact q _ _ H' (e1.trans p2) p3 p4
theorem li_lcLg (f : Nat → Bool) (out : Nat → PyData) (h : EvD K tl σ H (.list ds)) (hz : ds.length ≤ 40000) (hn : ∀ i, i < ds.length → noL (out i) = true)
    (he : ∀ i d x H1, Ex H H1 → ds[i]? = some d → Dp K H1 x d → ∀ Q : L2.St → Hp → Prop, (∀ σ2 H2, Ex H1 H2 → wipe σ2 vs = wipe σ vs → EvT tt σ2 H2 (f i) → (f i = true → EvD K te σ2 H2 (out i)) → Q σ2 H2) → g x (wipe σ vs) H1 Q) :
    EvLi K (tLc (iList K tl) g tt te vs) σ H (givenD ds.length f out) := fun H0 e Q q => h H0 e _ fun v H1 e1 hv => by
  obtain ⟨a, xs, rfl, s, al⟩ := Dp.lstD hv
  refine ⟨a, rfl, ⟨xs, s⟩, fun Dl hD => ?_⟩
  refine lc_list (xs := xs) (fun i H' => Lw K H1 (givenD i f out) Dl H') ⟨hD, Ex.new hD, [], upd_same, .nil⟩ (fun i H' _ p => ex_l p.2.1 s) (fun i x H' hi p => ?_) (fun H' p => ?_)
  · obtain ⟨d, hd, hx⟩ := al.getV hi
    have hlt := (List.getElem?_eq_some_iff.mp hd).1
    refine he i d x H' ((e.trans e1).trans p.2.1) hd (dmono p.2.1 _ _ hx) _ fun σ2 H2 e2 hw ht hte => ⟨hw, ?_⟩
    exact lw_turn (n := ds.length) p e2 (by omega) (fun k hk => hn k (by omega)) ht hte
  · obtain ⟨p1, p2, acc, p3, p4⟩ := p
    rw [al.len] at p4
    exact q _ _ H' (e1.trans p2) p3 p4
theorem li_lcRz {z : Int} {n j : Nat} {ti : TE} (f : Nat → Bool) (out : Nat → PyData) (h : EvD K ti σ H (.int z)) (hzn : z.toNat = n) (hz0 : -40000 ≤ z) (hz : n ≤ 40000) (hn : ∀ i, i < n → noL (out i) = true)
    (he : ∀ (i : Nat) H1, Ex H H1 → i < n → EvT tt ((wipe σ [j]).set j (some (.int (i : Int)))) H1 (f i) ∧ (f i = true → EvD K te ((wipe σ [j]).set j (some (.int (i : Int)))) H1 (out i))) :
    EvLi K (tLc (iRng1 (tCons ti tNil)) (gName j) tt te [j]) σ H (givenD n f out) := fun H0 e Q q => h H0 e _ fun v H1 e1 hv => by
  cases hv.intD
  refine ⟨z, rfl, by omega, by omega, fun Dl hD => ?_⟩
  rw [hzn]
  refine lc_range (lo := 0) (n := n) (fun i H' => Lw K H1 (givenD i f out) Dl H') ⟨hD, Ex.new hD, [], upd_same, .nil⟩ (fun i H' hi p => ?_) (fun H' p => ?_)
  · have e0 : (0 : Int) + (i : Int) = (i : Int) := Int.zero_add _
    rw [e0]
    obtain ⟨h1, h2⟩ := he i H' ((e.trans e1).trans p.2.1) hi
    exact ⟨wipe1 _, lw_turn (n := n) p (Ex.refl _) (by omega) (fun k hk => hn k (by omega)) h1 h2⟩
  · obtain ⟨p1, p2, acc, p3, p4⟩ := p
    exact q _ _ H' (e1.trans p2) p3 p4
/-- the items told by things of one's own: a list, each told, some taken -/
theorem li_lcMLf {α : Type} {as : List α} (en F : α → PyData) (f : α → Bool) (h : EvD K tl σ H (.list (as.map en))) (hz : as.length ≤ 40000) (hn : ∀ a ∈ as, noL (F a) = true)
    (he : ∀ a x H1, a ∈ as → Ex H H1 → Dp K H1 x (en a) → ∀ Q : L2.St → Hp → Prop, (∀ σ2 H2, Ex H1 H2 → wipe σ2 vs = wipe σ vs → EvT tt σ2 H2 (f a) → (f a = true → EvD K te σ2 H2 (F a)) → Q σ2 H2) → g x (wipe σ vs) H1 Q) :
    EvLi K (tLc (iList K tl) g tt te vs) σ H ((as.filter f).map F) := by
  have q := li_lcLg (K := K) (σ := σ) (H := H) (tl := tl) (te := te) (tt := tt) (g := g) (ds := as.map en) (vs := vs) (fun i => (as[i]?.map f).getD false) (fun i => (as[i]?.map F).getD .none) h (by rw [List.length_map]; exact hz)
    (fun i hi => ?_) (fun i d x H1 e hd hx Q q => ?_)
  · refine li_is q ?_
    rw [List.length_map]
    unfold givenD
    have e : ∀ (l : List α), (∀ a ∈ l, True) → ((List.range l.length).filter fun i => (l[i]?.map f).getD false).map (fun i => (l[i]?.map F).getD .none) = (l.filter f).map F := by
      intro l _
      induction l with
      | nil => rfl
      | cons a l ih =>
        rw [List.length_cons, List.range_succ_eq_map, List.filter_cons, List.filter_map, List.filter_cons]
        have i2 := ih fun _ _ => trivial
        have e0 : ((fun i => (((a :: l)[i]?).map f).getD false) ∘ Nat.succ) = fun i => (l[i]?.map f).getD false := by funext i; simp
        rw [e0]
        have e1 : (((a :: l)[0]?).map f).getD false = f a := by simp
        rw [e1]
        have e2 : (List.map Nat.succ ((List.range l.length).filter fun i => (l[i]?.map f).getD false)).map (fun i => (((a :: l)[i]?).map F).getD .none) = (l.filter f).map F := by
          rw [List.map_map, ← i2]
          refine List.map_congr_left fun i _ => ?_
          simp
        cases f a with
        | true => rw [if_pos rfl, if_pos rfl, List.map_cons, e2, List.map_cons]; rfl
        | false => rw [if_neg (by decide), if_neg (by decide), e2]
    exact e as fun _ _ => trivial
  · rw [List.length_map] at hi
    rw [List.getElem?_eq_getElem hi]
    exact hn _ (List.getElem_mem hi)
  · rw [List.getElem?_map] at hd
    cases hi : as[i]? with
    | none => rw [hi] at hd; cases hd
    | some a =>
      rw [hi] at hd
      cases hd
      refine he a x H1 (List.mem_of_getElem? hi) e hx Q fun σ2 H2 e2 hw ht hte => q σ2 H2 e2 hw ?_ fun z => ?_
      · rw [hi]
        exact ht
      · rw [hi] at z ⊢
        exact hte z
theorem li_lcML {α : Type} {j : Nat} {as : List α} (en F : α → PyData) (h : EvD K tl σ H (.list (as.map en))) (hz : as.length ≤ 40000) (hn : ∀ a ∈ as, noL (F a) = true)
    (he : ∀ a x H1, a ∈ as → Ex H H1 → Dp K H1 x (en a) → EvD K te ((wipe σ [j]).set j (some x)) H1 (F a)) :
    EvLi K (tLc (iList K tl) (gName j) tYes te [j]) σ H (as.map F) := by
  have q := li_lcMLf (K := K) (σ := σ) (H := H) (tl := tl) (te := te) (tt := tYes) (g := gName j) (vs := [j]) en F (fun _ => true) h hz hn fun a x H1 ha e hx Q q => q _ H1 (Ex.refl _) (wipe1 x) et_yes fun _ => he a x H1 ha e hx
  rw [List.filter_eq_self.mpr fun _ _ => rfl] at q
  exact q
theorem li_lcRn {n j : Nat} {ti : TE} (out : Nat → PyData) (h : EvD K ti σ H (.int (n : Int))) (hz : n ≤ 40000) (hn : ∀ i, i < n → noL (out i) = true)
    (he : ∀ (i : Nat) H1, Ex H H1 → i < n → EvD K te ((wipe σ [j]).set j (some (.int (i : Int)))) H1 (out i)) :
    EvLi K (tLc (iRng1 (tCons ti tNil)) (gName j) tYes te [j]) σ H ((List.range n).map out) := by
  have q := li_lcRz (K := K) (σ := σ) (H := H) (ti := ti) (te := te) (tt := tYes) (n := n) (j := j) (z := (n : Int)) (fun _ => true) out h (Int.toNat_natCast n) (by omega) hz hn fun i H1 e hi => ⟨et_yes, fun _ => he i H1 e hi⟩
  rw [givenD_all] at q
  exact q
end
end Lb

set_option Elab.async false
set_option linter.all false
set_option maxRecDepth 100000
set_option maxHeartbeats 4000000
/-! Machines, lines, terms as plain data of Lean, and as Python's data. -/
namespace Lb
open PySem L2 Evl PyProof.Rows

inductive Tm where
  | c (n : Nat)
  | f1 (g : Nat) (a : Tm)
  | f2 (g : Nat) (a b : Tm)
  deriving DecidableEq
def Tm.dep : Tm → Nat
  | .c _ => 1
  | .f1 _ a => a.dep + 1
  | .f2 _ a b => max a.dep b.dep + 1
def Tm.enc : Tm → PyData
  | .c n => .int (n : Int)
  | .f1 g a => .tuple [.int (g : Int), a.enc]
  | .f2 g a b => .tuple [.int (g : Int), a.enc, b.enc]
def Tm.mk (g : Nat) : List Tm → Tm
  | [a] => .f1 g a
  | [a, b] => .f2 g a b
  | _ => .c 0
theorem Tm.noL : ∀ t : Tm, Lb.noL t.enc = true
  | .c n => by simp [Tm.enc, Lb.noL]
  | .f1 g a => by simp [Tm.enc, Lb.noL, noLs, Tm.noL a]
  | .f2 g a b => by simp [Tm.enc, Lb.noL, noLs, Tm.noL a, Tm.noL b]
theorem Tm.dep_pos : ∀ t : Tm, 1 ≤ t.dep
  | .c n => Nat.le_refl _
  | .f1 g a => by show 1 ≤ a.dep + 1; omega
  | .f2 g a b => by show 1 ≤ max a.dep b.dep + 1; omega
/-- the data of some terms -/
def encs (ts : List Tm) : PyData := .tuple (ts.map Tm.enc)
theorem encs_noL (ts : List Tm) : noL (encs ts) = true := by
  unfold encs
  rw [noL_tup]
  refine noLs_iff.mpr fun d hd => ?_
  obtain ⟨t, _, rfl⟩ := List.mem_map.mp hd
  exact t.noL
structure Ln where
  cell : Nat
  fn : Option Nat
  src : List Nat
  deriving DecidableEq
def natsD (ns : List Nat) : PyData := .tuple (ns.map fun (n : Nat) => PyData.int (n : Int))
theorem natsD_noL (ns : List Nat) : noL (natsD ns) = true := by
  unfold natsD
  rw [noL_tup]
  refine noLs_iff.mpr fun d hd => ?_
  obtain ⟨t, _, rfl⟩ := List.mem_map.mp hd
  rfl
def fnD : Option Nat → PyData
  | none => .none
  | some g => .int (g : Int)
def Ln.enc (l : Ln) : PyData := .tuple [.int (l.cell : Int), fnD l.fn, natsD l.src]
theorem fnD_noL (o : Option Nat) : noL (fnD o) = true := by cases o <;> rfl
theorem Ln.noL (l : Ln) : Lb.noL l.enc = true := by
  unfold Ln.enc
  rw [noL_tup, noLs, noLs, noLs, noLs, fnD_noL, natsD_noL]
  rfl
def progD (p : List Ln) : PyData := .tuple (p.map Ln.enc)
theorem progD_noL (p : List Ln) : noL (progD p) = true := by
  unfold progD
  rw [noL_tup]
  refine noLs_iff.mpr fun d hd => ?_
  obtain ⟨t, _, rfl⟩ := List.mem_map.mp hd
  exact t.noL
structure Mc where
  cells : Nat
  fns : List Nat
def Mc.enc (m : Mc) : PyData := .tuple [.int (m.cells : Int), natsD m.fns]
theorem Mc.noL (m : Mc) : Lb.noL m.enc = true := by
  unfold Mc.enc
  rw [noL_tup, noLs, noLs, noLs, natsD_noL]
  rfl
structure Mc.Ok (m : Mc) : Prop where
  c1 : 1 ≤ m.cells
  c4 : m.cells ≤ 4
  f1 : 1 ≤ m.fns.length
  f3 : m.fns.length ≤ 3
  rd : ∀ n ∈ m.fns, 1 ≤ n ∧ n ≤ 2
structure Ln.Ok (m : Mc) (l : Ln) : Prop where
  cell : l.cell < m.cells
  src : ∀ s ∈ l.src, s < m.cells
  cp : l.fn = none → ∃ s, l.src = [s] ∧ s ≠ l.cell
  ap : ∀ g, l.fn = some g → g < m.fns.length ∧ m.fns[g]? = some l.src.length
def at0 (held : List Tm) (s : Nat) : Tm := held.getD s (.c 0)
def Ln.made (l : Ln) (held : List Tm) : Tm := match l.fn with
  | none => at0 held (l.src.headD 0)
  | some g => Tm.mk g (l.src.map (at0 held))
def did (held : List Tm) (l : Ln) : List Tm := held.set l.cell (l.made held)
theorem did_len (held : List Tm) (l : Ln) : (did held l).length = held.length := by unfold did; rw [List.length_set]
/-- terms of a machine -/
inductive Tm.Of (m : Mc) : Tm → Prop where
  | c {n : Nat} : n < m.cells → Tm.Of m (.c n)
  | f1 {g : Nat} {a : Tm} : m.fns[g]? = some 1 → Tm.Of m a → Tm.Of m (.f1 g a)
  | f2 {g : Nat} {a b : Tm} : m.fns[g]? = some 2 → Tm.Of m a → Tm.Of m b → Tm.Of m (.f2 g a b)
structure Held (m : Mc) (held : List Tm) : Prop where
  len : held.length = m.cells
  of : ∀ t ∈ held, Tm.Of m t
theorem Held.at {m : Mc} {held : List Tm} (h : Held m held) {s : Nat} (hs : s < m.cells) : held[s]? = some (at0 held s) ∧ Tm.Of m (at0 held s) := by
  have hl : s < held.length := by rw [h.len]; exact hs
  have e : at0 held s = held[s] := by simp [at0, List.getD_eq_getElem?_getD, List.getElem?_eq_getElem hl]
  rw [e]
  exact ⟨List.getElem?_eq_getElem hl, h.of _ (List.getElem_mem hl)⟩
theorem made_of {m : Mc} {held : List Tm} {l : Ln} (hm : m.Ok) (h : Held m held) (hl : l.Ok m) : Tm.Of m (l.made held) := by
  unfold Ln.made
  cases e : l.fn with
  | none =>
    obtain ⟨s, es, _⟩ := hl.cp e
    have hs : s < m.cells := hl.src s (by rw [es]; exact List.mem_singleton_self _)
    rw [es]
    exact (h.at hs).2
  | some g =>
    obtain ⟨h1, h2⟩ := hl.ap g e
    have hr := hm.rd _ (List.mem_of_getElem? h2)
    match q : l.src with
    | [] => rw [q] at hr; exact absurd hr.1 (by decide)
    | [a] =>
      rw [q] at h2
      exact .f1 h2 (h.at (hl.src a (by rw [q]; simp))).2
    | [a, b] =>
      rw [q] at h2
      exact .f2 h2 (h.at (hl.src a (by rw [q]; simp))).2 (h.at (hl.src b (by rw [q]; simp))).2
    | _ :: _ :: _ :: _ =>
      rw [q] at hr
      have := hr.2
      simp only [List.length_cons] at this
      omega
theorem did_held {m : Mc} {held : List Tm} {l : Ln} (hm : m.Ok) (h : Held m held) (hl : l.Ok m) : Held m (did held l) := by
  refine ⟨by rw [did_len, h.len], fun t ht => ?_⟩
  rcases List.mem_or_eq_of_mem_set ht with q | q
  · exact h.of t q
  · rw [q]
    exact made_of hm h hl
def start0 (n : Nat) : List Tm := (List.range n).map Tm.c
theorem start_held (m : Mc) : Held m (start0 m.cells) := by
  refine ⟨by simp [start0], fun t ht => ?_⟩
  obtain ⟨n, hn, rfl⟩ := List.mem_map.mp ht
  exact .c (List.mem_range.mp hn)
theorem start_enc (n : Nat) : encs (start0 n) = .tuple (rangeD n) := by
  unfold encs start0 rangeD
  rw [List.map_map]
  rfl
end Lb

set_option Elab.async false
set_option linter.all false
set_option maxRecDepth 100000
set_option maxHeartbeats 4000000
/-! defs with defaults -/
namespace Lb
open PySem L2 Evl PyProof.Rows
/-- a def of the text with defaults, called by its name so that all of them stand in -/
def DfnD (K : PySem.W.Frag) (mg : Str → Option Value) (x : Str) (st : Stmt) (ps : List Str) (dvs : List V) : Prop := ∃ f fd ds, FunD K x x (defArgs st) (defBody st) (defScope st) dvs [] f fd ∧ mg x = some (.ref f) ∧ Binds K fd ps ds ∧ Vals dvs ds
def CalD (P : Program) (w : World) (K : PySem.W.Frag) (mg : Str → Option Value) (base : Heap) (k : Nat) (x : Str) (ps : List Str) (sp : Sp) (dvs : List V) : Prop :=
  ∃ f fd ds, FnOk P w K mg base CX0 k f fd ps sp ∧ mg x = some (.ref f) ∧ PySem.W.keepIn K (.ref f) = true ∧ Binds K fd ps ds ∧ Vals dvs ds
theorem FunD.okD {P : Program} {w : World} {K : PySem.W.Frag} {mg : Str → Option Value} {base : Heap} {x qual : Str} {st : Stmt} {dvs : List V} {f : Addr} {fd : FuncData} {N ps : List Str} {k : Nat} {sp : Sp} (F : FunD K x qual (defArgs st) (defBody st) (defScope st) dvs [] f fd) (S : FnScope N ps (defScope st)) (len : ∀ vs H Q E, sp vs H Q E → vs.length = ps.length)
    (hb : ∀ (cdv : Value) (A : Around) (outer : List Env) (s : Shared) (H : Hp) (vs : List V) (Q : VK) (E : XK), Room k (A.deeper (envOfC qual (defScope st) s.heap.objs.size f cdv)) → sp vs H Q E →
      ∃ t, PSs (cxOf CX0 P w K mg base N qual (defScope st) f cdv A outer s H E).nox (defBody st) t ∧ t { nx := fun _ H' => Q .non H', rt := Q } (start N vs) H) : FnOk P w K mg base CX0 (k + 1) f fd ps sp :=
  F.ok S len fun cdv A outer s H vs Q E hr h => by
    obtain ⟨t, h1, q⟩ := hb cdv A outer s H vs Q E hr h
    exact ⟨t, h1.nox, q⟩
theorem DfnD.ok {P : Program} {w : World} {K : PySem.W.Frag} {mg : Str → Option Value} {base : Heap} {x : Str} {st : Stmt} {dvs : List V} {N ps : List Str} {k : Nat} {sp : Sp} (D : DfnD K mg x st ps dvs) (S : FnScope N ps (defScope st)) (len : ∀ vs H Q E, sp vs H Q E → vs.length = ps.length)
    (hb : ∀ (f : Addr) (cdv : Value) (A : Around) (outer : List Env) (s : Shared) (H : Hp) (vs : List V) (Q : VK) (E : XK), Room k (A.deeper (envOfC x (defScope st) s.heap.objs.size f cdv)) → sp vs H Q E →
      ∃ t, PSs (cxOf CX0 P w K mg base N x (defScope st) f cdv A outer s H E).nox (defBody st) t ∧ t { nx := fun _ H' => Q .non H', rt := Q } (start N vs) H) : CalD P w K mg base (k + 1) x ps sp dvs := by
  obtain ⟨f, fd, ds, F, m, b, v⟩ := D
  exact ⟨f, fd, ds, FunD.okD F S len fun cdv A outer s H vs Q E hr h => hb f cdv A outer s H vs Q E hr h, m, F.kp, b, v⟩
theorem pe_calD {X : Cx} {k j : Nat} {x : Str} {ps : List Str} {sp : Sp} {dvs : List V} {p pos : Pos} {e : Expr} {es : List Expr} {t : TA} (C : CalD X.prog X.w X.K X.mg X.base k x ps sp dvs) (hr : Room j X.A) (hk : k ≤ j) (hg : Gl X x) (ha : PA X (e :: es) t)
    (hd : (x == ("__debug__" : Str)) = false := by decide) (h1 : starEach (e :: es) X.env = (false, eval e X.env) :: starEach es X.env := by rfl) (h2 : (backTo pos (starEach es X.env)).any (·.1) = false := by rfl) :
    PE X (.Call (.Name x p) (e :: es) [] pos) (tCall sp dvs E0 t) := by
  obtain ⟨f, fd, ds, F, m, kp, b, v⟩ := C
  exact pe_call F (hr.mono hk) hg m kp b v pass0 ha hd h1 h2
end Lb

set_option Elab.async false
set_option linter.all false
set_option maxRecDepth 100000
set_option maxHeartbeats 4000000
/-! Dicts whose keys are tuples of keys and tuples of keys: (int, (int, ..)), ((int, ..), int). -/
namespace Lb
open PySem L2 Evl PyProof.Rows

abbrev NI := Sum Key (List Key)
def isKey : NI → Bool
  | .inl _ => true
  | .inr _ => false
section
variable (prog : Program) (w : World)
def NItem (h : Heap) : NI → Value → Prop
  | .inl k, v => keyIs k v = true
  | .inr ks, v => ∃ b, v = .ref b ∧ IsTupleKey (mixKind prog w) h ks b
def niHash : NI → Int
  | .inl k => keyH w k
  | .inr ks => tupleKeyHash (mixKind prog w) ks
def niDraws : NI → Nat
  | .inl _ => 1
  | .inr ks => ks.length + 1
def IsNest (sh : List Bool) (h : Heap) (ks : List NI) (a : Addr) : Prop :=
  ks.map isKey = sh ∧ ∃ o items n, h.get? a = some o ∧ o.cls = .type "tuple" ∧ o.data = .seq items n ∧ Paired (NItem prog w h) ks items.toList
def nestHash (ks : List NI) : Int := reduceHash (Builtin.Tuple.tupleHashOf (ks.map (niHash prog w)))
def nestDraws (ks : List NI) : Nat := (ks.map niDraws).sum + 1
end
section
variable {prog : Program} {w : World} {h h' : Heap}
theorem NItem.inj {x y : NI} {v : Value} (a : NItem prog w h x v) (b : NItem prog w h y v) : x = y := by
  cases x with
  | inl k => cases y with
    | inl l => exact congrArg Sum.inl ((mixKind prog w).inj v k l a b)
    | inr l =>
      obtain ⟨c, rfl, _⟩ := b
      rcases keyIs_shape (show keyIs k (.ref c) = true from a) with ⟨_, _, _, e⟩ | ⟨_, _, _, e⟩ <;> exact nomatch e
  | inr k => cases y with
    | inl l =>
      obtain ⟨c, rfl, _⟩ := a
      rcases keyIs_shape (show keyIs l (.ref c) = true from b) with ⟨_, _, _, e⟩ | ⟨_, _, _, e⟩ <;> exact nomatch e
    | inr l =>
      obtain ⟨c, rfl, ha⟩ := a
      obtain ⟨d, e, hb⟩ := b
      cases e
      rw [ha.inj hb]
theorem nis_inj : ∀ {x y : List NI} {vs : List Value}, Paired (NItem prog w h) x vs → Paired (NItem prog w h) y vs → x = y
  | _, _, _, .nil, .nil => rfl
  | _, _, _, .cons a s, .cons b t => by rw [a.inj b, nis_inj s t]
theorem IsNest.inj {sh : List Bool} {a : Addr} {x y : List NI} (hx : IsNest prog w sh h x a) (hy : IsNest prog w sh h y a) : x = y := by
  obtain ⟨_, o, its, n, ho, _, hd, hi⟩ := hx
  obtain ⟨_, o', its', n', ho', _, hd', hi'⟩ := hy
  cases ho.symm.trans ho'
  rw [hd] at hd'
  cases hd'
  exact nis_inj hi hi'
theorem IsNest.keeps {sh : List Bool} {ks : List NI} {a d : Addr} {o : Obj} {es ep} (x : IsNest prog w sh h ks a) (ho : h.get? d = some o) (hd : o.data = .dict es ep) (hs : Heap.SameBut d h h') : IsNest prog w sh h' ks a := by
  obtain ⟨s, o', its, n, ho', hc, hd', hi⟩ := x
  have ne : a ≠ d := fun e => by
    rw [e] at ho'
    cases ho'.symm.trans ho
    rw [hd] at hd'
    cases hd'
  refine ⟨s, o', its, n, (hs.2 a ne).trans ho', hc, hd', Paired.mapP hi fun k v z => ?_⟩
  cases k with
  | inl k => exact z
  | inr k =>
    obtain ⟨b, rfl, hb⟩ := z
    exact ⟨b, rfl, hb.keeps ho hd hs⟩
theorem IsNest.typeIs {s : Shared} {sh : List Bool} {ks : List NI} {a : Addr} (x : IsNest prog w sh s.heap ks a) : s.TypeIs (.ref a) "tuple" := by
  obtain ⟨_, o, _, _, ho, hc, _⟩ := x
  exact ⟨o, ho, hc⟩
variable {A : Around} {E : Value → Shared → Prop} {s : Shared}
theorem ni_hash {k : NI} {v : Value} {Q : Int → Shared → Prop} (hu : A.units < cLine) (hk : NItem prog w s.heap k v) (q : Q (niHash prog w k) { s with toks := s.toks + niDraws k }) : wpAny (model prog w) A (pyHash v) Q E s := by
  cases k with
  | inl k => exact (mixKind prog w).pyHash (k := k) hk q
  | inr ks =>
    obtain ⟨b, rfl, hb⟩ := hk
    exact wpAny_pyHash_tuple hu hb q
theorem nest_hash {sh : List Bool} {ks : List NI} {a : Addr} {Q : Int → Shared → Prop} (hu : A.units + 2 < cLine) (hk : IsNest prog w sh s.heap ks a) (q : Q (nestHash prog w ks) { s with toks := s.toks + nestDraws ks }) :
    wpAny (model prog w) A (pyHash (.ref a)) Q E s := by
  have hT := hk.typeIs
  obtain ⟨_, o, items, n, ho, _, hd, hi⟩ := hk
  unfold pyHash
  unfold pyHashByItsType
  refine wpAny_bind (wpAny_cRoomFor_or (.inr (by omega)) ?_)
  refine wpAny_bind (wpAny_specialOf hT F.slot_tuple_hash.lookup ?_)
  show wpAny _ _ (if (some (Value.builtin "tuple.__hash__") == some Value.none) = true then _ else _) Q E s
  rw [if_neg (by rw [beq_builtin_none]; exact Bool.false_ne_true)]
  refine wpAny_bind (wpAny_specialOf hT F.slot_tuple_hash.lookup ?_)
  show wpAny _ _ (callSpecialIfBoundUnlessNone? (.ref a) "__hash__" _ >>= _) Q E s
  refine wpAny_bind (wpAny_callSpecialIfBoundUnlessNone?_slot hT F.slot_tuple_hash (wpAny_call_entry F.slot_tuple_hash hT F.entry_tuple_hash ?_ (F.args_tuple_hash_1 _)))
  show wpAny _ _ (Builtin.Tuple.tupleItemsOf (.ref a) >>= _) _ _ s
  refine wpAny_bind (wpAny_tupleItemsOf ho hd ?_)
  refine wpAny_bind ?_
  rw [← Array.forIn_toList]
  refine wpAny_forIn_list _ (fun rest (b : Array Int) s' => ∃ done left, ks = done ++ left ∧ Paired (NItem prog w s.heap) left rest ∧ b.toList = done.map (niHash prog w) ∧ s' = { s with toks := s.toks + (done.map niDraws).sum }) _ ?_ ?_ _ _ ⟨[], ks, rfl, hi, rfl, rfl⟩
  · rintro x rest b s' ⟨done, left, rfl, hl, hb, rfl⟩
    obtain ⟨k, ks', rfl, h1, hl'⟩ : ∃ k ks', left = k :: ks' ∧ NItem prog w s.heap k x ∧ Paired (NItem prog w s.heap) ks' rest := by
      cases hl with
      | cons a b => exact ⟨_, _, rfl, a, b⟩
    refine wpAny_bind (ni_hash (k := k) (s := { s with toks := s.toks + (done.map niDraws).sum }) ?_ h1 ?_)
    · first | exact (show A.in1.units < cLine from by have : A.in1.units = A.units + 1 := rfl; omega) | (show A.units < cLine; omega) | (show A.units + 1 < cLine; omega)
    · have fin : ∃ done' left', done ++ k :: ks' = done' ++ left' ∧ Paired (NItem prog w s.heap) left' rest ∧ (b.push (niHash prog w k)).toList = done'.map (niHash prog w) ∧ ({ s with toks := s.toks + (done.map niDraws).sum + niDraws k } : Shared) = { s with toks := s.toks + (done'.map niDraws).sum } :=
        ⟨done ++ [k], ks', by simp, hl', by simp [hb], by simp [Nat.add_assoc]⟩
      first
        | exact wpAny_pure fin
        | exact wpAny_bind (wpAny_pure (wpAny_pure fin))
  · rintro b s' ⟨done, left, rfl, hl, hb, rfl⟩
    cases hl
    rw [List.append_nil] at q
    show wpAny _ _ (retInt (Builtin.Tuple.tupleHashOf b.toList)) _ _ _
    rw [hb]
    refine wpAny_ret_mkInt ?_
    show wpAny _ _ (if (decide (-(2 : Int) ^ 63 ≤ Builtin.Tuple.tupleHashOf (done.map (niHash prog w))) && decide (Builtin.Tuple.tupleHashOf (done.map (niHash prog w)) < 2 ^ 63)) = true then _ else _) Q E _
    unfold nestHash reduceHash nestDraws at q
    by_cases hr : (decide (-(2 : Int) ^ 63 ≤ Builtin.Tuple.tupleHashOf (done.map (niHash prog w))) && decide (Builtin.Tuple.tupleHashOf (done.map (niHash prog w)) < 2 ^ 63)) = true
    · rw [if_pos hr]
      rw [if_pos hr] at q
      exact wpAny_pure (by simpa [Nat.add_assoc] using q)
    · rw [if_neg hr]
      rw [if_neg hr] at q
      exact wpAny_bind (wpAny_rule (wpAny_pure (by simpa [Nat.add_assoc] using q)))
theorem ni_eq {x y : NI} {u v : Value} {Q : Bool → Shared → Prop} (hu : A.units < cLine) (sh : isKey x = isKey y) (hx : NItem prog w s.heap x u) (hy : NItem prog w s.heap y v) (q : Q (decide (x = y)) s) : wpAny (model prog w) A (eqBool u v) Q E s := by
  cases x with
  | inl k => cases y with
    | inl l =>
      refine (mixKind prog w).eqBool (a := k) (b := l) hx hy ?_
      have e : decide ((Sum.inl k : NI) = Sum.inl l) = decide (k = l) := by simp
      rw [← e]
      exact q
    | inr l => cases sh
  | inr k => cases y with
    | inl l => cases sh
    | inr l =>
      obtain ⟨b, rfl, hb⟩ := hx
      obtain ⟨c, rfl, hc⟩ := hy
      refine wpAny_eqBool_tuple hu hb hc ?_
      have e : decide ((Sum.inr k : NI) = Sum.inr l) = decide (k = l) := by simp
      rw [← e]
      exact q
theorem nest_eq {sh : List Bool} {x y : List NI} {a b : Addr} {P : Fin → Shared → Prop} (hu : A.units < cLine) (hx : IsNest prog w sh s.heap x a) (hy : IsNest prog w sh s.heap y b) (q : P (.done (.ret (.bool (decide (x = y))))) s) :
    wpAny (model prog w) A (Builtin.«tuple.__eq__» ⟨[.ref a, .ref b], []⟩) P E s := by
  have hTb := hy.typeIs
  obtain ⟨sx, oa, xs, na, hoa, _, hda, hia⟩ := hx
  obtain ⟨sy, ob, ys, nb, hob, _, hdb, hib⟩ := hy
  show wpAny _ _ (isInstance (.ref b) (.type "tuple") >>= _) _ _ s
  refine wpAny_bind (wpAny_isInstance hTb isSubtype_tuple_tuple ?_)
  simp only [Bool.not_true, Bool.false_eq_true, if_false]
  refine wpAny_bind (wpAny_tupleItemsOf hoa hda ?_)
  refine wpAny_bind (wpAny_tupleItemsOf hob hdb ?_)
  refine wpAny_bind ?_
  have hsz : xs.size = ys.size := by
    have h1 := Paired.length hia
    have h2 := Paired.length hib
    have h3 := congrArg List.length (sx.trans sy.symm)
    rw [List.length_map, List.length_map] at h3
    rw [← Array.length_toList, ← Array.length_toList]
    omega
  refine wpAny_forIn_list _ (fun rest r s' => r.1 = none ∧ s' = s ∧ ∃ x' y' xs' ys', rest = List.zip xs' ys' ∧ x'.map isKey = y'.map isKey ∧ Paired (NItem prog w s.heap) x' xs' ∧ Paired (NItem prog w s.heap) y' ys' ∧ decide (x' = y') = decide (x = y)) _ ?_ ?_ _ _
    ⟨rfl, rfl, x, y, xs.toList, ys.toList, rfl, sx.trans sy.symm, hia, hib, rfl⟩
  · rintro ⟨u, v⟩ rest r s' ⟨hr, rfl, x', y', xs', ys', hz, hsh, hx', hy', hdec⟩
    obtain ⟨k1, x'', u', xs'', rfl, rfl, h1, hx''⟩ : ∃ k1 x'' u' xs'', x' = k1 :: x'' ∧ xs' = u' :: xs'' ∧ NItem prog w s'.heap k1 u' ∧ Paired (NItem prog w s'.heap) x'' xs'' := by
      cases hx' with
      | nil => simp at hz
      | cons a b => exact ⟨_, _, _, _, rfl, rfl, a, b⟩
    obtain ⟨k2, y'', v', ys'', rfl, rfl, h2, hy''⟩ : ∃ k1 x'' u' xs'', y' = k1 :: x'' ∧ ys' = u' :: xs'' ∧ NItem prog w s'.heap k1 u' ∧ Paired (NItem prog w s'.heap) x'' xs'' := by
      cases hy' with
      | nil => simp at hz
      | cons a b => exact ⟨_, _, _, _, rfl, rfl, a, b⟩
    simp only [List.zip_cons_cons, List.cons.injEq, Prod.mk.injEq] at hz
    obtain ⟨⟨rfl, rfl⟩, rfl⟩ := hz
    rw [List.map_cons, List.map_cons, List.cons.injEq] at hsh
    refine wpAny_bind (ni_eq hu hsh.1 h1 h2 ?_)
    by_cases hk : k1 = k2
    · subst hk
      rw [decide_eq_true rfl]
      simp only [Bool.not_true, Bool.false_eq_true, if_false]
      refine wpAny_pure ⟨rfl, rfl, x'', y'', xs'', ys'', rfl, hsh.2, hx'', hy'', ?_⟩
      rw [← hdec]
      by_cases hxy : x'' = y'' <;> simp [hxy]
    · rw [decide_eq_false hk]
      simp only [Bool.not_false, if_true]
      have hf : decide (x = y) = false := by
        rw [← hdec]
        simp [hk]
      rw [hf] at q
      exact wpAny_bind (wpAny_pure (wpAny_pure (wpAny_pure q)))
  · rintro ⟨r1, r2⟩ s' ⟨hr, rfl, x', y', xs', ys', hz, hsh, hx', hy', hdec⟩
    simp only at hr
    subst hr
    refine wpAny_pure ?_
    show P (.done (.ret (.bool (xs.size == ys.size)))) s'
    have he : decide (x = y) = true := by
      rw [← hdec]
      cases hx' with
      | nil => cases hy' with
        | nil => simp
        | cons _ _ => simp at hsh
      | cons _ _ => cases hy' with
        | nil => simp at hsh
        | cons _ _ => simp at hz
    rw [show (xs.size == ys.size) = decide (x = y) by rw [he]; simp [hsz]]
    exact q
theorem nest_eqBool {sh : List Bool} {x y : List NI} {a b : Addr} {Q : Bool → Shared → Prop} (hu : A.units + 2 < cLine) (hx : IsNest prog w sh s.heap x a) (hy : IsNest prog w sh s.heap y b) (q : Q (decide (x = y)) s) : wpAny (model prog w) A (eqBool (.ref a) (.ref b)) Q E s := by
  unfold eqBool
  try with_reducible refine wpAny_holding ?_
  show wpAny _ _ (if (Value.ref a == Value.ref b) = true then _ else _) Q E s
  by_cases hab : (Value.ref a == Value.ref b) = true
  · rw [if_pos hab]
    have e : a = b := by
      have := eq_of_beq hab
      injection this
    subst e
    obtain rfl := hx.inj hy
    exact wpAny_bind (wpAny_rule (wpAny_pure (by simpa using q)))
  · rw [if_neg hab]
    refine wpAny_bind (wpAny_richCompare_same_room (op := .Eq) hx.typeIs hy.typeIs F.slot_tuple_eq
      (wpAny_call_entry F.slot_tuple_eq hx.typeIs F.entry_tuple_eq (nest_eq ?_ hx hy ⟨_, rfl, (fun e => nomatch e), wpAny_truthy_bool q⟩) (F.args_tuple_eq_2 _ _)) (by omega))
    first | (show A.units + 1 < cLine; omega) | (show A.units < cLine; omega) | (show A.units + 2 < cLine; omega)
theorem quiet_tup {ks : List Key} {a : Addr} (n : Nat) {Q : Bool → Shared → Prop} (hk : IsTupleKey (mixKind prog w) s.heap ks a) (q : Q true s) : wpAny (model prog w) A (eqIsQuiet (n + 1) (.ref a)) Q E s := by
  have hT := hk.typeIs
  obtain ⟨o, items, m, ho, _, hd, hi⟩ := hk
  unfold eqIsQuiet
  refine wpAny_bind (wpAny_specialOf hT F.slot_tuple_eq.lookup ?_)
  show wpAny _ _ (isInstance (.ref a) (.type "tuple") >>= _) _ _ s
  refine wpAny_bind (wpAny_isInstance hT isSubtype_tuple_tuple ?_)
  simp only [Bool.not_true, Bool.false_eq_true, if_false]
  refine wpAny_bind (wpAny_seqItems ho hd ?_)
  refine wpAny_bind ?_
  show wpAny _ _ (forIn items _ _) _ _ s
  rw [← Array.forIn_toList]
  refine wpAny_forIn_list _ (fun rest r s' => r.1 = none ∧ s' = s ∧ ∀ v ∈ rest, carriedByValue v = true) _ ?_ ?_ _ _ ⟨rfl, rfl, hi.byValue⟩
  · rintro v rest r s' ⟨hr, rfl, hall⟩
    rw [eqIsQuiet_byValue _ (hall v List.mem_cons_self)]
    refine wpAny_bind (wpAny_pure ?_)
    simp only [Bool.not_true, Bool.false_eq_true, if_false]
    exact wpAny_pure ⟨rfl, rfl, fun u hu' => hall u (List.mem_cons_of_mem _ hu')⟩
  · rintro ⟨r1, r2⟩ s' ⟨hr, rfl, _⟩
    simp only at hr
    subst hr
    exact wpAny_pure q
theorem nest_quiet {sh : List Bool} {ks : List NI} {a : Addr} {Q : Bool → Shared → Prop} (hk : IsNest prog w sh s.heap ks a) (q : Q true s) : wpAny (model prog w) A (eqIsQuiet 8 (.ref a)) Q E s := by
  have hT := hk.typeIs
  obtain ⟨_, o, items, m, ho, _, hd, hi⟩ := hk
  unfold eqIsQuiet
  refine wpAny_bind (wpAny_specialOf hT F.slot_tuple_eq.lookup ?_)
  show wpAny _ _ (isInstance (.ref a) (.type "tuple") >>= _) _ _ s
  refine wpAny_bind (wpAny_isInstance hT isSubtype_tuple_tuple ?_)
  simp only [Bool.not_true, Bool.false_eq_true, if_false]
  refine wpAny_bind (wpAny_seqItems ho hd ?_)
  refine wpAny_bind ?_
  show wpAny _ _ (forIn items _ _) _ _ s
  rw [← Array.forIn_toList]
  refine wpAny_forIn_list _ (fun rest r s' => r.1 = none ∧ s' = s ∧ ∃ l, Paired (NItem prog w s.heap) l rest) _ ?_ ?_ _ _ ⟨rfl, rfl, ks, hi⟩
  · rintro v rest r s' ⟨hr, rfl, l, hl⟩
    obtain ⟨k, l', h1, hl'⟩ : ∃ k l', NItem prog w s'.heap k v ∧ Paired (NItem prog w s'.heap) l' rest := by
      cases hl with
      | cons a b => exact ⟨_, _, a, b⟩
    cases k with
    | inl k =>
      rw [eqIsQuiet_byValue _ ((mixKind prog w).byValue k v h1)]
      refine wpAny_bind (wpAny_pure ?_)
      simp only [Bool.not_true, Bool.false_eq_true, if_false]
      exact wpAny_pure ⟨rfl, rfl, l', hl'⟩
    | inr k =>
      obtain ⟨b, rfl, hb⟩ := h1
      refine wpAny_bind (quiet_tup 6 hb ?_)
      simp only [Bool.not_true, Bool.false_eq_true, if_false]
      exact wpAny_pure ⟨rfl, rfl, l', hl'⟩
  · rintro ⟨r1, r2⟩ s' ⟨hr, rfl, _⟩
    simp only at hr
    subst hr
    exact wpAny_pure q
end
def nestKind (prog : Program) (w : World) (sh : List Bool) : HeapKind prog w (List NI) where
  is := IsNest prog w sh
  hash := nestHash prog w
  draws := nestDraws
  room := fun A => A.units + 2 < cLine
  inj := fun hx hy => hx.inj hy
  keeps := fun x ho hd hs => x.keeps ho hd hs
  pyHash := fun hu hk q => nest_hash hu hk q
  eqBool := fun hu hx hy q => nest_eqBool hu hx hy q
  quiet := fun hk q => nest_quiet hk q
end Lb

set_option Elab.async false
set_option linter.all false
set_option maxRecDepth 100000
set_option maxHeartbeats 4000000
/-! Rules for dicts with nested keys: {}, d[k], k in d, d[k] = v, len, walks. -/
namespace Lb
open PySem L2 Evl PyProof.Rows

def kD : Key → PyData
  | .inl i => .int i
  | .inr x => .str x
def niD : NI → PyData
  | .inl k => kD k
  | .inr ks => .tuple (ks.map kD)
def keyD (ks : List NI) : PyData := .tuple (ks.map niD)
theorem kD_noL (k : Key) : noL (kD k) = true := by cases k <;> rfl
theorem keyD_noL (ks : List NI) : noL (keyD ks) = true := by
  unfold keyD
  rw [noL_tup]
  refine noLs_iff.mpr fun d hd => ?_
  obtain ⟨k, _, rfl⟩ := List.mem_map.mp hd
  cases k with
  | inl k => exact kD_noL k
  | inr l =>
    show noL (.tuple (l.map kD)) = true
    rw [noL_tup]
    refine noLs_iff.mpr fun d hd => ?_
    obtain ⟨k, _, rfl⟩ := List.mem_map.mp hd
    exact kD_noL k
theorem D_key {K : PySem.W.Frag} {H : Hp} {k : Key} {v : V} (h : Dp K H v (kD k)) : v = kV k := by
  cases k with
  | inl i => exact h.intD
  | inr x => exact h.strD
theorem D_keys {K : PySem.W.Frag} {H : Hp} : ∀ {ks : List Key} {vs : List V}, DpAll K H vs (ks.map kD) → vs = ks.map kV
  | [], _, h => by cases h; rfl
  | k :: ks, _, h => by
    cases h with
    | cons a t => rw [D_key a, D_keys t]; rfl
section
variable {X : Cx} {pins : List (Addr × Obj)} {σ : L2.St} {H : Hp} {s : Shared}
theorem ni_of (I : Inv X pins σ H s) : ∀ {ks : List NI} {vs : List V} {us : List Value}, DpAll X.K H vs (ks.map niD) → Vals vs us → Paired (NItem X.prog X.w s.heap) ks us
  | [], _, _, h, r => by cases h; cases r; exact .nil
  | k :: ks, _, _, h, r => by
    cases h with
    | cons a t => cases r with
      | cons r1 rt =>
        refine .cons ?_ (ni_of I t rt)
        cases k with
        | inl k =>
          rw [D_key a] at r1
          exact kV_is (P := X.prog) (w := X.w) r1
        | inr l =>
          obtain ⟨b, xs, rfl, sq, al⟩ := Dp.tupD (show Dp X.K H _ (.tuple (l.map kD)) from a)
          rw [D_keys al] at sq
          obtain ⟨its, rv, ⟨o, h1, h2, n, h3⟩, _⟩ := I.tuple sq
          cases r1
          exact ⟨b, rfl, o, its.toArray, n, h1, h2, h3, by simpa using items_are rv⟩
theorem nest_of {sh : List Bool} (I : Inv X pins σ H s) {ks : List NI} {a : Addr} (hs : ks.map isKey = sh) (h : Dp X.K H (.ref a) (keyD ks)) : IsNest X.prog X.w sh s.heap ks a := by
  obtain ⟨b, xs, e, sq, al⟩ := Dp.tupD h
  cases e
  obtain ⟨its, rv, ⟨o, h1, h2, n, h3⟩, _⟩ := I.tuple sq
  exact ⟨hs, o, its.toArray, n, h1, h2, h3, by simpa using ni_of I al rv⟩
end
/-- the dict at d with the entries xs -/
def nestO (P : Program) (w : World) (sh : List Bool) (d : Addr) (xs : List (List NI × Addr × Value)) : HO := .ext fun h =>
  xs.length ≤ sizeLine ∧ ∃ o es ep, h.get? d = some o ∧ o.ExactDict ∧ o.data = .dict es ep ∧ es.toList = xs.map (entryOfKey (nestKind P w sh)) ∧ (xs.map (·.1)).Nodup
def KN (K : PySem.W.Frag) (sh : List Bool) (H : Hp) : List (List NI × V) → List (List NI × Addr × Value) → Prop := Paired fun p q => p.1 = q.1 ∧ p.1.map isKey = sh ∧ Dp K H (.ref q.2.1) (keyD p.1) ∧ RelV p.2 q.2.2
theorem KN.keeps {K : PySem.W.Frag} {sh : List Bool} {H H' : Hp} {kvs : List (List NI × V)} {xs : List (List NI × Addr × Value)} (r : KN K sh H kvs xs) (e : TK K H H') : KN K sh H' kvs xs :=
  Paired.mapP r fun p q z => ⟨z.1, z.2.1, tmono e _ _ (keyD_noL _) z.2.2.1, z.2.2.2⟩
structure NDict (P : Program) (w : World) (K : PySem.W.Frag) (sh : List Bool) (H : Hp) (d : Addr) (kvs : List (List NI × V)) : Prop where
  sys : (d == sysModules) = false
  ex : ∃ xs, Rd H d (nestO P w sh d xs) ∧ KN K sh H kvs xs
/-- one that may be written -/
structure NDictW (P : Program) (w : World) (K : PySem.W.Frag) (sh : List Bool) (H : Hp) (d : Addr) (kvs : List (List NI × V)) : Prop where
  sys : (d == sysModules) = false
  ex : ∃ xs, H d = some (nestO P w sh d xs) ∧ KN K sh H kvs xs
theorem NDictW.rd {P : Program} {w : World} {K : PySem.W.Frag} {sh : List Bool} {H : Hp} {d : Addr} {kvs : List (List NI × V)} (h : NDictW P w K sh H d kvs) : NDict P w K sh H d kvs := by
  obtain ⟨s, xs, h1, h2⟩ := h
  exact ⟨s, xs, .inl h1, h2⟩
theorem NDictW.noTup {P : Program} {w : World} {K : PySem.W.Frag} {sh : List Bool} {H : Hp} {d : Addr} {kvs : List (List NI × V)} (h : NDictW P w K sh H d kvs) : ∀ xs, ¬ Rd H d (.tup xs) := by
  obtain ⟨s, xs, h1, h2⟩ := h
  exact no_rd h1 (fun _ z => nomatch z) (fun _ _ z => nomatch z)
theorem NDict.noTup {P : Program} {w : World} {K : PySem.W.Frag} {sh : List Bool} {H : Hp} {d : Addr} {kvs : List (List NI × V)} (h : NDict P w K sh H d kvs) : ∀ xs, ¬ Rd H d (.tup xs) := by
  obtain ⟨s, xs, h1, h2⟩ := h
  rcases h1 with h1 | ⟨o, h1⟩
  · exact no_rd h1 (fun _ z => nomatch z) (fun _ _ z => nomatch z)
  · exact no_rd h1 (fun _ z => nomatch z) (fun _ _ z => by unfold nestO at z; cases z)
theorem NDict.keep {P : Program} {w : World} {K : PySem.W.Frag} {sh : List Bool} {H H' : Hp} {d : Addr} {kvs : List (List NI × V)} (h : NDict P w K sh H d kvs) (e : TK K H H') (hd : ∀ o, H d = some o → H' d = some o) : NDict P w K sh H' d kvs := by
  obtain ⟨s, xs, h1, h2⟩ := h
  rcases h1 with h1 | ⟨o, h1⟩
  · exact ⟨s, xs, .inl (hd _ h1), h2.keeps e⟩
  · exact ⟨s, xs, .inr ⟨o, hd _ h1⟩, h2.keeps e⟩
theorem NDict.mono {P : Program} {w : World} {K : PySem.W.Frag} {sh : List Bool} {H H' : Hp} {d : Addr} {kvs : List (List NI × V)} (h : NDict P w K sh H d kvs) (e : Ex H H') : NDict P w K sh H' d kvs := h.keep (TK.of e) fun o ho => e d o ho
/-- it stays where what changes is another thing -/
theorem NDictW.keep {P : Program} {w : World} {K : PySem.W.Frag} {sh : List Bool} {H H' : Hp} {d : Addr} {kvs : List (List NI × V)} (h : NDictW P w K sh H d kvs) (e : TK K H H') (hd : ∀ o, H d = some o → H' d = some o) : NDictW P w K sh H' d kvs := by
  obtain ⟨s, xs, h1, h2⟩ := h
  exact ⟨s, xs, hd _ h1, h2.keeps e⟩
theorem KN.val {K : PySem.W.Frag} {sh : List Bool} {H : Hp} {kvs : List (List NI × V)} {xs : List (List NI × Addr × Value)} (r : KN K sh H kvs xs) (k : List NI) : RelO (valV kvs k) ((atKey xs k).map (·.2)) := by
  unfold KN at r
  induction r with
  | nil => exact True.intro
  | @cons p q ps qs h t ih =>
    obtain ⟨h1, _, _, h2⟩ := h
    by_cases e : p.1 = k
    · have e' : q.1 = k := h1.symm.trans e
      have b : atKey (q :: qs) k = some q.2 := by simp [atKey, List.find?_cons, e']
      rw [valV_pos e, b]
      exact h2
    · have e' : ¬ q.1 = k := fun z => e (h1.trans z)
      have b : atKey (q :: qs) k = atKey qs k := by simp [atKey, List.find?_cons, e']
      rw [valV_neg e, b]
      exact ih
theorem KN.put {K : PySem.W.Frag} {sh : List Bool} {H : Hp} {kvs : List (List NI × V)} {xs : List (List NI × Addr × Value)} (r : KN K sh H kvs xs) {k : List NI} {b : Addr} {y : V} {u : Value} (hs : k.map isKey = sh) (hb : Dp K H (.ref b) (keyD k)) (ry : RelV y u) :
    KN K sh H (putK kvs k y) (storedH xs k b u) := by
  have e : (kvs.any fun kv => decide (kv.1 = k)) = (atKey xs k).isSome := by rw [valV_any, (r.val k).isSome_eq, Option.isSome_map]
  unfold putK storedH
  rw [e]
  cases q : (atKey xs k).isSome with
  | true =>
    rw [if_pos rfl, if_pos rfl]
    unfold KN at r ⊢
    clear e q
    induction r with
    | nil => exact .nil
    | @cons p q ps qs h t ih =>
      rw [List.map_cons, List.map_cons]
      refine .cons ?_ ih
      obtain ⟨h1, h2, h3, h4⟩ := h
      unfold putAt
      by_cases e : p.1 = k
      · rw [if_pos e, if_pos (h1.symm.trans e)]
        exact ⟨h1, h2, h3, ry⟩
      · rw [if_neg e, if_neg (fun z => e (h1.trans z))]
        exact ⟨h1, h2, h3, h4⟩
  | false =>
    rw [if_neg Bool.false_ne_true, if_neg Bool.false_ne_true]
    exact Paired.snoc r ⟨rfl, hs, hb, ry⟩
section
variable {X : Cx} {pins : List (Addr × Obj)} {σ : L2.St} {H : Hp} {s : Shared} {d : Addr} {sh : List Bool} {kvs : List (List NI × V)} {ks : List NI} {y v : V} {u r : Value} {A : Around} {E : Value → Shared → Prop}
theorem KN.nest (I : Inv X pins σ H s) : ∀ {kvs : List (List NI × V)} {xs : List (List NI × Addr × Value)}, KN X.K sh H kvs xs → ∀ x ∈ xs, IsNest X.prog X.w sh s.heap x.1 x.2.1
  | _, _, .nil, _, hx => by cases hx
  | _, _, .cons hq t, x, hx => by
    rcases List.mem_cons.mp hx with e | hx
    · subst e
      rw [← hq.1]
      exact nest_of I hq.2.1 hq.2.2.1
    · exact KN.nest I t x hx
theorem nd_heap (I : Inv X pins σ H s) (h : NDict X.prog X.w X.K sh H d kvs) : ∃ xs, KN X.K sh H kvs xs ∧ xs.length ≤ sizeLine ∧ s.heap.DictOfH (nestKind X.prog X.w sh) d xs := by
  obtain ⟨_, xs, h1, h2⟩ := h
  obtain ⟨⟨hz, o, es, ep, g1, g2, g3, g4, g5⟩, _, _⟩ : ObjOk X.prog X.w H s.heap d (nestO X.prog X.w sh d xs) := rd_of I.hok h1
  exact ⟨xs, h2, hz, o, es, ep, g1, g2, g3, g4, KN.nest I h2, g5⟩
theorem nd_get {Q : Value → Shared → Prop} (hu : A.units + 4 < cLine) (I : Inv X pins σ H s) (h : NDict X.prog X.w X.K sh H d kvs) (hk : Dp X.K H y (keyD ks)) (hs : ks.map isKey = sh) (hv : valV kvs ks = some v) (ry : RelV y u) (q : ∀ w' s', Inv X pins σ H s' → RelV v w' → Q w' s') :
    wpAny (model X.prog X.w) A (getItem (.ref d) u) Q E s := by
  obtain ⟨xs, r, _, dd⟩ := nd_heap I h
  obtain ⟨b, _, e, _⟩ := Dp.tupD hk
  subst e
  cases (show u = Value.ref b from ry)
  obtain ⟨w', hw, rw'⟩ := RelO.some_of (v := v) (o := (atKey xs ks).map (·.2)) (by rw [← hv]; exact r.val ks)
  obtain ⟨p, hp, hp2⟩ := Option.map_eq_some_iff.mp hw
  refine wpAny_getItem_heap (knd := nestKind X.prog X.w sh) (show A.in1.units + 2 < cLine by have : A.in1.units = A.units + 1 := rfl; omega) (nest_of I hs hk) dd hp ?_
  rw [hp2]
  exact q w' _ (I.tok _) rw'
theorem nd_in {Q : Value → Shared → Prop} (hu : A.units + 4 < cLine) (I : Inv X pins σ H s) (h : NDict X.prog X.w X.K sh H d kvs) (hk : Dp X.K H y (keyD ks)) (hs : ks.map isKey = sh) (ry : RelV y u) (q : ∀ s', Inv X pins σ H s' → Q (.bool (valV kvs ks).isSome) s') :
    wpAny (model X.prog X.w) A (compareOp .In u (.ref d)) Q E s := by
  obtain ⟨xs, r, _, dd⟩ := nd_heap I h
  obtain ⟨b, _, e, _⟩ := Dp.tupD hk
  subst e
  cases (show u = Value.ref b from ry)
  refine wpAny_in_heap (knd := nestKind X.prog X.w sh) (show A.in1.units + 2 < cLine by have : A.in1.units = A.units + 1 := rfl; omega) (nest_of I hs hk) h.sys dd ?_
  have z := (r.val ks).isSome_eq
  rw [Option.isSome_map] at z
  rw [← z]
  exact q _ (I.tok _)
theorem nd_notIn {Q : Value → Shared → Prop} (hu : A.units + 4 < cLine) (I : Inv X pins σ H s) (h : NDict X.prog X.w X.K sh H d kvs) (hk : Dp X.K H y (keyD ks)) (hs : ks.map isKey = sh) (ry : RelV y u) (q : ∀ s', Inv X pins σ H s' → Q (.bool (!(valV kvs ks).isSome)) s') :
    wpAny (model X.prog X.w) A (compareOp .NotIn u (.ref d)) Q E s := by
  obtain ⟨xs, r, _, dd⟩ := nd_heap I h
  obtain ⟨b, _, e, _⟩ := Dp.tupD hk
  subst e
  cases (show u = Value.ref b from ry)
  refine wpAny_notIn_heap (knd := nestKind X.prog X.w sh) (show A.in1.units + 2 < cLine by have : A.in1.units = A.units + 1 := rfl; omega) (nest_of I hs hk) h.sys dd ?_
  have z := (r.val ks).isSome_eq
  rw [Option.isSome_map] at z
  rw [← z]
  exact q _ (I.tok _)
theorem nd_set {Q : Unit → Shared → Prop} (hu : A.units + 4 < cLine) (I : Inv X pins σ H s) (h : NDictW X.prog X.w X.K sh H d kvs) (hk : Dp X.K H y (keyD ks)) (hs : ks.map isKey = sh) (hl : kvs.length < sizeLine) (ry : RelV y u) (rv : RelV v r)
    (q : ∀ H' s', Inv X pins σ H' s' → ExB d H H' → NDictW X.prog X.w X.K sh H' d (putK kvs ks v) → Q () s') : wpAny (model X.prog X.w) A (setItem (.ref d) u r) Q E s := by
  obtain ⟨xs, rr, hz, dd⟩ := nd_heap I h.rd
  obtain ⟨b, _, e, _⟩ := Dp.tupD hk
  subst e
  cases (show u = Value.ref b from ry)
  have hlx : kvs.length = xs.length := Paired.length rr
  obtain ⟨_, xs0, e0, r0⟩ := id h
  refine wpAny_setItem_heap (knd := nestKind X.prog X.w sh) (hsz := hz) (show A.in1.units + 2 < cLine by have : A.in1.units = A.units + 1 := rfl; omega) (nest_of I hs hk) dd fun h' dd' hs' => ?_
  obtain ⟨o, es, ep, g1, g2, g3, g4, _, g5⟩ := dd'
  have hz' : (storedH xs ks b r).length ≤ sizeLine := by
    unfold storedH
    split
    · rw [List.length_map]; exact hz
    · rw [List.length_append, List.length_singleton]; omega
  have new : ObjOk X.prog X.w (upd H d (nestO X.prog X.w sh d (storedH xs ks b r))) h' d (nestO X.prog X.w sh d (storedH xs ks b r)) := by
    refine ⟨⟨hz', o, es, ep, g1, g2, g3, g4, g5⟩, ⟨o, g1⟩, fun h1 h2 z k => ?_⟩
    obtain ⟨z1, o, es, ep, z2, z3⟩ := z
    exact ⟨z1, o, es, ep, k _ z2, z3⟩
  have I' := d_write (t' := s.toks + (nestKind X.prog X.w sh).draws ks) I (by rw [e0]; exact True.intro) hs' ⟨o, g1⟩ new
  refine q _ _ I' ExB.upd ⟨h.sys, _, upd_same, (rr.put hs hk rv).keeps (TK.put h.noTup)⟩
end
/-! ### readings -/
def tNGet (P : Program) (w : World) (K : PySem.W.Frag) (td ty : TE) : TE := fun σ H Q => td σ H fun x H1 => ty σ H1 fun y H2 => ∃ d sh kvs ks v, x = .ref d ∧ NDict P w K sh H2 d kvs ∧ Dp K H2 y (keyD ks) ∧ ks.map isKey = sh ∧ valV kvs ks = some v ∧ Q v H2
def tNNotIn (P : Program) (w : World) (K : PySem.W.Frag) (ty td : TE) : TE := fun σ H Q => ty σ H fun y H1 => td σ H1 fun x H2 => ∃ d sh kvs ks, x = .ref d ∧ NDict P w K sh H2 d kvs ∧ Dp K H2 y (keyD ks) ∧ ks.map isKey = sh ∧ Q (.bl (!(valV kvs ks).isSome)) H2
def sNPut (P : Program) (w : World) (K : PySem.W.Frag) (td ty tv : TE) : TS := fun D σ H => tv σ H fun v H1 => td σ H1 fun x H2 => ty σ H2 fun y H3 => ∃ d sh kvs ks, x = .ref d ∧ NDictW P w K sh H3 d kvs ∧ Dp K H3 y (keyD ks) ∧ ks.map isKey = sh ∧ kvs.length < sizeLine ∧
  ∀ H4, ExB d H3 H4 → NDictW P w K sh H4 d (putK kvs ks v) → D.nx σ H4
def tNNew (P : Program) (w : World) (K : PySem.W.Frag) (sh : List Bool) : TE := fun _ H Q => ∀ p H', H p = none → Ex H H' → NDictW P w K sh H' p [] → Q (.ref p) H'
def rNLen (P : Program) (w : World) (K : PySem.W.Frag) : List V → Hp → VK → Prop := fun vs H Q => ∃ d sh kvs, vs = [.ref d] ∧ NDict P w K sh H d kvs ∧ Q (.int (kvs.length : Int)) H
theorem nd_type {X : Cx} {pins : List (Addr × Obj)} {σ : L2.St} {H : Hp} {s : Shared} {d : Addr} {sh : List Bool} {kvs : List (List NI × V)} (I : Inv X pins σ H s) (h : NDict X.prog X.w X.K sh H d kvs) : s.TypeIs (.ref d) "dict" := by
  obtain ⟨_, _, _, dd⟩ := nd_heap I h
  exact dd.typeIs
section
variable {X : Cx} {o i e value : Expr} {pos pos' tpos : Pos} {td ty tv : TE}
theorem pe_dgetN (hu : X.A.units + 4 < cLine) (ho : PE X o td) (hi : PE X i ty) (hs : NoSl i) : PE X (.Subscript o i pos) (tNGet X.prog X.w X.K td ty) := by
  constructor
  intro pins s σ H Q I h
  refine subD_of PySem.F.slot_dict_getitem.lookup hs (thn (ho.run pins s σ H _ I h) fun u s1 hx => ?_)
  obtain ⟨x, H1, I1, rx, q1⟩ := hx
  refine thn (hi.run pins s1 σ H1 _ I1 q1) fun iv s2 hy => ?_
  obtain ⟨y, H2, I2, ry, d, sh, kvs, ks, v, ex, hd, hk, hsh, hv, q2⟩ := hy
  subst ex
  cases (show u = Value.ref d from rx)
  exact ⟨nd_type I2 hd, nd_get hu I2 hd hk hsh hv ry fun w' s3 I3 rw' => ⟨v, H2, I3, rw', q2⟩⟩
theorem pc_dnotinN (hu : X.A.units + 4 < cLine) (hi : PE X i ty) (ho : PE X o td) : PC X .NotIn i o (tNNotIn X.prog X.w X.K ty td) := by
  constructor
  intro pins s σ H Q I h
  refine thn (hi.run pins s σ H _ I h) fun iv s1 hy => ?_
  obtain ⟨y, H1, I1, ry, q1⟩ := hy
  refine thn (ho.run pins s1 σ H1 _ I1 q1) fun u s2 hx => ?_
  obtain ⟨x, H2, I2, rx, d, sh, kvs, ks, ex, hd, hk, hsh, q2⟩ := hx
  subst ex
  cases (show u = Value.ref d from rx)
  exact nd_notIn hu I2 hd hk hsh ry fun s3 I3 => ⟨.bl (!(valV kvs ks).isSome), H2, I3, rfl, q2⟩
theorem ps_dputN (hu : X.A.units + 4 < cLine) (ho : PE X o td) (hi : PE X i ty) (hv : PE X value tv) (hs : swapsWith value (some (.Subscript o i pos')) pos.line X.env = pure false) :
    PS X (.Assign [.Subscript o i pos'] value pos) (sNPut X.prog X.w X.K td ty tv) := by
  constructor
  intro pins s σ H D I h
  refine wpAny_Assign_Subscript (thn (hv.run pins s σ H _ I h) fun r s1 hr => ?_) hs
  obtain ⟨v, H1, I1, rv, q1⟩ := hr
  refine thn (ho.run pins s1 σ H1 _ I1 q1) fun u s2 hx => ?_
  obtain ⟨x, H2, I2, rx, q2⟩ := hx
  refine thn (hi.run pins s2 σ H2 _ I2 q2) fun iv s3 hy => ?_
  obtain ⟨y, H3, I3, ry, d, sh, kvs, ks, ex, hd, hk, hsh, hl, q3⟩ := hy
  subst ex
  cases (show u = Value.ref d from rx)
  exact nd_set hu I3 hd hk hsh hl ry rv fun H4 s4 I4 e4 d4 => ⟨σ, H4, I4, q3 H4 e4 d4⟩
theorem nest_empty {P : Program} {w : World} {sh : List Bool} {H : Hp} (h : Heap) : ObjOk P w H (h.push { cls := .type "dict", data := .dict #[] }) h.objs.size (nestO P w sh h.objs.size []) := by
  refine ⟨⟨Nat.zero_le _, _, #[], 0, Heap.get?_push_size _ rfl, ⟨rfl, rfl, rfl⟩, rfl, rfl, List.nodup_nil⟩, ⟨_, Heap.get?_push_size _ rfl⟩, fun h1 h2 z k => ?_⟩
  obtain ⟨z1, o, es, ep, z2, z3⟩ := z
  exact ⟨z1, o, es, ep, k _ z2, z3⟩
theorem pe_dnewN (sh : List Bool) : PE X (.Dict [] [] pos) (tNNew X.prog X.w X.K sh) := ⟨fun pins s σ H Q I h =>
  wpAny_Dict_empty ⟨.ref s.heap.objs.size, _, I.laid (a := s.heap.objs.size) (o := nestO X.prog X.w sh s.heap.objs.size []) (t' := s.toks) (fun _ _ q => Heap.get?_push_of_some _ q) (Nat.le_refl _) (nest_empty s.heap), rfl,
    h _ _ (I.hok.fresh (Nat.le_refl _)) (Ex.new (I.hok.fresh (Nat.le_refl _))) ⟨beq_eq_false_iff_ne.mpr (Ne.symm (Nat.ne_of_lt I.big)), [], upd_same, .nil⟩⟩⟩
theorem call_lenN : CallR X (.builtin "len") (rNLen X.prog X.w X.K) := by
  intro pins s σ H vs us Q I rv h
  obtain ⟨d, sh, kvs, rfl, hd, q⟩ := h
  cases rv with
  | cons r rr =>
    cases rr
    cases r
    obtain ⟨xs, rr, hz, dd⟩ := nd_heap I hd
    have hl : kvs.length = xs.length := Paired.length rr
    refine call_len_dictH hd.sys dd (by rw [sizeLine_eq] at hz; omega) ?_
    rw [← hl]
    exact ⟨.int ((kvs.length : Nat) : Int), H, I.tok _, ⟨_, rfl⟩, q⟩
end
end Lb

set_option Elab.async false
set_option linter.all false
set_option maxRecDepth 100000
set_option maxHeartbeats 4000000
/-! for k in d, for k, v in d.items() of a dict with nested keys; the dict is locked from there on. -/
namespace Lb
open PySem L2 Evl PyProof.Rows
/-- the locked dict: its object od, its entries xs -/
def Lkd (P : Program) (w : World) (sh : List Bool) (d : Addr) (od : Obj) (xs : List (List NI × Addr × Value)) (H : Hp) : Prop := H d = some (.frz od (nestO P w sh d xs))
def Ikn (P : Program) (w : World) (sh : List Bool) (d : Addr) (od : Obj) (xs : List (List NI × Addr × Value)) : It :=
  ⟨fun i H => Lkd P w sh d od xs H ∧ i < xs.length, fun i H x H' => H' = H ∧ ∃ k q u, xs[i]? = some (k, q, u) ∧ x = .ref q, fun i H => Lkd P w sh d od xs H ∧ xs.length ≤ i⟩
section
variable {X : Cx} {pins : List (Addr × Obj)} {σ : L2.St} {H : Hp} {s : Shared} {d : Addr} {sh : List Bool} {od : Obj} {xs : List (List NI × Addr × Value)}
theorem lkd_raw (I : Inv X pins σ H s) (h : Lkd X.prog X.w sh d od xs H) : s.heap.get? d = some od ∧ od.ExactDict ∧ ∃ es ep, od.data = .dict es ep ∧ es.toList = xs.map (entryOfKey (nestKind X.prog X.w sh)) := by
  obtain ⟨g, ⟨hz, o, es, ep, g1, g2, g3, g4, g5⟩, _⟩ : ObjOk X.prog X.w H s.heap d (.frz od (nestO X.prog X.w sh d xs)) := I.hok d _ h
  cases g.symm.trans g1
  exact ⟨g, g2, es, ep, g3, g4⟩
end
theorem turn_kn {P : Program} {w : World} {K : PySem.W.Frag} {tg : Expr} {d : Addr} {sh : List Bool} {od : Obj} {xs : List (List NI × Addr × Value)} {es : Array DictEntry} {ep : Nat} (it : Addr) (hod : od.data = .dict es ep) (hes : es.toList = xs.map (entryOfKey (nestKind P w sh))) :
    Turn P w K tg (Ikn P w sh d od xs) [it] it (fun i h => h.IsKeyIter it d i xs.length ep) where
  mem := List.mem_singleton_self _
  obj := fun i h st b hb => by
    cases List.mem_singleton.mp hb
    obtain ⟨oi, e, c, dd⟩ := st
    exact ⟨oi, e, fun v z => by rw [dd] at z; cases z⟩
  keep := fun i h h' st k => st.at fun oi e => k it (List.mem_singleton_self _) oi e
  item := by
    intro X hP hw hK hc i pins s σ H E I hf st hg
    subst hP hw hK
    obtain ⟨hd, hi⟩ := hg
    obtain ⟨f0, f1, f2, f3, f4, f5⟩ := hf it (List.mem_singleton_self _)
    obtain ⟨hgd, hx, es', ep', hdt, hes'⟩ := lkd_raw I hd
    obtain ⟨rfl, rfl⟩ := dict_ep hod hdt
    obtain ⟨⟨k, q, u⟩, hkv⟩ : ∃ p, xs[i]? = some p := ⟨xs[i], List.getElem?_eq_getElem hi⟩
    have hen := entry_at hes i
    rw [hkv] at hen
    refine next_key_item st hgd hdt (size_of_entries hes) hen fun h' st' sb => ?_
    have I1 : Inv X pins σ H { s with heap := h' } := I.turned (t' := s.toks) (fun b ob hb e => (sb.2 b hb).trans e) f0 f1 f3 f4 f5
    obtain ⟨oi, e, c, dd⟩ := id st'
    exact ⟨_, rfl, go_of (s := { s with heap := h' }) e c dd (by decide) ⟨.ref q, H, I1, rfl, ⟨rfl, k, q, u, hkv, rfl⟩, st', fun b hb => (hf b hb).1⟩⟩
  done := by
    intro X hP hw hK hc i pins s σ H E I hf st hg
    subst hP hw hK
    obtain ⟨hd, hi⟩ := hg
    obtain ⟨f0, f1, f2, f3, f4, f5⟩ := hf it (List.mem_singleton_self _)
    obtain ⟨hgd, hx, es', ep', hdt, hes'⟩ := lkd_raw I hd
    obtain ⟨rfl, rfl⟩ := dict_ep hod hdt
    exact next_key_end (I.ok.hd hc) st hgd hdt (size_of_entries hes) hi fun h' eb => ⟨rfl, I.turned (t' := s.toks) (fun b ob hb e => eb b ob hb e) f0 f1 f3 f4 f5⟩
  self := fun A i s Q E st h => by
    refine wpAny_pyIter_slot st.typeIs PySem.F.slot_dict_keyiterator_iter (wpAny_call_entry PySem.F.slot_dict_keyiterator_iter st.typeIs PySem.F.entry_dict_keyiterator_iter ?_ (PySem.F.args_dict_keyiterator_iter_1 _))
    show wpAny _ _ (ret (.ref it)) _ _ s
    exact wpAny_pure ⟨_, rfl, "dict_keyiterator", _, st.typeIs, PySem.F.slot_dict_keyiterator_next.lookup, h⟩
/-- the entries' values, as values without tokens -/
def VsOf (vs : List V) (xs : List (List NI × Addr × Value)) : Prop := Paired (fun (v : V) (x : List NI × Addr × Value) => RelV v x.2.2) vs xs
def Iit (P : Program) (w : World) (sh : List Bool) (d : Addr) (od : Obj) (xs : List (List NI × Addr × Value)) (vs : List V) : It :=
  ⟨fun i H => Lkd P w sh d od xs H ∧ i < xs.length, fun i H x H' => ∃ T k q u v, xs[i]? = some (k, q, u) ∧ vs[i]? = some v ∧ x = .ref T ∧ H T = none ∧ H' = upd H T (.tup [.ref q, v]), fun i H => Lkd P w sh d od xs H ∧ xs.length ≤ i⟩
theorem vs_at : ∀ {vs : List V} {xs : List (List NI × Addr × Value)} {i : Nat} {x : List NI × Addr × Value}, VsOf vs xs → xs[i]? = some x → ∃ v, vs[i]? = some v ∧ RelV v x.2.2
  | _, _, 0, x, .cons h _, e => by
    simp at e
    subst e
    exact ⟨_, rfl, h⟩
  | _, _, i + 1, x, .cons _ t, e => by
    obtain ⟨v, h1, h2⟩ := vs_at (i := i) t (by simpa using e)
    exact ⟨v, by simpa using h1, h2⟩
  | _, _, _, _, .nil, e => by simp at e
theorem turn_in {P : Program} {w : World} {K : PySem.W.Frag} {elts : List Expr} {kk : Nat} {tpos : Pos} {d : Addr} {sh : List Bool} {od : Obj} {xs : List (List NI × Addr × Value)} {vs : List V} {es : Array DictEntry} {ep : Nat} (it : Addr) (hod : od.data = .dict es ep) (hes : es.toList = xs.map (entryOfKey (nestKind P w sh))) (hvs : VsOf vs xs) :
    Turn P w K (.Tuple elts kk tpos) (Iit P w sh d od xs vs) [it] it (fun i h => ∃ ok ov, IsItemIter h it d i xs.length ep ok ov) where
  mem := List.mem_singleton_self _
  obj := fun i h st b hb => by
    cases List.mem_singleton.mp hb
    obtain ⟨ok, ov, e⟩ := st
    exact ⟨_, e, fun v z => nomatch z⟩
  keep := fun i h h' st k => by
    obtain ⟨ok, ov, e⟩ := st
    exact ⟨ok, ov, k it (List.mem_singleton_self _) _ e⟩
  item := by
    intro X hP hw hK hc i pins s σ H E I hf st hg
    subst hP hw hK
    obtain ⟨hd, hi⟩ := hg
    obtain ⟨hgd, hx, es', ep', hdt, hes'⟩ := lkd_raw I hd
    obtain ⟨rfl, rfl⟩ := dict_ep hod hdt
    obtain ⟨⟨k, q, u⟩, hkv⟩ : ∃ p, xs[i]? = some p := ⟨xs[i], List.getElem?_eq_getElem hi⟩
    obtain ⟨v, hv, rv⟩ := vs_at hvs hkv
    obtain ⟨ok, ov, he⟩ := st
    have hsz := size_of_entries hes
    have hie : i < es'.size := by rw [hsz]; exact hi
    have hen : es'[i] = entryOfKey (nestKind X.prog X.w sh) (k, q, u) := by
      have z := entry_at hes i
      rw [hkv, Array.getElem?_eq_getElem hie] at z
      exact Option.some.inj z
    have hlt : it < s.heap.objs.size := Heap.lt_size he
    refine DT.nextI (es := es') (by rw [hsz]; exact he) ⟨od, hgd, hx, hdt⟩ hie fun h' ho hT hz hk => ?_
    refine ⟨_, rfl, wpAny_letOwnedTupleGo_items (s := { s with heap := h' }) ho fun h'' he' sb => ?_⟩
    have hT2 := (sb.2 _ (Nat.ne_of_gt hlt)).trans hT
    rw [hen] at hT2
    have new : ObjOk X.prog X.w (upd H s.heap.objs.size (.tup [.ref q, v])) h'' s.heap.objs.size (.tup [.ref q, v]) :=
      ⟨by show 2 ≤ sizeLine; decide, [.ref q, u], .cons rfl (.cons rv .nil), ⟨_, hT2, rfl, _, rfl⟩⟩
    have I1 : Inv X pins σ (upd H s.heap.objs.size (.tup [.ref q, v])) { s with heap := h'' } :=
      I.turnedNew (t' := s.toks) (ch := [it]) (fun b ob hb z => (sb.2 b (by simpa using hb)).trans (hk b ob (by simpa using hb) z)) hf (Nat.le_refl _) new
    refine ⟨.ref s.heap.objs.size, _, I1, rfl, ⟨_, k, q, u, v, hkv, hv, rfl, I.hok.fresh (Nat.le_refl _), rfl⟩, ⟨_, _, by rw [← hsz]; exact he'⟩, fun b hb => ?_⟩
    cases List.mem_singleton.mp hb
    rw [upd_ne (Nat.ne_of_lt hlt)]
    exact (hf it (List.mem_singleton_self _)).1
  done := by
    intro X hP hw hK hc i pins s σ H E I hf st hg
    subst hP hw hK
    obtain ⟨hd, hi⟩ := hg
    obtain ⟨f0, f1, f2, f3, f4, f5⟩ := hf it (List.mem_singleton_self _)
    obtain ⟨hgd, hx, es', ep', hdt, hes'⟩ := lkd_raw I hd
    obtain ⟨rfl, rfl⟩ := dict_ep hod hdt
    obtain ⟨ok, ov, he⟩ := st
    have hsz := size_of_entries hes
    exact DT.endI (es := es') (I.ok.hd hc) (by rw [hsz]; exact he) ⟨od, hgd, hx, hdt⟩ (by rw [hsz]; exact hi) fun h' eb => ⟨rfl, I.turned (t' := s.toks) (fun b ob hb e => eb b ob hb e) f0 f1 f3 f4 f5⟩
  self := fun A i s Q E st h => let ⟨_, _, e⟩ := st; PySem.W.kcp_self e h
/-- the walk begins: the dict is locked -/
def iNK (P : Program) (w : World) (K : PySem.W.Frag) (td : TE) : TI := fun σ H R => td σ H fun x H1 => ∃ d sh kvs, x = .ref d ∧ NDict P w K sh H1 d kvs ∧
  ∀ od xs H2, KN K sh H2 kvs xs → Lkd P w sh d od xs H2 → ExB d H1 H2 → R (Ikn P w sh d od xs) H2
def iNI (P : Program) (w : World) (K : PySem.W.Frag) (td : TE) : TI := fun σ H R => td σ H fun x H1 => ∃ d sh kvs, x = .ref d ∧ NDict P w K sh H1 d kvs ∧
  ∀ od xs H2, KN K sh H2 kvs xs → Lkd P w sh d od xs H2 → ExB d H1 H2 → R (Iit P w sh d od xs (kvs.map (·.2))) H2
theorem KN.vs {K : PySem.W.Frag} {sh : List Bool} {H : Hp} : ∀ {kvs : List (List NI × V)} {xs : List (List NI × Addr × Value)}, KN K sh H kvs xs → VsOf (kvs.map (·.2)) xs
  | _, _, .nil => .nil
  | _, _, .cons h t => .cons h.2.2.2 (KN.vs t)
section
variable {X : Cx} {tg e : Expr} {td : TE} {apos cpos : Pos}
theorem pi_keysN (he : PE X e td) : PI X tg e (iNK X.prog X.w X.K td) := by
  constructor
  intro pins s σ H R I h
  refine thn (he.run pins s σ H _ I h) fun u s1 hx => ?_
  obtain ⟨x, H1, I1, rx, d, sh, kvs, ex, hd, q⟩ := hx
  subst ex
  cases (show u = Value.ref d from rx)
  obtain ⟨hs, xs, e0, r0⟩ := id hd
  obtain ⟨od, H2, I2, lk, ex, tk⟩ : ∃ (od : Obj) (H2 : Hp), Inv X pins σ H2 s1 ∧ Lkd X.prog X.w sh d od xs H2 ∧ ExB d H1 H2 ∧ TK X.K H1 H2 := by
    rcases e0 with e0 | ⟨od, e0⟩
    · obtain ⟨od, I2⟩ := I1.lock e0 True.intro
      exact ⟨od, _, I2, upd_same, ExB.upd, TK.put hd.noTup⟩
    · exact ⟨od, H1, I1, e0, ExB.refl, TK.refl _⟩
  obtain ⟨hgd, hx, es, ep, hdt, hes⟩ := lkd_raw I2 lk
  refine iter_keys hs hgd hx hdt (pi_one (tk := s1.toks) I2 _ (turn_kn _ hdt hes) ⟨_, Heap.get?_push_size _ rfl, rfl, ?_⟩ (q od xs _ (r0.keeps tk) lk ex))
  rw [size_of_entries hes] <;> rfl
theorem pi_itemsN {elts : List Expr} {kk : Nat} {tpos : Pos} (he : PE X e td) (hbase : attributeBase e "items" X.env (eval e X.env) = eval e X.env := by rfl) (hline : (apos.endLine == cpos.line) = true := by rfl) :
    PI X (.Tuple elts kk tpos) (.Call (.Attribute e "items" apos) [] [] cpos) (iNI X.prog X.w X.K td) := by
  constructor
  intro pins s σ H R I h
  refine wpAny_Call_method (T := "dict") (id := "dict.items") hbase rfl hline PySem.F.plainAttrs_dict PySem.F.slot_dict_items PySem.F.type_dict_items (thn (he.run pins s σ H _ I h) fun u s1 hx => ?_)
  obtain ⟨x, H1, I1, rx, d, sh, kvs, ex, hd, q⟩ := hx
  subst ex
  cases (show u = Value.ref d from rx)
  obtain ⟨hs, xs, e0, r0⟩ := id hd
  obtain ⟨od, H2, I2, lk, ex, tk⟩ : ∃ (od : Obj) (H2 : Hp), Inv X pins σ H2 s1 ∧ Lkd X.prog X.w sh d od xs H2 ∧ ExB d H1 H2 ∧ TK X.K H1 H2 := by
    rcases e0 with e0 | ⟨od, e0⟩
    · obtain ⟨od, I2⟩ := I1.lock e0 True.intro
      exact ⟨od, _, I2, upd_same, ExB.upd, TK.put hd.noTup⟩
    · exact ⟨od, H1, I1, e0, ExB.refl, TK.refl _⟩
  obtain ⟨hgd, hx, es, ep, hdt, hes⟩ := lkd_raw I2 lk
  have raw : DT.Raw s1.heap d es ep := ⟨od, hgd, hx, hdt⟩
  refine ⟨raw.typeIs, fun b q => by cases q; exact ⟨od, hgd, hx.2.1⟩, ?_⟩
  have I3 : Inv X pins σ H2 { s1 with heap := s1.heap.push { cls := .type "dict_items", data := .fields #[.ref d] } } := I2.kept (t' := s1.toks) fun b ob q => Heap.get?_push_of_some _ q
  have fin : wpAny (model X.prog X.w) X.A (pyIter (.ref s1.heap.objs.size)) (PIE X pins σ (.Tuple elts kk tpos) R) X.xe { s1 with heap := s1.heap.push { cls := .type "dict_items", data := .fields #[.ref d] } } := by
    refine DT.iterI (d := d) (es := es) (ep := ep) ⟨_, Heap.get?_push_size _ rfl, rfl, rfl⟩ (raw.push _) (pi_one (tk := s1.toks) I3 _ (turn_in _ hdt hes r0.vs) ⟨.none, .none, ?_⟩ (q od xs _ (r0.keeps tk) lk ex))
    rw [← size_of_entries hes]
    exact Heap.get?_push_size _ rfl
  show wpAny _ _ (callWith cpos (.builtin "dict.items") [.ref d] [] []) _ X.xe s1
  exact method_meetsIn PySem.F.slot_dict_items PySem.F.entry_dict_items rfl (PySem.evalArgs_none ⟨rfl, raw.typeIs, PySem.F.args_dict_items_1 _, _, DT.meetsItems (es := es) (ep := ep) hs, raw, fin⟩)
end
/-! ### loops over them -/
section
variable {P : Program} {w : World} {K : PySem.W.Frag} {sh : List Bool} {d : Addr} {od : Obj} {xs : List (List NI × Addr × Value)} {vs : List V} {g : TG} {tb : TS} {D : Ends} {σ : L2.St} {H : Hp}
theorem for_kn (Pv : Nat → L2.St → Hp → Prop) (h0 : Pv 0 σ H) (hG : ∀ i σ H, i ≤ xs.length → Pv i σ H → Lkd P w sh d od xs H)
    (hs : ∀ i k q u σ H, xs[i]? = some (k, q, u) → Pv i σ H → g (.ref q) σ H fun σ2 H2 => tb { D with nx := Pv (i + 1), ct := Pv (i + 1), bk := D.nx } σ2 H2) (hd : ∀ σ H, Pv xs.length σ H → D.nx σ H) :
    ∃ W : Nat → Nat → L2.St → Hp → Prop, (∃ m, W 0 m σ H) ∧ ∀ i m σ H, W i m σ H →
      ((Ikn P w sh d od xs).stop i H ∧ D.nx σ H) ∨ ((Ikn P w sh d od xs).go i H ∧ ∃ N : L2.St → Hp → Prop, (∀ σ' H', N σ' H' → ∃ m', m' < m ∧ W (i + 1) m' σ' H') ∧ ∀ x H', (Ikn P w sh d od xs).yld i H x H' → g x σ H' fun σ2 H2 => tb { D with nx := N, ct := N, bk := D.nx } σ2 H2) := by
  refine ⟨fun i m σ H => m = xs.length - i ∧ i ≤ xs.length ∧ Pv i σ H, ⟨xs.length, by simp, Nat.zero_le _, h0⟩, ?_⟩
  rintro i m σ H ⟨rfl, hi, p⟩
  have q := hG i σ H hi p
  rcases Nat.lt_or_ge i xs.length with hlt | hge
  · refine .inr ⟨⟨q, hlt⟩, Pv (i + 1), fun σ' H' p' => ⟨xs.length - (i + 1), by omega, rfl, hlt, p'⟩, fun v H' y => ?_⟩
    obtain ⟨rfl, k, a, u, h1, rfl⟩ := y
    exact hs i k a u σ H' h1 p
  · have e : i = xs.length := by omega
    subst e
    exact .inl ⟨⟨q, Nat.le_refl _⟩, hd σ H p⟩
theorem for_in (Pv : Nat → L2.St → Hp → Prop) (h0 : Pv 0 σ H) (hG : ∀ i σ H, i ≤ xs.length → Pv i σ H → Lkd P w sh d od xs H)
    (hs : ∀ i k q u v T σ H, xs[i]? = some (k, q, u) → vs[i]? = some v → Pv i σ H → H T = none → g (.ref T) σ (upd H T (.tup [.ref q, v])) fun σ2 H2 => tb { D with nx := Pv (i + 1), ct := Pv (i + 1), bk := D.nx } σ2 H2) (hd : ∀ σ H, Pv xs.length σ H → D.nx σ H) :
    ∃ W : Nat → Nat → L2.St → Hp → Prop, (∃ m, W 0 m σ H) ∧ ∀ i m σ H, W i m σ H →
      ((Iit P w sh d od xs vs).stop i H ∧ D.nx σ H) ∨ ((Iit P w sh d od xs vs).go i H ∧ ∃ N : L2.St → Hp → Prop, (∀ σ' H', N σ' H' → ∃ m', m' < m ∧ W (i + 1) m' σ' H') ∧ ∀ x H', (Iit P w sh d od xs vs).yld i H x H' → g x σ H' fun σ2 H2 => tb { D with nx := N, ct := N, bk := D.nx } σ2 H2) := by
  refine ⟨fun i m σ H => m = xs.length - i ∧ i ≤ xs.length ∧ Pv i σ H, ⟨xs.length, by simp, Nat.zero_le _, h0⟩, ?_⟩
  rintro i m σ H ⟨rfl, hi, p⟩
  have q := hG i σ H hi p
  rcases Nat.lt_or_ge i xs.length with hlt | hge
  · refine .inr ⟨⟨q, hlt⟩, Pv (i + 1), fun σ' H' p' => ⟨xs.length - (i + 1), by omega, rfl, hlt, p'⟩, fun v H' y => ?_⟩
    obtain ⟨T, k, a, u, v, h1, h2, rfl, h3, rfl⟩ := y
    exact hs i k a u v T σ H h1 h2 p h3
  · have e : i = xs.length := by omega
    subst e
    exact .inl ⟨⟨q, Nat.le_refl _⟩, hd σ H p⟩
end
end Lb

set_option Elab.async false
set_option linter.all false
set_option maxRecDepth 100000
set_option maxHeartbeats 4000000
/-! {k: v}, one pair, k a nested key. -/
namespace Lb
open PySem L2 Evl PyProof.Rows
section
variable {X : Cx} {pins : List (Addr × Obj)} {σ : L2.St} {H : Hp} {s : Shared} {d : Addr} {sh : List Bool} {kvs : List (List NI × V)} {ks : List NI} {y v : V} {u r : Value} {A : Around} {E : Value → Shared → Prop}
theorem nd_dset {Q : Unit → Shared → Prop} (hu : A.units + 4 < cLine) (I : Inv X pins σ H s) (h : NDictW X.prog X.w X.K sh H d kvs) (hk : Dp X.K H y (keyD ks)) (hs : ks.map isKey = sh) (hl : kvs.length < sizeLine) (ry : RelV y u) (rv : RelV v r)
    (q : ∀ H' s', Inv X pins σ H' s' → ExB d H H' → NDictW X.prog X.w X.K sh H' d (putK kvs ks v) → Q () s') : wpAny (model X.prog X.w) A (dictSet d u r) Q E s := by
  obtain ⟨xs, rr, hz, dd⟩ := nd_heap I h.rd
  obtain ⟨b, _, e, _⟩ := Dp.tupD hk
  subst e
  cases (show u = Value.ref b from ry)
  have hlx : kvs.length = xs.length := Paired.length rr
  obtain ⟨_, xs0, e0, r0⟩ := id h
  refine wpAny_dictSet_heap (knd := nestKind X.prog X.w sh) (hsz := hz) (show A.units + 2 < cLine by omega) (nest_of I hs hk) dd fun h' dd' hs' => ?_
  obtain ⟨o, es, ep, g1, g2, g3, g4, _, g5⟩ := dd'
  have hz' : (storedH xs ks b r).length ≤ sizeLine := by
    unfold storedH
    split
    · rw [List.length_map]; exact hz
    · rw [List.length_append, List.length_singleton]; omega
  have new : ObjOk X.prog X.w (upd H d (nestO X.prog X.w sh d (storedH xs ks b r))) h' d (nestO X.prog X.w sh d (storedH xs ks b r)) := by
    refine ⟨⟨hz', o, es, ep, g1, g2, g3, g4, g5⟩, ⟨o, g1⟩, fun h1 h2 z k => ?_⟩
    obtain ⟨z1, o, es, ep, z2, z3⟩ := z
    exact ⟨z1, o, es, ep, k _ z2, z3⟩
  have I' := d_write (t' := s.toks + (nestKind X.prog X.w sh).draws ks) I (by rw [e0]; exact True.intro) hs' ⟨o, g1⟩ new
  refine q _ _ I' ExB.upd ⟨h.sys, _, upd_same, (rr.put hs hk rv).keeps (TK.put h.noTup)⟩
end
def tN1 (P : Program) (w : World) (K : PySem.W.Frag) (sh : List Bool) (tk tv : TE) : TE := fun σ H Q => ∀ p H1, H p = none → Ex H H1 → NDictW P w K sh H1 p [] → tk σ H1 fun y H2 => tv σ H2 fun v H3 => NDictW P w K sh H3 p [] ∧ ∃ ks, Dp K H3 y (keyD ks) ∧ ks.map isKey = sh ∧
  ∀ H4, ExB p H3 H4 → NDictW P w K sh H4 p [(ks, v)] → Q (.ref p) H4
theorem pe_disp1N {X : Cx} {k e : Expr} {pos : Pos} {tk tv : TE} (sh : List Bool) (hu : X.A.units + 4 < cLine) (hk : PE X k tk) (hv : PE X e tv) : PE X (.Dict [some k] [e] pos) (tN1 X.prog X.w X.K sh tk tv) := by
  constructor
  intro pins s σ H Q I q
  have hn := I.hok.fresh (Nat.le_refl s.heap.objs.size)
  have I1 := I.laid (a := s.heap.objs.size) (o := nestO X.prog X.w sh s.heap.objs.size []) (h' := s.heap.push { cls := .type "dict", data := .dict #[] }) (t' := s.toks) (fun _ _ q => Heap.get?_push_of_some _ q) (Nat.le_refl _) (nest_empty s.heap)
  have q1 := q _ _ hn (Ex.new (o := nestO X.prog X.w sh s.heap.objs.size []) hn) ⟨beq_eq_false_iff_ne.mpr (Ne.symm (Nat.ne_of_lt I.big)), [], upd_same, .nil⟩
  have hshape : (evalEachOpt [some k] X.env).zip ((evalEach [e] X.env).map fun v => do let x ← v; standAt pos; pure x) = ([(eval k X.env, (do let x ← eval e X.env; standAt pos; pure x))] : List (Sem Value × Sem Value)).map fun p => (some p.1, p.2) := by rfl
  rw [arm_eval_Dict, hshape, dictDisplay_pairs _ (by simp) (by simp)]
  refine wpAny_bind (wpAny_standAt (wpAny_bind ?_))
  unfold subDict
  refine wpAny_bind (wpAny_alloc ?_)
  refine wpAny_bind (wpAny_holding ?_)
  rw [if_pos (by simp)]
  refine wpAny_bind (evalPairs_cons ?_)
  refine thn (hk.run pins _ σ _ _ I1 q1) fun kv s2 hy => ?_
  obtain ⟨y, H2, I2, ry, q2⟩ := hy
  refine wpAny_bind (thn (hv.run pins s2 σ H2 _ I2 q2) fun vv s3 hz => wpAny_bind (wpAny_standAt (wpAny_pure ?_)))
  obtain ⟨z, H3, I3, rz, d3, ks, hks, hsh, q3⟩ := hz
  refine evalPairs_nil ?_
  refine wpAny_holding ?_
  rw [List.forIn_cons]
  refine wpAny_bind (wpAny_bind (wpAny_bind (nd_dset hu I3 d3 hks hsh (by show 0 < sizeLine; decide) ry rz fun H4 s4 I4 e4 d4 => wpAny_pure ?_)))
  dsimp only
  rw [List.forIn_nil]
  exact wpAny_pure (wpAny_pure (wpAny_pure (wpAny_pure ⟨.ref s.heap.objs.size, H4, I4, rfl, q3 H4 e4 d4⟩)))
end Lb

set_option Elab.async false
set_option linter.all false
set_option maxRecDepth 100000
set_option maxHeartbeats 4000000
/-! sorted(..) of a list of tuples of texts, and of a dict whose keys are such tuples. -/
namespace Lb
open PySem L2 Evl PyProof.Rows PyProof.Rows.G

def kx (l : List Str) : List (Int ⊕ List Nat) := l.map fun x => Sum.inr x.cps.toList
/-- a comes ahead of b -/
def ltS (a b : List Str) : Bool := (listOrd itemOrd).blt (kx a) (kx b)
theorem kx_inj : ∀ {a b : List Str}, kx a = kx b → a = b
  | [], [], _ => rfl
  | [], _ :: _, e => by simp [kx] at e
  | _ :: _, [], e => by simp [kx] at e
  | x :: a, y :: b, e => by
    simp only [kx, List.map_cons, List.cons.injEq, Sum.inr.injEq] at e
    have e1 : x = y := by
      cases x with
      | mk p => cases y with
        | mk q =>
          have : p.toList = q.toList := e.1
          rw [Array.ext' this]
    rw [e1, kx_inj (a := a) (b := b) e.2]
theorem ltS_total {a b : List Str} (h1 : ltS a b = false) (h2 : ltS b a = false) : a = b := kx_inj ((listOrd itemOrd).total _ _ h1 h2)
/-- two ascending lists of the same things are one list -/
theorem sort_uniq : ∀ {l m : List (List Str)}, l.Perm m → l.Pairwise (fun a b => ltS b a = false) → m.Pairwise (fun a b => ltS b a = false) → l = m
  | [], m, p, _, _ => by rw [List.Perm.nil_eq p]
  | x :: l, [], p, _, _ => by have := p.length_eq; simp at this
  | x :: l, y :: m, p, hl, hm => by
    rw [List.pairwise_cons] at hl hm
    have e : x = y := by
      have hx : x ∈ y :: m := p.mem_iff.mp List.mem_cons_self
      have hy : y ∈ x :: l := p.mem_iff.mpr List.mem_cons_self
      rcases List.mem_cons.mp hx with h | h
      · exact h
      rcases List.mem_cons.mp hy with h' | h'
      · exact h'.symm
      exact ltS_total (hm.1 x h) (hl.1 y h')
    subst e
    rw [sort_uniq (List.Perm.cons_inv p) hl.2 hm.2]
theorem tupItems_str (n : Nat) : ∀ {ks : List Str} {us : List Value}, Vals (ks.map V.str) us → ∀ i, tupItems (fun _ => true) i us = some (kx ks)
  | [], _, r, i => by
    cases r
    rfl
  | k :: ks, _, r, i => by
    cases r with
    | cons a t =>
      obtain ⟨tk, rfl⟩ := a
      rw [tupItems, if_pos rfl, tupItems_str n t (i + 1)]
      rfl
section
variable {X : Cx} {pins : List (Addr × Obj)} {σ : L2.St} {H : Hp} {s : Shared} {h' : Heap}
/-- the raw facts of a tuple of texts -/
structure Tx (h : Heap) (b : Addr) (ks : List Str) : Prop where
  key : tupKeyC h (fun _ => true) (.ref b) = some (kx ks)
  tup : ks ≠ [] → ∃ f, TupOf h (fun _ => true) (.ref b) f
theorem tx_of (I : Inv X pins σ H s) {b : Addr} {ks : List Str} (hb : SqT X.K H b (ks.map V.str)) (k : ∀ b o, s.heap.get? b = some o → h'.get? b = some o) : Tx h' b ks := by
  obtain ⟨its, rv, ⟨o, h1, h2, n, h3⟩, _⟩ := I.tuple hb
  have h1' := k _ _ h1
  refine ⟨?_, fun ne => ?_⟩
  · unfold tupKeyC
    have q : isTupObj h' (.ref b) = true := by simp [isTupObj, h1', h2]
    rw [if_pos q]
    unfold tupKey
    dsimp only
    rw [h1']
    dsimp only
    rw [h3]
    dsimp only
    rw [tupItems_str 0 (by simpa using rv) 0]
  · cases ks with
    | nil => exact absurd rfl ne
    | cons x ks =>
      cases rv with
      | @cons _ u _ us a t =>
        obtain ⟨tk, rfl⟩ := a
        exact ⟨.str x tk, b, o, _, n, rfl, h1', h2, h3, by simp, fun z => (by cases z), fun _ => ⟨x, tk, rfl⟩⟩
theorem txs_of {h : Heap} : ∀ {bs : List Addr}, (∀ b ∈ bs, ∃ ks, ks ≠ [] ∧ Tx h b ks) → ∃ fs, TupsOf h (fun _ => true) (bs.map Value.ref) fs
  | [], _ => ⟨[], .nil⟩
  | b :: bs, hb => by
    obtain ⟨ks, ne, t⟩ := hb b List.mem_cons_self
    obtain ⟨f, hf⟩ := t.tup ne
    obtain ⟨fs, hfs⟩ := txs_of fun c hc => hb c (List.mem_cons_of_mem _ hc)
    exact ⟨f :: fs, .cons hf hfs⟩
theorem zip_refs : ∀ bs : List Addr, (bs.map Value.ref).zip (bs.map Value.ref) = bs.map fun b => (Value.ref b, Value.ref b)
  | [] => rfl
  | b :: bs => by rw [List.map_cons, List.zip_cons_cons, zip_refs bs, List.map_cons]
/-- what a sort leaves, by addresses -/
theorem sorted_out {h : Heap} {bs : List Addr} {arr : Array Keyed} (hp : arr.Perm (pairsOf (bs.map Value.ref))) (hs : SortedToK (tupKindC h (fun _ => true)) arr (pairsOf (bs.map Value.ref)).size) :
    ∃ out : List Addr, (arr.map (·.2)) = (out.map Value.ref).toArray ∧ out.Perm bs ∧ out.Pairwise fun a b => ∀ x y, Tx h a x → Tx h b y → ltS y x = false := by
  have hp' : arr.toList.Perm ((bs.map Value.ref).zip (bs.map Value.ref)) := by
    rw [← pairsOf_toList]
    exact hp.toList
  have z : (bs.map Value.ref).zip (bs.map Value.ref) = bs.map fun b => (Value.ref b, Value.ref b) := zip_refs bs
  rw [z] at hp'
  obtain ⟨out, ho, hout⟩ : ∃ out : List Addr, out.Perm bs ∧ arr.toList = out.map fun b => (Value.ref b, Value.ref b) := by
    have w : ∀ (l : List Keyed) (m : List Addr), l.Perm (m.map fun b => (Value.ref b, Value.ref b)) → ∃ out : List Addr, out.Perm m ∧ l = out.map fun b => (Value.ref b, Value.ref b) := by
      intro l m hl
      refine ⟨l.map fun p => match p.1 with | .ref a => a | _ => 0, ?_, ?_⟩
      · have q := hl.map fun p : Keyed => match p.1 with | .ref a => a | _ => 0
        rw [List.map_map] at q
        exact q.trans (by rw [show ((fun p : Keyed => match p.1 with | .ref a => a | _ => 0) ∘ fun b => (Value.ref b, Value.ref b)) = id from rfl, List.map_id])
      · rw [List.map_map]
        refine (List.map_id l).symm.trans (List.map_congr_left fun p hp => ?_)
        obtain ⟨b, _, rfl⟩ := List.mem_map.mp (hl.mem_iff.mp hp)
        rfl
    exact w _ _ hp'
  refine ⟨out, ?_, ho, ?_⟩
  · apply Array.ext'
    rw [Array.toList_map, hout, List.map_map]
    rfl
  · rw [List.pairwise_iff_getElem]
    intro i j hi hj hij x y hx hy
    have hl : arr.size = out.length := by rw [← Array.length_toList, hout, List.length_map]
    have hn : (pairsOf (bs.map Value.ref)).size = out.length := by rw [pairsOf_size, List.length_map, ho.length_eq]
    have q := hs i j (Nat.le_of_lt hij) (by rw [hn]; exact hj)
    have kk : ∀ (k : Nat) (hk : k < out.length) (z : List Str), Tx h out[k] z → KK (tupKindC h (fun _ => true)) arr k = kx z := by
      intro k hk z hz
      have e : arr[k]? = some (Value.ref out[k], Value.ref out[k]) := by
        rw [← Array.getElem?_toList, hout, List.getElem?_map, List.getElem?_eq_getElem hk]
        rfl
      unfold KK
      rw [e]
      show (tupKeyC h (fun _ => true) (Value.ref out[k])).getD [] = kx z
      rw [hz.key]
      rfl
    rw [kk i hi x hx, kk j hj y hy] at q
    exact q
theorem refs_vals : ∀ (bs : List Addr), Vals (bs.map V.ref) (bs.map Value.ref)
  | [] => .nil
  | _ :: bs => .cons rfl (refs_vals bs)
theorem vals_refs_eq : ∀ {bs : List Addr} {us : List Value}, Vals (bs.map V.ref) us → us = bs.map Value.ref
  | [], _, h => by cases h; rfl
  | _ :: bs, _, h => by
    cases h with
    | cons a t => rw [show _ = Value.ref _ from a, vals_refs_eq t]; rfl
end
def Asc (K : PySem.W.Frag) (H : Hp) (out : List Addr) : Prop := out.Pairwise fun a b => ∀ x y, SqT K H a (x.map V.str) → SqT K H b (y.map V.str) → ltS y x = false
def rSortL (K : PySem.W.Frag) : List V → Hp → VK → Prop := fun vs H Q => ∃ (a : Addr) (bs : List Addr), vs = [.ref a] ∧ SqL K H a (bs.map V.ref) ∧ (∀ b ∈ bs, ∃ ks : List Str, ks ≠ [] ∧ SqT K H b (ks.map V.str)) ∧
  ∀ p out, H p = none → out.Perm bs → Asc K H out → Q (.ref p) (upd H p (.lst (out.map V.ref)))
theorem call_sortedL {X : Cx} : CallR X (.builtin "sorted") (rSortL X.K) := by
  intro pins s σ H vs us Q I r h
  obtain ⟨a, bs, rfl, hs, hx, q⟩ := h
  obtain ⟨its, rv, hl, hz⟩ := I.list hs
  cases r with
  | cons r rr =>
    cases rr
    cases r
    have ei := vals_refs_eq rv
    subst ei
    have tx : ∀ b ∈ bs, ∃ ks, ks ≠ [] ∧ Tx s.heap b ks := fun b hb => by
      obtain ⟨ks, ne, h⟩ := hx b hb
      exact ⟨ks, ne, tx_of I h fun _ _ e => e⟩
    obtain ⟨fs, hfs⟩ := txs_of tx
    rw [List.length_map] at hz
    refine sorted_tups (shape := fun _ => true) hl.isList hfs (fun v hv => ?_) (by rw [List.length_map]; exact hz) fun st' h1 h2 _ => ?_
    · obtain ⟨b, hb, rfl⟩ := List.mem_map.mp hv
      obtain ⟨ks, _, t⟩ := tx b hb
      exact ⟨_, t.key⟩
    · obtain ⟨out, e1, e2, e3⟩ := sorted_out h1 h2
      rw [e1]
      obtain ⟨ep, he⟩ := sortedAll_at s.heap (bs.map Value.ref) (out.map Value.ref).toArray
      refine ⟨.ref _, upd H (s.heap.objs.size + 1) (.lst (out.map V.ref)), I.laid (t' := s.toks) (fun _ _ => sortedAll_old) (Nat.le_succ _) ⟨by rw [List.length_map, e2.length_eq]; exact hz, _, ep, refs_vals out, he⟩, rfl,
        q _ _ (I.hok.fresh (Nat.le_succ _)) e2 (e3.imp fun {a b} z x y hx hy => z x y (tx_of I hx fun _ _ e => e) (tx_of I hy fun _ _ e => e))⟩
def rSortD (K : PySem.W.Frag) : List V → Hp → VK → Prop := fun vs H Q => ∃ (d : Addr) (kvs : List (List Key × V)), vs = [.ref d] ∧ H d = some (.dT kvs) ∧ (∀ kv ∈ kvs, ∃ ks : List Str, ks ≠ [] ∧ kv.1 = ks.map Sum.inr) ∧
  ∀ p bs out, H p = none → IsKeys H kvs bs → out.Perm bs → Asc K H out → Q (.ref p) (upd H p (.lst (out.map V.ref)))
theorem isKeys_mem {H : Hp} : ∀ {kvs : List (List Key × V)} {bs : List Addr}, IsKeys H kvs bs → ∀ b ∈ bs, ∃ kv ∈ kvs, H b = some (.tup (kv.1.map kV))
  | _, _, .nil, _, hb => by cases hb
  | _, _, .cons h t, b, hb => by
    rcases List.mem_cons.mp hb with e | hb
    · subst e
      exact ⟨_, List.mem_cons_self, h⟩
    · obtain ⟨kv, h1, h2⟩ := isKeys_mem t b hb
      exact ⟨kv, List.mem_cons_of_mem _ h1, h2⟩
theorem kV_strs (ks : List Str) : (ks.map (Sum.inr : Str → Key)).map kV = ks.map V.str := by
  rw [List.map_map]
  rfl
theorem call_sortedD {X : Cx} (hc : X.calm = true) : CallR X (.builtin "sorted") (rSortD X.K) := by
  intro pins s σ H vs us Q I r h
  obtain ⟨d, kvs, rfl, hd, hx, q⟩ := h
  cases r with
  | cons r rr =>
    cases rr
    cases r
    obtain ⟨z, hs, ks, pr, o, es, ep, ho, hxx, hdt, he, hn⟩ := (show ObjOk X.prog X.w H s.heap d (.dT kvs) from I.hok d _ hd)
    have l1 : es.size = ks.length := size_of_entries he
    have l2 : kvs.length = ks.length := Paired.length pr
    have hk := isKeys_of pr
    refine Calls.call_function_entry kind_sorted plain_sorted entry_sorted (args_sorted1 _) ?_
    unfold Builtin.«sorted»
    refine wpAny_bind (m := checkCount "sorted" 1 1 _) (wpAny_pure ?_)
    refine wpAny_bind (PySem.W.kdu_collect (A := X.A.in1) (kdl_raw hs hxx hdt) (I.ok.hd hc) ho (by omega) fun h' tk acc kp it => ?_)
    have ea : acc.toList = (ks.map fun x => x.2.1).map Value.ref := by
      have hl : acc.toList.length = ks.length := by rw [Array.length_toList, it.1]; exact l1
      apply List.ext_getElem?
      intro j
      rw [List.map_map, List.getElem?_map]
      cases hb : ks[j]? with
      | none => rw [List.getElem?_eq_none (by rw [hl]; exact List.getElem?_eq_none_iff.mp hb)]; rfl
      | some b =>
        have hj : j < acc.toList.length := by rw [hl]; exact (List.getElem?_eq_some_iff.mp hb).1
        obtain ⟨en, hen, hv⟩ := it.2 j acc.toList[j] (by rw [← Array.getElem?_toList]; exact List.getElem?_eq_getElem hj)
        have qe := entry_at he j
        rw [hen, hb] at qe
        have e2 : en = entryOfKey (tupleKind (mixKind X.prog X.w)) b := Option.some.inj qe
        rw [List.getElem?_eq_getElem hj, hv, e2]
        rfl
    generalize ebs : (ks.map fun x => x.2.1) = bs at ea hk
    have hbl : bs.length = ks.length := by rw [← ebs, List.length_map]
    rw [ea]
    refine wpAny_bind (wpAny_newList ?_ (by rw [List.length_map, hbl]; omega))
    have I1 : Inv X pins σ H { s with heap := h', toks := tk } := I.kept kp
    have kp2 : ∀ b o, s.heap.get? b = some o → (h'.push { cls := .type "list", data := .seq (bs.map Value.ref).toArray }).get? b = some o := fun b o e => Heap.get?_push_of_some _ (kp b o e)
    have tx : ∀ b ∈ bs, ∃ ks, ks ≠ [] ∧ Tx (h'.push { cls := .type "list", data := .seq (bs.map Value.ref).toArray }) b ks := fun b hb => by
      obtain ⟨kv, h1, h2⟩ := isKeys_mem hk b hb
      obtain ⟨ts, ne, e⟩ := hx kv h1
      rw [e, kV_strs] at h2
      exact ⟨ts, ne, tx_of I (st_of h2) kp2⟩
    obtain ⟨fs, hfs⟩ := txs_of tx
    have hoL : (h'.push { cls := .type "list", data := .seq (bs.map Value.ref).toArray }).get? h'.objs.size = some (seqObj "list" (bs.map Value.ref).toArray 0) := Heap.get?_push_size _ rfl
    refine wpAny_bind (wpAny_holding (wpAny_call_entry slot_list_sort ⟨_, hoL, rfl⟩ entry_list_sort (list_sort_tups (s := { s with heap := h'.push { cls := .type "list", data := .seq (bs.map Value.ref).toArray }, toks := tk }) (shape := fun _ => true) hoL hfs (fun v hv => ?_) (by rw [List.length_map, hbl]; omega) fun st' h1 h2 _ => ⟨_, rfl, ?_⟩) (args_list_sort _)))
    · obtain ⟨b, hb, rfl⟩ := List.mem_map.mp hv
      obtain ⟨ks, _, t⟩ := tx b hb
      exact ⟨_, t.key⟩
    · obtain ⟨out, e1, e2, e3⟩ := sorted_out h1 h2
      rw [e1]
      obtain ⟨ep', he'⟩ := sortedHeap_at (out := (out.map Value.ref).toArray) hoL
      have old : ∀ b o, h'.get? b = some o → (sortedHeap (h'.push { cls := .type "list", data := .seq (bs.map Value.ref).toArray }) h'.objs.size (bs.map Value.ref) (out.map Value.ref).toArray).get? b = some o := fun b o e => by
        have hlt := Heap.lt_size e
        rw [sortedHeap_old (Nat.ne_of_lt hlt) (by rw [Heap.size_push]; exact Nat.lt_succ_of_lt hlt)]
        exact Heap.get?_push_of_some _ e
      refine wpAny_pure ⟨_, rfl, .ref _, upd H h'.objs.size (.lst (out.map V.ref)), I1.laid (t' := tk) old (Nat.le_refl _) ⟨by rw [List.length_map, e2.length_eq, hbl]; omega, _, ep', refs_vals out, he'⟩, rfl, ?_⟩
      exact q _ _ _ (I1.hok.fresh (Nat.le_refl _)) hk e2 (e3.imp fun {a b} z x y hx hy => z x y (tx_of I hx kp2) (tx_of I hy kp2))
end Lb

set_option Elab.async false
set_option linter.all false
set_option maxRecDepth 100000
set_option maxHeartbeats 4000000
/-! sorted(..) of a list of tuples of ints: the first one empty, or none of them. -/
namespace Lb
open PySem L2 Evl PyProof.Rows PySem.W
/-- v is a plain tuple of these ints -/
def TInt (h : Heap) (v : Value) (ns : List Int) : Prop := ∃ a o items n, v = .ref a ∧ h.get? a = some o ∧ o.cls = .type "tuple" ∧ o.data = .seq items n ∧ IntsAre items.toList ns
theorem TInt.keeps {h h' : Heap} {v : Value} {ns : List Int} (t : TInt h v ns) (k : ∀ b o, h.get? b = some o → o.cls = .type "tuple" → h'.get? b = some o) : TInt h' v ns := by
  obtain ⟨a, o, items, n, rfl, h1, h2, h3, h4⟩ := t
  exact ⟨a, o, items, n, rfl, k _ _ h1 h2, h2, h3, h4⟩
section
variable {prog : Program} {w : World} {A : Around} {E : Value → Shared → Prop} {s : Shared}
theorem ti_lex {fin : Bool} {Q : Bool → Shared → Prop} : ∀ {xs ys : List Value} {ns ms : List Int} (i : Nat), IntsAre xs ns → IntsAre ys ms → fin = decide (ns.length < ms.length) → Q (HT.lexLt ns ms) s → KatLex prog w A true fin Q (xs.zip ys) i s
  | [], ys, ns, ms, i, h1, h2, hf, q => by
    cases h1
    rw [List.zip_nil_left]
    refine kat_nil ?_
    rw [hf]
    cases ms with
    | nil => exact q
    | cons m ms => exact q
  | x :: xs, [], ns, ms, i, h1, h2, hf, q => by
    cases h2
    rw [List.zip_nil_right]
    refine kat_nil ?_
    rw [hf]
    cases ns with
    | nil => exact q
    | cons n ns => exact q
  | x :: xs, y :: ys, ns, ms, i, h1, h2, hf, q => by
    cases h1 with
    | cons n t h1 =>
      cases h2 with
      | cons m u h2 =>
        rw [List.zip_cons_cons]
        rw [HT.lexLt_cons] at q
        refine kat_cons (SeqAt.EqAt.int_int n t m u prog w _ _ ?_)
        refine kat_go (fun e => ?_) (fun e => ?_)
        · have e' : n = m := by simpa using e
          rw [if_pos e'] at q
          exact kat_yes (ti_lex (i + 1) h1 h2 (by rw [hf]; simp) q)
        · have e' : ¬ n = m := by simpa using e
          rw [if_neg e'] at q
          refine kat_no ?_
          cases i with
          | zero => exact oneLt_int q
          | succ i => exact kat_one _ _ (PyProof.Rows.lt_int q)
theorem ti_cmp {vs : List Value} {k : Value → List Int} (hp : ∀ v ∈ vs, TInt s.heap v (k v)) : SrtO.Cmp prog w A s (tuples' true) (fun p => p.1 ∈ vs) (SrtO.lt2 fun v u => HT.lexLt (k v) (k u)) := by
  intro p q hm hm'
  obtain ⟨a, o, xs, n, e, h1, h2, h3, h4⟩ := hp _ hm
  obtain ⟨b, o', ys, n', e', g1, g2, g3, g4⟩ := hp _ hm'
  show wpAny (model prog w) A (keyLt' (tuples' true) p.1 q.1) (fun r s' => s' = s ∧ r = HT.lexLt (k p.1) (k q.1)) (fun _ _ => False) s
  generalize hk : k p.1 = ns at h4 ⊢
  generalize hk' : k q.1 = ms at g4 ⊢
  rw [e, e']
  refine kat_lt h1 h3 g1 g3 (ti_lex 0 h4 g4 ?_ ⟨rfl, rfl⟩)
  have l1 := h4.length
  have l2 := g4.length
  rw [Array.length_toList] at l1 l2
  rw [l1, l2]
/-- tuple.__lt__, called -/
theorem ti_call {a b : Addr} {o o' : Obj} {xs ys : Array Value} {n n' : Nat} {ns ms : List Int} {Q : Value → Shared → Prop} (h1 : s.heap.get? a = some o) (h2 : o.cls = .type "tuple") (h3 : o.data = .seq xs n) (g1 : s.heap.get? b = some o') (g2 : o'.cls = .type "tuple") (g3 : o'.data = .seq ys n')
    (i1 : IntsAre xs.toList ns) (i2 : IntsAre ys.toList ms) (q : Q (.bool (HT.lexLt ns ms)) s) : wpAny (model prog w) A (call (.builtin "tuple.__lt__") [.ref a, .ref b]) Q E s := by
  obtain ⟨c, dd, dt, sl⟩ := o
  obtain ⟨c', dd', dt', sl'⟩ := o'
  dsimp only at h2 h3 g2 g3
  subst h2 h3 g2 g3
  exact call_meets PySem.F.slot_tuple_lt ⟨_, h1, rfl⟩ PySem.F.entry_tuple_lt (PySem.F.args_tuple_lt_2 _ _) (HT.tuple_lt_ints a b xs ys n n' dd dd' sl sl' ns ms i1 i2) ⟨h1, g1, q⟩
theorem ti_cmp1 {vs : List Value} {k : Value → List Int} (hu : A.units < cLine) (hp : ∀ v ∈ vs, TInt s.heap v (k v)) : SrtO.Cmp prog w A s oneType' (fun p => p.1 ∈ vs) (SrtO.lt2 fun v u => HT.lexLt (k v) (k u)) := by
  intro p q hm hm'
  obtain ⟨a, o, xs, n, e, h1, h2, h3, h4⟩ := hp _ hm
  obtain ⟨b, o', ys, n', e', g1, g2, g3, g4⟩ := hp _ hm'
  show wpAny (model prog w) A (keyLt' oneType' p.1 q.1) (fun r s' => s' = s ∧ r = HT.lexLt (k p.1) (k q.1)) (fun _ _ => False) s
  generalize hk : k p.1 = ns at h4 ⊢
  generalize hk' : k q.1 = ms at g4 ⊢
  rw [e, e']
  have tv : Looks (model prog w) s.heap (typeOf (.ref a)) (.type "tuple") := by
    have := (Looks.ld (M := model prog w) (part := none) h1).andThen (f := fun o => pure o.cls) .now
    rw [h2] at this
    exact this
  have sp : Looks (model prog w) s.heap (specialOf (.ref a) "__lt__") (some (.builtin "tuple.__lt__")) := tv.andThen (Looks.of_pure PySem.F.slot_tuple_lt.lookup)
  rw [keyLt'_oneType, oneLt'_eq]
  simp only [if_true]
  refine wpAny_bind (wpAny_cRoomFor hu ?_)
  refine wpAny_bind (NtL.csib sp (PySem.F.slot_tuple_lt.bind _) (ti_call h1 h2 h3 g1 g2 g3 h4 g4 ?_))
  exact wpAny_truthy_bool ⟨rfl, rfl⟩
/-- the firsts -/
theorem ti_firsts {k : Value → List Int} : ∀ {vs : List Value} {Q : List (Option Value) → Shared → Prop}, (∀ v ∈ vs, TInt s.heap v (k v)) → (∀ os, Paired (fun v o => (k v = [] ∧ o = none) ∨ (k v ≠ [] ∧ ∃ n t, o = some (.int n t))) vs os → Q os s) → wpAny (model prog w) A (vs.mapM firstOfTuple') Q E s
  | [], Q, _, q => by
    rw [List.mapM_nil]
    exact wpAny_pure (q [] .nil)
  | v :: vs, Q, h, q => by
    obtain ⟨a, o, xs, n, e, h1, h2, h3, h4⟩ := h v List.mem_cons_self
    rw [List.mapM_cons]
    refine wpAny_bind ?_
    generalize hk : k v = ns at h4
    rw [e, kas_first_eq]
    refine wpAny_bind (Looks.here (show Looks (model prog w) s.heap (typeOf (.ref a)) o.cls from (Looks.ld h1).andThen .now) ?_)
    rw [h2, if_neg (by first | decide | simp)]
    refine wpAny_bind (listItems_at h1 h3 (wpAny_pure ?_))
    refine wpAny_bind (ti_firsts (fun u hu => h u (List.mem_cons_of_mem _ hu)) fun os hos => wpAny_pure (q _ (.cons ?_ hos)))
    rw [hk, ← Array.getElem?_toList]
    generalize xs.toList = l at h4
    cases h4 with
    | nil => exact .inl ⟨rfl, rfl⟩
    | cons m t _ => exact .inr ⟨by simp, m, t, rfl⟩
theorem some_all {k : Value → List Int} : ∀ {vs : List Value} {os : List (Option Value)}, (∀ v ∈ vs, k v ≠ []) → Paired (fun v o => (k v = [] ∧ o = none) ∨ (k v ≠ [] ∧ ∃ n t, o = some (.int n t))) vs os → ∃ fs : List Value, os = fs.map some ∧ fs.length = vs.length ∧ ∀ f ∈ fs, ∃ n t, f = Value.int n t
  | _, _, _, .nil => ⟨[], rfl, rfl, fun f h => by cases h⟩
  | v :: vs, o :: os, h, .cons a t => by
    obtain ⟨fs, rfl, e2, e3⟩ := some_all (fun u hu => h u (List.mem_cons_of_mem _ hu)) t
    rcases a with ⟨z, _⟩ | ⟨_, n, tk, rfl⟩
    · exact absurd z (h v List.mem_cons_self)
    · refine ⟨.int n tk :: fs, rfl, by rw [List.length_cons, List.length_cons, e2], fun f hf => ?_⟩
      rcases List.mem_cons.mp hf with rfl | hf
      · exact ⟨n, tk, rfl⟩
      · exact e3 f hf
theorem ti_kind {vs : List Value} {k : Value → List Int} {Q : SortKind → Shared → Prop} (h2 : 2 ≤ vs.length) (h : ∀ v ∈ vs, TInt s.heap v (k v)) (hk : (vs.head?.map k = some []) ∨ ∀ v ∈ vs, k v ≠ [])
    (q : Q (if vs.head?.map k = some [] then oneType' else tuples' true) s) : wpAny (model prog w) A (keyKind' vs.toArray) Q E s := by
  obtain ⟨v, r, rfl⟩ : ∃ v r, vs = v :: r := by
    cases vs with
    | nil => simp at h2
    | cons v r => exact ⟨v, r, rfl⟩
  have kv : (v :: r).head?.map k = some (k v) := rfl
  rw [kv] at hk q
  rw [keyKind'_eq, List.mapM_toArray, map_eq_pure_bind]
  refine wpAny_bind (wpAny_bind (ti_firsts h fun os hos => wpAny_pure ?_))
  have ty : ∀ u ∈ v :: r, Looks (model prog w) s.heap (typeOf u) (.type "tuple") := fun u hu => by
    obtain ⟨a, o, xs, n, rfl, h1, h2, _⟩ := h u hu
    have := (Looks.ld (M := model prog w) (part := none) h1).andThen (f := fun o => pure o.cls) .now
    rw [h2] at this
    exact this
  by_cases z : k v = []
  · rw [if_pos (by rw [z])] at q
    obtain ⟨os', rfl⟩ : ∃ os', os = none :: os' := by
      cases hos with
      | cons a t =>
        rcases a with ⟨_, rfl⟩ | ⟨ne, _⟩
        · exact ⟨_, rfl⟩
        · exact absurd z ne
    have hall : ((none :: os' : List (Option Value)).toArray.all fun x => x.isSome) = false := by simp
    rw [hall, if_neg (by decide)]
    have hf : (((none :: os' : List (Option Value)).toArray[0]?).bind id).isSome = false := by simp
    rw [hf, if_neg (by decide)]
    rw [oneTypeOnly'_eq, List.mapM_toArray, map_eq_pure_bind]
    refine wpAny_bind (wpAny_bind (wpAny_bind (kas_mapM (r := .type "tuple") _ (fun u hu Q' hq => (ty u hu).here hq) (wpAny_pure ?_))))
    have e0 : ((v :: r).map fun _ => Value.type "tuple").toArray[0]? = some (.type "tuple") := by simp
    rw [e0]
    dsimp only
    have e1 : (((v :: r).map fun _ => Value.type "tuple").toArray.all fun x => x == .type "tuple") = true := by simp
    rw [e1, if_pos rfl]
    exact wpAny_pure (wpAny_pure q)
  · have ne := hk.resolve_left (fun e => z (Option.some.inj e))
    rw [if_neg (fun e => z (Option.some.inj e))] at q
    obtain ⟨fs, rfl, fl, fi⟩ := some_all ne hos
    have hall : ((fs.map some).toArray.all fun x => x.isSome) = true := by simp
    rw [hall, if_pos rfl]
    refine wpAny_bind (wpAny_rule ?_)
    have hfm : ((fs.map some).toArray.filterMap id) = fs.toArray := by simp
    rw [hfm, oneTypeOnly'_eq, List.mapM_toArray, map_eq_pure_bind]
    have ti : ∀ f ∈ fs, Looks (model prog w) s.heap (typeOf f) (.type "int") := fun f hf => by
      obtain ⟨n, t, rfl⟩ := fi f hf
      exact .now
    refine wpAny_bind (wpAny_bind (wpAny_bind (kas_mapM (r := .type "int") _ (fun u hu Q' hq => (ti u hu).here hq) (wpAny_pure ?_))))
    obtain ⟨f, fr, rfl⟩ : ∃ f fr, fs = f :: fr := by
      cases fs with
      | nil => simp at fl
      | cons f fr => exact ⟨f, fr, rfl⟩
    have e0 : ((f :: fr).map fun _ => Value.type "int").toArray[0]? = some (.type "int") := by simp
    rw [e0]
    dsimp only
    have e1 : (((f :: fr).map fun _ => Value.type "int").toArray.all fun x => x == .type "int") = true := by simp
    rw [e1, if_pos rfl]
    refine wpAny_pure (wpAny_pure ?_)
    exact q
theorem ti_sortable {a : Addr} {vs : List Value} {k : Value → List Int} (hu : A.units < cLine) (h2 : 2 ≤ vs.length) (h : ∀ v ∈ vs, TInt s.heap v (k v)) (hk : (vs.head?.map k = some []) ∨ ∀ v ∈ vs, k v ≠ []) (ha : ∀ o, s.heap.get? a = some o → o.cls ≠ .type "tuple") :
    SrtO.SortableO prog w A s a vs fun v u => HT.lexLt (k v) (k u) := by
  intro h' keep
  have hv' : ∀ v ∈ vs, TInt h' v (k v) := fun v hm => (h v hm).keeps fun b o e c => keep b o (fun z => by subst z; exact ha o e c) e
  refine ⟨if vs.head?.map k = some [] then oneType' else tuples' true, fun Q E hq => ti_kind (s := { s with heap := h' }) h2 hv' hk hq, ?_⟩
  by_cases z : vs.head?.map k = some []
  · rw [if_pos z]
    exact ti_cmp1 (s := { s with heap := h' }) hu hv'
  · rw [if_neg z]
    exact ti_cmp (s := { s with heap := h' }) hv'
end
end Lb
namespace Lb
open PySem L2 Evl PyProof.Rows PySem.W
theorem lexLt_total : ∀ {a b : List Int}, HT.lexLt a b = false → HT.lexLt b a = false → a = b
  | [], [], _, _ => rfl
  | [], b :: bs, h, _ => by rw [HT.lexLt_nil_cons] at h; cases h
  | a :: as, [], _, h => by rw [HT.lexLt_nil_cons] at h; cases h
  | a :: as, b :: bs, h1, h2 => by
    rw [HT.lexLt_cons] at h1 h2
    by_cases e : a = b
    · rw [if_pos e] at h1
      rw [if_pos e.symm] at h2
      rw [e, lexLt_total h1 h2]
    · rw [if_neg e] at h1
      rw [if_neg (Ne.symm e)] at h2
      have h3 := of_decide_eq_false h1
      have h4 := of_decide_eq_false h2
      omega
theorem lex_uniq : ∀ {l m : List (List Int)}, l.Perm m → l.Pairwise (fun a b => HT.lexLt b a = false) → m.Pairwise (fun a b => HT.lexLt b a = false) → l = m
  | [], m, p, _, _ => (List.nil_perm.mp p).symm
  | x :: l, m, p, h1, h2 => by
    cases m with
    | nil => exact absurd (List.perm_nil.mp p) (by simp)
    | cons y m =>
      rw [List.pairwise_cons] at h1 h2
      have e : x = y := by
        have hx := p.mem_iff.mp (List.mem_cons_self (a := x) (l := l))
        have hy := p.mem_iff.mpr (List.mem_cons_self (a := y) (l := m))
        rcases List.mem_cons.mp hx with e | hx
        · exact e
        · rcases List.mem_cons.mp hy with e | hy
          · exact e.symm
          · exact lexLt_total (h2.1 x hx) (h1.1 y hy)
      subst e
      rw [lex_uniq p.cons_inv h1.2 h2.2]
theorem TInt.uniq {h : Heap} {v : Value} {ns ms : List Int} (a : TInt h v ns) (b : TInt h v ms) : ns = ms := by
  obtain ⟨p, o, xs, n, rfl, h1, _, h3, h4⟩ := a
  obtain ⟨q, o', ys, n', e, g1, _, g3, g4⟩ := b
  cases e
  rw [h1] at g1
  cases g1
  rw [h3] at g3
  cases g3
  have w : ∀ {l : List Value} {ns ms : List Int}, IntsAre l ns → IntsAre l ms → ns = ms := by
    intro l
    induction l with
    | nil => intro ns ms a b; cases a; cases b; rfl
    | cons x l ih =>
      intro ns ms a b
      cases a with
      | cons n t a =>
        cases b with
        | cons m u b => rw [ih a b]
  exact w h4 g4
/-- sorted(..) of a list of tuples of ints -/
def rSortI (K : PySem.W.Frag) : List V → Hp → VK → Prop := fun vs H Q => ∃ (a : Addr) (bs : List Addr) (lss : List (List Int)), vs = [.ref a] ∧ SqL K H a (bs.map V.ref) ∧ Paired (fun b (ls : List Int) => SqT K H b (ls.map V.int)) bs lss ∧ (lss.head? = some [] ∨ ∀ l ∈ lss, l ≠ []) ∧
  ∀ p out outs, H p = none → Paired (fun b (ls : List Int) => SqT K H b (ls.map V.int)) out outs → outs.Perm lss → outs.Pairwise (fun a b => HT.lexLt b a = false) → Q (.ref p) (upd H p (.lst (out.map V.ref)))
theorem call_sortI {X : Cx} (hu : X.A.units + 2 < cLine) : CallR X (.builtin "sorted") (rSortI X.K) := by
  intro pins s σ H vs us Q I r h
  obtain ⟨a, bs, lss, rfl, hs, hp, hk, q⟩ := h
  obtain ⟨its, rv, hl, hz⟩ := I.list hs
  cases r with
  | cons r rr =>
    cases rr
    cases r
    have ei := vals_refs_eq rv
    subst ei
    have ti : ∀ {b : Addr} {ls : List Int}, SqT X.K H b (ls.map V.int) → TInt s.heap (.ref b) ls := fun {b ls} hb => by
      obtain ⟨its, rv, ⟨o, h1, h2, n, h3⟩, _⟩ := I.tuple hb
      exact ⟨b, o, its.toArray, n, rfl, h1, h2, h3, by simpa using rv.ints⟩
    obtain ⟨k, kk⟩ : ∃ k : Value → List Int, ∀ v ns, TInt s.heap v ns → k v = ns :=
      ⟨fun v => Classical.epsilon fun ns => TInt s.heap v ns, fun v ns t => (Classical.epsilon_spec (p := fun ns => TInt s.heap v ns) ⟨ns, t⟩).uniq t⟩
    have kp : ∀ {bs : List Addr} {lss : List (List Int)}, Paired (fun b (ls : List Int) => SqT X.K H b (ls.map V.int)) bs lss → bs.map (fun b => k (.ref b)) = lss := by
      intro bs lss hp
      induction hp with
      | nil => rfl
      | cons a t ih => rw [List.map_cons, ih, kk _ _ (ti a)]
    have mem : ∀ b ∈ bs, ∃ ls : List Int, SqT X.K H b (ls.map V.int) := by
      clear hk q rv hl hz hs kp
      induction hp with
      | nil => intro b hb; cases hb
      | cons a t ih =>
        intro b hb
        rcases List.mem_cons.mp hb with rfl | hb
        · exact ⟨_, a⟩
        · exact ih b hb
    have tk : ∀ v ∈ bs.map Value.ref, TInt s.heap v (k v) := fun v hv => by
      obtain ⟨b, hb, rfl⟩ := List.mem_map.mp hv
      obtain ⟨ls, hls⟩ := mem b hb
      have t := ti hls
      rw [kk _ _ t]
      exact t
    rw [List.length_map] at hz
    have hk' : ((bs.map Value.ref).head?.map k = some []) ∨ ∀ v ∈ bs.map Value.ref, k v ≠ [] := by
      rw [← kp hp] at hk
      rcases hk with e | e
      · left
        cases bs with
        | nil => cases e
        | cons b bs => exact e
      · right
        intro v hv
        obtain ⟨b, hb, rfl⟩ := List.mem_map.mp hv
        exact e _ (List.mem_map.mpr ⟨b, hb, rfl⟩)
    refine SrtO.sorted_ord (NtL.swo_lexL k) hl.isList (by rw [List.length_map]; exact hz) (fun h2 h₁ a' ha keep => ?_) fun out h1 h2 => ?_
    · refine ti_sortable (s := { s with heap := h₁ }) (by show X.A.units + 2 < cLine; exact hu) h2 (fun v hv => (tk v hv).keeps fun b o e _ => (keep b o e).2) hk' fun o e => ?_
      have e' : some o = some (seqObj "list" (bs.map Value.ref).toArray 0) := e.symm.trans ha
      cases e'
      intro c
      exact absurd (Value.type.inj c) (by decide)
    · have eo : out = (out.map adO).map Value.ref := ref_map fun u hm => by
        have hm' : u ∈ bs.map Value.ref := h2.perm.mem_iff.mp hm
        obtain ⟨t, _, e⟩ := List.mem_map.mp hm'
        exact ⟨t, e.symm⟩
      have hpm : (out.map adO).Perm bs := by
        have p1 := h2.perm.map adO
        rw [ad_map] at p1
        exact p1
      obtain ⟨ep, he⟩ := sortedAll_at s.heap (bs.map Value.ref) out.toArray
      have rvo : Vals ((out.map adO).map V.ref) out := by
        have z := of_nts (out.map adO)
        rw [← eo] at z
        exact z
      have pr : ∀ l : List Addr, (∀ b ∈ l, b ∈ bs) → Paired (fun b (ls : List Int) => SqT X.K H b (ls.map V.int)) l (l.map fun b => k (.ref b)) := fun l => by
        induction l with
        | nil => intro _; exact .nil
        | cons b l ih =>
          intro hb
          obtain ⟨ls, hls⟩ := mem b (hb b List.mem_cons_self)
          refine .cons ?_ (ih fun c hc => hb c (List.mem_cons_of_mem _ hc))
          show SqT X.K H b ((k (.ref b)).map V.int)
          rw [kk _ _ (ti hls)]
          exact hls
      refine ⟨.ref _, upd H (s.heap.objs.size + 1) (.lst ((out.map adO).map V.ref)), I.laid (t' := s.toks) (fun _ _ => sortedAll_old) (Nat.le_succ _) ⟨by rw [List.length_map, hpm.length_eq]; exact hz, out, ep, rvo, he⟩, rfl,
        q _ (out.map adO) ((out.map adO).map fun b => k (.ref b)) (I.hok.fresh (Nat.le_succ _)) (pr _ fun b hb => hpm.mem_iff.mp hb) ?_ ?_⟩
      · have := hpm.map fun b => k (.ref b)
        rw [kp hp] at this
        exact this
      · rw [List.pairwise_map, List.pairwise_map]
        refine h1.imp_of_mem fun {x y} hx hy z => ?_
        have rx : Value.ref (adO x) = x := by
          obtain ⟨t, _, e⟩ := List.mem_map.mp (h2.perm.mem_iff.mp hx)
          rw [← e]
          rfl
        have ry : Value.ref (adO y) = y := by
          obtain ⟨t, _, e⟩ := List.mem_map.mp (h2.perm.mem_iff.mp hy)
          rw [← e]
          rfl
        rw [rx, ry]
        exact z
/-! ### by data -/
def ltN (a b : List Nat) : Bool := HT.lexLt (a.map fun (n : Nat) => (n : Int)) (b.map fun (n : Nat) => (n : Int))
theorem ltN_total {a b : List Nat} (h1 : ltN a b = false) (h2 : ltN b a = false) : a = b := by
  have e := lexLt_total h1 h2
  exact (List.map_inj_right fun x y h => by omega).mp e
theorem ltN_asym {a b : List Nat} (h : ltN a b = true) : ltN b a = false := NtL.lex_asym _ _ h
theorem ltN_tr {a b c : List Nat} (h1 : ltN b a = false) (h2 : ltN c b = false) : ltN c a = false := NtL.lex_tr _ _ _ h1 h2
def sortN (l : List (List Nat)) : List (List Nat) := l.mergeSort fun a b => !ltN b a
theorem sortN_perm (l : List (List Nat)) : (sortN l).Perm l := List.mergeSort_perm _ _
theorem sortN_sorted (l : List (List Nat)) : (sortN l).Pairwise fun a b => ltN b a = false := by
  refine (List.pairwise_mergeSort (le := fun a b : List Nat => !ltN b a) (fun a b c h1 h2 => ?_) (fun a b => ?_) l).imp fun {a b} h => by simpa using h
  · simp only [Bool.not_eq_true'] at h1 h2 ⊢
    exact ltN_tr h1 h2
  · cases h : ltN b a with
    | false => rfl
    | true => rw [ltN_asym h]; rfl
theorem ltN_uniq {l m : List (List Nat)} (p : l.Perm m) (h1 : l.Pairwise fun a b => ltN b a = false) (h2 : m.Pairwise fun a b => ltN b a = false) : l = m := by
  have e := lex_uniq (p.map fun a : List Nat => a.map fun (n : Nat) => (n : Int)) (List.pairwise_map.mpr h1) (List.pairwise_map.mpr h2)
  exact (List.map_inj_right fun x y h => (List.map_inj_right fun x y h => by omega).mp h).mp e
section
variable {K : PySem.W.Frag} {σ : L2.St} {H : Hp} {ta : TE}
theorem nats_ref {v : V} {l : List Nat} (h : Dp K H v (natsD l)) : ∃ b, v = .ref b ∧ SqT K H b ((l.map fun (n : Nat) => (n : Int)).map V.int) := by
  obtain ⟨b, xs, rfl, sq, al⟩ := Dp.tupD h
  refine ⟨b, rfl, ?_⟩
  have e : (l.map fun (n : Nat) => PyData.int (n : Int)) = (l.map fun (n : Nat) => (n : Int)).map PyData.int := by rw [List.map_map]; rfl
  rw [e] at al
  rw [← D_ints al]
  exact sq
theorem natss_refs : ∀ {xs : List V} {lss : List (List Nat)}, DpAll K H xs (lss.map natsD) → ∃ bs : List Addr, xs = bs.map V.ref ∧ Paired (fun b (ls : List Int) => SqT K H b (ls.map V.int)) bs (lss.map fun l => l.map fun (n : Nat) => (n : Int))
  | _, [], h => by cases h; exact ⟨[], rfl, .nil⟩
  | _, l :: lss, h => by
    cases h with
    | cons a t =>
      obtain ⟨b, rfl, sq⟩ := nats_ref a
      obtain ⟨bs, rfl, pr⟩ := natss_refs t
      exact ⟨b :: bs, rfl, .cons sq pr⟩
theorem refs_natss : ∀ {out : List Addr} {lss : List (List Nat)}, Paired (fun b (ls : List Int) => SqT K H b (ls.map V.int)) out (lss.map fun l => l.map fun (n : Nat) => (n : Int)) → DpAll K H (out.map V.ref) (lss.map natsD)
  | [], [], _ => .nil
  | [], _ :: _, h => by cases h
  | _ :: _, [], h => by cases h
  | b :: out, l :: lss, .cons a t => by
    refine .cons (.tup a ?_) (refs_natss t)
    have := ints_D (K := K) (H := H) (l.map fun (n : Nat) => (n : Int))
    rw [List.map_map, List.map_map] at this
    rw [List.map_map]
    exact this
theorem ed_sortI {lss : List (List Nat)} (h : EvD K ta σ H (.list (lss.map natsD))) (hk : lss.head? = some [] ∨ ∀ l ∈ lss, l ≠ []) : EvD K (tCB (rSortI K) (tCons ta tNil)) σ H (.list ((sortN lss).map natsD)) := fun H1 e Q q =>
  h H1 e _ fun v H2 e2 hv => by
    obtain ⟨a, xs, rfl, sq, al⟩ := Dp.lstD hv
    obtain ⟨bs, rfl, pr⟩ := natss_refs al
    refine ⟨a, bs, _, rfl, sq, pr, ?_, fun p out outs hp po pm ps => ?_⟩
    · rcases hk with e | e
      · left
        rw [List.head?_map, e]
        rfl
      · right
        intro l hl
        obtain ⟨m, hm, rfl⟩ := List.mem_map.mp hl
        intro z
        exact e m hm (List.map_eq_nil_iff.mp z)
    · have eo : outs = (sortN lss).map fun l => l.map fun (n : Nat) => (n : Int) :=
        lex_uniq (pm.trans ((sortN_perm lss).map fun l => l.map fun (n : Nat) => (n : Int)).symm) ps (List.pairwise_map.mpr (sortN_sorted lss))
      subst eo
      have en := Ex.new (o := .lst (out.map V.ref)) hp
      exact q _ _ (e2.trans en) (.lst (sq_of upd_same) (dmonoAll en _ _ (refs_natss po)))
end
end Lb

set_option Elab.async false
set_option linter.all false
set_option maxRecDepth 100000
set_option maxHeartbeats 4000000
/-! sorted(.., key=len) of a list of tuples of ints. -/
namespace Lb
open PySem L2 Evl PyProof.Rows PySem.W PyProof.Rows.G
/-- by length -/
def lenLe (a b : List Int) : Bool := decide (a.length ≤ b.length)
def tSortLen (K : PySem.W.Frag) (t : TA) : TE := fun σ H Q => t σ H fun vs H1 => ∃ (a : Addr) (bs : List Addr) (lss : List (List Int)), vs = [.ref a] ∧ SqL K H1 a (bs.map V.ref) ∧ Paired (fun b (ls : List Int) => SqT K H1 b (ls.map V.int)) bs lss ∧
  ∀ p out, H1 p = none → Paired (fun b (ls : List Int) => SqT K H1 b (ls.map V.int)) out (lss.mergeSort lenLe) → Q (.ref p) (upd H1 p (.lst (out.map V.ref)))
theorem paired_each {α β : Type} {F : α → β → Prop} : ∀ {l₁ : List α} {l₂ : List β}, Paired F l₁ l₂ → EachIs F l₁ l₂
  | _, _, .nil => .nil
  | _, _, .cons a t => .cons a (paired_each t)
theorem each_zip {β : Type} {F : Addr → β → Prop} : ∀ {l₁ : List Addr} {l₂ : List β}, Paired F l₁ l₂ → EachIs (fun (v : Value) (x : Addr × β) => v = .ref x.1) (l₁.map Value.ref) (l₁.zip l₂) ∧ (l₁.zip l₂).map (·.2) = l₂ ∧ ∀ x ∈ l₁.zip l₂, F x.1 x.2
  | _, _, .nil => ⟨.nil, rfl, fun x h => by cases h⟩
  | _, _, .cons (a := a) (b := b) h t => by
    obtain ⟨h1, h2, h3⟩ := each_zip t
    refine ⟨.cons rfl h1, by rw [List.zip_cons_cons, List.map_cons, h2], fun x hx => ?_⟩
    rw [List.zip_cons_cons] at hx
    rcases List.mem_cons.mp hx with rfl | hx
    · exact h
    · exact h3 x hx
theorem each_out {β : Type} : ∀ {vs : List Value} {l : List (Addr × β)}, EachIs (fun (v : Value) (x : Addr × β) => v = .ref x.1) vs l → vs = (l.map (·.1)).map Value.ref
  | _, _, .nil => rfl
  | _, _, .cons h t => by rw [h, each_out t]; rfl
theorem pair_split {β : Type} {F : Addr → β → Prop} : ∀ {l : List (Addr × β)}, (∀ x ∈ l, F x.1 x.2) → Paired F (l.map (·.1)) (l.map (·.2))
  | [], _ => .nil
  | x :: l, h => .cons (h x List.mem_cons_self) (pair_split fun y hy => h y (List.mem_cons_of_mem _ hy))
theorem lenKey (a b : Addr × List Int) : dataLe false (fun x : Addr × List Int => PyData.int (x.2.length : Int)) a b = lenLe a.2 b.2 := by
  unfold dataLe sortLe lenLe
  show (!((listOrd itemOrd).blt (keyToks (.int (b.2.length : Int))) (keyToks (.int (a.2.length : Int))))) = _
  rw [keyToks, keyToks, Bool.eq_iff_iff]
  show (!(PyProof.Rows.lexLt itemOrd [Sum.inl (b.2.length : Int)] [Sum.inl (a.2.length : Int)])) = true ↔ _
  simp [PyProof.Rows.lexLt, itemLt]
theorem pe_sortLen {X : Cx} {e : Expr} {t : TA} {p pos q kpos : Pos} (hu : X.A.units + 8 < cLine) (hg : Gl X "sorted") (hm : X.mg "sorted" = none) (hg2 : Gl X "len") (hm2 : X.mg "len" = none) (ha : PA X [e] t)
    (he : backTo pos (starEach [e] X.env) = (false, eval e X.env) :: backTo pos (starEach [] X.env) := by rfl) (hpl : (backTo pos (starEach [e] X.env)).any (·.1) = false := by rfl) : PE X (.Call (.Name "sorted" p) [e] [⟨some "key", .Name "len" q, kpos⟩] pos) (tSortLen X.K t) := by
  refine ⟨fun pins s σ H Q I h => ?_⟩
  refine wpAny_Call_Name_kw (ld_blt I hg hm boot_sorted ?_)
  refine PyProof.Rows.callWith_kw (thn (ha.run pos pins s σ H _ I h) fun us s1 ⟨vs, H1, I1, r1, q1⟩ => ?_) he hpl (by rfl) (by rfl)
  show wpAny _ _ (evalAll [(do let v ← eval (.Name "len" q) X.env; standAt pos; pure v)]) _ _ s1
  refine wpAny_evalAll_cons (wpAny_bind (ld_blt I1 hg2 hm2 PySem.boot_len (wpAny_bind (wpAny_standAt (wpAny_pure ?_)))))
  refine wpAny_evalAll_nil ?_
  show wpAny _ _ (call (.builtin "sorted") us [(Str.ofString "key", Value.builtin "len")]) _ _ s1
  obtain ⟨a, bs, lss, rfl, hs, hp, q⟩ := q1
  obtain ⟨its, rv, hl, hz⟩ := I1.list hs
  obtain rfl := Vals.ref1 r1
  have ei := vals_refs_eq rv
  subst ei
  rw [List.length_map] at hz
  obtain ⟨z1, z2, z3⟩ := each_zip hp
  have zl : (bs.zip lss).length = bs.length := by
    rw [← z1.length, List.length_map]
  have ti : ∀ x ∈ bs.zip lss, TInt s1.heap (.ref x.1) x.2 := fun x hx => by
    obtain ⟨its, rv, ⟨o, h1, h2, n, h3⟩, _⟩ := I1.tuple (z3 x hx)
    exact ⟨x.1, o, its.toArray, n, rfl, h1, h2, h3, by simpa using rv.ints⟩
  have small : ∀ x ∈ bs.zip lss, x.2.length ≤ sizeLine := fun x hx => by
    obtain ⟨its, rv, _, hz⟩ := I1.tuple (z3 x hx)
    rw [List.length_map] at hz
    exact hz
  refine sorted_key_data (b := false) (fun x : Addr × List Int => PyData.int (x.2.length : Int)) hl.isList z1 (AllAlike.of fun _ _ => by simp [alike]) (.inr fun d hd => ?_) (by rw [zl]; exact hz) (fun x _ => ?_) (ksk_s1 _ _) (fun _ => ksk_l1 _ _) (fun x => ksk_t4 _ _) (fun v x hv hx h tk kp => ?_) fun out c h' tk kp f1 at1 l1 eo => ?_
  · obtain ⟨x, _, rfl⟩ := List.mem_map.mp hd
    exact ⟨by simp, fun xs z => by cases z⟩
  · show X.A.units + 2 + PyData.depth (.int _) < cLine
    simp only [PyData.depth]
    omega
  · subst hv
    obtain ⟨b, o, items, n, e, h1, h2, h3, h4⟩ := ti x hx
    cases e
    have l := h4.length
    rw [Array.length_toList] at l
    have sm := small x hx
    have hn := line63
    refine len_tuple (items := items) ⟨o, kp _ _ h1, h2, n, h3⟩ (by omega) ⟨h, _, rfl, fun _ _ e => e, ?_⟩
    rw [← l]
    exact .int _ _
  · have lm : ((bs.zip lss).mergeSort (dataLe false fun x : Addr × List Int => PyData.int (x.2.length : Int))).map (·.2) = lss.mergeSort lenLe := by
      have := List.map_mergeSort (r := dataLe false fun x : Addr × List Int => PyData.int (x.2.length : Int)) (s := lenLe) (f := fun x : Addr × List Int => x.2) (l := bs.zip lss) (fun x _ y _ => lenKey x y)
      rw [z2] at this
      exact this
    generalize hso : (bs.zip lss).mergeSort (dataLe false fun x : Addr × List Int => PyData.int (x.2.length : Int)) = so at eo lm
    have sm : ∀ x ∈ so, x ∈ bs.zip lss := fun x hx => by
      rw [← hso] at hx
      exact (List.mergeSort_perm _ _).mem_iff.mp hx
    have oe := each_out eo
    subst oe
    have pr := pair_split (F := fun b (ls : List Int) => SqT X.K H1 b (ls.map V.int)) (l := so) fun x hx => z3 x (sm x hx)
    rw [lm] at pr
    have sl : so.length = bs.length := by
      rw [← hso, (List.mergeSort_perm _ _).length_eq, zl]
    exact ⟨.ref _, upd H1 (s1.heap.objs.size + 1) (.lst ((so.map (·.1)).map V.ref)), I1.laid (t' := tk) kp (Nat.le_succ _) ⟨by rw [List.length_map, List.length_map, sl]; exact hz, _, c, refs_vals _, at1⟩, rfl, q _ _ (I1.hok.fresh (Nat.le_succ _)) pr⟩
section
variable {K : PySem.W.Frag} {σ : L2.St} {H : Hp} {ta : TE}
def lenN (a b : List Nat) : Bool := decide (a.length ≤ b.length)
theorem ed_sortLen {lss : List (List Nat)} (h : EvD K ta σ H (.list (lss.map natsD))) : EvD K (tSortLen K (tCons ta tNil)) σ H (.list ((lss.mergeSort lenN).map natsD)) := fun H1 e Q q =>
  h H1 e _ fun v H2 e2 hv => by
    obtain ⟨a, xs, rfl, sq, al⟩ := Dp.lstD hv
    obtain ⟨bs, rfl, pr⟩ := natss_refs al
    refine ⟨a, bs, _, rfl, sq, pr, fun p out hp po => ?_⟩
    have lm : (lss.mergeSort lenN).map (fun l => l.map fun (n : Nat) => (n : Int)) = (lss.map fun l => l.map fun (n : Nat) => (n : Int)).mergeSort lenLe :=
      List.map_mergeSort (r := lenN) (s := lenLe) (f := fun l : List Nat => l.map fun (n : Nat) => (n : Int)) (l := lss) fun a _ b _ => by unfold lenN lenLe; rw [List.length_map, List.length_map]
    rw [← lm] at po
    have en := Ex.new (o := .lst (out.map V.ref)) hp
    exact q _ _ (e2.trans en) (.lst (sq_of upd_same) (dmonoAll en _ _ (refs_natss po)))
end
end Lb

set_option Elab.async false
set_option linter.all false
set_option maxRecDepth 100000
set_option maxHeartbeats 4000000
/-! Terms as texts: sizes, and that unlike terms have unlike texts. -/
namespace Lb
open PySem L2 Evl PyProof.Rows
def numS (n : Nat) : Str := Str.ofString (toString (n : Int))
theorem numS_cps {n : Nat} (h : n < 10) : (numS n).cps.toList = [48 + n] := by
  have z : n = 0 ∨ n = 1 ∨ n = 2 ∨ n = 3 ∨ n = 4 ∨ n = 5 ∨ n = 6 ∨ n = 7 ∨ n = 8 ∨ n = 9 := by omega
  rcases z with rfl | rfl | rfl | rfl | rfl | rfl | rfl | rfl | rfl | rfl <;> decide +kernel
theorem cps_app (a b : Str) : (a ++ b).cps.toList = a.cps.toList ++ b.cps.toList := Array.toList_append
theorem len_cps (a : Str) : a.length = a.cps.toList.length := (Array.length_toList).symm
theorem len_app (a b : Str) : (a ++ b).length = a.length + b.length := by rw [len_cps, cps_app, List.length_append, ← len_cps, ← len_cps]
theorem numS_len {n : Nat} (h : n < 10) : (numS n).length = 1 := by rw [len_cps, numS_cps h]; rfl
theorem empty_app (a : Str) : Str.empty ++ a = a := by
  cases a with
  | mk c =>
    show Str.mk (#[] ++ c) = Str.mk c
    rw [Array.empty_append]
theorem join1 (s a : Str) : Txt.join s [a] = a := rfl
theorem join2 (s a b : Str) : Txt.join s [a, b] = a ++ s ++ b := rfl
/-- a term's text -/
def Tm.txt : Tm → Str
  | .c n => "c" ++ numS n
  | .f1 g a => "f" ++ numS g ++ "(" ++ Txt.join "," [a.txt] ++ ")"
  | .f2 g a b => "f" ++ numS g ++ "(" ++ Txt.join "," [a.txt, b.txt] ++ ")"
/-- all numbers have one figure -/
def Tm.Small : Tm → Prop
  | .c n => n < 10
  | .f1 g a => g < 10 ∧ a.Small
  | .f2 g a b => g < 10 ∧ a.Small ∧ b.Small
theorem Tm.Of.small {m : Mc} (hm : m.Ok) : ∀ {t : Tm}, Tm.Of m t → t.Small
  | _, .c h => by have := hm.c4; show _ < 10; omega
  | _, .f1 h a => ⟨by have := (List.getElem?_eq_some_iff.mp h).1; have := hm.f3; omega, a.small hm⟩
  | _, .f2 h a b => ⟨by have := (List.getElem?_eq_some_iff.mp h).1; have := hm.f3; omega, a.small hm, b.small hm⟩
theorem Tm.txt_len : ∀ {t : Tm}, t.Small → t.txt.length + 5 ≤ 8 * 2 ^ t.dep
  | .c n, h => by
    show (("c" : Str) ++ numS n).length + 5 ≤ 8 * 2 ^ 1
    rw [len_app, numS_len h, show ("c" : Str).length = 1 from rfl]
    omega
  | .f1 g a, h => by
    have ih := Tm.txt_len h.2
    show (("f" : Str) ++ numS g ++ "(" ++ Txt.join "," [a.txt] ++ ")").length + 5 ≤ 8 * 2 ^ (a.dep + 1)
    rw [join1, len_app, len_app, len_app, len_app, numS_len h.1, show ("f" : Str).length = 1 from rfl, show ("(" : Str).length = 1 from rfl, show (")" : Str).length = 1 from rfl, Nat.pow_succ]

    omega
  | .f2 g a b, h => by
    have ia := Tm.txt_len h.2.1
    have ib := Tm.txt_len h.2.2
    have pa : 2 ^ a.dep ≤ 2 ^ max a.dep b.dep := Nat.pow_le_pow_right (by decide) (Nat.le_max_left _ _)
    have pb : 2 ^ b.dep ≤ 2 ^ max a.dep b.dep := Nat.pow_le_pow_right (by decide) (Nat.le_max_right _ _)
    show (("f" : Str) ++ numS g ++ "(" ++ Txt.join "," [a.txt, b.txt] ++ ")").length + 5 ≤ 8 * 2 ^ (max a.dep b.dep + 1)
    rw [join2, len_app, len_app, len_app, len_app, len_app, len_app, numS_len h.1, show ("f" : Str).length = 1 from rfl, show ("(" : Str).length = 1 from rfl, show ("," : Str).length = 1 from rfl, show (")" : Str).length = 1 from rfl, Nat.pow_succ]
    omega
theorem Tm.txt_le {t : Tm} (h : t.Small) {n : Nat} (hd : t.dep ≤ n) (hn : n ≤ 8) : t.txt.length ≤ 2048 := by
  have a := Tm.txt_len h
  have b : 2 ^ t.dep ≤ 2 ^ 8 := Nat.pow_le_pow_right (by decide) (by omega)
  omega
def Tm.cod : Tm → List Nat
  | .c n => [99, 48 + n]
  | .f1 g a => 102 :: (48 + g) :: 40 :: (a.cod ++ [41])
  | .f2 g a b => 102 :: (48 + g) :: 40 :: (a.cod ++ 44 :: (b.cod ++ [41]))
theorem Tm.txt_cod : ∀ {t : Tm}, t.Small → t.txt.cps.toList = t.cod
  | .c n, h => by
    show (("c" : Str) ++ numS n).cps.toList = _
    rw [cps_app, numS_cps h]
    rfl
  | .f1 g a, h => by
    show (("f" : Str) ++ numS g ++ "(" ++ Txt.join "," [a.txt] ++ ")").cps.toList = _
    rw [join1, cps_app, cps_app, cps_app, cps_app, numS_cps h.1, Tm.txt_cod h.2]
    simp [Tm.cod, show ("f" : Str).cps.toList = [102] from rfl, show ("(" : Str).cps.toList = [40] from rfl, show (")" : Str).cps.toList = [41] from rfl]
  | .f2 g a b, h => by
    show (("f" : Str) ++ numS g ++ "(" ++ Txt.join "," [a.txt, b.txt] ++ ")").cps.toList = _
    rw [join2, cps_app, cps_app, cps_app, cps_app, cps_app, cps_app, numS_cps h.1, Tm.txt_cod h.2.1, Tm.txt_cod h.2.2]
    simp [Tm.cod, show ("f" : Str).cps.toList = [102] from rfl, show ("(" : Str).cps.toList = [40] from rfl, show ("," : Str).cps.toList = [44] from rfl, show (")" : Str).cps.toList = [41] from rfl]
theorem Tm.cod_inj : ∀ (t u : Tm) (r s : List Nat), t.cod ++ r = u.cod ++ s → t = u ∧ r = s
  | .c n, .c m, r, s, e => by
    simp only [Tm.cod, List.cons_append, List.nil_append, List.cons.injEq] at e
    exact ⟨by rw [show n = m by omega], e.2.2⟩
  | .c n, .f1 _ _, r, s, e => by simp [Tm.cod] at e
  | .c n, .f2 _ _ _, r, s, e => by simp [Tm.cod] at e
  | .f1 _ _, .c _, r, s, e => by simp [Tm.cod] at e
  | .f2 _ _ _, .c _, r, s, e => by simp [Tm.cod] at e
  | .f1 g a, .f1 k b, r, s, e => by
    simp only [Tm.cod, List.cons_append, List.cons.injEq, List.append_assoc, true_and] at e
    obtain ⟨h1, h2⟩ := Tm.cod_inj a b _ _ e.2
    simp only [List.cons.injEq, true_and, List.nil_append] at h2
    exact ⟨by rw [h1, show g = k by omega], h2⟩
  | .f1 g a, .f2 k b b2, r, s, e => by
    simp only [Tm.cod, List.cons_append, List.cons.injEq, List.append_assoc, true_and] at e
    obtain ⟨h1, h2⟩ := Tm.cod_inj a b _ _ e.2
    simp at h2
  | .f2 g a a', .f1 k b, r, s, e => by
    simp only [Tm.cod, List.cons_append, List.cons.injEq, List.append_assoc, true_and] at e
    obtain ⟨h1, h2⟩ := Tm.cod_inj a b _ _ e.2
    simp at h2
  | .f2 g a a', .f2 k b b', r, s, e => by
    simp only [Tm.cod, List.cons_append, List.cons.injEq, List.append_assoc, true_and] at e
    obtain ⟨h1, h2⟩ := Tm.cod_inj a b _ _ e.2
    simp only [List.cons_append, List.cons.injEq, true_and, List.append_assoc] at h2
    obtain ⟨h3, h4⟩ := Tm.cod_inj a' b' _ _ h2
    simp only [List.cons.injEq, true_and, List.nil_append] at h4
    exact ⟨by rw [h1, h3, show g = k by omega], h4⟩
theorem Tm.txt_inj {t u : Tm} (ht : t.Small) (hu : u.Small) (e : t.txt = u.txt) : t = u := by
  have z : t.cod ++ [] = u.cod ++ [] := by rw [← Tm.txt_cod ht, ← Tm.txt_cod hu, e]
  exact (Tm.cod_inj t u [] [] z).1
theorem txts_inj : ∀ {ts us : List Tm}, (∀ t ∈ ts, Tm.Small t) → (∀ t ∈ us, Tm.Small t) → ts.map Tm.txt = us.map Tm.txt → ts = us
  | [], [], _, _, _ => rfl
  | [], _ :: _, _, _, e => by simp at e
  | _ :: _, [], _, _, e => by simp at e
  | t :: ts, u :: us, h1, h2, e => by
    rw [List.map_cons, List.map_cons, List.cons.injEq] at e
    rw [Tm.txt_inj (h1 t List.mem_cons_self) (h2 u List.mem_cons_self) e.1, txts_inj (fun t h => h1 t (List.mem_cons_of_mem _ h)) (fun t h => h2 t (List.mem_cons_of_mem _ h)) e.2]
end Lb

set_option Elab.async false
set_option linter.all false
set_option maxRecDepth 100000
set_option maxHeartbeats 4000000
/-! d.get(k, x) and list(d.values()) of dicts with nested keys -/
namespace Lb
open PySem PySem.Spec L2 Evl PyProof.Rows
section
variable {X : Cx} {pins : List (Addr × Obj)} {σ : L2.St} {H : Hp} {s : Shared} {d : Addr} {sh : List Bool} {kvs : List (List NI × V)} {ks : List NI} {y v z : V} {u r : Value} {A : Around} {E : Value → Shared → Prop}
theorem nd_getd {Q : Value → Shared → Prop} (hu : A.units + 4 < cLine) (I : Inv X pins σ H s) (h : NDict X.prog X.w X.K sh H d kvs) (hk : Dp X.K H y (keyD ks)) (hs : ks.map isKey = sh) (ry : RelV y u) (rz : RelV z r) (q : ∀ w' s', Inv X pins σ H s' → RelV ((valV kvs ks).getD z) w' → Q w' s') :
    wpAny (model X.prog X.w) A (call (.builtin "dict.get") [.ref d, u, r]) Q E s := by
  obtain ⟨xs, rr, _, dd⟩ := nd_heap I h
  obtain ⟨b, _, e, _⟩ := Dp.tupD hk
  subst e
  cases (show u = Value.ref b from ry)
  refine call_meetsIn PySem.F.slot_dict_get dd.typeIs PySem.F.entry_dict_get (PySem.F.args_dict_get_3 _ _ _) (meetsH_dict_get_default (nestKind X.prog X.w sh) d b h.sys r) ⟨(show A.in1.units + 2 < cLine by have : A.in1.units = A.units + 1 := rfl; omega), ks, xs, nest_of I hs hk, dd, q _ _ (I.tok _) ?_⟩
  exact (rr.val ks).getD rz
end
def tNGetD (P : Program) (w : World) (K : PySem.W.Frag) (td ty tx : TE) : TE := fun σ H Q => td σ H fun x H1 => ∃ d sh kvs, x = .ref d ∧ NDict P w K sh H1 d kvs ∧ ty σ H1 fun y H2 => tx σ H2 fun z H3 => ∃ ks, NDict P w K sh H3 d kvs ∧ Dp K H3 y (keyD ks) ∧ ks.map isKey = sh ∧ Q ((valV kvs ks).getD z) H3
def tNVals (P : Program) (w : World) (K : PySem.W.Frag) (td : TE) : TE := fun σ H Q => td σ H fun x H1 => ∃ d sh kvs, x = .ref d ∧ NDict P w K sh H1 d kvs ∧ ∀ q, H1 q = none → Q (.ref q) (upd H1 q (.lst (kvs.map (·.2))))
theorem KN.vals {K : PySem.W.Frag} {sh : List Bool} {H : Hp} : ∀ {kvs : List (List NI × V)} {xs : List (List NI × Addr × Value)}, KN K sh H kvs xs → Vals (kvs.map (·.2)) (xs.map (·.2.2))
  | _, _, .nil => .nil
  | _, _, .cons h t => .cons h.2.2.2 (KN.vals t)
section
variable {X : Cx} {o e f : Expr} {p pos apos cpos mpos : Pos} {td ty tx : TE}
theorem pe_ngetD (hu : X.A.units + 4 < cLine) (ho : PE X o td) (he : PE X e ty) (hf : PE X f tx) (m : M2 X o "get" apos e f cpos := by exact ⟨rfl, rfl, rfl, rfl⟩) : PE X (.Call (.Attribute o "get" apos) [e, f] [] cpos) (tNGetD X.prog X.w X.K td ty tx) := by
  refine ⟨fun pins s σ H Q I h => ?_⟩
  refine wpAny_Call_method m.base m.few m.line PySem.F.plainAttrs_dict PySem.F.slot_dict_get PySem.F.type_dict_get (thn (ho.run pins s σ H _ I h) fun u s1 hx => ?_)
  obtain ⟨x, H1, I1, rx, d, sh, kvs, ex, hd, q1⟩ := hx
  subst ex
  obtain rfl : u = Value.ref d := rx
  refine ⟨nd_type I1 hd, fun b q => ?_, ?_⟩
  · obtain ⟨_, _, _, o, es, ep, g1, g2, _⟩ := nd_heap I1 hd
    cases q
    exact ⟨o, g1, g2.2.1⟩
  rw [m.trees]
  refine Calls.callWith_builtin rfl (Calls.evalArgs_plain (Calls.spliced_cons (thn (he.run pins s1 σ H1 _ I1 q1) fun iv s2 ⟨y, H2, I2, ry, q2⟩ =>
    Calls.spliced_cons (thn (hf.run pins s2 σ H2 _ I2 q2) fun fv s3 ⟨z, H3, I3, rz, ks, hd3, hk, hs, q3⟩ => Calls.spliced_nil ?_))))
  exact nd_getd hu I3 hd3 hk hs ry rz fun w' s4 I4 rw' => ⟨_, H3, I4, rw', q3⟩
theorem pe_nvals (hc : X.calm = true) (hg : Gl X "list") (hm : X.mg "list" = none) (hd : PE X o td) (hbase : attributeBase o "values" X.env (eval o X.env) = eval o X.env := by rfl) (hline : (apos.endLine == mpos.line) = true := by rfl)
    (na : starEach [Expr.Call (.Attribute o "values" apos) [] [] mpos] X.env = (false, eval (Expr.Call (.Attribute o "values" apos) [] [] mpos) X.env) :: starEach [] X.env := by rfl) :
    PE X (.Call (.Name "list" p) [.Call (.Attribute o "values" apos) [] [] mpos] [] pos) (tNVals X.prog X.w X.K td) := by
  refine ⟨fun pins s σ H Q I h => ?_⟩
  refine Call_ (ld_blt I hg hm boot_list (PyProof.Rows.callWith_type1 (args_cons (wpAny_Call_method0_late hbase hline (thn (hd.run pins s σ H _ I h) fun v s1 hx => ?_)) na) na))
  obtain ⟨x, H1, I1, r1, d, sh, kvs, ex, hD, q⟩ := hx
  subst ex
  obtain rfl : v = Value.ref d := r1
  obtain ⟨xs, rr, hz, ob, es, ep, g1, g2, g3, g4, g5⟩ := nd_heap I1 hD
  have raw : s1.heap.DictRaw d es ep := ⟨ob, g1, g2, g3⟩
  have hsz : es.size = xs.length := by
    rw [← Array.length_toList, g4, List.length_map]
  refine ⟨"dict", "dict.values", F.plainAttrs_dict, F.slot_dict_values, F.type_dict_values, raw.typeIs, fun b e => ?_, Calls.callWith_builtin rfl (PySem.evalArgs_none ?_)⟩
  · cases e
    exact ⟨ob, g1, g2.2.1⟩
  refine call_meetsIn F.slot_dict_values raw.typeIs F.entry_dict_values (F.args_dict_values_1 _) (meets_dict_values_raw d hD.sys) ⟨⟨es, ep, raw⟩, args_nil ?_⟩
  have k1 : ∀ b u, s1.heap.get? b = some u → (s1.heap.push { cls := .type "dict_values", data := .fields #[.ref d] }).get? b = some u := fun b u e => Heap.get?_push_of_some _ e
  have hx : ∀ i (hi : i < es.size), ∃ y, xs[i]? = some y ∧ es[i].key = .ref y.2.1 ∧ es[i].val = y.2.2 := fun i hi => by
    have e1 : es.toList[i]? = some es[i] := by rw [Array.getElem?_toList]; exact Array.getElem?_eq_getElem hi
    rw [g4, List.getElem?_map] at e1
    obtain ⟨y, hy, e2⟩ := Option.map_eq_some_iff.mp e1
    exact ⟨y, hy, by rw [← e2]; rfl, by rw [← e2]; rfl⟩
  have src : PySem.W.KdlSrc X.prog X.w "dict_values" s1.heap.objs.size d es.size (fun i v => ∃ y, xs[i]? = some y ∧ v = y.2.2) (fun h => h.IsValuesView s1.heap.objs.size d ∧ h.DictRaw d es ep) :=
    { type := fun _ hm => hm.1.typeIs
      there := fun _ hm => ⟨let ⟨_, ho, _⟩ := hm.1; Heap.lt_size ho, let ⟨_, ho, _⟩ := hm.2; Heap.lt_size ho⟩
      keep := fun _ _ hm hk => ⟨let ⟨o, ho, x⟩ := hm.1; ⟨o, hk _ (.inl rfl) o ho, x⟩, hm.2.at fun o e => hk d (.inr rfl) o e⟩
      notList := by decide
      notTuple := by decide
      hint := fun _ _ _ _ hm hq => PySem.W.kdl_hint_values hm.1.typeIs hq
      iter := fun _ _ hh hm => ⟨_, _, (fun _ _ hq => wpAny_pyIter_values_raw hm.1 hm.2 hq), Walks.valuesH hh _ d (Nat.ne_of_lt (let ⟨_, ho, _⟩ := hm.2; Heap.lt_size ho)) es ep hx, ⟨⟨_, Heap.get?_push_size _ rfl, rfl, rfl⟩, hm.2.at fun o e => Heap.get?_push_of_some _ e⟩⟩ }
  refine PySem.W.kdl_call src (I.ok.hd hc) ⟨⟨_, Heap.get?_push_size _ rfl, rfl, rfl⟩, raw.at fun o e => k1 _ _ e⟩ (by rw [hsz]; exact hz) fun h' tk acc' c' hkeep hS hacc => ?_
  refine ⟨.ref _, upd H1 _ (.lst (kvs.map (·.2))), I1.laid (fun b u e => hkeep b u (k1 b u e)) (by rw [Heap.size_push]; exact Nat.le_succ _) (show ObjOk X.prog X.w _ _ _ (.lst (kvs.map (·.2))) from ⟨?_, acc'.toList, c', ?_, ?_⟩), rfl, q _ (I1.hok.fresh (by rw [Heap.size_push]; exact Nat.le_succ _))⟩
  · rw [List.length_map, Paired.length rr]; exact hz
  · have el : acc'.toList.length = acc'.size := by simp
    have vv := KN.vals rr
    have e9 : acc'.toList = xs.map (·.2.2) := List.ext_getElem? fun j => by
      cases hj : acc'.toList[j]? with
      | some w =>
        obtain ⟨y, h1, h2⟩ := hacc.2 j w (by rw [← Array.getElem?_toList]; exact hj)
        rw [List.getElem?_map, h1, h2]
        rfl
      | none =>
        have := List.getElem?_eq_none_iff.mp hj
        rw [el, hacc.1, hsz] at this
        rw [List.getElem?_map, List.getElem?_eq_none_iff.mpr this]
        rfl
    rw [e9]
    exact vv
  · rw [Array.toArray_toList]; exact hS
end
end Lb

set_option Elab.async false
set_option linter.all false
set_option maxRecDepth 100000
set_option maxHeartbeats 4000000
/-! {k: v for x in xs} where the keys are tuples of texts. -/
namespace Lb
open PySem L2 Evl PyProof.Rows PySem.Spec
/-- one pair is laid into the new dict -/
theorem laid_one {Y : Cx} {ps : List (Addr × Obj)} {τ : L2.St} {G : Hp} {sh : Shared} {Er : Value → Shared → Prop} {d b : Addr} {rows : List (List L2.Key × V)} {ks : List L2.Key} {x : V} {ux : Value} {Z : Unit → Shared → Prop} (hu : Y.A.units + 1 < cLine)
    (J : Inv Y ps τ G sh) (gd : G d = some (.dT rows)) (gb : G b = some (.tup (ks.map kV))) (few : rows.length < sizeLine) (rx : RelV x ux) (z : ∀ sh', Inv Y ps τ (L2.upd G d (.dT (putK rows ks x))) sh' → Z () sh') :
    wpAny (model Y.prog Y.w) Y.A (dictSet d (.ref b) ux) Z Er sh := by
  obtain ⟨zl, nm, xs, rel, dd⟩ := dt_of J.hok gd
  have room : xs.length ≤ sizeLine := Paired.length rel ▸ zl
  refine wpAny_dictSet_heap (hsz := room) (show Y.A.units < cLine from Nat.lt_of_succ_lt hu) (key_of J.hok gb) dd fun g' dd' same => z _ ?_
  obtain ⟨ob, es, ep, e1, e2, e3, e4, _, e5⟩ := dd'
  have more : (putK rows ks x).length ≤ sizeLine := Nat.le_trans (length_putK rows ks x) few
  have nt : ∀ ys, HO.dT rows ≠ HO.tup ys := fun ys w => nomatch w
  exact d_write J (by rw [gd]; trivial) same ⟨ob, e1⟩ ⟨more, nm, _, (rel.put ks gb rx).keeps (fun c ys ec => by rw [upd_ne (ne_of ec gd fun w => nomatch w)]; exact ec), ob, es, ep, e1, e2, e3, e4, e5⟩
/-- what is to be shown of such a comprehension: D the new dict -/
def tDcT (wi : TI) (g : TG) (tk tv : TE) (vs : List Nat) : TE := fun σ H Q => wi σ H fun J H1 => ∀ D, H1 D = none → ∃ W : Nat → Nat → Hp → Prop, (∃ m, W 0 m (L2.upd H1 D (.dT []))) ∧ ∀ i m H, W i m H →
  (J.stop i H ∧ Q (.ref D) H) ∨ (J.go i H ∧ ∃ Nx : Hp → Prop, (∀ H', Nx H' → ∃ m', m' < m ∧ W (i + 1) m' H') ∧ ∀ x H', J.yld i H x H' → g x (wipe σ vs) H' fun σ2 H2 => wipe σ2 vs = wipe σ vs ∧
    tk σ2 H2 fun y H4 => tv σ2 H4 fun z H5 => ∃ rows ks b, y = .ref b ∧ H5 b = some (.tup (ks.map kV)) ∧ H5 D = some (.dT rows) ∧ rows.length < sizeLine ∧ Nx (L2.upd H5 D (.dT (putK rows ks z))))
section
variable {X : Cx}
theorem pe_dcT {kx vx tg iter : Expr} {scope : Scope} {own : List (Str × Nat)} {pos : Pos} {wi : TI} {g : TG} {tk tv : TE} (hu : X.A.units + 1 < cLine) (hc : X.calm = true) (hN : X.N.Nodup) (hi : PI X tg iter wi) (ok : BlkOk X.N X.env.scope scope own)
    (hg : ∀ (s : Shared) (H : Hp) (C : Addr) (cl : List (Str × Addr)) (fp : List Addr), PG (X.blk s H scope (compEnvC scope cl C X.env) fp) tg g)
    (hk : ∀ (s : Shared) (H : Hp) (C : Addr) (cl : List (Str × Addr)) (fp : List Addr), PE (X.blk s H scope (compEnvC scope cl C X.env) fp) kx tk)
    (hv : ∀ (s : Shared) (H : Hp) (C : Addr) (cl : List (Str × Addr)) (fp : List Addr), PE (X.blk s H scope (compEnvC scope cl C X.env) fp) vx tv) (hs : ∀ x, foldedSetIterable iter X.env x = pure x := by intro _; rfl) :
    PE X (.DictComp kx vx [⟨tg, iter, [], 0⟩] scope pos) (tDcT wi g tk tv (own.map (·.2))) := by
  refine ⟨fun pins s σ H Q I want => ?_⟩
  rw [arm_eval_DictComp]
  have open_ : ∀ y ∈ scope.names, y.2 = .free → ∃ c, X.env.cells.lookup y.1 = some c := fun y hy e => (ok.free y hy e).elim (fun q => I.ok.has _ (.inl q)) fun q => I.ok.has _ (.inr q)
  refine wpAny_comprehension_free (use := none) rfl hs (closure_ok open_) ok.kind (fun y hy e => by rw [ok.uniq y hy, e]) (thn (hi.run pins s σ H _ I want) fun xv s1 hx => thn hx fun itv s2 at2 => ?_)
  obtain ⟨it, fp, tn, J, H2, rfl, I2, T, st2, f2, q⟩ := at2
  refine wpAny_newObj_type (newEnv_comp ?_)
  generalize dEq : s2.heap.objs.size = D
  have free2 : H2 D = none := I2.hok.fresh (Nat.le_of_eq dEq)
  obtain ⟨W, ⟨m0, w0⟩, turn⟩ := q D free2
  generalize sEq : ({ s2 with heap := s2.heap.push { cls := .type "dict", data := .dict #[] } } : Shared) = s3
  have grown : s3.heap = s2.heap.push { cls := .type "dict", data := .dict #[] } := by rw [← sEq]
  have stays : ∀ b o, s2.heap.get? b = some o → s3.heap.get? b = some o := fun b o e => by rw [grown]; exact Heap.get?_push_of_some _ e
  have I3 : Inv X pins σ (L2.upd H2 D (.dT [])) s3 := by
    rw [← sEq]
    refine I2.laid (t' := s2.toks) (fun b o e => Heap.get?_push_of_some _ e) (Nat.le_of_eq dEq) ?_
    rw [← dEq]
    exact dt_empty s2.heap I2.big
  have low : ∀ b ∈ fp, b < s2.heap.objs.size := fun b hb => (T.obj _ _ st2 b hb).elim fun o z => Heap.lt_size z.1
  have f3 : ∀ b ∈ fp, FpOk X pins (L2.upd H2 D (.dT [])) b ∧ b < s3.heap.objs.size := fun b hb => by
    have l := low b hb
    have nd : b ≠ D := fun z => by
      rw [z, ← dEq] at l
      exact Nat.lt_irrefl _ l
    refine ⟨⟨(upd_ne nd).trans (f2 b hb).1, (f2 b hb).2⟩, ?_⟩
    rw [grown, Heap.size_push]
    exact Nat.lt_succ_of_lt l
  have st3 : tn 0 s3.heap := T.keep _ _ _ st2 fun b _ => stays b
  have I4 := block_start I3 ok hN f3
  have pg := hg s3 (L2.upd H2 D (.dT [])) s3.heap.objs.size (cellsFrom (s3.heap.objs.size + 1) scope.names (cloFrom X.env.cells scope.names [])) fp
  have pk := hk s3 (L2.upd H2 D (.dT [])) s3.heap.objs.size (cellsFrom (s3.heap.objs.size + 1) scope.names (cloFrom X.env.cells scope.names [])) fp
  have pv_ := hv s3 (L2.upd H2 D (.dT [])) s3.heap.objs.size (cellsFrom (s3.heap.objs.size + 1) scope.names (cloFrom X.env.cells scope.names [])) fp
  show codeAny _ _ (.compStart (.DictComp kx vx [⟨tg, iter, [], 0⟩] scope pos) 0 (.ref it) (.ref D) (compEnvC scope (cellsFrom (s3.heap.objs.size + 1) scope.names (cloFrom X.env.cells scope.names [])) s3.heap.objs.size X.env)) (compPost (model X.prog X.w) X.A X.xe none (EP X pins σ Q) (.ref D) s3.heap.objs.size) { s3 with heap := pushCells (s3.heap.push { cls := .type "dict", data := .dict #[] }) scope.names }
  have bare : ∀ b ∈ fp, (L2.upd H2 D (.dT [])) b = none := fun b hb => (f3 b hb).1.1
  generalize ceEq : compEnvC scope (cellsFrom (s3.heap.objs.size + 1) scope.names (cloFrom X.env.cells scope.names [])) s3.heap.objs.size X.env = ce at I4 pg pk pv_ ⊢
  have cL : ce.locals = s3.heap.objs.size := by rw [← ceEq]; rfl
  generalize hEq : L2.upd H2 D (.dT []) = H3 at I3 I4 pg pk pv_ w0 bare f3
  generalize s4Eq : ({ s3 with heap := pushCells (s3.heap.push { cls := .type "dict", data := .dict #[] }) scope.names } : Shared) = s4 at I4 ⊢
  have st4 : tn 0 s4.heap := T.keep _ _ _ st3 fun b _ o e => by rw [← s4Eq]; exact pushCells_keeps _ _ _ _ (Heap.get?_push_of_some _ e)
  have still : ∀ {σ' : L2.St} {H' : Hp} {s' : Shared}, Inv (X.blk s3 H3 scope ce fp) [] σ' H' s' → (∀ b ∈ fp, H' b = none) → ∀ b ∈ fp, FpOk (X.blk s3 H3 scope ce fp) [] H' b := fun {σ' H' s'} I' hn b hb => by
    have z := I'.ok.exf b hb
    exact ⟨hn b hb, z.1, I'.ok.exfs b hb, .inl hb, fun x c e => z.2 x c e, fun p hp => nomatch (show p ∈ ([] : List (Addr × Obj)) from hp)⟩
  have loop : codeAny (model X.prog X.w) X.A (.compLoop (.DictComp kx vx [⟨tg, iter, [], 0⟩] scope pos) 0 (.ref it) (.ref D) ce) (compPost (model X.prog X.w) X.A X.xe none (EP X pins σ Q) (.ref D) s3.heap.objs.size) s4 := by
    refine compLoop_anyD (fun n s' => ∃ i H', Inv (X.blk s3 H3 scope ce fp) [] (wipe σ (own.map (·.2))) H' s' ∧ tn i s'.heap ∧ (∀ b ∈ fp, H' b = none) ∧ W i n H') ?_ m0 ⟨0, H3, I4, st4, bare, w0⟩
    rintro n s5 ⟨i, H5, I5, st5, n5, w5⟩
    rcases turn i n H5 w5 with ⟨stop, fin⟩ | ⟨go, Nx, hNx, step⟩
    · refine thnF (T.done (X.blk s3 H3 scope ce fp) rfl rfl rfl hc i [] s5 _ H5 (fun _ _ => False) I5 (still I5 n5) st5 stop) fun r s6 ⟨hr, I6⟩ => ?_
      subst hr
      have I7 : Inv X pins σ H5 s6 := I3.call' (ch := fp) I6.os I6.base I6.hok I6.bare fun b hb => by
        have z := (f3 b hb).1.2
        exact ⟨z.2.2.1, z.1, z.2.2.2.1, z.2.2.2.2⟩
      obtain ⟨mL, loc, _⟩ := I6.loc
      have loc' : s6.heap.Ns ce.locals mL := loc
      have gone : H5 s3.heap.objs.size = none := cL ▸ (show H5 ce.locals = none from I6.free)
      rw [cL] at loc'
      refine ⟨mL, loc', fun h'' sb => ?_⟩
      obtain ⟨a0, a1, a2, a3, a4, a5⟩ := I3.fpOk (Nat.le_refl _) gone
      exact ⟨.ref D, H5, I7.turned (t' := s6.toks) (fun b o hb e => (sb.2 b hb).trans e) a0 a1 a3 a4 a5, rfl, fin⟩
    · refine thnF (T.item (X.blk s3 H3 scope ce fp) rfl rfl rfl hc i [] s5 _ H5 (fun _ _ => False) I5 (still I5 n5) st5 go) fun r s6 ⟨u, hr, at6⟩ => ?_
      subst hr
      refine thnF at6 fun _ s7 ⟨x, H7, I7, r7, y7, st7, n7⟩ => ?_
      have P7 := I7.pinned (still I7 n7) (T.obj _ _ st7)
      refine thnF (pg.run _ s7 _ H7 x u _ P7 r7 (step x H7 y7)) fun _ s8 ⟨σ8, H8, I8, hw8, q8⟩ => ?_
      refine wpAny_tests_nil ?_
      rw [if_pos rfl]
      refine thnF (pk.run _ s8 σ8 H8 _ I8 q8) fun kv s9 ⟨yk, H9, I9, r9, q9⟩ => ?_
      refine thnF (pv_.run _ s9 σ8 H9 _ I9 q9) fun vv s10 ⟨yv, H10, I10, r10, rows, ks, b, ey, hb, hD, few, nx⟩ => ?_
      subst ey
      cases (show kv = Value.ref b from r9)
      refine laid_one (Y := X.blk s3 H3 scope ce fp) hu I10 hD hb few r10 fun s11 I11 => ?_
      obtain ⟨m', lt, w'⟩ := hNx _ nx
      have held : ∀ b ∈ fp, ∀ o, s7.heap.get? b = some o → s11.heap.get? b = some o ∧ (L2.upd H10 D (.dT (putK rows ks yv))) b = none := fun c hc' o e => by
        have z := I11.pin (c, o) (List.mem_append_right _ (List.mem_append_right _ (mem_pinsAt hc' e)))
        exact ⟨z.1, z.2.1⟩
      have same : (wipe σ (own.map (·.2))).length = σ8.length := by rw [← hw8, wipe_length]
      refine ⟨m', lt, i + 1, _, (I11.unpinned (pins := [])).weak same (fun j v e => ?_), T.keep _ _ _ st7 fun c hc' o e => (held c hc' o e).1, fun c hc' => ?_, w'⟩
      · rw [← hw8] at e
        exact (wipe_some e).1
      · obtain ⟨o, e, _⟩ := T.obj _ _ st7 c hc'
        exact (held c hc' o e).2
  exact codeAny_compStart_dict loop (T.self X.A 0 _ _ _ st4 loop)
end
end Lb

set_option Elab.async false
set_option linter.all false
set_option maxRecDepth 100000
set_option maxHeartbeats 4000000
/-! {k: v for x in xs} where the keys are nested tuples. -/
namespace Lb
open PySem L2 Evl PyProof.Rows PySem.Spec
/-- what is to be shown of such a comprehension: D the new dict -/
def tDcN (P : Program) (w : World) (K : PySem.W.Frag) (sh : List Bool) (wi : TI) (g : TG) (tk tv : TE) (vs : List Nat) : TE := fun σ H Q => wi σ H fun J H1 => ∀ D H2, H1 D = none → Ex H1 H2 → NDictW P w K sh H2 D [] → ∃ W : Nat → Nat → Hp → Prop, (∃ m, W 0 m H2) ∧ ∀ i m H, W i m H →
  (J.stop i H ∧ Q (.ref D) H) ∨ (J.go i H ∧ ∃ Nx : Hp → Prop, (∀ H', Nx H' → ∃ m', m' < m ∧ W (i + 1) m' H') ∧ ∀ x H', J.yld i H x H' → g x (wipe σ vs) H' fun σ2 H2 => wipe σ2 vs = wipe σ vs ∧
    tk σ2 H2 fun y H4 => tv σ2 H4 fun z H5 => ∃ kvs ks, NDictW P w K sh H5 D kvs ∧ Dp K H5 y (keyD ks) ∧ ks.map isKey = sh ∧ kvs.length < sizeLine ∧ ∀ H6, ExB D H5 H6 → NDictW P w K sh H6 D (putK kvs ks z) → Nx H6)
section
variable {X : Cx}
theorem pe_dcN (dsh : List Bool) {kx vx tg iter : Expr} {scope : Scope} {own : List (Str × Nat)} {pos : Pos} {wi : TI} {g : TG} {tk tv : TE} (hu : X.A.units + 4 < cLine) (hc : X.calm = true) (hN : X.N.Nodup) (hi : PI X tg iter wi) (ok : BlkOk X.N X.env.scope scope own)
    (hg : ∀ (s : Shared) (H : Hp) (C : Addr) (cl : List (Str × Addr)) (fp : List Addr), PG (X.blk s H scope (compEnvC scope cl C X.env) fp) tg g)
    (hk : ∀ (s : Shared) (H : Hp) (C : Addr) (cl : List (Str × Addr)) (fp : List Addr), PE (X.blk s H scope (compEnvC scope cl C X.env) fp) kx tk)
    (hv : ∀ (s : Shared) (H : Hp) (C : Addr) (cl : List (Str × Addr)) (fp : List Addr), PE (X.blk s H scope (compEnvC scope cl C X.env) fp) vx tv) (hs : ∀ x, foldedSetIterable iter X.env x = pure x := by intro _; rfl) :
    PE X (.DictComp kx vx [⟨tg, iter, [], 0⟩] scope pos) (tDcN X.prog X.w X.K dsh wi g tk tv (own.map (·.2))) := by
  refine ⟨fun pins s σ H Q I want => ?_⟩
  rw [arm_eval_DictComp]
  have open_ : ∀ y ∈ scope.names, y.2 = .free → ∃ c, X.env.cells.lookup y.1 = some c := fun y hy e => (ok.free y hy e).elim (fun q => I.ok.has _ (.inl q)) fun q => I.ok.has _ (.inr q)
  refine wpAny_comprehension_free (use := none) rfl hs (closure_ok open_) ok.kind (fun y hy e => by rw [ok.uniq y hy, e]) (thn (hi.run pins s σ H _ I want) fun xv s1 hx => thn hx fun itv s2 at2 => ?_)
  obtain ⟨it, fp, tn, J, H2, rfl, I2, T, st2, f2, q⟩ := at2
  refine wpAny_newObj_type (newEnv_comp ?_)
  generalize dEq : s2.heap.objs.size = D
  have free2 : H2 D = none := I2.hok.fresh (Nat.le_of_eq dEq)
  obtain ⟨W, ⟨m0, w0⟩, turn⟩ := q D (L2.upd H2 D (nestO X.prog X.w dsh D [])) free2 (Ex.new free2) ⟨by rw [← dEq]; exact beq_eq_false_iff_ne.mpr (Ne.symm (Nat.ne_of_lt I2.big)), [], upd_same, .nil⟩
  generalize sEq : ({ s2 with heap := s2.heap.push { cls := .type "dict", data := .dict #[] } } : Shared) = s3
  have grown : s3.heap = s2.heap.push { cls := .type "dict", data := .dict #[] } := by rw [← sEq]
  have stays : ∀ b o, s2.heap.get? b = some o → s3.heap.get? b = some o := fun b o e => by rw [grown]; exact Heap.get?_push_of_some _ e
  have I3 : Inv X pins σ (L2.upd H2 D (nestO X.prog X.w dsh D [])) s3 := by
    rw [← sEq]
    refine I2.laid (t' := s2.toks) (fun b o e => Heap.get?_push_of_some _ e) (Nat.le_of_eq dEq) ?_
    rw [← dEq]
    exact nest_empty s2.heap
  have low : ∀ b ∈ fp, b < s2.heap.objs.size := fun b hb => (T.obj _ _ st2 b hb).elim fun o z => Heap.lt_size z.1
  have f3 : ∀ b ∈ fp, FpOk X pins (L2.upd H2 D (nestO X.prog X.w dsh D [])) b ∧ b < s3.heap.objs.size := fun b hb => by
    have l := low b hb
    have nd : b ≠ D := fun z => by
      rw [z, ← dEq] at l
      exact Nat.lt_irrefl _ l
    refine ⟨⟨(upd_ne nd).trans (f2 b hb).1, (f2 b hb).2⟩, ?_⟩
    rw [grown, Heap.size_push]
    exact Nat.lt_succ_of_lt l
  have st3 : tn 0 s3.heap := T.keep _ _ _ st2 fun b _ => stays b
  have I4 := block_start I3 ok hN f3
  have pg := hg s3 (L2.upd H2 D (nestO X.prog X.w dsh D [])) s3.heap.objs.size (cellsFrom (s3.heap.objs.size + 1) scope.names (cloFrom X.env.cells scope.names [])) fp
  have pk := hk s3 (L2.upd H2 D (nestO X.prog X.w dsh D [])) s3.heap.objs.size (cellsFrom (s3.heap.objs.size + 1) scope.names (cloFrom X.env.cells scope.names [])) fp
  have pv_ := hv s3 (L2.upd H2 D (nestO X.prog X.w dsh D [])) s3.heap.objs.size (cellsFrom (s3.heap.objs.size + 1) scope.names (cloFrom X.env.cells scope.names [])) fp
  show codeAny _ _ (.compStart (.DictComp kx vx [⟨tg, iter, [], 0⟩] scope pos) 0 (.ref it) (.ref D) (compEnvC scope (cellsFrom (s3.heap.objs.size + 1) scope.names (cloFrom X.env.cells scope.names [])) s3.heap.objs.size X.env)) (compPost (model X.prog X.w) X.A X.xe none (EP X pins σ Q) (.ref D) s3.heap.objs.size) { s3 with heap := pushCells (s3.heap.push { cls := .type "dict", data := .dict #[] }) scope.names }
  have bare : ∀ b ∈ fp, (L2.upd H2 D (nestO X.prog X.w dsh D [])) b = none := fun b hb => (f3 b hb).1.1
  generalize ceEq : compEnvC scope (cellsFrom (s3.heap.objs.size + 1) scope.names (cloFrom X.env.cells scope.names [])) s3.heap.objs.size X.env = ce at I4 pg pk pv_ ⊢
  have cL : ce.locals = s3.heap.objs.size := by rw [← ceEq]; rfl
  generalize hEq : L2.upd H2 D (nestO X.prog X.w dsh D []) = H3 at I3 I4 pg pk pv_ w0 bare f3
  generalize s4Eq : ({ s3 with heap := pushCells (s3.heap.push { cls := .type "dict", data := .dict #[] }) scope.names } : Shared) = s4 at I4 ⊢
  have st4 : tn 0 s4.heap := T.keep _ _ _ st3 fun b _ o e => by rw [← s4Eq]; exact pushCells_keeps _ _ _ _ (Heap.get?_push_of_some _ e)
  have still : ∀ {σ' : L2.St} {H' : Hp} {s' : Shared}, Inv (X.blk s3 H3 scope ce fp) [] σ' H' s' → (∀ b ∈ fp, H' b = none) → ∀ b ∈ fp, FpOk (X.blk s3 H3 scope ce fp) [] H' b := fun {σ' H' s'} I' hn b hb => by
    have z := I'.ok.exf b hb
    exact ⟨hn b hb, z.1, I'.ok.exfs b hb, .inl hb, fun x c e => z.2 x c e, fun p hp => nomatch (show p ∈ ([] : List (Addr × Obj)) from hp)⟩
  have loop : codeAny (model X.prog X.w) X.A (.compLoop (.DictComp kx vx [⟨tg, iter, [], 0⟩] scope pos) 0 (.ref it) (.ref D) ce) (compPost (model X.prog X.w) X.A X.xe none (EP X pins σ Q) (.ref D) s3.heap.objs.size) s4 := by
    refine compLoop_anyD (fun n s' => ∃ i H', Inv (X.blk s3 H3 scope ce fp) [] (wipe σ (own.map (·.2))) H' s' ∧ tn i s'.heap ∧ (∀ b ∈ fp, H' b = none) ∧ W i n H') ?_ m0 ⟨0, H3, I4, st4, bare, w0⟩
    rintro n s5 ⟨i, H5, I5, st5, n5, w5⟩
    rcases turn i n H5 w5 with ⟨stop, fin⟩ | ⟨go, Nx, hNx, step⟩
    · refine thnF (T.done (X.blk s3 H3 scope ce fp) rfl rfl rfl hc i [] s5 _ H5 (fun _ _ => False) I5 (still I5 n5) st5 stop) fun r s6 ⟨hr, I6⟩ => ?_
      subst hr
      have I7 : Inv X pins σ H5 s6 := I3.call' (ch := fp) I6.os I6.base I6.hok I6.bare fun b hb => by
        have z := (f3 b hb).1.2
        exact ⟨z.2.2.1, z.1, z.2.2.2.1, z.2.2.2.2⟩
      obtain ⟨mL, loc, _⟩ := I6.loc
      have loc' : s6.heap.Ns ce.locals mL := loc
      have gone : H5 s3.heap.objs.size = none := cL ▸ (show H5 ce.locals = none from I6.free)
      rw [cL] at loc'
      refine ⟨mL, loc', fun h'' sb => ?_⟩
      obtain ⟨a0, a1, a2, a3, a4, a5⟩ := I3.fpOk (Nat.le_refl _) gone
      exact ⟨.ref D, H5, I7.turned (t' := s6.toks) (fun b o hb e => (sb.2 b hb).trans e) a0 a1 a3 a4 a5, rfl, fin⟩
    · refine thnF (T.item (X.blk s3 H3 scope ce fp) rfl rfl rfl hc i [] s5 _ H5 (fun _ _ => False) I5 (still I5 n5) st5 go) fun r s6 ⟨u, hr, at6⟩ => ?_
      subst hr
      refine thnF at6 fun _ s7 ⟨x, H7, I7, r7, y7, st7, n7⟩ => ?_
      have P7 := I7.pinned (still I7 n7) (T.obj _ _ st7)
      refine thnF (pg.run _ s7 _ H7 x u _ P7 r7 (step x H7 y7)) fun _ s8 ⟨σ8, H8, I8, hw8, q8⟩ => ?_
      refine wpAny_tests_nil ?_
      rw [if_pos rfl]
      refine thnF (pk.run _ s8 σ8 H8 _ I8 q8) fun kv s9 ⟨yk, H9, I9, r9, q9⟩ => ?_
      refine thnF (pv_.run _ s9 σ8 H9 _ I9 q9) fun vv s10 ⟨yv, H10, I10, r10, kvs, ks, hD, hks, hsh, few, nx⟩ => ?_
      refine nd_dset (X := X.blk s3 H3 scope ce fp) hu I10 hD hks hsh few r9 r10 fun H11 s11 I11 ex11 nd11 => ?_
      obtain ⟨m', lt, w'⟩ := hNx _ (nx _ ex11 nd11)
      have held : ∀ b ∈ fp, ∀ o, s7.heap.get? b = some o → s11.heap.get? b = some o ∧ H11 b = none := fun c hc' o e => by
        have z := I11.pin (c, o) (List.mem_append_right _ (List.mem_append_right _ (mem_pinsAt hc' e)))
        exact ⟨z.1, z.2.1⟩
      have same : (wipe σ (own.map (·.2))).length = σ8.length := by rw [← hw8, wipe_length]
      refine ⟨m', lt, i + 1, _, (I11.unpinned (pins := [])).weak same (fun j v e => ?_), T.keep _ _ _ st7 fun c hc' o e => (held c hc' o e).1, fun c hc' => ?_, w'⟩
      · rw [← hw8] at e
        exact (wipe_some e).1
      · obtain ⟨o, e, _⟩ := T.obj _ _ st7 c hc'
        exact (held c hc' o e).2
  exact codeAny_compStart_dict loop (T.self X.A 0 _ _ _ st4 loop)
def tNIn (P : Program) (w : World) (K : PySem.W.Frag) (ty td : TE) : TE := fun σ H Q => ty σ H fun y H1 => td σ H1 fun x H2 => ∃ d sh kvs ks, x = .ref d ∧ NDict P w K sh H2 d kvs ∧ Dp K H2 y (keyD ks) ∧ ks.map isKey = sh ∧ Q (.bl (valV kvs ks).isSome) H2
theorem pc_dinN {i o : Expr} {ty td : TE} (hu : X.A.units + 4 < cLine) (hi : PE X i ty) (ho : PE X o td) : PC X .In i o (tNIn X.prog X.w X.K ty td) := by
  constructor
  intro pins s σ H Q I h
  refine thn (hi.run pins s σ H _ I h) fun iv s1 hy => ?_
  obtain ⟨y, H1, I1, ry, q1⟩ := hy
  refine thn (ho.run pins s1 σ H1 _ I1 q1) fun u s2 hx => ?_
  obtain ⟨x, H2, I2, rx, d, sh, kvs, ks, ex, hd, hk, hsh, q2⟩ := hx
  subst ex
  cases (show u = Value.ref d from rx)
  exact nd_in hu I2 hd hk hsh ry fun s3 I3 => ⟨.bl (valV kvs ks).isSome, H2, I3, rfl, q2⟩
end
end Lb

set_option Elab.async false
set_option linter.all false
set_option maxRecDepth 100000
set_option maxHeartbeats 4000000
/-! Dicts whose keys are tuples of any depth (nestedKind): {}, {k: v}, d[k], k in d, d[k] = v, len. -/
namespace Lb
open PySem L2 Evl PyProof.Rows

mutual
theorem data_noL : ∀ k : NestedKey, noL k.data = true
  | .none => by simp [NestedKey.data, noL]
  | .num i => by simp [NestedKey.data, noL]
  | .text x => by simp [NestedKey.data, noL]
  | .tup ks => by rw [NestedKey.data, noL_tup]; exact datas_noL ks
theorem datas_noL : ∀ ks : List NestedKey, noLs (NestedKey.datas ks) = true
  | [] => by simp [NestedKey.datas, noLs]
  | k :: ks => by rw [NestedKey.datas, noLs, data_noL k, datas_noL ks]; rfl
end
theorem datas_map : ∀ ks : List NestedKey, NestedKey.datas ks = ks.map NestedKey.data
  | [] => rfl
  | k :: ks => by rw [NestedKey.datas, datas_map ks]; rfl
def KOk (k : NestedKey) : Prop := (∃ ks, k = .tup ks) ∧ k.depth ≤ 8
theorem KOk.ref {K : PySem.W.Frag} {H : Hp} {k : NestedKey} {y : V} (h : KOk k) (hk : Dp K H y k.data) : ∃ b, y = .ref b := by
  obtain ⟨⟨ks, rfl⟩, _⟩ := h
  rw [NestedKey.data] at hk
  obtain ⟨b, _, e, _⟩ := Dp.tupD hk
  exact ⟨b, e⟩
section
variable {X : Cx} {pins : List (Addr × Obj)} {σ : L2.St} {H : Hp} {s : Shared}
mutual
theorem nk_is (I : Inv X pins σ H s) : ∀ (k : NestedKey) {v : V} {u : Value}, Dp X.K H v k.data → RelV v u → NestedIs s.heap k u
  | .none, v, u, h, r => by
    rw [NestedKey.data] at h
    cases h.nonD
    cases (show u = Value.none from r)
    exact .none
  | .num i, v, u, h, r => by
    rw [NestedKey.data] at h
    cases h.intD
    obtain ⟨t, rfl⟩ := (show ∃ t, u = Value.int i t from r)
    exact .int i t
  | .text x, v, u, h, r => by
    rw [NestedKey.data] at h
    cases h.strD
    obtain ⟨t, rfl⟩ := (show ∃ t, u = Value.str x t from r)
    exact .text x t
  | .tup ks, v, u, h, r => by
    rw [NestedKey.data] at h
    obtain ⟨b, xs, rfl, sq, al⟩ := Dp.tupD h
    obtain ⟨its, rv, ⟨o, h1, h2, n, h3⟩, _⟩ := I.tuple sq
    cases (show u = Value.ref b from r)
    exact .tup h1 h2 h3 (by simpa using nks_are I ks al rv)
theorem nks_are (I : Inv X pins σ H s) : ∀ (ks : List NestedKey) {vs : List V} {us : List Value}, DpAll X.K H vs (NestedKey.datas ks) → Vals vs us → NestedAll s.heap ks us
  | [], _, _, h, r => by
    rw [NestedKey.datas] at h
    cases h; cases r; exact .nil
  | k :: ks, _, _, h, r => by
    rw [NestedKey.datas] at h
    cases h with
    | cons a t => cases r with
      | cons r1 rt => exact .cons (nk_is I k a r1) (nks_are I ks t rt)
end
theorem nk_of (I : Inv X pins σ H s) {ks : NestedKey} {a : Addr} (hs : KOk ks) (h : Dp X.K H (.ref a) ks.data) : (nestedKind X.prog X.w).is s.heap ks a := ⟨nk_is I ks h rfl, hs.2⟩
end
/-- the dict at d with the entries xs -/
def qO (P : Program) (w : World) (d : Addr) (xs : List (NestedKey × Addr × Value)) : HO := .ext fun h =>
  xs.length ≤ sizeLine ∧ ∃ o es ep, h.get? d = some o ∧ o.ExactDict ∧ o.data = .dict es ep ∧ es.toList = xs.map (entryOfKey (nestedKind P w)) ∧ (xs.map (·.1)).Nodup
def KQ (K : PySem.W.Frag) (H : Hp) : List (NestedKey × V) → List (NestedKey × Addr × Value) → Prop := Paired fun p q => p.1 = q.1 ∧ KOk p.1 ∧ Dp K H (.ref q.2.1) (p.1.data) ∧ RelV p.2 q.2.2
theorem KQ.keeps {K : PySem.W.Frag} {H H' : Hp} {kvs : List (NestedKey × V)} {xs : List (NestedKey × Addr × Value)} (r : KQ K H kvs xs) (e : TK K H H') : KQ K H' kvs xs :=
  Paired.mapP r fun p q z => ⟨z.1, z.2.1, tmono e _ _ (data_noL _) z.2.2.1, z.2.2.2⟩
structure QDict (P : Program) (w : World) (K : PySem.W.Frag) (H : Hp) (d : Addr) (kvs : List (NestedKey × V)) : Prop where
  sys : (d == sysModules) = false
  ex : ∃ xs, Rd H d (qO P w d xs) ∧ KQ K H kvs xs
/-- one that may be written -/
structure QDictW (P : Program) (w : World) (K : PySem.W.Frag) (H : Hp) (d : Addr) (kvs : List (NestedKey × V)) : Prop where
  sys : (d == sysModules) = false
  ex : ∃ xs, H d = some (qO P w d xs) ∧ KQ K H kvs xs
theorem QDictW.rd {P : Program} {w : World} {K : PySem.W.Frag} {H : Hp} {d : Addr} {kvs : List (NestedKey × V)} (h : QDictW P w K H d kvs) : QDict P w K H d kvs := by
  obtain ⟨s, xs, h1, h2⟩ := h
  exact ⟨s, xs, .inl h1, h2⟩
theorem QDictW.noTup {P : Program} {w : World} {K : PySem.W.Frag} {H : Hp} {d : Addr} {kvs : List (NestedKey × V)} (h : QDictW P w K H d kvs) : ∀ xs, ¬ Rd H d (.tup xs) := by
  obtain ⟨s, xs, h1, h2⟩ := h
  exact no_rd h1 (fun _ z => nomatch z) (fun _ _ z => nomatch z)
theorem QDict.noTup {P : Program} {w : World} {K : PySem.W.Frag} {H : Hp} {d : Addr} {kvs : List (NestedKey × V)} (h : QDict P w K H d kvs) : ∀ xs, ¬ Rd H d (.tup xs) := by
  obtain ⟨s, xs, h1, h2⟩ := h
  rcases h1 with h1 | ⟨o, h1⟩
  · exact no_rd h1 (fun _ z => nomatch z) (fun _ _ z => nomatch z)
  · exact no_rd h1 (fun _ z => nomatch z) (fun _ _ z => by unfold qO at z; cases z)
theorem QDict.keep {P : Program} {w : World} {K : PySem.W.Frag} {H H' : Hp} {d : Addr} {kvs : List (NestedKey × V)} (h : QDict P w K H d kvs) (e : TK K H H') (hd : ∀ o, H d = some o → H' d = some o) : QDict P w K H' d kvs := by
  obtain ⟨s, xs, h1, h2⟩ := h
  rcases h1 with h1 | ⟨o, h1⟩
  · exact ⟨s, xs, .inl (hd _ h1), h2.keeps e⟩
  · exact ⟨s, xs, .inr ⟨o, hd _ h1⟩, h2.keeps e⟩
theorem QDict.mono {P : Program} {w : World} {K : PySem.W.Frag} {H H' : Hp} {d : Addr} {kvs : List (NestedKey × V)} (h : QDict P w K H d kvs) (e : Ex H H') : QDict P w K H' d kvs := h.keep (TK.of e) fun o ho => e d o ho
/-- it stays where what changes is another thing -/
theorem QDictW.keep {P : Program} {w : World} {K : PySem.W.Frag} {H H' : Hp} {d : Addr} {kvs : List (NestedKey × V)} (h : QDictW P w K H d kvs) (e : TK K H H') (hd : ∀ o, H d = some o → H' d = some o) : QDictW P w K H' d kvs := by
  obtain ⟨s, xs, h1, h2⟩ := h
  exact ⟨s, xs, hd _ h1, h2.keeps e⟩
theorem KQ.val {K : PySem.W.Frag} {H : Hp} {kvs : List (NestedKey × V)} {xs : List (NestedKey × Addr × Value)} (r : KQ K H kvs xs) (k : NestedKey) : RelO (valV kvs k) ((atKey xs k).map (·.2)) := by
  unfold KQ at r
  induction r with
  | nil => exact True.intro
  | @cons p q ps qs h t ih =>
    obtain ⟨h1, _, _, h2⟩ := h
    by_cases e : p.1 = k
    · have e' : q.1 = k := h1.symm.trans e
      have b : atKey (q :: qs) k = some q.2 := by simp [atKey, List.find?_cons, e']
      rw [valV_pos e, b]
      exact h2
    · have e' : ¬ q.1 = k := fun z => e (h1.trans z)
      have b : atKey (q :: qs) k = atKey qs k := by simp [atKey, List.find?_cons, e']
      rw [valV_neg e, b]
      exact ih
theorem KQ.put {K : PySem.W.Frag} {H : Hp} {kvs : List (NestedKey × V)} {xs : List (NestedKey × Addr × Value)} (r : KQ K H kvs xs) {k : NestedKey} {b : Addr} {y : V} {u : Value} (hs : KOk k) (hb : Dp K H (.ref b) (k.data)) (ry : RelV y u) :
    KQ K H (putK kvs k y) (storedH xs k b u) := by
  have e : (kvs.any fun kv => decide (kv.1 = k)) = (atKey xs k).isSome := by rw [valV_any, (r.val k).isSome_eq, Option.isSome_map]
  unfold putK storedH
  rw [e]
  cases q : (atKey xs k).isSome with
  | true =>
    rw [if_pos rfl, if_pos rfl]
    unfold KQ at r ⊢
    clear e q
    induction r with
    | nil => exact .nil
    | @cons p q ps qs h t ih =>
      rw [List.map_cons, List.map_cons]
      refine .cons ?_ ih
      obtain ⟨h1, h2, h3, h4⟩ := h
      unfold putAt
      by_cases e : p.1 = k
      · rw [if_pos e, if_pos (h1.symm.trans e)]
        exact ⟨h1, h2, h3, ry⟩
      · rw [if_neg e, if_neg (fun z => e (h1.trans z))]
        exact ⟨h1, h2, h3, h4⟩
  | false =>
    rw [if_neg Bool.false_ne_true, if_neg Bool.false_ne_true]
    exact Paired.snoc r ⟨rfl, hs, hb, ry⟩
section
variable {X : Cx} {pins : List (Addr × Obj)} {σ : L2.St} {H : Hp} {s : Shared} {d : Addr} {kvs : List (NestedKey × V)} {ks : NestedKey} {y v : V} {u r : Value} {A : Around} {E : Value → Shared → Prop}
theorem KQ.nest (I : Inv X pins σ H s) : ∀ {kvs : List (NestedKey × V)} {xs : List (NestedKey × Addr × Value)}, KQ X.K H kvs xs → ∀ x ∈ xs, (nestedKind X.prog X.w).is s.heap x.1 x.2.1
  | _, _, .nil, _, hx => by cases hx
  | _, _, .cons hq t, x, hx => by
    rcases List.mem_cons.mp hx with e | hx
    · subst e
      rw [← hq.1]
      exact nk_of I hq.2.1 hq.2.2.1
    · exact KQ.nest I t x hx
theorem qd0_heap (I : Inv X pins σ H s) (h : QDict X.prog X.w X.K H d kvs) : ∃ xs, KQ X.K H kvs xs ∧ xs.length ≤ sizeLine ∧ s.heap.DictOfH (nestedKind X.prog X.w) d xs := by
  obtain ⟨_, xs, h1, h2⟩ := h
  obtain ⟨⟨hz, o, es, ep, g1, g2, g3, g4, g5⟩, _, _⟩ : ObjOk X.prog X.w H s.heap d (qO X.prog X.w d xs) := rd_of I.hok h1
  exact ⟨xs, h2, hz, o, es, ep, g1, g2, g3, g4, KQ.nest I h2, g5⟩
theorem qd0_get {Q : Value → Shared → Prop} (hu : A.units + 12 < cLine) (I : Inv X pins σ H s) (h : QDict X.prog X.w X.K H d kvs) (hk : Dp X.K H y (ks.data)) (hs : KOk ks) (hv : valV kvs ks = some v) (ry : RelV y u) (q : ∀ w' s', Inv X pins σ H s' → RelV v w' → Q w' s') :
    wpAny (model X.prog X.w) A (getItem (.ref d) u) Q E s := by
  obtain ⟨xs, r, _, dd⟩ := qd0_heap I h
  obtain ⟨b, e⟩ := hs.ref hk
  subst e
  cases (show u = Value.ref b from ry)
  obtain ⟨w', hw, rw'⟩ := RelO.some_of (v := v) (o := (atKey xs ks).map (·.2)) (by rw [← hv]; exact r.val ks)
  obtain ⟨p, hp, hp2⟩ := Option.map_eq_some_iff.mp hw
  refine wpAny_getItem_heap (knd := nestedKind X.prog X.w) (show A.in1.units + 8 < cLine by have : A.in1.units = A.units + 1 := rfl; omega) (nk_of I hs hk) dd hp ?_
  rw [hp2]
  exact q w' _ (I.tok _) rw'
theorem qd0_in {Q : Value → Shared → Prop} (hu : A.units + 12 < cLine) (I : Inv X pins σ H s) (h : QDict X.prog X.w X.K H d kvs) (hk : Dp X.K H y (ks.data)) (hs : KOk ks) (ry : RelV y u) (q : ∀ s', Inv X pins σ H s' → Q (.bool (valV kvs ks).isSome) s') :
    wpAny (model X.prog X.w) A (compareOp .In u (.ref d)) Q E s := by
  obtain ⟨xs, r, _, dd⟩ := qd0_heap I h
  obtain ⟨b, e⟩ := hs.ref hk
  subst e
  cases (show u = Value.ref b from ry)
  refine wpAny_in_heap (knd := nestedKind X.prog X.w) (show A.in1.units + 8 < cLine by have : A.in1.units = A.units + 1 := rfl; omega) (nk_of I hs hk) h.sys dd ?_
  have z := (r.val ks).isSome_eq
  rw [Option.isSome_map] at z
  rw [← z]
  exact q _ (I.tok _)
theorem qd0_notIn {Q : Value → Shared → Prop} (hu : A.units + 12 < cLine) (I : Inv X pins σ H s) (h : QDict X.prog X.w X.K H d kvs) (hk : Dp X.K H y (ks.data)) (hs : KOk ks) (ry : RelV y u) (q : ∀ s', Inv X pins σ H s' → Q (.bool (!(valV kvs ks).isSome)) s') :
    wpAny (model X.prog X.w) A (compareOp .NotIn u (.ref d)) Q E s := by
  obtain ⟨xs, r, _, dd⟩ := qd0_heap I h
  obtain ⟨b, e⟩ := hs.ref hk
  subst e
  cases (show u = Value.ref b from ry)
  refine wpAny_notIn_heap (knd := nestedKind X.prog X.w) (show A.in1.units + 8 < cLine by have : A.in1.units = A.units + 1 := rfl; omega) (nk_of I hs hk) h.sys dd ?_
  have z := (r.val ks).isSome_eq
  rw [Option.isSome_map] at z
  rw [← z]
  exact q _ (I.tok _)
theorem qd0_set {Q : Unit → Shared → Prop} (hu : A.units + 12 < cLine) (I : Inv X pins σ H s) (h : QDictW X.prog X.w X.K H d kvs) (hk : Dp X.K H y (ks.data)) (hs : KOk ks) (hl : kvs.length < sizeLine) (ry : RelV y u) (rv : RelV v r)
    (q : ∀ H' s', Inv X pins σ H' s' → ExB d H H' → QDictW X.prog X.w X.K H' d (putK kvs ks v) → Q () s') : wpAny (model X.prog X.w) A (setItem (.ref d) u r) Q E s := by
  obtain ⟨xs, rr, hz, dd⟩ := qd0_heap I h.rd
  obtain ⟨b, e⟩ := hs.ref hk
  subst e
  cases (show u = Value.ref b from ry)
  have hlx : kvs.length = xs.length := Paired.length rr
  obtain ⟨_, xs0, e0, r0⟩ := id h
  refine wpAny_setItem_heap (knd := nestedKind X.prog X.w) (hsz := hz) (show A.in1.units + 8 < cLine by have : A.in1.units = A.units + 1 := rfl; omega) (nk_of I hs hk) dd fun h' dd' hs' => ?_
  obtain ⟨o, es, ep, g1, g2, g3, g4, _, g5⟩ := dd'
  have hz' : (storedH xs ks b r).length ≤ sizeLine := by
    unfold storedH
    split
    · rw [List.length_map]; exact hz
    · rw [List.length_append, List.length_singleton]; omega
  have new : ObjOk X.prog X.w (upd H d (qO X.prog X.w d (storedH xs ks b r))) h' d (qO X.prog X.w d (storedH xs ks b r)) := by
    refine ⟨⟨hz', o, es, ep, g1, g2, g3, g4, g5⟩, ⟨o, g1⟩, fun h1 h2 z k => ?_⟩
    obtain ⟨z1, o, es, ep, z2, z3⟩ := z
    exact ⟨z1, o, es, ep, k _ z2, z3⟩
  have I' := d_write (t' := s.toks + (nestedKind X.prog X.w).draws ks) I (by rw [e0]; exact True.intro) hs' ⟨o, g1⟩ new
  refine q _ _ I' ExB.upd ⟨h.sys, _, upd_same, (rr.put hs hk rv).keeps (TK.put h.noTup)⟩
end
/-! ### readings -/
def tQGet (P : Program) (w : World) (K : PySem.W.Frag) (td ty : TE) : TE := fun σ H Q => td σ H fun x H1 => ty σ H1 fun y H2 => ∃ d kvs ks v, x = .ref d ∧ QDict P w K H2 d kvs ∧ Dp K H2 y (ks.data) ∧ KOk ks ∧ valV kvs ks = some v ∧ Q v H2
def tQNotIn (P : Program) (w : World) (K : PySem.W.Frag) (ty td : TE) : TE := fun σ H Q => ty σ H fun y H1 => td σ H1 fun x H2 => ∃ d kvs ks, x = .ref d ∧ QDict P w K H2 d kvs ∧ Dp K H2 y (ks.data) ∧ KOk ks ∧ Q (.bl (!(valV kvs ks).isSome)) H2
def sQPut (P : Program) (w : World) (K : PySem.W.Frag) (td ty tv : TE) : TS := fun D σ H => tv σ H fun v H1 => td σ H1 fun x H2 => ty σ H2 fun y H3 => ∃ d kvs ks, x = .ref d ∧ QDictW P w K H3 d kvs ∧ Dp K H3 y (ks.data) ∧ KOk ks ∧ kvs.length < sizeLine ∧
  ∀ H4, ExB d H3 H4 → QDictW P w K H4 d (putK kvs ks v) → D.nx σ H4
def tQNew (P : Program) (w : World) (K : PySem.W.Frag) : TE := fun _ H Q => ∀ p H', H p = none → Ex H H' → QDictW P w K H' p [] → Q (.ref p) H'
def rQLen (P : Program) (w : World) (K : PySem.W.Frag) : List V → Hp → VK → Prop := fun vs H Q => ∃ d kvs, vs = [.ref d] ∧ QDict P w K H d kvs ∧ Q (.int (kvs.length : Int)) H
theorem qd0_type {X : Cx} {pins : List (Addr × Obj)} {σ : L2.St} {H : Hp} {s : Shared} {d : Addr} {kvs : List (NestedKey × V)} (I : Inv X pins σ H s) (h : QDict X.prog X.w X.K H d kvs) : s.TypeIs (.ref d) "dict" := by
  obtain ⟨_, _, _, dd⟩ := qd0_heap I h
  exact dd.typeIs
section
variable {X : Cx} {o i e value : Expr} {pos pos' tpos : Pos} {td ty tv : TE}
theorem pe_dgetQ (hu : X.A.units + 12 < cLine) (ho : PE X o td) (hi : PE X i ty) (hs : NoSl i) : PE X (.Subscript o i pos) (tQGet X.prog X.w X.K td ty) := by
  constructor
  intro pins s σ H Q I h
  refine subD_of PySem.F.slot_dict_getitem.lookup hs (thn (ho.run pins s σ H _ I h) fun u s1 hx => ?_)
  obtain ⟨x, H1, I1, rx, q1⟩ := hx
  refine thn (hi.run pins s1 σ H1 _ I1 q1) fun iv s2 hy => ?_
  obtain ⟨y, H2, I2, ry, d, kvs, ks, v, ex, hd, hk, hsh, hv, q2⟩ := hy
  subst ex
  cases (show u = Value.ref d from rx)
  exact ⟨qd0_type I2 hd, qd0_get hu I2 hd hk hsh hv ry fun w' s3 I3 rw' => ⟨v, H2, I3, rw', q2⟩⟩
theorem pc_dnotinQ (hu : X.A.units + 12 < cLine) (hi : PE X i ty) (ho : PE X o td) : PC X .NotIn i o (tQNotIn X.prog X.w X.K ty td) := by
  constructor
  intro pins s σ H Q I h
  refine thn (hi.run pins s σ H _ I h) fun iv s1 hy => ?_
  obtain ⟨y, H1, I1, ry, q1⟩ := hy
  refine thn (ho.run pins s1 σ H1 _ I1 q1) fun u s2 hx => ?_
  obtain ⟨x, H2, I2, rx, d, kvs, ks, ex, hd, hk, hsh, q2⟩ := hx
  subst ex
  cases (show u = Value.ref d from rx)
  exact qd0_notIn hu I2 hd hk hsh ry fun s3 I3 => ⟨.bl (!(valV kvs ks).isSome), H2, I3, rfl, q2⟩
theorem ps_dputQ (hu : X.A.units + 12 < cLine) (ho : PE X o td) (hi : PE X i ty) (hv : PE X value tv) (hs : swapsWith value (some (.Subscript o i pos')) pos.line X.env = pure false) :
    PS X (.Assign [.Subscript o i pos'] value pos) (sQPut X.prog X.w X.K td ty tv) := by
  constructor
  intro pins s σ H D I h
  refine wpAny_Assign_Subscript (thn (hv.run pins s σ H _ I h) fun r s1 hr => ?_) hs
  obtain ⟨v, H1, I1, rv, q1⟩ := hr
  refine thn (ho.run pins s1 σ H1 _ I1 q1) fun u s2 hx => ?_
  obtain ⟨x, H2, I2, rx, q2⟩ := hx
  refine thn (hi.run pins s2 σ H2 _ I2 q2) fun iv s3 hy => ?_
  obtain ⟨y, H3, I3, ry, d, kvs, ks, ex, hd, hk, hsh, hl, q3⟩ := hy
  subst ex
  cases (show u = Value.ref d from rx)
  exact qd0_set hu I3 hd hk hsh hl ry rv fun H4 s4 I4 e4 d4 => ⟨σ, H4, I4, q3 H4 e4 d4⟩
theorem q_empty {P : Program} {w : World} {H : Hp} (h : Heap) : ObjOk P w H (h.push { cls := .type "dict", data := .dict #[] }) h.objs.size (qO P w h.objs.size []) := by
  refine ⟨⟨Nat.zero_le _, _, #[], 0, Heap.get?_push_size _ rfl, ⟨rfl, rfl, rfl⟩, rfl, rfl, List.nodup_nil⟩, ⟨_, Heap.get?_push_size _ rfl⟩, fun h1 h2 z k => ?_⟩
  obtain ⟨z1, o, es, ep, z2, z3⟩ := z
  exact ⟨z1, o, es, ep, k _ z2, z3⟩
theorem pe_dnewQ : PE X (.Dict [] [] pos) (tQNew X.prog X.w X.K) := ⟨fun pins s σ H Q I h =>
  wpAny_Dict_empty ⟨.ref s.heap.objs.size, _, I.laid (a := s.heap.objs.size) (o := qO X.prog X.w s.heap.objs.size []) (t' := s.toks) (fun _ _ q => Heap.get?_push_of_some _ q) (Nat.le_refl _) (q_empty s.heap), rfl,
    h _ _ (I.hok.fresh (Nat.le_refl _)) (Ex.new (I.hok.fresh (Nat.le_refl _))) ⟨beq_eq_false_iff_ne.mpr (Ne.symm (Nat.ne_of_lt I.big)), [], upd_same, .nil⟩⟩⟩
theorem call_lenQ : CallR X (.builtin "len") (rQLen X.prog X.w X.K) := by
  intro pins s σ H vs us Q I rv h
  obtain ⟨d, kvs, rfl, hd, q⟩ := h
  cases rv with
  | cons r rr =>
    cases rr
    cases r
    obtain ⟨xs, rr, hz, dd⟩ := qd0_heap I hd
    have hl : kvs.length = xs.length := Paired.length rr
    refine call_len_dictH hd.sys dd (by rw [sizeLine_eq] at hz; omega) ?_
    rw [← hl]
    exact ⟨.int ((kvs.length : Nat) : Int), H, I.tok _, ⟨_, rfl⟩, q⟩
end
section
variable {X : Cx} {pins : List (Addr × Obj)} {σ : L2.St} {H : Hp} {s : Shared} {d : Addr} {kvs : List (NestedKey × V)} {ks : NestedKey} {y v : V} {u r : Value} {A : Around} {E : Value → Shared → Prop}
theorem qd0_dset {Q : Unit → Shared → Prop} (hu : A.units + 12 < cLine) (I : Inv X pins σ H s) (h : QDictW X.prog X.w X.K H d kvs) (hk : Dp X.K H y (ks.data)) (hs : KOk ks) (hl : kvs.length < sizeLine) (ry : RelV y u) (rv : RelV v r)
    (q : ∀ H' s', Inv X pins σ H' s' → ExB d H H' → QDictW X.prog X.w X.K H' d (putK kvs ks v) → Q () s') : wpAny (model X.prog X.w) A (dictSet d u r) Q E s := by
  obtain ⟨xs, rr, hz, dd⟩ := qd0_heap I h.rd
  obtain ⟨b, e⟩ := hs.ref hk
  subst e
  cases (show u = Value.ref b from ry)
  have hlx : kvs.length = xs.length := Paired.length rr
  obtain ⟨_, xs0, e0, r0⟩ := id h
  refine wpAny_dictSet_heap (knd := nestedKind X.prog X.w) (hsz := hz) (show A.units + 8 < cLine by omega) (nk_of I hs hk) dd fun h' dd' hs' => ?_
  obtain ⟨o, es, ep, g1, g2, g3, g4, _, g5⟩ := dd'
  have hz' : (storedH xs ks b r).length ≤ sizeLine := by
    unfold storedH
    split
    · rw [List.length_map]; exact hz
    · rw [List.length_append, List.length_singleton]; omega
  have new : ObjOk X.prog X.w (upd H d (qO X.prog X.w d (storedH xs ks b r))) h' d (qO X.prog X.w d (storedH xs ks b r)) := by
    refine ⟨⟨hz', o, es, ep, g1, g2, g3, g4, g5⟩, ⟨o, g1⟩, fun h1 h2 z k => ?_⟩
    obtain ⟨z1, o, es, ep, z2, z3⟩ := z
    exact ⟨z1, o, es, ep, k _ z2, z3⟩
  have I' := d_write (t' := s.toks + (nestedKind X.prog X.w).draws ks) I (by rw [e0]; exact True.intro) hs' ⟨o, g1⟩ new
  refine q _ _ I' ExB.upd ⟨h.sys, _, upd_same, (rr.put hs hk rv).keeps (TK.put h.noTup)⟩
end
def tQ1 (P : Program) (w : World) (K : PySem.W.Frag) (tk tv : TE) : TE := fun σ H Q => ∀ p H1, H p = none → Ex H H1 → QDictW P w K H1 p [] → tk σ H1 fun y H2 => tv σ H2 fun v H3 => QDictW P w K H3 p [] ∧ ∃ ks, Dp K H3 y (ks.data) ∧ KOk ks ∧
  ∀ H4, ExB p H3 H4 → QDictW P w K H4 p [(ks, v)] → Q (.ref p) H4
theorem pe_disp1Q {X : Cx} {k e : Expr} {pos : Pos} {tk tv : TE} (hu : X.A.units + 12 < cLine) (hk : PE X k tk) (hv : PE X e tv) : PE X (.Dict [some k] [e] pos) (tQ1 X.prog X.w X.K tk tv) := by
  constructor
  intro pins s σ H Q I q
  have hn := I.hok.fresh (Nat.le_refl s.heap.objs.size)
  have I1 := I.laid (a := s.heap.objs.size) (o := qO X.prog X.w s.heap.objs.size []) (h' := s.heap.push { cls := .type "dict", data := .dict #[] }) (t' := s.toks) (fun _ _ q => Heap.get?_push_of_some _ q) (Nat.le_refl _) (q_empty s.heap)
  have q1 := q _ _ hn (Ex.new (o := qO X.prog X.w s.heap.objs.size []) hn) ⟨beq_eq_false_iff_ne.mpr (Ne.symm (Nat.ne_of_lt I.big)), [], upd_same, .nil⟩
  have hshape : (evalEachOpt [some k] X.env).zip ((evalEach [e] X.env).map fun v => do let x ← v; standAt pos; pure x) = ([(eval k X.env, (do let x ← eval e X.env; standAt pos; pure x))] : List (Sem Value × Sem Value)).map fun p => (some p.1, p.2) := by rfl
  rw [arm_eval_Dict, hshape, dictDisplay_pairs _ (by simp) (by simp)]
  refine wpAny_bind (wpAny_standAt (wpAny_bind ?_))
  unfold subDict
  refine wpAny_bind (wpAny_alloc ?_)
  refine wpAny_bind (wpAny_holding ?_)
  rw [if_pos (by simp)]
  refine wpAny_bind (evalPairs_cons ?_)
  refine thn (hk.run pins _ σ _ _ I1 q1) fun kv s2 hy => ?_
  obtain ⟨y, H2, I2, ry, q2⟩ := hy
  refine wpAny_bind (thn (hv.run pins s2 σ H2 _ I2 q2) fun vv s3 hz => wpAny_bind (wpAny_standAt (wpAny_pure ?_)))
  obtain ⟨z, H3, I3, rz, d3, ks, hks, hsh, q3⟩ := hz
  refine evalPairs_nil ?_
  refine wpAny_holding ?_
  rw [List.forIn_cons]
  refine wpAny_bind (wpAny_bind (wpAny_bind (qd0_dset hu I3 d3 hks hsh (by show 0 < sizeLine; decide) ry rz fun H4 s4 I4 e4 d4 => wpAny_pure ?_)))
  dsimp only
  rw [List.forIn_nil]
  exact wpAny_pure (wpAny_pure (wpAny_pure (wpAny_pure ⟨.ref s.heap.objs.size, H4, I4, rfl, q3 H4 e4 d4⟩)))
end Lb

set_option Elab.async false
set_option linter.all false
set_option maxRecDepth 100000
set_option maxHeartbeats 4000000
/-! A search by levels, over any steps; contents by parts. No program is spoken of. -/
namespace Lb
open PySem
theorem nodup_subL {α : Type} [DecidableEq α] : ∀ {l u : List α}, l.Nodup → (∀ x ∈ l, x ∈ u) → l.length ≤ u.length
  | [], _, _, _ => Nat.zero_le _
  | x :: l, u, nd, h => by
    obtain ⟨n1, n2⟩ := List.nodup_cons.mp nd
    have hx := h x List.mem_cons_self
    have ih := nodup_subL (l := l) (u := u.erase x) n2 fun y hy => by
      have ne : y ≠ x := fun z => n1 (z ▸ hy)
      exact (List.mem_erase_of_ne ne).mpr (h y (List.mem_cons_of_mem _ hy))
    rw [List.length_erase_of_mem hx] at ih
    have := List.length_pos_of_mem hx
    rw [List.length_cons]
    omega
section
variable {α : Type} (Step : α → α → Prop) (first : α)
def Rch : Nat → α → Prop
  | 0 => fun c => c = first
  | n + 1 => fun c => ∃ b, Rch n b ∧ Step b c
def FewIs (goal : α → Prop) : Option Nat → Prop
  | some n => (∃ c, Rch Step first n c ∧ goal c) ∧ ∀ k, k < n → ∀ c, Rch Step first k c → ¬ goal c
  | none => ∀ k c, Rch Step first k c → ¬ goal c
/-- between two levels: what has come, what came last -/
structure Bfs (goal : α → Prop) (n : Nat) (S La : List α) : Prop where
  a : ∀ c ∈ La, Rch Step first n c
  sub : ∀ c ∈ La, c ∈ S
  d : first ∈ S
  c : ∀ x ∈ S, x ∉ La → ¬ goal x ∧ ∀ y, Step x y → y ∈ S
  f : ∀ k, k < n → ∀ x, Rch Step first k x → x ∈ S ∧ x ∉ La
  r : ∀ x ∈ S, ∃ k, k ≤ n ∧ Rch Step first k x
variable {Step first} {goal : α → Prop} {n : Nat} {S La lo : List α}
theorem Bfs.start : Bfs Step first goal 0 [first] [first] where
  a := fun c hc => List.mem_singleton.mp hc
  sub := fun c hc => hc
  d := List.mem_singleton_self _
  c := fun x hx hn => absurd hx hn
  f := fun k hk => absurd hk (Nat.not_lt_zero k)
  r := fun x hx => ⟨0, Nat.le_refl _, List.mem_singleton.mp hx⟩
theorem Bfs.found (h : Bfs Step first goal n S La) {c : α} (hc : c ∈ La) (g : goal c) : FewIs Step first goal (some n) :=
  ⟨⟨c, h.a c hc, g⟩, fun k hk x hx => (h.c x (h.f k hk x hx).1 (h.f k hk x hx).2).1⟩
theorem Bfs.none (h : Bfs Step first goal n S []) : FewIs Step first goal none := by
  have all : ∀ k x, Rch Step first k x → x ∈ S := by
    intro k
    induction k with
    | zero => intro x hx; cases (show x = first from hx); exact h.d
    | succ k ih =>
      rintro x ⟨b, hb, hs⟩
      exact (h.c b (ih b hb) (by simp)).2 x hs
  exact fun k x hx => (h.c x (all k x hx) (by simp)).1
theorem Bfs.next (h : Bfs Step first goal n S La) (h2 : ∀ y ∈ lo, y ∉ S) (h3 : ∀ y ∈ lo, ∃ x ∈ La, Step x y) (h4 : ∀ x ∈ La, ¬ goal x ∧ ∀ y, Step x y → y ∈ S ++ lo) : Bfs Step first goal (n + 1) (S ++ lo) lo where
  a := fun y hy => by
    obtain ⟨x, hx, hs⟩ := h3 y hy
    exact ⟨x, h.a x hx, hs⟩
  sub := fun y hy => List.mem_append_right _ hy
  d := List.mem_append_left _ h.d
  c := fun x hx hn => by
    have hS : x ∈ S := (List.mem_append.mp hx).resolve_right hn
    by_cases q : x ∈ La
    · exact h4 x q
    · exact ⟨(h.c x hS q).1, fun y hy => List.mem_append_left _ ((h.c x hS q).2 y hy)⟩
  f := fun k hk x hx => by
    have hS : x ∈ S := by
      rcases Nat.lt_or_ge k n with q | q
      · exact (h.f k q x hx).1
      · have e : k = n := by omega
        subst e
        cases k with
        | zero => cases (show x = first from hx); exact h.d
        | succ k =>
          obtain ⟨b, hb, hs⟩ := hx
          obtain ⟨b1, b2⟩ := h.f k (Nat.lt_succ_self k) b hb
          exact (h.c b b1 b2).2 x hs
    exact ⟨List.mem_append_left _ hS, fun z => h2 x z hS⟩
  r := fun x hx => by
    rcases List.mem_append.mp hx with q | q
    · obtain ⟨k, k1, k2⟩ := h.r x q
      exact ⟨k, by omega, k2⟩
    · obtain ⟨y, hy, hs⟩ := h3 x q
      exact ⟨n + 1, Nat.le_refl _, y, h.a y hy, hs⟩
theorem FewIs.uniq : ∀ {o o' : Option Nat}, FewIs Step first goal o → FewIs Step first goal o' → o = o'
  | none, none, _, _ => rfl
  | some n, none, h, h' => by
    obtain ⟨⟨c, h1, h2⟩, _⟩ := h
    exact absurd h2 (h' n c h1)
  | none, some n, h, h' => by
    obtain ⟨⟨c, h1, h2⟩, _⟩ := h'
    exact absurd h2 (h n c h1)
  | some n, some k, h, h' => by
    obtain ⟨⟨c, h1, h2⟩, h3⟩ := h
    obtain ⟨⟨c', h1', h2'⟩, h3'⟩ := h'
    rcases Nat.lt_trichotomy n k with q | q | q
    · exact absurd h2 (h3' n q c h1)
    · rw [q]
    · exact absurd h2' (h3 k q c' h1')
/-- what the one steps reach, the others reach as soon -/
theorem FewIs.other {Step' : α → α → Prop} (h1 : ∀ k x, Rch Step first k x → ∃ k', k' ≤ k ∧ Rch Step' first k' x) (h2 : ∀ k x, Rch Step' first k x → ∃ k', k' ≤ k ∧ Rch Step first k' x) :
    ∀ {o : Option Nat}, FewIs Step first goal o → FewIs Step' first goal o
  | none, h => fun k x hx g => by
    obtain ⟨k', _, hk⟩ := h2 k x hx
    exact h k' x hk g
  | some n, h => by
    obtain ⟨⟨c, c1, c2⟩, h3⟩ := h
    have low : ∀ k, k < n → ∀ x, Rch Step' first k x → ¬ goal x := fun k hk x hx g => by
      obtain ⟨k', q, hk'⟩ := h2 k x hx
      exact h3 k' (by omega) x hk' g
    obtain ⟨k, q, hk⟩ := h1 n c c1
    have e : k = n := by
      rcases Nat.lt_or_ge k n with z | z
      · exact absurd c2 (low k z c hk)
      · omega
    subst e
    exact ⟨⟨c, hk, c2⟩, low⟩
/-- steps that are the others' or lead nowhere else -/
theorem Rch.other {Step' : α → α → Prop} (Iv : α → Prop) (i0 : Iv first) (is : ∀ x y, Iv x → Step x y → Iv y) (h : ∀ x y, Iv x → Step x y → Step' x y ∨ y = x) : ∀ k x, Rch Step first k x → Iv x ∧ ∃ k', k' ≤ k ∧ Rch Step' first k' x
  | 0, x, hx => by
    cases (show x = first from hx)
    exact ⟨i0, 0, Nat.le_refl _, rfl⟩
  | k + 1, x, hx => by
    obtain ⟨b, hb, hs⟩ := hx
    obtain ⟨ib, k', q, hk⟩ := Rch.other Iv i0 is h k b hb
    refine ⟨is b x ib hs, ?_⟩
    rcases h b x ib hs with z | z
    · exact ⟨k' + 1, by omega, b, hk, z⟩
    · exact ⟨k', by omega, z ▸ hk⟩
end

/-! ### parts -/
def Tm.args : Tm → List Tm
  | .c _ => []
  | .f1 _ a => [a]
  | .f2 _ a b => [a, b]
def Tm.nodes : Tm → Nat
  | .c _ => 1
  | .f1 _ a => a.nodes + 1
  | .f2 _ a b => a.nodes + b.nodes + 1
def nodesL (l : List Tm) : Nat := (l.map Tm.nodes).sum
theorem nodes_pos : ∀ t : Tm, 1 ≤ t.nodes
  | .c _ => Nat.le_refl _
  | .f1 _ a => by show 1 ≤ a.nodes + 1; omega
  | .f2 _ a b => by show 1 ≤ a.nodes + b.nodes + 1; omega
theorem nodes_args (t : Tm) : nodesL t.args + 1 = t.nodes := by
  cases t <;> simp [nodesL, Tm.args, Tm.nodes]
theorem nodesL_app (a b : List Tm) : nodesL (a ++ b) = nodesL a + nodesL b := by simp [nodesL]
theorem nodes_dep : ∀ t : Tm, t.nodes + 1 ≤ 2 ^ t.dep
  | .c _ => by show 1 + 1 ≤ 2 ^ 1; decide
  | .f1 _ a => by
    have := nodes_dep a
    show a.nodes + 1 + 1 ≤ 2 ^ (a.dep + 1)
    rw [Nat.pow_succ]
    have := Nat.one_le_two_pow (n := a.dep)
    omega
  | .f2 _ a b => by
    have ha := nodes_dep a
    have hb := nodes_dep b
    have h1 : 2 ^ a.dep ≤ 2 ^ (max a.dep b.dep) := Nat.pow_le_pow_right (by decide) (Nat.le_max_left _ _)
    have h2 : 2 ^ b.dep ≤ 2 ^ (max a.dep b.dep) := Nat.pow_le_pow_right (by decide) (Nat.le_max_right _ _)
    show a.nodes + b.nodes + 1 + 1 ≤ 2 ^ (max a.dep b.dep + 1)
    rw [Nat.pow_succ]
    omega
theorem nodesL_len : ∀ l : List Tm, l.length ≤ nodesL l
  | [] => Nat.le_refl _
  | t :: l => by
    have := nodesL_len l
    have := nodes_pos t
    show l.length + 1 ≤ (t.nodes :: l.map Tm.nodes).sum
    rw [List.sum_cons]
    show l.length + 1 ≤ t.nodes + nodesL l
    omega
def ArgsIn (T : List Tm) : Prop := ∀ t ∈ T, ∀ a ∈ t.args, a ∈ T
/-- in all that has the wished terms and what they are made of -/
def IsPart (us : List Tm) (t : Tm) : Prop := ∀ T, ArgsIn T → (∀ x ∈ us, x ∈ T) → t ∈ T
theorem IsPart.of {us : List Tm} {t : Tm} (h : t ∈ us) : IsPart us t := fun _ _ w => w t h
theorem IsPart.arg {us : List Tm} {t a : Tm} (h : IsPart us t) (ha : a ∈ t.args) : IsPart us a := fun T c w => c t (h T c w) a ha
structure PartsOk (us : List Tm) (L : List Tm) : Prop where
  nd : L.Nodup
  cl : ArgsIn L
  all : ∀ x ∈ us, x ∈ L
  is : ∀ t ∈ L, IsPart us t
theorem PartsOk.mem {us L : List Tm} (h : PartsOk us L) (t : Tm) : t ∈ L ↔ IsPart us t := ⟨h.is t, fun p => p L h.cl h.all⟩
theorem PartsOk.len {us L T : List Tm} (h : PartsOk us L) (c : ArgsIn T) (w : ∀ x ∈ us, x ∈ T) : L.length ≤ T.length := nodup_subL h.nd fun t ht => h.is t ht T c w

/-! ### contents -/
abbrev Ct := List (Option Tm)
def oTm : Option Tm → PyData
  | none => .none
  | some t => t.enc
def ctD (c : Ct) : PyData := .tuple (c.map oTm)
theorem oTm_noL (o : Option Tm) : noL (oTm o) = true := by
  cases o with
  | none => rfl
  | some t => exact t.noL
theorem ctD_noL (c : Ct) : noL (ctD c) = true := by
  unfold ctD
  rw [noL_tup]
  refine noLs_iff.mpr fun d hd => ?_
  obtain ⟨t, _, rfl⟩ := List.mem_map.mp hd
  exact oTm_noL t
def univ (L : List Tm) : Nat → List Ct
  | 0 => [[]]
  | n + 1 => (none :: L.map some).flatMap fun x => (univ L n).map (x :: ·)
theorem sum_const {α : Type} (f : α → Nat) (k : Nat) : ∀ l : List α, (∀ x ∈ l, f x = k) → (l.map f).sum = l.length * k
  | [], _ => by simp
  | x :: l, h => by
    rw [List.map_cons, List.sum_cons, sum_const f k l fun y hy => h y (List.mem_cons_of_mem _ hy), h x List.mem_cons_self, List.length_cons, Nat.succ_mul]
    omega
theorem univ_len (L : List Tm) : ∀ n, (univ L n).length = (L.length + 1) ^ n
  | 0 => rfl
  | n + 1 => by
    rw [univ, List.length_flatMap, sum_const _ ((L.length + 1) ^ n) _ fun x _ => by rw [List.length_map, univ_len L n]]
    rw [List.length_cons, List.length_map, Nat.pow_succ, Nat.mul_comm]
theorem univ_mem {L : List Tm} : ∀ {n : Nat} {c : Ct}, c.length = n → (∀ t, some t ∈ c → t ∈ L) → c ∈ univ L n
  | 0, [], _, _ => List.mem_singleton_self _
  | n + 1, x :: c, hl, h => by
    rw [univ, List.mem_flatMap]
    refine ⟨x, ?_, List.mem_map.mpr ⟨c, univ_mem (by simpa using hl) fun t ht => h t (List.mem_cons_of_mem _ ht), rfl⟩⟩
    cases x with
    | none => exact List.mem_cons_self
    | some t => exact List.mem_cons_of_mem _ (List.mem_map.mpr ⟨t, h t List.mem_cons_self, rfl⟩)
def ctAt (c : Ct) (s : Nat) : Option Tm := c.getD s none
/-- the terms, where there are some -/
def full0 (c : Ct) : List Tm := c.map fun o => o.getD (.c 0)
theorem full0_at {c : Ct} {s : Nat} {t : Tm} (h : ctAt c s = some t) : at0 (full0 c) s = t := by
  unfold ctAt at h
  unfold at0 full0
  rw [List.getD_eq_getElem?_getD] at h ⊢
  rw [List.getElem?_map]
  cases e : c[s]? with
  | none => rw [e] at h; cases h
  | some o => rw [e] at h; cases (show o = some t from h); rfl
/-- a line done on contents: it reads parts alone and makes one -/
structure StepBy (m : Mc) (L : List Tm) (g : Bool) (l : Ln) (x y : Ct) : Prop where
  ok : l.Ok m
  gen : g = true → l.cell ∉ l.src
  rd : ∀ s ∈ l.src, ctAt x s ≠ none
  inL : l.made (full0 x) ∈ L
  eq : y = x.set l.cell (some (l.made (full0 x)))
def LawStep (m : Mc) (L : List Tm) (g : Bool) (x y : Ct) : Prop := ∃ l, StepBy m L g l x y
def firstC (m : Mc) (L : List Tm) : Ct := (List.range m.cells).map fun i => if Tm.c i ∈ L then some (Tm.c i) else none
/-- contents of parts -/
structure CtOk (m : Mc) (L : List Tm) (c : Ct) : Prop where
  len : c.length = m.cells
  of : ∀ t, some t ∈ c → t ∈ L
theorem firstC_ok (m : Mc) (L : List Tm) : CtOk m L (firstC m L) := by
  refine ⟨by simp [firstC], fun t ht => ?_⟩
  obtain ⟨i, _, e⟩ := List.mem_map.mp ht
  by_cases q : Tm.c i ∈ L
  · rw [if_pos q] at e
    cases e
    exact q
  · rw [if_neg q] at e
    cases e
theorem StepBy.ct {m : Mc} {L : List Tm} {g : Bool} {l : Ln} {x y : Ct} (h : StepBy m L g l x y) (c : CtOk m L x) : CtOk m L y := by
  rw [h.eq]
  refine ⟨by rw [List.length_set]; exact c.len, fun t ht => ?_⟩
  rcases List.mem_or_eq_of_mem_set ht with q | q
  · exact c.of t q
  · cases q
    exact h.inL
def CtGoal (ws : List (Nat × Tm)) (c : Ct) : Prop := ∀ x ∈ ws, ctAt c x.1 = some x.2
instance (ws : List (Nat × Tm)) (c : Ct) : Decidable (CtGoal ws c) := by unfold CtGoal; infer_instance
end Lb

set_option Elab.async false
set_option linter.all false
set_option maxRecDepth 100000
set_option maxHeartbeats 4000000
/-! [y for x in a tuple for y in a new list made of x] -/
namespace Lb
open PySem L2 Evl PyProof.Rows
section
variable {K : PySem.W.Frag} {σ : L2.St} {H H' : Hp} {tl ti : TE} {ds : List PyData} {j j1 : Nat}
/-- a new list of data -/
def EvNew (K : PySem.W.Frag) (te : TE) (σ : L2.St) (H : Hp) (es : List PyData) : Prop := ∀ H1, Ex H H1 → ∀ Q : VK, (∀ p vs H2, H1 p = none → Ex H1 H2 → H2 p = some (.lst vs) → DpAll K H2 vs es → Q (.ref p) H2) → te σ H1 Q
theorem flat_take {α : Type} {ds : List α} {F : α → List PyData} {i : Nat} {d : α} (h : ds[i]? = some d) : (ds.take (i + 1)).flatMap F = (ds.take i).flatMap F ++ F d := by
  rw [List.take_succ, h, List.flatMap_append]
  simp
theorem flat_len {α : Type} {F : α → List PyData} {b : Nat} : ∀ {ds : List α}, (∀ d ∈ ds, (F d).length ≤ b) → (ds.flatMap F).length ≤ ds.length * b
  | [], _ => by simp
  | d :: ds, h => by
    have h1 := flat_len (ds := ds) fun e he => h e (List.mem_cons_of_mem _ he)
    have h2 := h d List.mem_cons_self
    rw [List.flatMap_cons, List.length_append, List.length_cons, Nat.succ_mul]
    omega
theorem flat_noL {α : Type} {ds : List α} {F : α → List PyData} (h : ∀ d ∈ ds, noLs (F d) = true) : noLs (ds.flatMap F) = true := noLs_iff.mpr fun e he => by
  obtain ⟨d, hd, hed⟩ := List.mem_flatMap.mp he
  exact noLs_iff.mp (h d hd) e hed
theorem ed_lc2T {α : Type} {ds : List α} (en : α → PyData) (F : α → List PyData) (h : EvD K tl σ H (.tuple (ds.map en))) (hz : ds.length ≤ 9000) (hF : ∀ d ∈ ds, noLs (F d) = true ∧ (F d).length ≤ 4)
    (hi : ∀ d x H1, d ∈ ds → Ex H H1 → Dp K H1 x (en d) → EvNew K ti ((wipe σ [j, j1]).set j (some x)) H1 (F d))
    (hw : ∀ x : V, wipe ((wipe σ [j, j1]).set j (some x)) [j, j1] = wipe σ [j, j1])
    (h1 : ∀ x y : V, ((wipe ((wipe σ [j, j1]).set j (some x)) [j1]).set j1 (some y))[j1]? = some (some y))
    (hw1 : ∀ x y : V, wipe ((wipe ((wipe σ [j, j1]).set j (some x)) [j1]).set j1 (some y)) [j1] = wipe ((wipe σ [j, j1]).set j (some x)) [j1]) :
    EvD K (tLc2 (iTup K tl) (gName j) tYes (iList K ti) (gName j1) tYes (tVar j1) [j, j1] [j1]) σ H (.list (ds.flatMap F)) := fun H0 e Q q => h H0 e _ fun v H1 e1 hv => by
  obtain ⟨a, xs, rfl, s, al⟩ := Dp.tupD hv
  have bound : ∀ i, ((ds.take i).flatMap F).length ≤ 40000 := fun i => by
    have := flat_len (F := F) (b := 4) (ds := ds.take i) fun d hd => (hF d (List.mem_of_mem_take hd)).2
    have h2 : (ds.take i).length ≤ ds.length := by rw [List.length_take]; omega
    omega
  have nl : ∀ i, noLs ((ds.take i).flatMap F) = true := fun i => flat_noL fun d hd => (hF d (List.mem_of_mem_take hd)).1
  refine ⟨a, rfl, ⟨xs, s⟩, fun Dl hD => ⟨fun i m H' => m = xs.length - i ∧ i ≤ xs.length ∧ Lw K H1 ((ds.take i).flatMap F) Dl H', ⟨xs.length, by simp, Nat.zero_le _, hD, Ex.new hD, [], upd_same, .nil⟩, ?_⟩⟩
  rintro i m H' ⟨rfl, hile, p⟩
  have st : SqT K H' a xs := ex_t p.2.1 s
  by_cases hlt : i < xs.length
  · refine .inr ⟨⟨xs, xs[i], st, by simp [hlt]⟩, fun H'' => Lw K H1 ((ds.take (i + 1)).flatMap F) Dl H'', fun H'' p' => ⟨xs.length - (i + 1), by omega, rfl, hlt, p'⟩, fun x H'' y => ?_⟩
    obtain ⟨rfl, y⟩ := y
    have hx := y xs st
    obtain ⟨d, hd, hxd⟩ : ∃ d, ds[i]? = some d ∧ Dp K H1 x (en d) := by
      obtain ⟨d0, hd0, hx0⟩ := al.getV hx
      rw [List.getElem?_map] at hd0
      cases e : ds[i]? with
      | none => rw [e] at hd0; cases hd0
      | some d => rw [e] at hd0; cases hd0; exact ⟨d, rfl, hx0⟩
    have dm := List.mem_of_getElem? hd
    obtain ⟨p1, p2, acc, p3, p4⟩ := p
    refine ⟨hw x, ?_⟩
    unfold tYes
    dsimp only
    rw [if_pos rfl]
    refine hi d x H'' dm ((e.trans e1).trans p2) (dmono p2 _ _ hxd) H'' (Ex.refl _) _ fun pa ys H2 pn e2 hp hal => ⟨pa, rfl, ⟨ys, sq_of hp⟩, ?_⟩
    have pD : pa ≠ Dl := fun z => by rw [z, p3] at pn; cases pn
    have yl : ys.length = (F d).length := hal.len
    obtain ⟨nF, lF⟩ := hF d dm
    refine ⟨fun k m H3 => m = ys.length - k ∧ k ≤ ys.length ∧ Lw K H1 ((ds.take i).flatMap F ++ (F d).take k) Dl H3 ∧ H3 pa = some (.lst ys) ∧ DpAll K H3 ys (F d), ⟨ys.length, by simp, Nat.zero_le _, ⟨p1, p2.trans e2, acc, e2 _ _ p3, by rw [List.take_zero, List.append_nil]; exact dmonoAll e2 _ _ p4⟩, hp, hal⟩, ?_⟩
    rintro k m H3 ⟨rfl, hk, ⟨q1, q2, acc3, q3, q4⟩, q5, q6⟩
    by_cases hkl : k < ys.length
    · refine .inr ⟨⟨ys, ys[k], sq_of q5, by simp [hkl]⟩, fun H4 => Lw K H1 ((ds.take i).flatMap F ++ (F d).take (k + 1)) Dl H4 ∧ H4 pa = some (.lst ys) ∧ DpAll K H4 ys (F d), fun H4 p' => ⟨ys.length - (k + 1), by omega, rfl, hkl, p'⟩, fun y H4 yy => ?_⟩
      obtain ⟨rfl, yy⟩ := yy
      have hy := yy ys (sq_of q5)
      obtain ⟨dk, hdk, hydk⟩ := q6.getV hy
      refine ⟨hw1 x y, ?_⟩
      rw [if_pos rfl]
      have tk : TK K H4 (L2.upd H4 Dl (.lst (acc3 ++ [y]))) := TK.lst q3
      have tkF : (F d).take (k + 1) = (F d).take k ++ [dk] := by rw [List.take_succ, hdk]; rfl
      have al3 := q4.len
      have b1 := bound i
      have b2 : ((F d).take k).length ≤ (F d).length := by rw [List.length_take]; omega
      refine ⟨y, h1 x y, acc3, q3, sz_lt (by rw [al3, List.length_append]; omega), ⟨q1, Ex.mut q2 q1, acc3 ++ [y], upd_same, ?_⟩, by rw [upd_ne pD]; exact q5, tmonoAll tk _ _ nF q6⟩
      rw [tkF, ← List.append_assoc]
      refine tmonoAll tk _ _ ?_ (q4.app (.cons hydk .nil))
      refine noLs_iff.mpr fun z hz => ?_
      rcases List.mem_append.mp hz with h | h
      · rcases List.mem_append.mp h with h | h
        · exact noLs_iff.mp (nl i) z h
        · exact noLs_iff.mp nF z (List.mem_of_mem_take h)
      · rw [List.mem_singleton.mp h]
        exact noLs_iff.mp nF dk (List.mem_of_getElem? hdk)
    · have ek : k = ys.length := by omega
      refine .inl ⟨⟨ys, sq_of q5, by omega⟩, ?_⟩
      rw [ek, yl, List.take_length] at q4
      exact ⟨q1, q2, acc3, q3, by rw [flat_take hd]; exact q4⟩
  · have ei : i = xs.length := by omega
    obtain ⟨p1, p2, acc, p3, p4⟩ := p
    refine .inl ⟨⟨xs, st, by omega⟩, q _ H' (e1.trans p2) (.lst (sq_of p3) ?_)⟩
    rw [ei, al.len, List.length_map, List.take_length] at p4
    exact p4
end
end Lb

set_option Elab.async false
set_option linter.all false
set_option maxRecDepth 100000
set_option maxHeartbeats 4000000
/-! sum(..) of a tuple of ints -/
namespace Lb
open PySem L2 Evl PyProof.Rows PySem.W
section
variable {prog : Program} {w : World} {A : Around} {E : Value → Shared → Prop} {s : Shared} {l : Addr} {its : List Value} {ns : List Int} {Q : Value → Shared → Prop}
theorem sum_rawT (hh : A.handled = none) (hl : IsTup s.heap l its.toArray) (hi : IntsAre its ns)
    (h : ∀ h' tk t', (∀ b o, s.heap.get? b = some o → h'.get? b = some o) → Q (.int ns.sum t') { s with heap := h', toks := tk }) : wpAny (model prog w) A (call (.builtin "sum") [.ref l]) Q E s := by
  obtain ⟨xs, e⟩ := hi.allInts.items
  have hn : numsOf (intItems xs).toList = ns := by rw [← e]; exact hi.numsOf
  rw [nums_intItems] at hn
  rw [e] at hl
  have hl' : s.heap.IsTuple l (intItems xs) := hl
  have hlt : l < s.heap.objs.size := by obtain ⟨_, e, _⟩ := hl; exact Heap.lt_size e
  refine call_sum_walkG (wpAny_pyIter_tuple hl' ?_)
  refine ⟨_, _, _, _, _, _, numAt xs, rfl, Walks.tuple (A := A.in1) hh _ l (Nat.ne_of_lt hlt) (intItems xs), ⟨⟨_, Heap.get?_push_size _ rfl, rfl, rfl⟩, hl'.push _⟩, fun b hb => ?_, (fun _ _ => intItems_at), fun h' tk t' hk => ?_⟩
  · show b < (s.heap.push _).objs.size
    rw [Heap.size_push]
    rcases List.mem_cons.mp hb with rfl | hb
    · exact Nat.lt_succ_self _
    · rcases List.mem_cons.mp hb with rfl | hb
      · exact Nat.lt_succ_of_lt hlt
      · cases hb
  · have := h h' tk t' fun b o e => hk b o (fun hb => by
      have := Heap.lt_size e
      exact absurd (List.mem_singleton.mp hb) (Nat.ne_of_lt this)) (Heap.get?_push_of_some _ e)
    have e2 : preSum (numAt xs) (intItems xs).size = ns.sum := by
      rw [preSum_eq, List.take_of_length_le (by simp [intItems]), hn]
    rw [e2]
    exact this
end
def rSumT (K : PySem.W.Frag) : List V → Hp → VK → Prop := fun vs H Q => ∃ (a : Addr) (ns : List Int), vs = [V.ref a] ∧ SqT K H a (ns.map V.int) ∧ Q (.int ns.sum) H
theorem cr_sumT {X : Cx} (hc : X.calm = true) : CallR X (.builtin "sum") (rSumT X.K) := by
  intro pins s σ H vs us Q I r h
  obtain ⟨a, ns, rfl, hs, q⟩ := h
  obtain ⟨its, rv, hl, _⟩ := I.tuple hs
  rw [Vals.ref1 r]
  exact sum_rawT (I.ok.hd hc) hl rv.ints fun h' tk t' hk => ⟨.int _, H, I.kept hk, ⟨_, rfl⟩, q⟩
theorem ev_sumT {K : PySem.W.Frag} {σ : L2.St} {H : Hp} {ta : TE} {ns : List Int} (h : EvD K ta σ H (.tuple (ns.map PyData.int))) : Ev (tCB (rSumT K) (tCons ta tNil)) σ H (.int ns.sum) := fun H1 e Q q => h H1 e _ fun v H2 e2 hv => by
  obtain ⟨a, xs, rfl, s, al⟩ := Dp.tupD hv
  rw [D_ints al] at s
  exact ⟨a, ns, rfl, s, q H2 e2⟩
end Lb

set_option Elab.async false
set_option linter.all false
set_option maxRecDepth 100000
set_option maxHeartbeats 4000000
/-! dict(pairs) with keys of any depth; list(d) of such a dict. -/
namespace Lb
open PySem L2 Evl PyProof.Rows
def mergeQ (kvs more : List (NestedKey × V)) : List (NestedKey × V) := more.foldl (fun acc kv => putK acc kv.1 kv.2) kvs
theorem putQ_len (kvs : List (NestedKey × V)) (k : NestedKey) (v : V) : (putK kvs k v).length ≤ kvs.length + 1 := by
  unfold putK
  split
  · rw [List.length_map]; omega
  · rw [List.length_append]; exact Nat.le_refl _
theorem mergeQ_len : ∀ (more kvs : List (NestedKey × V)), (mergeQ kvs more).length ≤ kvs.length + more.length
  | [], kvs => Nat.le_refl _
  | p :: r, kvs => by
    have h1 := mergeQ_len r (putK kvs p.1 p.2)
    have h2 := putQ_len kvs p.1 p.2
    rw [List.length_cons]
    unfold mergeQ at h1 ⊢
    rw [List.foldl_cons]
    omega
theorem KQ.merge {K : PySem.W.Frag} {H : Hp} : ∀ {more : List (NestedKey × V)} {rs : List (NestedKey × Addr × Value)} {kvs : List (NestedKey × V)} {xs : List (NestedKey × Addr × Value)}, KQ K H more rs → KQ K H kvs xs → KQ K H (mergeQ kvs more) (storedAllH xs rs)
  | _, _, _, _, .nil, h => h
  | _, _, _, _, .cons (a := p) (b := q) ⟨h1, h2, h3, h4⟩ t, h => by
    have := KQ.put h h2 h3 h4
    rw [h1] at this
    unfold mergeQ storedAllH
    rw [List.foldl_cons, List.foldl_cons, h1]
    exact KQ.merge t this
def PairQ (K : PySem.W.Frag) (H : Hp) (p : Addr) (kv : NestedKey × V) : Prop := KOk kv.1 ∧ ∃ y, SqT K H p [y, kv.2] ∧ Dp K H y kv.1.data
section
variable {X : Cx}
theorem pairs_ofQ {pins : List (Addr × Obj)} {σ : L2.St} {H : Hp} {s : Shared} (I : Inv X pins σ H s) : ∀ {ps : List Addr} {kvs : List (NestedKey × V)}, Paired (PairQ X.K H) ps kvs →
    ∃ prs : List (NestedKey × Addr × Value), KQ X.K H kvs prs ∧ prs.length = ps.length ∧ ∀ (j : Nat) (q : NestedKey × Addr × Value), prs[j]? = some q → ∃ b : Addr, ps[j]? = some b ∧ PairAt s.heap b (.ref q.2.1) q.2.2
  | _, _, .nil => ⟨[], .nil, rfl, fun j q e => by simp at e⟩
  | _, _, .cons (a := p) (b := kv) h t => by
    obtain ⟨prs, r, hl, hp⟩ := pairs_ofQ I t
    obtain ⟨ok, y0, sq, hk⟩ := h
    obtain ⟨its, rv, ht, _⟩ := I.tuple sq
    obtain ⟨u, y, ei, ru, ry⟩ := vals2 rv
    subst ei
    obtain ⟨b, rfl⟩ := ok.ref hk
    cases (show u = Value.ref b from ru)
    refine ⟨(kv.1, b, y) :: prs, .cons ⟨rfl, ok, hk, ry⟩ r, by rw [List.length_cons, List.length_cons, hl], fun j q e => ?_⟩
    cases j with
    | zero =>
      have e' : (kv.1, b, y) = q := Option.some.inj e
      subst e'
      obtain ⟨o, h1, h2, n, h3⟩ := ht
      exact ⟨p, rfl, .inl ⟨o, h1, h2, n, h3⟩⟩
    | succ j =>
      obtain ⟨b, e1, e2⟩ := hp j q (by simpa using e)
      exact ⟨b, by simpa using e1, e2⟩
theorem call_dictQ (hcalm : X.calm = true) (hu : X.A.units + 16 < cLine) : CallR X (.type "dict") (fun xs H Q => ∃ (a : Addr) (ps : List Addr) (kvs : List (NestedKey × V)), xs = [.ref a] ∧ SqL X.K H a (ps.map V.ref) ∧ Paired (PairQ X.K H) ps kvs ∧
    ∀ p H', H p = none → Ex H H' → QDictW X.prog X.w X.K H' p (mergeQ [] kvs) → Q (.ref p) H') := by
  intro pins s σ H xs us Q I r q
  obtain ⟨a, ps, kvs, ex, hq, hp, q⟩ := q
  subst ex
  obtain ⟨u, eu, rx⟩ := vals1 r
  subst eu
  cases rx
  obtain ⟨its, rv, pl, hz⟩ := I.list hq
  have ei := refs_at rv
  subst ei
  rw [List.length_map] at hz
  obtain ⟨prs, rel, hl, hpr⟩ := pairs_ofQ I hp
  obtain ⟨o, n, ho, hc, hd, hdat⟩ := pl
  have nest := KQ.nest I rel
  have hA1 : X.A.in1.in1.units = X.A.units + 2 := rfl
  refine call_dict_pairsH (knd := nestedKind X.prog X.w) (ps := prs) (PairArg.list a (ps.map Value.ref).toArray (fun j => (ps[j]?).getD 0) (prs.map fun q => (Value.ref q.2.1, q.2.2))) (I.ok.hd hcalm) (show X.A.in1.in1.units + 8 < cLine by omega) ⟨⟨o, n, ho, hc, hd, hdat⟩, ?_, fun j k v hj => ?_⟩ ⟨by rw [List.length_map], fun i key v hi => ?_⟩ (fun h' hk x hx => ?_) (by rw [List.length_map, hl]; exact hz) fun h' tk hd' k => ?_
  · simp [hl]
  · rw [List.getElem?_map] at hj
    cases e : prs[j]? with
    | none => rw [e] at hj; cases hj
    | some q' =>
      rw [e] at hj
      cases hj
      obtain ⟨b, e1, e2⟩ := hpr j q' e
      refine ⟨by simp [e1], ?_⟩
      simp only [e1]
      exact e2
  · have hi' : (prs.map fun q => (Value.ref q.2.1, q.2.2))[i]? = some (key, v) := hi
    rw [List.getElem?_map] at hi'
    cases e : prs[i]? with
    | none => rw [e] at hi'; cases hi'
    | some q' =>
      rw [e] at hi'
      cases hi'
      exact ⟨q'.1, q'.2.1, rfl, rfl⟩
  · refine nestedKind_stays.stays (fun b o vs n h1 h2 => hk b o (Nat.ne_of_lt (Heap.lt_size h1)) (fun z => nomatch z) h1) (nest x hx)
  · have hm : (s.heap.objs.size == sysModules) = false := beq_eq_false_iff_ne.mpr (Nat.ne_of_gt I.big)
    obtain ⟨o', es, ep, g1, g2, g3, g4, _, g5⟩ := hd'
    have mq := KQ.merge rel (show KQ X.K H [] [] from Paired.nil)
    have hlen : (storedAllH [] prs).length ≤ sizeLine := by
      have h1 := Paired.length mq
      have h2 := mergeQ_len kvs []
      have h3 := Paired.length rel
      rw [List.length_nil] at h2
      omega
    have en := Ex.new (o := qO X.prog X.w s.heap.objs.size (storedAllH [] prs)) (I.hok.fresh (Nat.le_refl s.heap.objs.size))
    have ok : ObjOk X.prog X.w (upd H s.heap.objs.size (qO X.prog X.w s.heap.objs.size (storedAllH [] prs))) h' s.heap.objs.size (qO X.prog X.w s.heap.objs.size (storedAllH [] prs)) := by
      refine ⟨⟨hlen, o', es, ep, g1, g2, g3, g4, g5⟩, ⟨o', g1⟩, fun h1 h2 z k => ?_⟩
      obtain ⟨z1, o, es, ep, z2, z3⟩ := z
      exact ⟨z1, o, es, ep, k _ z2, z3⟩
    exact ⟨.ref s.heap.objs.size, _, I.laid (t' := tk) (fun b o q => k b o (fun z => nomatch z) q) (Nat.le_refl _) ok, rfl, q _ _ (I.hok.fresh (Nat.le_refl _)) en ⟨hm, _, upd_same, mq.keeps (TK.of en)⟩⟩
theorem keysQ {P : Program} {w : World} {K : PySem.W.Frag} {H : Hp} : ∀ {kvs : List (NestedKey × V)} {xs : List (NestedKey × Addr × Value)}, KQ K H kvs xs → DpAll K H (xs.map fun x => V.ref x.2.1) (kvs.map fun kv => kv.1.data)
  | _, _, .nil => .nil
  | _, _, .cons h t => .cons h.2.2.1 (keysQ (P := P) (w := w) t)
theorem call_list_dQ (hc : X.calm = true) : CallR X (.type "list") (fun xs H Q => ∃ d kvs, xs = [V.ref d] ∧ QDict X.prog X.w X.K H d kvs ∧ ∀ p bs, H p = none → DpAll X.K H bs (kvs.map fun kv => kv.1.data) → Q (.ref p) (upd H p (.lst bs))) := by
  intro pins s σ H xs us Q I r h
  obtain ⟨d, kvs, rfl, hd, q⟩ := h
  obtain ⟨u, rfl, rx⟩ := r.one
  cases rx
  obtain ⟨ks, pr, hsz, o, es, ep, ho, hx, hdt, he, _⟩ := qd0_heap I hd
  have l1 : es.size = ks.length := size_of_entries he
  have l2 : kvs.length = ks.length := Paired.length pr
  refine PySem.W.kdl_call (kdl_raw hd.sys hx hdt) (I.ok.hd hc) ho (by omega) fun h' tk acc' c' kp e it => ?_
  have ea : acc'.toList = ks.map fun x => Value.ref x.2.1 := by
    have hl : acc'.toList.length = ks.length := by rw [Array.length_toList, it.1]; exact l1
    apply List.ext_getElem?
    intro j
    rw [List.getElem?_map]
    cases hj : acc'.toList[j]? with
    | none =>
      have h1 := List.getElem?_eq_none_iff.mp hj
      rw [List.getElem?_eq_none (by omega)]
      all_goals rfl
    | some v =>
      obtain ⟨en, hen, hv⟩ := it.2 j v (by rw [← Array.getElem?_toList]; exact hj)
      have qe := entry_at he j
      rw [hen] at qe
      cases hb : ks[j]? with
      | none =>
        rw [hb] at qe
        exact nomatch (show some en = none from qe)
      | some b =>
        rw [hb] at qe
        have e2 : en = entryOfKey (nestedKind X.prog X.w) b := Option.some.inj qe
        rw [hv, e2]
        all_goals rfl
  have em : (ks.map fun x => V.ref x.2.1) = (ks.map fun x => x.2.1).map V.ref := by rw [List.map_map]; rfl
  have rv : Vals (ks.map fun x => V.ref x.2.1) acc'.toList := by
    rw [ea, em, show (ks.map fun x => Value.ref x.2.1) = (ks.map fun x => x.2.1).map Value.ref by rw [List.map_map]; rfl]
    exact vals_refs _
  have hz : (ks.map fun x => V.ref x.2.1).length ≤ sizeLine := by rw [List.length_map]; omega
  refine ⟨.ref s.heap.objs.size, _, I.laid (t' := tk) (o := .lst (ks.map fun x => V.ref x.2.1)) kp (Nat.le_refl _) ?_, rfl, q _ _ (I.hok.fresh (Nat.le_refl _)) (keysQ (P := X.prog) (w := X.w) pr)⟩
  exact ⟨hz, acc'.toList, c', rv, by rw [Array.toArray_toList]; exact e⟩
end
/-! x in t of a tuple of data -/
def rInT (K : PySem.W.Frag) (neg : Bool) : R2 := fun x y H Q => ∃ d ds, Dp K H x d ∧ Dp K H y (.tuple ds) ∧ SeqAt.shaped d = true ∧ SeqAt.shaped (.tuple ds) = true ∧ Q (.bl (if neg then !ds.any fun z => PyData.eqv z d else ds.any fun z => PyData.eqv z d)) H
theorem op_inDT {X : Cx} (hu : X.A.units + 65 < cLine) : OpR X (compareOp .In) (rInT X.K false) := by
  intro pins s σ H x y v u Q I rx ry h
  obtain ⟨d, ds, hd, he, sd, se, q⟩ := h
  obtain ⟨as, r1⟩ := Dp.reads I d x v hd rx
  obtain ⟨bs, r2⟩ := Dp.reads I (.tuple ds) y u he ry
  exact SeqAt.in_tuple_reads r2 r1 (SeqAt.canLay_of_shaped se) (SeqAt.canLay_of_shaped sd) (room_in_shaped sd hu) ⟨.bl _, H, I, rfl, q⟩
theorem op_notInDT {X : Cx} (hu : X.A.units + 65 < cLine) : OpR X (compareOp .NotIn) (rInT X.K true) := by
  intro pins s σ H x y v u Q I rx ry h
  obtain ⟨d, ds, hd, he, sd, se, q⟩ := h
  obtain ⟨as, r1⟩ := Dp.reads I d x v hd rx
  obtain ⟨bs, r2⟩ := Dp.reads I (.tuple ds) y u he ry
  exact SeqAt.notIn_tuple_reads r2 r1 (SeqAt.canLay_of_shaped se) (SeqAt.canLay_of_shaped sd) (room_in_shaped sd hu) ⟨.bl _, H, I, rfl, q⟩
theorem ev_inDT {K : PySem.W.Frag} {σ : L2.St} {H : Hp} {ta tb : TE} {d : PyData} {ds : List PyData} {neg : Bool} (ha : EvD K ta σ H d) (hb : EvD K tb σ H (.tuple ds)) (s1 : SeqAt.shaped d = true) (s2 : SeqAt.shaped (.tuple ds) = true) : Ev (tOp (rInT K neg) ta tb) σ H (.bl (if neg then !ds.any fun z => PyData.eqv z d else ds.any fun z => PyData.eqv z d)) := fun H1 e Q q =>
  ha H1 e _ fun v H2 e2 hv => hb H2 (e.trans e2) _ fun w H3 e3 hw => ⟨d, ds, dmono e3 _ _ hv, hw, s1, s2, q H3 (e2.trans e3)⟩
end Lb

set_option Elab.async false
set_option linter.all false
set_option maxRecDepth 100000
set_option maxHeartbeats 4000000
/-! a lambda handed to a def that calls it within a try and gives a word. -/
namespace Lb
open PySem L2 Evl PyProof.Rows LamX
section
variable {X : Cx}
/-- word: try: a() / except x: return r1; return r2 -/
def TTword (K : PySem.W.Frag) (CS : Addr) (r1 r2 : Str) : (XK → Hp → VK → Prop) → Hp → VK → Prop := fun tl H Q =>
  tl (fun cls _ H' => ∃ b, PySem.W.exmOne K cls (.ref CS) = some b ∧ (b = true → Q (.str r1) H') ∧ (b = false → False)) H (fun _ H' => Q (.str r2) H')
theorem word_gives {Ng : List Str} {x a e q r1 r2 : Str} {sg : Scope} {g CS : Addr} {cdg : Value} {j j2 : Nat} {p1 p2 p3 p4 p5 p6 p7 p8 p9 p10 : Pos} (hge : sg.names.lookup e = some .globalImplicit) (hme : X.mg e = some (.ref CS)) (hde : (e == ("__debug__" : Str)) = false) (h0 : ∀ f : Addr, (L2.start Ng [V.ref f])[0]? = some (some (V.ref f))) :
    GivesTo X Ng x sg g cdg [.Try [.Expr (.Call (.Name a p1) [] [] p2) p3] [.ExceptHandler (some (.Name e p4)) none [.Return (some (.Constant (.str r1) j p5)) p6] p7] [] [] p8, .Return (some (.Constant (.str r2) j2 p9)) p10] a q (TTword X.K CS r1 r2) := by
  intro f c' s H Q tl act hc h
  have hgl : Gl (cxOf C8.CX0 X.prog X.w X.K X.mg X.base Ng x sg g cdg X.A X.stack s H C8.E0).nox e := hge
  refine ⟨_, pss_cons (ps_try_only (X := (cxOf C8.CX0 X.prog X.w X.K X.mg X.base Ng x sg g cdg X.A X.stack s H C8.E0).nox) (c := .ref CS)
      (tb := fun W D σ H => ∃ Ech : XK, (∀ cls d σ' H', Ech cls d H' → W cls d σ' H') ∧ σ[0]? = some (some (.ref f)) ∧ H c' = some (CodeO c' q) ∧ tl Ech H (fun _ H' => D.nx σ H'))
      rfl rfl ⟨hgl, hde, .inl hme⟩ LamX.takes0 (fun W pn xe tk _ => ?_) (fun a oe cls d pn _ _ => pss_one (ps_ret pe_str))) (pss_one (ps_ret pe_str)), ?_⟩
  · refine ⟨fun pins s' σ H' D I h' => ?_⟩
    obtain ⟨Ech, hW, h1, h2, h3⟩ := h'
    have hp := act W pn xe Ech p1 p2 tk hW
    have hq := pss_one (ps_expr (pos := p3) hp)
    exact hq.run pins s' σ H' D I ⟨h1, h2, h3⟩
  · exact ⟨fun cls _ H' => ∃ b, PySem.W.exmOne X.K cls (.ref CS) = some b ∧ (b = true → Q (.str r1) H') ∧ (b = false → False), fun cls d σ' H' ⟨b, e1, e2, e3⟩ => ⟨b, e1, fun hb a _ => e2 hb, fun hb => e3 hb⟩, h0 f, hc, h⟩
end
section
variable {P : Program} {w : World} {K : PySem.W.Frag} {mg : Str → Option Value} {base : Heap} {x qual : Str} {params : Arguments} {body : List Stmt} {scope : Scope} {dvs : List V} {kws : List (Str × V)} {f : Addr} {fd : FuncData}
/-- the rule for a def, its own code told -/
theorem okC {CX : CXT} {N ps : List Str} {k : Nat} {sp : Sp} (F : FunD K x qual params body scope dvs kws f fd) (S : FnScope N ps scope) (len : ∀ vs H Q E, sp vs H Q E → vs.length = ps.length)
    (hbody : ∀ (A : Around) (outer : List Env) (s : Shared) (H : Hp) (vs : List V) (Q : VK) (E : XK), Room k (A.deeper (envOfC qual scope s.heap.objs.size f fd.code)) → sp vs H Q E →
      ∃ t, PSs (cxOf CX P w K mg base N qual scope f fd.code A outer s H E) body t ∧ t { nx := fun _ H' => Q .non H', rt := Q } (start N vs) H) : FnOk P w K mg base CX (k + 1) f fd ps sp := by
  obtain ⟨oc, od, dV, kV, doc, pm, an, cdv, ct, osl, rfl, lk, hcd, _, _⟩ := F.ex
  exact fn_of lk hcd S len fun A outer s H vs Q E hr hsp => hbody A outer s H vs Q E hr hsp
end
end Lb

set_option Elab.async false
set_option linter.all false
set_option maxRecDepth 100000
set_option maxHeartbeats 4000000
/-! list(d) of a dict with nested keys of one shape. -/
namespace Lb
open PySem L2 Evl PyProof.Rows
section
variable {X : Cx}
theorem keysN {P : Program} {w : World} {K : PySem.W.Frag} {sh : List Bool} {H : Hp} : ∀ {kvs : List (List NI × V)} {xs : List (List NI × Addr × Value)}, KN K sh H kvs xs → DpAll K H (xs.map fun x => V.ref x.2.1) (kvs.map fun kv => keyD kv.1)
  | _, _, .nil => .nil
  | _, _, .cons h t => .cons h.2.2.1 (keysN (P := P) (w := w) t)
theorem call_list_dN (hc : X.calm = true) : CallR X (.type "list") (fun xs H Q => ∃ d sh kvs, xs = [V.ref d] ∧ NDict X.prog X.w X.K sh H d kvs ∧ ∀ p bs, H p = none → DpAll X.K H bs (kvs.map fun kv => keyD kv.1) → Q (.ref p) (upd H p (.lst bs))) := by
  intro pins s σ H xs us Q I r h
  obtain ⟨d, sh, kvs, rfl, hd, q⟩ := h
  obtain ⟨u, rfl, rx⟩ := r.one
  cases rx
  obtain ⟨ks, pr, hsz, o, es, ep, ho, hx, hdt, he, _⟩ := nd_heap I hd
  have l1 : es.size = ks.length := size_of_entries he
  have l2 : kvs.length = ks.length := Paired.length pr
  refine PySem.W.kdl_call (kdl_raw hd.sys hx hdt) (I.ok.hd hc) ho (by omega) fun h' tk acc' c' kp e it => ?_
  have ea : acc'.toList = ks.map fun x => Value.ref x.2.1 := by
    have hl : acc'.toList.length = ks.length := by rw [Array.length_toList, it.1]; exact l1
    apply List.ext_getElem?
    intro j
    rw [List.getElem?_map]
    cases hj : acc'.toList[j]? with
    | none =>
      have h1 := List.getElem?_eq_none_iff.mp hj
      rw [List.getElem?_eq_none (by omega)]
      all_goals rfl
    | some v =>
      obtain ⟨en, hen, hv⟩ := it.2 j v (by rw [← Array.getElem?_toList]; exact hj)
      have qe := entry_at he j
      rw [hen] at qe
      cases hb : ks[j]? with
      | none =>
        rw [hb] at qe
        exact nomatch (show some en = none from qe)
      | some b =>
        rw [hb] at qe
        have e2 : en = entryOfKey (nestKind X.prog X.w sh) b := Option.some.inj qe
        rw [hv, e2]
        all_goals rfl
  have em : (ks.map fun x => V.ref x.2.1) = (ks.map fun x => x.2.1).map V.ref := by rw [List.map_map]; rfl
  have rv : Vals (ks.map fun x => V.ref x.2.1) acc'.toList := by
    rw [ea, em, show (ks.map fun x => Value.ref x.2.1) = (ks.map fun x => x.2.1).map Value.ref by rw [List.map_map]; rfl]
    exact vals_refs _
  have hz : (ks.map fun x => V.ref x.2.1).length ≤ sizeLine := by rw [List.length_map]; omega
  refine ⟨.ref s.heap.objs.size, _, I.laid (t' := tk) (o := .lst (ks.map fun x => V.ref x.2.1)) kp (Nat.le_refl _) ?_, rfl, q _ _ (I.hok.fresh (Nat.le_refl _)) (keysN (P := X.prog) (w := X.w) pr)⟩
  exact ⟨hz, acc'.toList, c', rv, by rw [Array.toArray_toList]; exact e⟩
end
end Lb

set_option Elab.async false
set_option linter.all false
set_option maxRecDepth 100000
set_option maxHeartbeats 4000000
/-! list(d.items()) of a dict with nested keys. -/
namespace Lb
open PySem PySem.Spec L2 Evl PyProof.Rows
/-- the tuples tracked at their addresses -/
def putN : Hp → List Addr → List (Addr × V) → Hp
  | H, a :: as, p :: ps => putN (upd H a (.tup [.ref p.1, p.2])) as ps
  | H, _, _ => H
theorem putN_off {b : Addr} : ∀ (as : List Addr) (ps : List (Addr × V)) (H : Hp), b ∉ as → putN H as ps b = H b
  | [], _, _, _ => rfl
  | _ :: _, [], _, _ => rfl
  | a :: as, p :: ps, H, h => by
    show putN (upd H a (.tup [.ref p.1, p.2])) as ps b = H b
    rw [putN_off as ps _ (fun z => h (List.mem_cons_of_mem _ z)), upd_ne (fun z => h (by rw [z]; exact List.mem_cons_self))]
theorem putN_at : ∀ (as : List Addr) (ps : List (Addr × V)) (H : Hp), as.length = ps.length → as.Nodup → Paired (fun (t : Addr) (p : Addr × V) => putN H as ps t = some (.tup [.ref p.1, p.2])) as ps
  | [], [], _, _, _ => .nil
  | [], _ :: _, _, h, _ => by cases h
  | _ :: _, [], _, h, _ => by cases h
  | a :: as, p :: ps, H, h, hn => by
    have hn' := List.nodup_cons.mp hn
    have ih := putN_at as ps (upd H a (.tup [.ref p.1, p.2])) (Nat.succ.inj h) hn'.2
    refine .cons ?_ ih
    show putN (upd H a (.tup [.ref p.1, p.2])) as ps a = some (.tup [.ref p.1, p.2])
    rw [putN_off as ps _ hn'.1, upd_same]
section
variable {X : Cx} {e : Expr} {te : TE} {p apos cpos pos : Pos}
theorem itemsN_laid {pins : List (Addr × Obj)} {σ : L2.St} {H : Hp} {s : Shared} {h' : Heap} {tk : Nat} {ps : List (Addr × V)} {es : Array DictEntry} {acc : Array Value} {c : Nat} {as : List Addr} (I : Inv X pins σ H s) (hz : ps.length ≤ sizeLine) (pe : ∀ (j : Nat) (hj : j < es.size), ∃ q, ps[j]? = some q ∧ es[j].key = .ref q.1 ∧ RelV q.2 es[j].val) (pl : ps.length = es.size)
    (hk : ∀ b o, s.heap.get? b = some o → h'.get? b = some o) (hS : h'.get? s.heap.objs.size = some { cls := .type "list", dict := none, data := .seq acc c, slots := #[] }) (hl : as.length = es.size) (hG : PySem.W.DilG es s.heap.objs.size h' as) (hacc : acc.toList = as.map Value.ref) :
    ∃ H' : Hp, (∀ b o, H b = some o → H' b = some o) ∧ H s.heap.objs.size = none ∧ H' s.heap.objs.size = some (.lst (as.map V.ref)) ∧ Paired (fun (t : Addr) (q : Addr × V) => H' t = some (.tup [.ref q.1, q.2])) as ps ∧ Inv X pins σ H' { s with heap := h', toks := tk } := by
  have hSn : s.heap.objs.size ∉ as := fun z => Nat.lt_irrefl _ (hG.above _ z)
  have nd : as.Nodup := List.Pairwise.imp (fun {a b} (h : a < b) => Nat.ne_of_lt h) hG.rise
  have new : ∀ t ∈ as, H t = none := fun t ht => I.hok.fresh (Nat.le_of_lt (hG.above t ht))
  have newS : H s.heap.objs.size = none := I.hok.fresh (Nat.le_refl _)
  have atP := putN_at as ps (upd H s.heap.objs.size (.lst (as.map V.ref))) (by omega) nd
  have off : ∀ b, b ∉ as → b ≠ s.heap.objs.size → putN (upd H s.heap.objs.size (.lst (as.map V.ref))) as ps b = H b := fun b h1 h2 => by rw [putN_off as ps _ h1, upd_ne h2]
  have low : ∀ b o, s.heap.get? b = some o → b ∉ as ∧ b ≠ s.heap.objs.size := fun b o e => ⟨fun z => absurd (Heap.lt_size e) (Nat.not_lt.mpr (Nat.le_of_lt (hG.above b z))), Nat.ne_of_lt (Heap.lt_size e)⟩
  have kp : ∀ b u, H b = some u → (putN (upd H s.heap.objs.size (.lst (as.map V.ref))) as ps) b = some u := fun b u e => by
    rw [off b (fun z => by rw [new b z] at e; cases e) (fun z => by rw [z, newS] at e; cases e)]
    exact e
  have eS : putN (upd H s.heap.objs.size (.lst (as.map V.ref))) as ps s.heap.objs.size = some (.lst (as.map V.ref)) := by rw [putN_off as ps _ hSn, upd_same]
  refine ⟨putN (upd H s.heap.objs.size (.lst (as.map V.ref))) as ps, kp, newS, eS, atP, ?_⟩
  refine I.call' (ch := []) rfl ⟨fun b o q _ _ _ => hk b o q, fun b o q _ _ _ => ⟨o.slots, hk b o q⟩, fun b o q n _ => ?_, fun b o q _ => ⟨o, hk b o q⟩, fun b xs q => kp b _ q, fun b o u q => kp b _ q, fun b ps q => ⟨#[], by rw [kp b _ q]; simp⟩⟩ (fun b u q => ?_) I.bare fun b z => by simp at z
  · obtain ⟨z1, z2⟩ := low b o q
    rw [off b z1 z2]
    exact n
  · by_cases hb : b ∈ as
    · obtain ⟨j, pk, e1, e2, e3⟩ := LiI.paired_ix atP hb
      rw [e3] at q
      cases q
      obtain ⟨hj, f3⟩ := hG.pairs j b e1
      obtain ⟨qv, g1, g2, g3⟩ := pe j hj
      rw [g1] at e2
      cases e2
      exact ⟨by show 2 ≤ sizeLine; decide, [es[j].key, es[j].val], .cons (by rw [g2]; exact rfl) (.cons g3 .nil), ⟨_, f3, rfl, _, rfl⟩⟩
    · by_cases hb2 : b = s.heap.objs.size
      · rw [hb2] at q ⊢
        rw [eS] at q
        cases q
        refine ⟨by rw [List.length_map]; omega, acc.toList, c, by rw [hacc]; exact LiI.vals_refs as, ?_⟩
        rw [Array.toArray_toList]
        exact hS
      · rw [off b hb hb2] at q
        exact (I.hok b u q).stay (fun d v _ y => hk d v y) (fun d y => kp d _ y) fun d xs y => kp d _ y
def tListItemsN (P : Program) (w : World) (K : PySem.W.Frag) (te : TE) : TE := fun σ H Q => te σ H fun x H1 => ∃ (d : Addr) (sh : List Bool) (kvs : List (List NI × V)), x = .ref d ∧ NDict P w K sh H1 d kvs ∧
  ∀ (H' : Hp) (p : Addr) (ts : List Addr), Ex H1 H' → H1 p = none → H' p = some (.lst (ts.map V.ref)) → Paired (fun (t : Addr) (q : List NI × V) => ∃ b, Dp K H' (.ref b) (keyD q.1) ∧ H' t = some (.tup [.ref b, q.2])) ts kvs → Q (.ref p) H'
/-- list(e.items()) -/
theorem pe_listItemsN (hc : X.calm = true) (he : PE X e te) (hg : Gl X "list") (hm : X.mg "list" = none) (hv : bootBuiltins "list" = some (.type "list")) (hbase : attributeBase e "items" X.env (eval e X.env) = eval e X.env := by rfl) (hline : (apos.endLine == cpos.line) = true := by rfl)
    (hs : starEach [.Call (.Attribute e "items" apos) [] [] cpos] X.env = (false, eval (.Call (.Attribute e "items" apos) [] [] cpos) X.env) :: starEach [] X.env := by rfl) :
    PE X (.Call (.Name "list" p) [.Call (.Attribute e "items" apos) [] [] cpos] [] pos) (tListItemsN X.prog X.w X.K te) := by
  refine ⟨fun pins s σ H Q I hq => ?_⟩
  refine wpAny_Call_Name_kw (ld_blt I hg hm hv ?_)
  refine PyProof.Rows.callWith_type1 ?_ hs rfl
  rw [hs]
  show wpAny _ _ (spliced ((false, eval (.Call (.Attribute e "items" apos) [] [] cpos) X.env) :: backTo pos (starEach [] X.env))) _ _ s
  refine Calls.spliced_cons ?_
  refine wpAny_Call_method (T := "dict") (id := "dict.items") hbase rfl hline F.plainAttrs_dict F.slot_dict_items F.type_dict_items (thn (he.run pins s σ H _ I hq) fun u s1 ⟨x, H1, I1, rx, d, sh, kvs, ex, hD, q⟩ => ?_)
  subst ex
  obtain rfl : u = Value.ref d := rx
  obtain ⟨xs, rr, hz, ob, es, ep, g1, g2, g3, g4, g5⟩ := nd_heap I1 hD
  have raw : s1.heap.DictRaw d es ep := ⟨ob, g1, g2, g3⟩
  have hsz : es.size = xs.length := by rw [← Array.length_toList, g4, List.length_map]
  have I2 : Inv X pins σ H1 { s1 with heap := s1.heap.push { cls := .type "dict_items", data := .fields #[.ref d] } } := I1.kept (t' := s1.toks) fun b ob q => Heap.get?_push_of_some _ q
  refine ⟨raw.typeIs, fun b e => by cases e; exact ⟨ob, g1, g2.2.1⟩, ?_⟩
  show wpAny _ _ (callWith cpos (.builtin "dict.items") [.ref d] [] []) _ X.xe s1
  refine method_meetsIn F.slot_dict_items F.entry_dict_items rfl (PySem.evalArgs_none ⟨rfl, raw.typeIs, F.args_dict_items_1 _, _, meets_dict_items_raw d hD.sys, ⟨es, ep, raw⟩, ?_⟩)
  refine Calls.spliced_nil ?_
  refine PySem.W.dil_call (I1.ok.hd hc) ⟨_, Heap.get?_push_size _ rfl, rfl, rfl⟩ (raw.at fun o e => Heap.get?_push_of_some _ e) (by omega) fun h' tk acc c as hk hS hl hG hacc => ?_
  have kl : kvs.length = xs.length := Paired.length rr
  have pe : ∀ (j : Nat) (hj : j < es.size), ∃ q, ((kvs.zip xs).map fun z => (z.2.2.1, z.1.2))[j]? = some q ∧ es[j].key = .ref q.1 ∧ RelV q.2 es[j].val := fun j hj => by
    have e1 : es.toList[j]? = some es[j] := by rw [Array.getElem?_toList]; exact Array.getElem?_eq_getElem hj
    rw [g4, List.getElem?_map] at e1
    obtain ⟨y, hy, e2⟩ := Option.map_eq_some_iff.mp e1
    have hkv : kvs[j]? = some (kvs[j]'(by omega)) := List.getElem?_eq_getElem (by omega)
    obtain ⟨y', h1, rel⟩ := LiI.paired_get rr hkv
    rw [hy] at h1
    cases h1
    refine ⟨(y.2.1, (kvs[j]'(by omega)).2), ?_, by rw [← e2]; rfl, by rw [← e2]; exact rel.2.2.2⟩
    rw [List.getElem?_map, List.getElem?_zip_eq_some (z := (_, y)) |>.mpr ⟨hkv, hy⟩]
    rfl
  obtain ⟨H', k1, k2, k5, k6, J⟩ := itemsN_laid (tk := tk) I2 (by rw [List.length_map, List.length_zip]; omega) pe (by rw [List.length_map, List.length_zip]; omega) hk hS hl hG hacc
  refine ⟨.ref _, H', J, rfl, q H' _ as k1 k2 k5 ?_⟩
  have gen : ∀ (as : List Addr) (kvs : List (List NI × V)) (xs : List (List NI × Addr × Value)), KN X.K sh H1 kvs xs → Paired (fun (t : Addr) (q : Addr × V) => H' t = some (.tup [.ref q.1, q.2])) as ((kvs.zip xs).map fun z => (z.2.2.1, z.1.2)) → Paired (fun (t : Addr) (q : List NI × V) => ∃ b, Dp X.K H' (.ref b) (keyD q.1) ∧ H' t = some (.tup [.ref b, q.2])) as kvs := by
    intro as kvs xs r
    induction r generalizing as with
    | nil => intro h; cases h; exact .nil
    | cons h t ih =>
      intro hh
      cases hh with
      | cons a b => exact .cons ⟨_, dmono k1 _ _ h.2.2.1, a⟩ (ih _ b)
  exact gen as kvs xs rr k6
end
end Lb

set_option Elab.async false
set_option linter.all false
set_option maxRecDepth 100000
set_option maxHeartbeats 4000000
namespace Lb
open PySem L2 Evl PyProof.Rows
def top (i : Nat) : Stmt := PySem.Challenge.pw_lostlines_k62_whole_swaps.main.body.getD i (.Pass ⟨0, 0, 0, 0⟩)
abbrev sTextOf : Stmt := top 9
abbrev NTextOf : List Str := ["term", "inner", "part"]
theorem scTextOf : FnScope NTextOf ["term"] (defScope sTextOf) := ⟨rfl, rfl, rfl, by decide +kernel, rfl, by decide +kernel, by decide +kernel⟩
abbrev sStoreInit : Stmt := inClass (top 10) 0
abbrev NStoreInit : List Str := ["self", "cells", "deepest", "_"]
theorem scStoreInit : FnScope NStoreInit ["self", "cells", "deepest"] (defScope sStoreInit) := ⟨rfl, rfl, rfl, by decide +kernel, rfl, by decide +kernel, by decide +kernel⟩
abbrev sStoreMade : Stmt := inClass (top 10) 2
abbrev NStoreMade : List Str := ["self", "function", "parts", "key", "depth", "part"]
theorem scStoreMade : FnScope NStoreMade ["self", "function", "parts"] (defScope sStoreMade) := ⟨rfl, rfl, rfl, by decide +kernel, rfl, by decide +kernel, by decide +kernel⟩
abbrev sStoreNew : Stmt := inClass (top 10) 3
abbrev NStoreNew : List Str := ["self", "depth", "term", "number"]
theorem scStoreNew : FnScope NStoreNew ["self", "depth", "term"] (defScope sStoreNew) := ⟨rfl, rfl, rfl, by decide +kernel, rfl, by decide +kernel, by decide +kernel⟩
abbrev sStoreNumber : Stmt := inClass (top 10) 4
abbrev NStoreNumber : List Str := ["self", "term", "part"]
theorem scStoreNumber : FnScope NStoreNumber ["self", "term"] (defScope sStoreNumber) := ⟨rfl, rfl, rfl, by decide +kernel, rfl, by decide +kernel, by decide +kernel⟩
abbrev sStoreTerms : Stmt := inClass (top 10) 5
abbrev NStoreTerms : List Str := ["self", "numbers", "number"]
theorem scStoreTerms : FnScope NStoreTerms ["self", "numbers"] (defScope sStoreTerms) := ⟨rfl, rfl, rfl, by decide +kernel, rfl, by decide +kernel, by decide +kernel⟩
abbrev sStoreTexts : Stmt := inClass (top 10) 6
abbrev NStoreTexts : List Str := ["self", "numbers", "number"]
theorem scStoreTexts : FnScope NStoreTexts ["self", "numbers"] (defScope sStoreTexts) := ⟨rfl, rfl, rfl, by decide +kernel, rfl, by decide +kernel, by decide +kernel⟩
abbrev sIsBetween : Stmt := top 16
abbrev NIsBetween : List Str := ["value", "low", "high"]
theorem scIsBetween : FnScope NIsBetween ["value", "low", "high"] (defScope sIsBetween) := ⟨rfl, rfl, rfl, by decide +kernel, rfl, by decide +kernel, by decide +kernel⟩
abbrev sIsNumberBelow : Stmt := top 17
abbrev NIsNumberBelow : List Str := ["value", "limit"]
theorem scIsNumberBelow : FnScope NIsNumberBelow ["value", "limit"] (defScope sIsNumberBelow) := ⟨rfl, rfl, rfl, by decide +kernel, rfl, by decide +kernel, by decide +kernel⟩
abbrev sAreFunctions : Stmt := top 18
abbrev NAreFunctions : List Str := ["value", "reads"]
theorem scAreFunctions : FnScope NAreFunctions ["value"] (defScope sAreFunctions) := ⟨rfl, rfl, rfl, by decide +kernel, rfl, by decide +kernel, by decide +kernel⟩
abbrev sCheckMachine : Stmt := top 19
abbrev NCheckMachine : List Str := ["machine", "most_cells", "cells", "functions"]
theorem scCheckMachine : FnScope NCheckMachine ["machine", "most_cells"] (defScope sCheckMachine) := ⟨rfl, rfl, rfl, by decide +kernel, rfl, by decide +kernel, by decide +kernel⟩
abbrev sAreSources : Stmt := top 20
abbrev NAreSources : List Str := ["machine", "function", "cell", "value", "cells", "functions", "source"]
theorem scAreSources : FnScope NAreSources ["machine", "function", "cell", "value"] (defScope sAreSources) := ⟨rfl, rfl, rfl, by decide +kernel, rfl, by decide +kernel, by decide +kernel⟩
abbrev sIsLine : Stmt := top 21
abbrev NIsLine : List Str := ["machine", "value", "cell", "function", "sources"]
theorem scIsLine : FnScope NIsLine ["machine", "value"] (defScope sIsLine) := ⟨rfl, rfl, rfl, by decide +kernel, rfl, by decide +kernel, by decide +kernel⟩
abbrev sCheckProgram : Stmt := top 22
abbrev NCheckProgram : List Str := ["machine", "program", "index", "line"]
theorem scCheckProgram : FnScope NCheckProgram ["machine", "program"] (defScope sCheckProgram) := ⟨rfl, rfl, rfl, by decide +kernel, rfl, by decide +kernel, by decide +kernel⟩
abbrev sIsTerm : Stmt := top 23
abbrev NIsTerm : List Str := ["machine", "value", "depth", "cells", "functions", "parts", "part"]
theorem scIsTerm : FnScope NIsTerm ["machine", "value", "depth"] (defScope sIsTerm) := ⟨rfl, rfl, rfl, by decide +kernel, rfl, by decide +kernel, by decide +kernel⟩
abbrev sAreNumbers : Stmt := top 24
abbrev NAreNumbers : List Str := ["value", "limit", "number", "at"]
theorem scAreNumbers : FnScope NAreNumbers ["value", "limit"] (defScope sAreNumbers) := ⟨rfl, rfl, rfl, by decide +kernel, rfl, by decide +kernel, by decide +kernel⟩
abbrev sIsSwaps : Stmt := top 25
abbrev NIsSwaps : List Str := ["program", "value", "at"]
theorem scIsSwaps : FnScope NIsSwaps ["program", "value"] (defScope sIsSwaps) := ⟨rfl, rfl, rfl, by decide +kernel, rfl, by decide +kernel, by decide +kernel⟩
abbrev sCheckSwaps : Stmt := top 26
abbrev NCheckSwaps : List Str := ["program", "swaps"]
theorem scCheckSwaps : FnScope NCheckSwaps ["program", "swaps"] (defScope sCheckSwaps) := ⟨rfl, rfl, rfl, by decide +kernel, rfl, by decide +kernel, by decide +kernel⟩
abbrev sIsWish : Stmt := top 27
abbrev NIsWish : List Str := ["machine", "value", "cell", "term"]
theorem scIsWish : FnScope NIsWish ["machine", "value"] (defScope sIsWish) := ⟨rfl, rfl, rfl, by decide +kernel, rfl, by decide +kernel, by decide +kernel⟩
abbrev sCheckWishes : Stmt := top 28
abbrev NCheckWishes : List Str := ["machine", "wishes", "above", "index", "wish"]
theorem scCheckWishes : FnScope NCheckWishes ["machine", "wishes"] (defScope sCheckWishes) := ⟨rfl, rfl, rfl, by decide +kernel, rfl, by decide +kernel, by decide +kernel⟩
abbrev sBehindLine : Stmt := top 31
abbrev NBehindLine : List Str := ["store", "holds", "line", "cell", "function", "sources", "parts", "made", "source"]
theorem scBehindLine : FnScope NBehindLine ["store", "holds", "line"] (defScope sBehindLine) := ⟨rfl, rfl, rfl, by decide +kernel, rfl, by decide +kernel, by decide +kernel⟩
abbrev sBehindLosses : Stmt := top 32
abbrev NBehindLosses : List Str := ["store", "program", "losses", "holds", "number", "line"]
theorem scBehindLosses : FnScope NBehindLosses ["store", "program", "losses"] (defScope sBehindLosses) := ⟨rfl, rfl, rfl, by decide +kernel, rfl, by decide +kernel, by decide +kernel⟩
abbrev sWithinMostPairs : Stmt := top 33
abbrev NWithinMostPairs : List Str := ["found"]
theorem scWithinMostPairs : FnScope NWithinMostPairs ["found"] (defScope sWithinMostPairs) := ⟨rfl, rfl, rfl, by decide +kernel, rfl, by decide +kernel, by decide +kernel⟩
abbrev sKeepFewer : Stmt := top 34
abbrev NKeepFewer : List Str := ["found", "key", "numbers"]
theorem scKeepFewer : FnScope NKeepFewer ["found", "key", "numbers"] (defScope sKeepFewer) := ⟨rfl, rfl, rfl, by decide +kernel, rfl, by decide +kernel, by decide +kernel⟩
abbrev sWantedNumbers : Stmt := top 36
abbrev NWantedNumbers : List Str := ["store", "wishes", "cell", "term"]
theorem scWantedNumbers : FnScope NWantedNumbers ["store", "wishes"] (defScope sWantedNumbers) := ⟨rfl, rfl, rfl, by decide +kernel, rfl, by decide +kernel, by decide +kernel⟩
abbrev sAreFulfilled : Stmt := top 37
abbrev NAreFulfilled : List Str := ["holds", "wanted", "cell", "number"]
theorem scAreFulfilled : FnScope NAreFulfilled ["holds", "wanted"] (defScope sAreFulfilled) := ⟨rfl, rfl, rfl, by decide +kernel, rfl, by decide +kernel, by decide +kernel⟩
abbrev sByTexts : Stmt := top 39
abbrev NByTexts : List Str := ["store", "rows", "found", "row", "texts"]
theorem scByTexts : FnScope NByTexts ["store", "rows"] (defScope sByTexts) := ⟨rfl, rfl, rfl, by decide +kernel, rfl, by decide +kernel, by decide +kernel⟩
abbrev sFewestHarmful : Stmt := top 40
abbrev NFewestHarmful : List Str := ["ways", "wanted", "fewest", "holds", "numbers"]
theorem scFewestHarmful : FnScope NFewestHarmful ["ways", "wanted"] (defScope sFewestHarmful) := ⟨rfl, rfl, rfl, by decide +kernel, rfl, by decide +kernel, by decide +kernel⟩
abbrev sSwapped : Stmt := top 42
abbrev NSwapped : List Str := ["program", "swaps", "lines", "number"]
theorem scSwapped : FnScope NSwapped ["program", "swaps"] (defScope sSwapped) := ⟨rfl, rfl, rfl, by decide +kernel, rfl, by decide +kernel, by decide +kernel⟩
abbrev sRunSwapped : Stmt := top 43
abbrev NRunSwapped : List Str := ["machine", "program", "swaps", "store"]
theorem scRunSwapped : FnScope NRunSwapped ["machine", "program", "swaps"] (defScope sRunSwapped) := ⟨rfl, rfl, rfl, by decide +kernel, rfl, by decide +kernel, by decide +kernel⟩
abbrev sSwappedRows : Stmt := top 44
abbrev NSwappedRows : List Str := ["store", "program", "before", "rows", "number", "line", "found", "holds", "swaps", "held"]
theorem scSwappedRows : FnScope NSwappedRows ["store", "program"] (defScope sSwappedRows) := ⟨rfl, rfl, rfl, by decide +kernel, rfl, by decide +kernel, by decide +kernel⟩
abbrev sOutcomesSwapped : Stmt := top 45
abbrev NOutcomesSwapped : List Str := ["machine", "program", "store"]
theorem scOutcomesSwapped : FnScope NOutcomesSwapped ["machine", "program"] (defScope sOutcomesSwapped) := ⟨rfl, rfl, rfl, by decide +kernel, rfl, by decide +kernel, by decide +kernel⟩
abbrev sIsSwapProof : Stmt := top 46
abbrev NIsSwapProof : List Str := ["machine", "program", "wishes"]
theorem scIsSwapProof : FnScope NIsSwapProof ["machine", "program", "wishes"] (defScope sIsSwapProof) := ⟨rfl, rfl, rfl, by decide +kernel, rfl, by decide +kernel, by decide +kernel⟩
abbrev sSwapHarm : Stmt := top 47
abbrev NSwapHarm : List Str := ["machine", "program", "wishes", "store", "rows"]
theorem scSwapHarm : FnScope NSwapHarm ["machine", "program", "wishes"] (defScope sSwapHarm) := ⟨rfl, rfl, rfl, by decide +kernel, rfl, by decide +kernel, by decide +kernel⟩
abbrev sShowsSwapHarm : Stmt := top 48
abbrev NShowsSwapHarm : List Str := ["machine", "program", "wishes", "value", "fewest", "store", "holds"]
theorem scShowsSwapHarm : FnScope NShowsSwapHarm ["machine", "program", "wishes", "value"] (defScope sShowsSwapHarm) := ⟨rfl, rfl, rfl, by decide +kernel, rfl, by decide +kernel, by decide +kernel⟩
abbrev sLTaken : Stmt := top 50
abbrev NLTaken : List Str := ["row", "many", "found", "cell"]
theorem scLTaken : FnScope NLTaken ["row", "many"] (defScope sLTaken) := ⟨rfl, rfl, rfl, by decide +kernel, rfl, by decide +kernel, by decide +kernel⟩
abbrev sLPick : Stmt := top 51
abbrev NLPick : List Str := ["row", "things"]
theorem scLPick : FnScope NLPick ["row", "things"] (defScope sLPick) := ⟨rfl, rfl, rfl, by decide +kernel, rfl, by decide +kernel, by decide +kernel⟩
abbrev sLAlike : Stmt := top 52
abbrev NLAlike : List Str := ["found", "due", "k"]
theorem scLAlike : FnScope NLAlike ["found", "due"] (defScope sLAlike) := ⟨rfl, rfl, rfl, by decide +kernel, rfl, by decide +kernel, by decide +kernel⟩
abbrev sLMachine : Stmt := top 53
abbrev NLMachine : List Str := ["row", "k"]
theorem scLMachine : FnScope NLMachine ["row"] (defScope sLMachine) := ⟨rfl, rfl, rfl, by decide +kernel, rfl, by decide +kernel, by decide +kernel⟩
abbrev sLLine : Stmt := top 54
abbrev NLLine : List Str := ["row", "machine", "cells", "functions", "cell", "function", "one", "k"]
theorem scLLine : FnScope NLLine ["row", "machine"] (defScope sLLine) := ⟨rfl, rfl, rfl, by decide +kernel, rfl, by decide +kernel, by decide +kernel⟩
abbrev sLProgram : Stmt := top 55
abbrev NLProgram : List Str := ["row", "machine", "most", "found", "k", "line"]
theorem scLProgram : FnScope NLProgram ["row", "machine", "most"] (defScope sLProgram) := ⟨rfl, rfl, rfl, by decide +kernel, rfl, by decide +kernel, by decide +kernel⟩
abbrev sLText : Stmt := top 56
abbrev NLText : List Str := ["term", "part"]
theorem scLText : FnScope NLText ["term"] (defScope sLText) := ⟨rfl, rfl, rfl, by decide +kernel, rfl, by decide +kernel, by decide +kernel⟩
abbrev sLDone : Stmt := top 57
abbrev NLDone : List Str := ["held", "line", "cell", "function", "sources", "some", "source"]
theorem scLDone : FnScope NLDone ["held", "line"] (defScope sLDone) := ⟨rfl, rfl, rfl, by decide +kernel, rfl, by decide +kernel, by decide +kernel⟩
abbrev sLRun : Stmt := top 58
abbrev NLRun : List Str := ["machine", "program", "held", "line"]
theorem scLRun : FnScope NLRun ["machine", "program"] (defScope sLRun) := ⟨rfl, rfl, rfl, by decide +kernel, rfl, by decide +kernel, by decide +kernel⟩
abbrev sLWithout : Stmt := top 59
abbrev NLWithout : List Str := ["program", "losses", "k"]
theorem scLWithout : FnScope NLWithout ["program", "losses"] (defScope sLWithout) := ⟨rfl, rfl, rfl, by decide +kernel, rfl, by decide +kernel, by decide +kernel⟩
abbrev sLSubsets : Stmt := top 60
abbrev NLSubsets : List Str := ["many", "found", "k", "lot"]
theorem scLSubsets : FnScope NLSubsets ["many"] (defScope sLSubsets) := ⟨rfl, rfl, rfl, by decide +kernel, rfl, by decide +kernel, by decide +kernel⟩
abbrev sLNear : Stmt := top 61
abbrev NLNear : List Str := ["losses", "many", "k"]
theorem scLNear : FnScope NLNear ["losses", "many"] (defScope sLNear) := ⟨rfl, rfl, rfl, by decide +kernel, rfl, by decide +kernel, by decide +kernel⟩
abbrev sLEnds : Stmt := top 62
abbrev NLEnds : List Str := ["machine", "program", "lots", "found", "lot", "held", "term", "key"]
theorem scLEnds : FnScope NLEnds ["machine", "program", "lots"] (defScope sLEnds) := ⟨rfl, rfl, rfl, by decide +kernel, rfl, by decide +kernel, by decide +kernel⟩
abbrev sLWishes : Stmt := top 63
abbrev NLWishes : List Str := ["row", "machine", "program", "held", "cells", "cell"]
theorem scLWishes : FnScope NLWishes ["row", "machine", "program"] (defScope sLWishes) := ⟨rfl, rfl, rfl, by decide +kernel, rfl, by decide +kernel, by decide +kernel⟩
abbrev sLFulfilled : Stmt := top 64
abbrev NLFulfilled : List Str := ["held", "wishes", "wish"]
theorem scLFulfilled : FnScope NLFulfilled ["held", "wishes"] (defScope sLFulfilled) := ⟨rfl, rfl, rfl, by decide +kernel, rfl, by decide +kernel, by decide +kernel⟩
abbrev sLSwapped : Stmt := top 65
abbrev NLSwapped : List Str := ["program", "swaps", "found", "k"]
theorem scLSwapped : FnScope NLSwapped ["program", "swaps"] (defScope sLSwapped) := ⟨rfl, rfl, rfl, by decide +kernel, rfl, by decide +kernel, by decide +kernel⟩
abbrev sLWord : Stmt := top 66
abbrev NLWord : List Str := ["work"]
theorem scLWord : FnScope NLWord ["work"] (defScope sLWord) := ⟨rfl, rfl, rfl, by decide +kernel, rfl, by decide +kernel, by decide +kernel⟩
abbrev sLaw : Stmt := top 67
abbrev NLaw : List Str := ["script", "row", "machine", "program", "size", "lots", "wishes", "ends", "lot", "held", "harms", "least", "found", "value", "good", "bad", "k", "term", "key"]
theorem scLaw : FnScope NLaw ["script"] (defScope sLaw) := ⟨rfl, rfl, rfl, by decide +kernel, rfl, by decide +kernel, by decide +kernel⟩
end Lb

set_option Elab.async false
set_option linter.all false
set_option maxRecDepth 100000
set_option maxHeartbeats 4000000
namespace Lb
open PySem L2 Evl PyProof.Rows
/-! ### what the top leaves, by names -/
def dF (x : Str) (st : Stmt) : He.DefD := ⟨(x, none), x, x, defArgs st, defBody st, defScope st, [], []⟩
def dM (m q : Str) (st : Stmt) : He.DefD := ⟨("Store", some m), m, q, defArgs st, defBody st, defScope st, [], []⟩
def dFd (x : Str) (st : Stmt) (ds : List He.Dv) : He.DefD := ⟨(x, none), x, x, defArgs st, defBody st, defScope st, ds, []⟩
def dMd (m q : Str) (st : Stmt) (ds : List He.Dv) : He.DefD := ⟨("Store", some m), m, q, defArgs st, defBody st, defScope st, ds, []⟩
def fn0 : List He.DefD := [dF "is_between" sIsBetween, dF "is_number_below" sIsNumberBelow, dF "are_functions" sAreFunctions, dFd "check_machine" sCheckMachine [.int 4], dF "are_sources" sAreSources, dF "is_line" sIsLine, dF "check_program" sCheckProgram, dF "is_term" sIsTerm, dF "_law_text" sLText, dF "text_of" sTextOf, dF "_law_taken" sLTaken, dF "_law_pick" sLPick, dF "_law_machine" sLMachine, dF "_law_line" sLLine, dF "_law_program" sLProgram, dF "_law_alike" sLAlike, dF "behind_line" sBehindLine, dF "keep_fewer" sKeepFewer, dF "behind_losses" sBehindLosses, dF "is_wish" sIsWish]
def fn1 : List He.DefD := [dF "check_wishes" sCheckWishes, dF "are_fulfilled" sAreFulfilled, dF "wanted_numbers" sWantedNumbers, dF "_law_done" sLDone, dF "_law_run" sLRun, dF "_law_subsets" sLSubsets, dF "_law_fulfilled" sLFulfilled, dF "swapped" sSwapped, dF "_law_swapped" sLSwapped, dF "_law_wishes" sLWishes, dF "are_numbers" sAreNumbers, dF "is_swaps" sIsSwaps, dF "check_swaps" sCheckSwaps, dF "run_swapped" sRunSwapped, dF "within_most_pairs" sWithinMostPairs, dF "swapped_rows" sSwappedRows, dF "by_texts" sByTexts, dF "outcomes_swapped" sOutcomesSwapped, dF "fewest_harmful" sFewestHarmful, dF "swap_harm" sSwapHarm]
def fn2 : List He.DefD := [dF "is_swap_proof" sIsSwapProof, dF "shows_swap_harm" sShowsSwapHarm, dF "_law_word" sLWord, dF "law" sLaw, dMd "__init__" "Store.__init__" sStoreInit [.int 8], dM "made" "Store.made" sStoreMade, dM "terms" "Store.terms" sStoreTerms, dM "texts" "Store.texts" sStoreTexts, dM "_new" "Store._new" sStoreNew, dM "number" "Store.number" sStoreNumber]
def fn : List He.DefD := fn0 ++ fn1 ++ fn2
def fa0 : List He.Fa := [.free "len", .free "isinstance", .free "tuple", .free "list", .free "int", .free "bool", .free "str", .free "range", .free "enumerate", .free "max", .free "all", .free "sorted", .free "any", .free "min", .free "sum", .free "reversed", .int "DEEPEST" 8, .int "MOST_CELLS" 4, .int "MOST_FUNCTIONS" 3, .int "MOST_READ" 2]
def fa1 : List He.Fa := [.int "MOST_LINES" 60, .int "MOST_PAIRS" 3000, .glo "Store", .cls "Store", .noat "Store" "at_first", .noat "Store" "_terms", .noat "Store" "_depths", .noat "Store" "_numbers", .noat "Store" "_texts", .noat "Store" "_deepest", .noat "Store" "_is_closed", .noat "Store" "_shared", .meth "Store" "made", .meth "Store" "terms", .meth "Store" "texts", .meth "Store" "_new", .meth "Store" "number", .mkr "Store", .glo "BadSwaps", .exc "BadSwaps"]
def fa2 : List He.Fa := [.exm "BadSwaps" "BadSwaps" true, .glo "is_between", .glo "is_number_below", .glo "are_functions", .glo "check_machine", .glo "are_sources", .glo "is_line", .glo "check_program", .glo "is_term", .glo "_law_text", .glo "text_of", .glo "_law_taken", .glo "_law_pick", .glo "_law_machine", .glo "_law_line", .glo "_law_program", .glo "_law_alike", .glo "behind_line", .glo "keep_fewer", .glo "behind_losses"]
def fa3 : List He.Fa := [.glo "is_wish", .glo "check_wishes", .glo "are_fulfilled", .glo "wanted_numbers", .glo "_law_done", .glo "_law_run", .glo "_law_subsets", .glo "_law_fulfilled", .glo "swapped", .glo "_law_swapped", .glo "_law_wishes", .glo "are_numbers", .glo "is_swaps", .glo "check_swaps", .glo "run_swapped", .glo "within_most_pairs", .glo "swapped_rows", .glo "by_texts", .glo "outcomes_swapped", .glo "fewest_harmful"]
def fa4 : List He.Fa := [.glo "swap_harm", .glo "is_swap_proof", .glo "shows_swap_harm", .glo "_law_word", .glo "law"]
def fa : List He.Fa := fa0 ++ fa1 ++ fa2 ++ fa3 ++ fa4
def nm0 : List PySem.Str := ["LinesError", "BadMachine", "BadProgram", "BadWishes", "TooMany", "BadSwaps", "DEEPEST", "text_of", "Store", "MOST_CELLS", "MOST_FUNCTIONS", "MOST_READ", "MOST_LINES", "is_between", "is_number_below", "are_functions", "check_machine", "are_sources", "is_line", "check_program"]
def nm1 : List PySem.Str := ["is_term", "are_numbers", "is_swaps", "check_swaps", "is_wish", "check_wishes", "MOST_PAIRS", "behind_line", "behind_losses", "within_most_pairs", "keep_fewer", "wanted_numbers", "are_fulfilled", "by_texts", "fewest_harmful", "swapped", "run_swapped", "swapped_rows", "outcomes_swapped", "is_swap_proof"]
def nm2 : List PySem.Str := ["swap_harm", "shows_swap_harm", "_law_taken", "_law_pick", "_law_alike", "_law_machine", "_law_line", "_law_program", "_law_text", "_law_done", "_law_run", "_law_without", "_law_subsets", "_law_near", "_law_ends", "_law_wishes", "_law_fulfilled", "_law_swapped", "_law_word"]
def names : List PySem.Str := nm0 ++ nm1 ++ nm2
def lawIx : Nat := 67
end Lb

set_option Elab.async false
set_option linter.all false
set_option maxRecDepth 100000
set_option maxHeartbeats 0
namespace Lb
open PySem PySem.W PySem.Calls PyProof.Rows L2
abbrev RR : PySem.W.OpenRow := PySem.W.OpenLaw.row PySem.Challenge.rw_lostlines_k62_whole_swaps
def ad0 : List Addr := [3, 6, 4, 24, 44, 63, 82, 101, 113, 120, 170, 181, 188, 193, 201, 206, 213, 220, 225, 230]
def ad1 : List Addr := [235, 242, 249, 256, 261, 268, 275, 282, 287, 292, 297, 304, 311, 318, 325, 332, 339, 346, 353, 360]
def ad2 : List Addr := [367, 372, 377, 382, 389, 394, 399, 406, 411, 416, 421, 426, 431, 436, 443, 450, 455, 0, 23, 43]
def ad3 : List Addr := [62, 81, 100, 112, 119, 169, 180, 187, 192, 200, 194, 205, 212, 219, 224, 229, 234, 241, 248, 255]
def ad4 : List Addr := [260, 267, 274, 281, 286, 291, 296, 303, 310, 317, 324, 331, 338, 345, 352, 359, 366, 371, 376, 381]
def ad5 : List Addr := [388, 393, 398, 405, 410, 415, 420, 425, 430, 435, 442, 449, 454, 22, 25, 41, 42, 60, 61, 79]
def ad6 : List Addr := [80, 98, 99, 111, 116, 117, 118, 133, 140, 145, 152, 157, 162, 167, 168, 171, 172, 175, 176, 177]
def ad7 : List Addr := [178, 179, 182, 183, 184, 185, 186, 189, 190, 191, 195, 196, 197, 198, 199, 202, 203, 204, 207, 208]
def ad8 : List Addr := [209, 210, 211, 214, 215, 216, 217, 218, 221, 222, 223, 226, 227, 228, 231, 232, 233, 236, 237, 238]
def ad9 : List Addr := [239, 240, 243, 244, 245, 246, 247, 250, 251, 252, 253, 254, 257, 258, 259, 262, 263, 264, 265, 266]
def ad10 : List Addr := [269, 270, 271, 272, 273, 276, 277, 278, 279, 280, 283, 284, 285, 288, 289, 290, 293, 294, 295, 298]
def ad11 : List Addr := [299, 300, 301, 302, 305, 306, 307, 308, 309, 312, 313, 314, 315, 316, 319, 320, 321, 322, 323, 326]
def ad12 : List Addr := [327, 328, 329, 330, 333, 334, 335, 336, 337, 340, 341, 342, 343, 344, 347, 348, 349, 350, 351, 354]
def ad13 : List Addr := [355, 356, 357, 358, 361, 362, 363, 364, 365, 368, 369, 370, 373, 374, 375, 378, 379, 380, 383, 384]
def ad14 : List Addr := [385, 386, 387, 390, 391, 392, 395, 396, 397, 400, 401, 402, 403, 404, 407, 408, 409, 412, 413, 414]
def ad15 : List Addr := [417, 418, 419, 422, 423, 424, 427, 428, 429, 432, 433, 434, 437, 438, 439, 440, 441, 444, 445, 446]
def ad16 : List Addr := [447, 448, 451, 452, 453, 40, 59, 78, 97, 132, 128, 139, 144, 151, 156, 161, 166]
def addrs : List Addr := ad0 ++ ad1 ++ ad2 ++ ad3 ++ ad4 ++ ad5 ++ ad6 ++ ad7 ++ ad8 ++ ad9 ++ ad10 ++ ad11 ++ ad12 ++ ad13 ++ ad14 ++ ad15 ++ ad16
def obsB (K : PySem.W.Frag) : He.AlD := He.obsD fa fn K
theorem saysB {K : PySem.W.Frag} (e : obsB K = He.valD fn) : He.SaysD fa fn K := e
def tabP (h : Heap) (K : PySem.W.Frag) : Prop := PySem.W.codeHdIn K (He.cT K ("law", none)).1 (He.cT K ("law", none)).2 = true ∧ K.lookup (He.cT K ("law", none)).2 = none ∧ h.get? (He.cT K ("law", none)).2 = some { cls := .none, data := .fields #[] }
def obsBG (g : Addr → Option Obj) : He.AlD := ((obsB (He.frT g addrs)).1 && He.tabsB g [("law", none)] (He.frT g addrs), (obsB (He.frT g addrs)).2)
theorem saysBG {h : Heap} (e : obsBG h.get? = He.valD fn) : (He.SaysD fa fn (He.frT h.get? addrs)) ∧ tabP h (He.frT h.get? addrs) := by
  have e1 : ((obsB (He.frT h.get? addrs)).1 && He.tabsB h.get? [("law", none)] (He.frT h.get? addrs)) = true := congrArg (fun z : He.AlD => z.1) e
  have e2 : (obsB (He.frT h.get? addrs)).2 = fn.map He.DefD.val := congrArg (fun z : He.AlD => z.2) e
  obtain ⟨a, b⟩ := He.ba e1
  obtain ⟨h3, h4⟩ := He.ba (List.all_eq_true.mp b _ (List.mem_singleton_self _))
  refine ⟨saysB (Prod.ext a e2), h3, ?_⟩
  cases q : h.get? (He.cT (He.frT h.get? addrs) ("law", none)).2 with
  | none =>
    rw [q] at h4
    cases h4
  | some o =>
    rw [q] at h4
    exact ⟨He.frT_none q h4, by rw [He.emptyTab_eq h4]⟩
def hookB : PySem.W.Hook where
  α := He.AlD
  obs := fun s => obsBG s.heap.get?
  val := fun _ => He.valD fn
  says := fun _ h => ∃ K : PySem.W.Frag, K.In h ∧ (He.SaysD fa fn K) ∧ tabP h K
  of := fun _ _ e => ⟨_, He.frT_in, saysBG e⟩
  keeps := fun _ _ _ ⟨K, hK, c, t1, t2, t3⟩ k => ⟨K, PySem.W.Frag.In.keeps hK k, c, t1, t2, k _ _ t3⟩
theorem obsBG_eq {g : Addr → Option Obj} {s : Shared} (h : ∀ a, g a = s.heap.get? a) : obsBG g = hookB.obs s := by
  have e : g = s.heap.get? := funext h
  rw [e] <;> rfl
abbrev hk : PySem.W.Hook := hookB
def ob (s : PySem.W.SharedT) : He.AlD := obsBG (HandSHeadRun.getT s)
theorem ob_eq (s : PySem.W.SharedT) : ob s = hk.obs s.abs := obsBG_eq (HandSHeadRun.getT_eq s)
theorem run (w : World) : HandSHeadRun.RunEq RR (PySem.W.view RR.prog [67]) hk ob 4000 names w := by
  intro os
  kernel_rfl
end Lb

set_option Elab.async false
set_option linter.all false
set_option maxRecDepth 100000
set_option maxHeartbeats 4000000
namespace Lb
open PySem L2 Evl PyProof.Rows
/-- the module's numbers -/
structure Gs (mg : Str → Option Value) : Prop where
  DEEPEST : ∃ t, mg "DEEPEST" = some (.int 8 t)
  MOST_CELLS : ∃ t, mg "MOST_CELLS" = some (.int 4 t)
  MOST_FUNCTIONS : ∃ t, mg "MOST_FUNCTIONS" = some (.int 3 t)
  MOST_READ : ∃ t, mg "MOST_READ" = some (.int 2 t)
  MOST_LINES : ∃ t, mg "MOST_LINES" = some (.int 60 t)
  MOST_PAIRS : ∃ t, mg "MOST_PAIRS" = some (.int 3000 t)
theorem pe_gi {X : Cx} {x : Str} {i : Int} {pos : Pos} (h : ∃ t, X.mg x = some (.int i t)) (hg : Gl X x := by rfl) (hd : (x == ("__debug__" : Str)) = false := by decide) : PE X (.Name x pos) (tC (.int i)) := by
  obtain ⟨t, h⟩ := h
  exact pe_glob hg h ⟨t, rfl⟩ hd
section
variable {P : Program} {w : World} {K : PySem.W.Frag} {mg : Str → Option Value} {base : Heap}
/-- a chain a <= b <= c of ints -/
theorem ev_chain {σ : L2.St} {H : Hp} {ta tb tc : TE} {i j k : Int} {p q : Int → Int → Bool} (ha : Ev ta σ H (.int i)) (hb : Ev tb σ H (.int j)) (hc : Ev tc σ H (.int k)) :
    Ev (tChain (rI0 fun i j => .bl (p i j)) (rI0 fun i j => .bl (q i j)) ta tb tc) σ H (.bl (p i j && q j k)) := fun H1 e Q h => ha H1 e _ fun H2 e2 => hb H2 (e.trans e2) _ fun H3 e3 => by
  refine ⟨i, j, rfl, rfl, p i j, rfl, ?_⟩
  cases hp : p i j with
  | true =>
    rw [hp] at h
    refine iteT (hc H3 ((e.trans e2).trans e3) _ fun H4 e4 => ⟨j, k, rfl, rfl, ?_⟩)
    exact h H4 ((e2.trans e3).trans e4)
  | false =>
    rw [hp] at h
    exact iteF (h H3 (e2.trans e3))
def isI : PyData → Bool
  | .int _ | .bool _ => true
  | _ => false
def isB : PyData → Bool
  | .bool _ => true
  | _ => false
def isT : PyData → Bool
  | .tuple _ => true
  | _ => false
def btw (lo hi : Int) : PyData → Bool
  | .int i => decide (lo ≤ i) && decide (i ≤ hi)
  | _ => false
theorem kI (d : PyData) : kitB (tyD d) "int" = some (isI d) := by cases d <;> (simp only [tyD, isI]; decide +kernel)
theorem kB (d : PyData) : kitB (tyD d) "bool" = some (isB d) := by cases d <;> (simp only [tyD, isB]; decide +kernel)
theorem kT (d : PyData) : kitB (tyD d) "tuple" = some (isT d) := by cases d <;> (simp only [tyD, isT]; decide +kernel)
theorem btw_is (lo hi : Int) (d : PyData) : (isI d && (!isB d && btw lo hi d)) = btw lo hi d := by cases d <;> simp [isI, isB, btw]
/-- a def that gives a scalar of data and changes nothing -/
def spBetween (K : PySem.W.Frag) : Sp := fun vs H Q _ => ∃ v d lo hi, vs = [v, .int lo, .int hi] ∧ Dp K H v d ∧ ∀ H', Ex H H' → Q (.bl (btw lo hi d)) H'
theorem ok_is_between (B : Bi mg) (D : Dfn K mg "is_between" sIsBetween ["value", "low", "high"]) : Cal P w K mg base 1 "is_between" ["value", "low", "high"] (spBetween K) := by
  refine D.ok scIsBetween (fun vs H Q E h => ?_) (fun f cdv A outer s H vs Q E hr h => ?_)
  · obtain ⟨v, d, lo, hi, rfl, _⟩ := h
    rfl
  obtain ⟨v, d, lo, hi, rfl, hv, k⟩ := h
  refine ⟨_, (pss_one (ps_ret (pe_and (pe_callB call_isi (by rfl) B.isinstance (by decide +kernel) (pa_cons (pv 0) (pa_cons (pe_bltn (v := .ty "int") (by rfl) B.int (by decide +kernel) rfl) pa_nil))) (pe_and (pe_not (pe_callB call_isi (by rfl) B.isinstance (by decide +kernel) (pa_cons (pv 0) (pa_cons (pe_bltn (v := .ty "bool") (by rfl) B.bool (by decide +kernel) rfl) pa_nil)))) (pe_one (pe_chain op_le op_le (pv 1) (pv 0) (pv 2))))))), ?_⟩
  have hx : EvD K (tVar 0) [some v, some (.int lo), some (.int hi)] H d := ed_var rfl hv
  refine s_ret (ev_is (ev_andV (ev_isi hx (kI d)) (fun h1 => ev_andV (ev_notV (ev_isi hx (kB d))) (b := btw lo hi d) fun h2 => ?_)) ?_) (fun H1 e => k H1 e)
  · cases d with
    | int i => cases hv.intD; exact ev_chain (ev_var rfl) (ev_var rfl) (ev_var rfl)
    | bool b => simp [isB] at h2
    | none | str x | list l | tuple l | dict l => simp [isI] at h1
  · rw [btw_is]
theorem sp_between {σ : L2.St} {H : Hp} {ta tb tc : TE} {E : XK} {d : PyData} {lo hi : Int} (ha : EvD K ta σ H d) (hb : Ev tb σ H (.int lo)) (hc : Ev tc σ H (.int hi)) : Ev (tCall (spBetween K) [] E (tCons ta (tCons tb (tCons tc tNil)))) σ H (.bl (btw lo hi d)) := fun H1 e Q q =>
  ha H1 e _ fun v H2 e2 hv => hb H2 (e.trans e2) _ fun H3 e3 => hc H3 ((e.trans e2).trans e3) _ fun H4 e4 => ⟨v, d, lo, hi, rfl, dmono (e3.trans e4) _ _ hv, fun H5 e5 => q H5 (((e2.trans e3).trans e4).trans e5)⟩
def spBelow (K : PySem.W.Frag) : Sp := fun vs H Q _ => ∃ v d n, vs = [v, .int n] ∧ Dp K H v d ∧ ∀ H', Ex H H' → Q (.bl (btw 0 (n - 1) d)) H'
theorem ok_is_number_below (D : Dfn K mg "is_number_below" sIsNumberBelow ["value", "limit"]) (C_is_between : Cal P w K mg base 1 "is_between" ["value", "low", "high"] (spBetween K)) : Cal P w K mg base 2 "is_number_below" ["value", "limit"] (spBelow K) := by
  refine D.ok scIsNumberBelow (fun vs H Q E h => ?_) (fun f cdv A outer s H vs Q E hr h => ?_)
  · obtain ⟨v, d, n, rfl, _⟩ := h
    rfl
  obtain ⟨v, d, n, rfl, hv, k⟩ := h
  refine ⟨_, (pss_one (ps_ret (pe_cal C_is_between hr (by omega) rfl (pa_cons (pv 0) (pa_cons pe_int (pa_cons (pe_op op_sub (pv 1) pe_int) pa_nil)))))), ?_⟩
  refine s_ret (sp_between (ed_var rfl hv) ev_c (ev_op (ev_var rfl) ev_c rv_I0)) fun H1 e => k H1 e
theorem sp_below {σ : L2.St} {H : Hp} {ta tb : TE} {E : XK} {d : PyData} {n : Int} (ha : EvD K ta σ H d) (hb : Ev tb σ H (.int n)) : Ev (tCall (spBelow K) [] E (tCons ta (tCons tb tNil))) σ H (.bl (btw 0 (n - 1) d)) := fun H1 e Q q =>
  ha H1 e _ fun v H2 e2 hv => hb H2 (e.trans e2) _ fun H3 e3 => ⟨v, d, n, rfl, dmono e3 _ _ hv, fun H5 e5 => q H5 ((e2.trans e3).trans e5)⟩
def spAreFns (K : PySem.W.Frag) : Sp := fun vs H Q _ => ∃ v ns, vs = [v] ∧ Dp K H v (natsD ns) ∧ 1 ≤ ns.length ∧ ns.length ≤ 3 ∧ (∀ n ∈ ns, 1 ≤ n ∧ n ≤ 2) ∧ ∀ H', Ex H H' → Q (.bl true) H'
theorem all_true {α : Type} (l : List α) (f : α → Bool) (h : ∀ x ∈ l, f x = true) : ((l.map f).all id) = true := by
  rw [List.all_map]
  exact List.all_eq_true.mpr h
theorem ok_are_functions (B : Bi mg) (G : Gs mg) (D : Dfn K mg "are_functions" sAreFunctions ["value"]) (C_is_between : Cal P w K mg base 1 "is_between" ["value", "low", "high"] (spBetween K)) : Cal P w K mg base 2 "are_functions" ["value"] (spAreFns K) := by
  refine D.ok scAreFunctions (fun vs H Q E h => ?_) (fun f cdv A outer s H vs Q E hr h => ?_)
  · obtain ⟨v, ns, rfl, _⟩ := h
    rfl
  obtain ⟨v, ns, rfl, hv, h1, h3, hr2, k⟩ := h
  refine ⟨_, (pss_cons (ps_if (PW.pt (pw_or (pt_not (pt_val (pe_callB call_isi (by rfl) B.isinstance (by decide +kernel) (pa_cons (pv 0) (pa_cons (pe_bltn (v := .ty "tuple") (by rfl) B.tuple (by decide +kernel) rfl) pa_nil))))) (pw_or1 (pt_not (pt_chain op_le op_le pe_int (pe_callB call_lenq (by rfl) B.len PySem.boot_len (pa_cons (pv 0) pa_nil)) (pe_gi G.MOST_FUNCTIONS)))))) (pss_one (ps_ret pe_bl)) pss_nil) (pss_one (ps_ret (pe_callB (cr_all rfl) (by rfl) B.all (by decide +kernel) (pa_cons (pe_lc (own := [("reads", 1)]) (g := (gName 1)) (tt := tYes) rfl scAreFunctions.nd (pi_tup (pv 0)) (blkOk_by (N := NAreFunctions) (sc := defScope sAreFunctions) (by decide +kernel)) (fun _ _ _ _ _ => (pg_name (i := 1) scAreFunctions.nd rfl (by first | exact Or.inl rfl | exact Or.inr rfl))) (fun _ _ _ _ _ => pts_nil) (fun _ _ _ _ _ => (pe_cal C_is_between hr (by omega) rfl (pa_cons (pv 1) (pa_cons pe_int (pa_cons (pe_gi G.MOST_READ) pa_nil)))))) pa_nil))))), ?_⟩
  have hx : EvD K (tVar 0) [some v, none] H (natsD ns) := ed_var rfl hv
  refine qd_pass (et_or (et_not (et_B (ev_isi hx (kT _)))) fun _ => et_not (et_test (ev_chain ev_c (ev_lenT hx) ev_c))) ?_ fun H1 e => ?_
  · show (!isT (natsD ns) || !(decide ((1 : Int) ≤ _) && decide (_ ≤ (3 : Int)))) = false
    simp [natsD, isT, h1, h3]
    omega
  refine s_ret (ev_is (ev_all (bs := ns.map fun _ => true) ?_) ?_) fun H2 e2 => k H2 (e.trans e2)
  · refine ed_is (ed_lcT (fun _ => .bool true) (hx.mono e) ?_ (fun _ _ => rfl) fun d x H2 hd e2 hxd => ?_) ?_
    · rw [List.length_map]; omega
    · obtain ⟨n, hn, rfl⟩ := List.mem_map.mp hd
      refine ed_bl (ev_is (sp_between (ed_var rfl hxd) ev_c ev_c) ?_)
      have := hr2 n hn
      simp [btw]
      omega
    · rw [List.map_map, List.map_map]
      rfl
  · rw [all_true _ _ fun _ _ => rfl]
end
end Lb

set_option Elab.async false
set_option linter.all false
set_option maxRecDepth 100000
set_option maxHeartbeats 4000000
namespace Lb
open PySem L2 Evl PyProof.Rows
section
variable {P : Program} {w : World} {K : PySem.W.Frag} {mg : Str → Option Value} {base : Heap}
abbrev CBetween (P : Program) (w : World) (K : PySem.W.Frag) (mg : Str → Option Value) (base : Heap) := Cal P w K mg base 1 "is_between" ["value", "low", "high"] (spBetween K)
abbrev CBelow (P : Program) (w : World) (K : PySem.W.Frag) (mg : Str → Option Value) (base : Heap) := Cal P w K mg base 2 "is_number_below" ["value", "limit"] (spBelow K)
abbrev CAreFns (P : Program) (w : World) (K : PySem.W.Frag) (mg : Str → Option Value) (base : Heap) := Cal P w K mg base 2 "are_functions" ["value"] (spAreFns K)
theorem btw_nat {lo hi : Int} {n : Nat} (h1 : lo ≤ (n : Int)) (h2 : (n : Int) ≤ hi) : btw lo hi (.int (n : Int)) = true := by
  show (decide (lo ≤ (n : Int)) && decide ((n : Int) ≤ hi)) = true
  rw [decide_eq_true h1, decide_eq_true h2]
  rfl
/-- a call with data in, a scalar out -/
theorem ev_sp {σ : L2.St} {H : Hp} {ta : TA} {sp : Sp} {E : XK} {ds : List PyData} {v : V} (h : EvAD K ta σ H ds) (hs : ∀ H1 vs, Ex H H1 → DpAll K H1 vs ds → ∀ Q : VK, (∀ H2, Ex H1 H2 → Q v H2) → sp vs H1 Q E) : Ev (tCall sp [] E ta) σ H v := fun H1 e Q q =>
  h H1 e _ fun vs H2 e2 hv => by
    show sp (vs ++ []) H2 Q E
    rw [List.append_nil]
    exact hs H2 vs (e.trans e2) hv Q fun H3 e3 => q H3 (e2.trans e3)
def spChkM (K : PySem.W.Frag) : Sp := fun vs H Q _ => ∃ v m, vs = [v, .int 4] ∧ Dp K H v (Mc.enc m) ∧ m.Ok ∧ ∀ H', Ex H H' → Q .non H'
abbrev CChkM (P : Program) (w : World) (K : PySem.W.Frag) (mg : Str → Option Value) (base : Heap) := CalD P w K mg base 3 "check_machine" ["machine", "most_cells"] (spChkM K) [.int 4]
theorem ok_check_machine (B : Bi mg) (G : Gs mg) (D : DfnD K mg "check_machine" sCheckMachine ["machine", "most_cells"] [.int 4]) (C_is_between : CBetween P w K mg base) (C_are_functions : CAreFns P w K mg base) : CChkM P w K mg base := by
  refine D.ok scCheckMachine (fun vs H Q E h => ?_) (fun f cdv A outer s H vs Q E hr h => ?_)
  · obtain ⟨v, m, rfl, _⟩ := h
    rfl
  obtain ⟨v, m, rfl, hv, ok, k⟩ := h
  refine ⟨_, (pss_cons (ps_if (PW.pt (pw_or (pt_not (pt_val (pe_callB call_isi (by rfl) B.isinstance (by decide +kernel) (pa_cons (pv 0) (pa_cons (pe_bltn (v := .ty "tuple") (by rfl) B.tuple (by decide +kernel) rfl) pa_nil))))) (pw_or1 (pt_cmpR op_ne (pe_callB call_lenq (by rfl) B.len PySem.boot_len (pa_cons (pv 0) pa_nil)) pe_int (by first | exact nomark _ | rfl))))) (pss_one ps_never) pss_nil) (pss_cons (ps_asg (pv 0) (pg_tup rfl (pgs_cons (pg_name (i := 2) scCheckMachine.nd rfl (by first | exact Or.inl rfl | exact Or.inr rfl)) (pgs_cons (pg_name (i := 3) scCheckMachine.nd rfl (by first | exact Or.inl rfl | exact Or.inr rfl)) pgs_nil)))) (pss_cons (ps_if (pt_not (pt_val (pe_cal C_is_between hr (by omega) rfl (pa_cons (pv 2) (pa_cons pe_int (pa_cons (pv 1) pa_nil)))))) (pss_one ps_never) pss_nil) (pss_one (ps_if (pt_not (pt_val (pe_cal C_are_functions hr (by omega) rfl (pa_cons (pv 3) pa_nil)))) (pss_one ps_never) pss_nil))))), ?_⟩
  have hx : EvD K (tVar 0) [some v, some (.int 4), none, none] H m.enc := ed_var rfl hv
  refine qd_pass (et_or (et_not (et_B (ev_isi hx (kT _)))) fun _ => et_test (ev_op (ev_lenT hx) ev_c (rv_ne rfl))) rfl fun H1 e1 => ?_
  refine qd_un2 (hx.mono e1) fun a b H2 e2 ha hb => ?_
  refine qd_pass (et_not (et_B (sp_between (ed_var rfl ha) ev_c (ev_var rfl)))) ?_ fun H3 e3 => ?_
  · rw [btw_nat (by have := ok.c1; omega) (by have := ok.c4; omega)]
    rfl
  have hb3 := dmono e3 _ _ hb
  refine sd_pass (et_not (et_B (ev_sp (v := .bl true) (ead_cons (ed_var rfl hb3) ead_nil) fun H4 vs e4 hvs Q q => ?_))) rfl fun H4 e4 => k H4 (((e1.trans e2).trans e3).trans e4)
  cases hvs with
  | cons h0 ht => cases ht; exact ⟨_, m.fns, rfl, h0, ok.f1, ok.f3, ok.rd, q⟩
theorem ev_spD {σ : L2.St} {H : Hp} {ta : TA} {sp : Sp} {E : XK} {ds : List PyData} {dvs : List V} {v : V} (h : EvAD K ta σ H ds) (hs : ∀ H1 vs, Ex H H1 → DpAll K H1 vs ds → ∀ Q : VK, (∀ H2, Ex H1 H2 → Q v H2) → sp (vs ++ dvs) H1 Q E) : Ev (tCall sp dvs E ta) σ H v := fun H1 e Q q =>
  h H1 e _ fun vs H2 e2 hv => hs H2 vs (e.trans e2) hv Q fun H3 e3 => q H3 (e2.trans e3)
theorem ed_chkM {σ : L2.St} {H : Hp} {ta : TE} {E : XK} {m : Mc} (ok : m.Ok) (h : EvD K ta σ H m.enc) : EvD K (tCall (spChkM K) [.int 4] E (tCons ta tNil)) σ H .none :=
  ed_non (ev_spD (ead_cons h ead_nil) fun H1 vs e hvs Q q => by
    cases hvs with
    | cons h0 ht => cases ht; exact ⟨_, m, rfl, h0, ok, q⟩)
/-- valid sources -/
def spSources (K : PySem.W.Frag) : Sp := fun vs H Q _ => ∃ mv fv cv sv m l, vs = [mv, fv, cv, sv] ∧ Dp K H mv (Mc.enc m) ∧ Dp K H fv (fnD (Ln.fn l)) ∧ Dp K H cv (.int (l.cell : Int)) ∧ Dp K H sv (natsD l.src) ∧ m.Ok ∧ l.Ok m ∧ ∀ H', Ex H H' → Q (.bl true) H'
abbrev CSources (P : Program) (w : World) (K : PySem.W.Frag) (mg : Str → Option Value) (base : Heap) := Cal P w K mg base 3 "are_sources" ["machine", "function", "cell", "value"] (spSources K)
theorem ok_are_sources (B : Bi mg) (D : Dfn K mg "are_sources" sAreSources ["machine", "function", "cell", "value"]) (C_is_number_below : CBelow P w K mg base) : CSources P w K mg base := by
  refine D.ok scAreSources (fun vs H Q E h => ?_) (fun f cdv A outer s H vs Q E hr h => ?_)
  · obtain ⟨mv, fv, cv, sv, m, l, rfl, _⟩ := h
    rfl
  obtain ⟨mv, fv, cv, sv, m, l, rfl, hm, hf, hc, hs, mok, ok, k⟩ := h
  refine ⟨_, (pss_cons (ps_asg (pv 0) (pg_tup rfl (pgs_cons (pg_name (i := 4) scAreSources.nd rfl (by first | exact Or.inl rfl | exact Or.inr rfl)) (pgs_cons (pg_name (i := 5) scAreSources.nd rfl (by first | exact Or.inl rfl | exact Or.inr rfl)) pgs_nil)))) (pss_cons (ps_if (PW.pt (pw_or (pt_not (pt_val (pe_callB call_isi (by rfl) B.isinstance (by decide +kernel) (pa_cons (pv 3) (pa_cons (pe_bltn (v := .ty "tuple") (by rfl) B.tuple (by decide +kernel) rfl) pa_nil))))) (pw_or1 (pt_not (pt_val (pe_callB (cr_all rfl) (by rfl) B.all (by decide +kernel) (pa_cons (pe_lc (own := [("source", 6)]) (g := (gName 6)) (tt := tYes) rfl scAreSources.nd (pi_tup (pv 3)) (blkOk_by (N := NAreSources) (sc := defScope sAreSources) (by decide +kernel)) (fun _ _ _ _ _ => (pg_name (i := 6) scAreSources.nd rfl (by first | exact Or.inl rfl | exact Or.inr rfl))) (fun _ _ _ _ _ => pts_nil) (fun _ _ _ _ _ => (pe_cal C_is_number_below hr (by omega) rfl (pa_cons (pv 6) (pa_cons (pv 4) pa_nil))))) pa_nil))))))) (pss_one (ps_ret pe_bl)) pss_nil) (pss_cons (ps_if (pt_cmpR op_isN (pv 1) pe_non (by first | exact nomark _ | rfl)) (pss_one (ps_ret (pe_and (pe_cmpR op_eq (pe_callB call_lenq (by rfl) B.len PySem.boot_len (pa_cons (pv 3) pa_nil)) pe_int (by first | exact nomark _ | rfl)) (pe_one (pe_cmpR op_ne (pe_ix ix_tup (pv 3) pe_int (fun _ _ => rfl)) (pv 2) (by first | exact nomark _ | rfl)))))) pss_nil) (pss_one (ps_ret (pe_and (pe_cal C_is_number_below hr (by omega) rfl (pa_cons (pv 1) (pa_cons (pe_callB call_lenq (by rfl) B.len PySem.boot_len (pa_cons (pv 5) pa_nil)) pa_nil))) (pe_one (pe_cmpR op_eq (pe_callB call_lenq (by rfl) B.len PySem.boot_len (pa_cons (pv 3) pa_nil)) (pe_ix ix_tup (pv 5) (pv 1) (fun _ _ => rfl)) (by first | exact nomark _ | rfl))))))))), ?_⟩
  refine qd_un2 (ed_var rfl hm) fun a b H1 e1 ha hb => ?_
  have hs1 := dmono e1 _ _ hs
  have hx : EvD K (tVar 3) [some mv, some fv, some cv, some sv, some a, some b, none] H1 (natsD l.src) := ed_var rfl hs1
  have sl : l.src.length ≤ 2 := by
    cases e : l.fn with
    | none =>
      obtain ⟨s, es, _⟩ := ok.cp e
      simp [es]
    | some g => exact (mok.rd _ (List.mem_of_getElem? (ok.ap g e).2)).2
  refine qd_pass (et_or (et_not (et_B (ev_isi hx (kT _)))) fun _ => et_not (et_B (ev_all (bs := l.src.map fun _ => true) ?_))) ?_ fun H2 e2 => ?_
  · refine ed_is (ed_lcT (fun _ => .bool true) hx ?_ (fun _ _ => rfl) fun d x H2 hd e2 hxd => ?_) ?_
    · rw [List.length_map]; omega
    · obtain ⟨n, hn, rfl⟩ := List.mem_map.mp hd
      refine ed_bl (ev_is (sp_below (ed_var rfl hxd) (ev_int (ed_var (d := .int (m.cells : Int)) rfl (dmono e2 _ _ ha)))) ?_)
      rw [btw_nat (by omega) (by have := ok.src n hn; omega)]
    · rw [List.map_map, List.map_map]
      rfl
  · rw [all_true _ _ fun _ _ => rfl]
    rfl
  have hf2 := dmono (e1.trans e2) _ _ hf
  have hc2 := dmono (e1.trans e2) _ _ hc
  have hx2 := hx.mono e2
  cases efn : l.fn with
  | none =>
    obtain ⟨s, es, ne⟩ := ok.cp efn
    rw [efn] at hf2
    rw [es] at hx2
    refine q_if (et_test (ev_isN (ed_var rfl hf2))) (fun _ H3 e3 => ?_) (fun z => by simp [fnD, isNon] at z)
    refine s_ret (ev_is (ev_andV (ev_op (ev_lenT (hx2.mono e3)) ev_c (rv_eq rfl)) fun _ => ev_op (ev_int (ed_ix (hx2.mono e3) (ed_int ev_c) (atD (n := 0) rfl))) (ev_int (ed_var rfl (dmono e3 _ _ hc2))) (rv_ne rfl)) ?_) fun H4 e4 => k H4 (((e1.trans e2).trans e3).trans e4)
    have : ¬ V.int ((s : Nat) : Int) = V.int (l.cell : Int) := fun z => ne (by injection z with z; omega)
    simp [this]
  | some g =>
    obtain ⟨h1, h2⟩ := ok.ap g efn
    rw [efn] at hf2
    refine q_if (et_test (ev_isN (ed_var rfl hf2))) (fun z => by simp [fnD, isNon] at z) (fun _ H3 e3 => ?_)
    have hb3 := dmono (e2.trans e3) _ _ hb
    have hf3 := dmono e3 _ _ hf2
    refine s_ret (ev_is (ev_andV (sp_below (ed_var rfl hf3) (ev_lenT (ed_var rfl hb3))) fun _ => ev_op (ev_lenT (hx2.mono e3)) (ev_int (ed_ix (d := .int (l.src.length : Int)) (ed_var rfl hb3) (ed_var rfl hf3) (atD ?_))) (rv_eq rfl)) ?_) fun H4 e4 => k H4 (((e1.trans e2).trans e3).trans e4)
    · rw [List.getElem?_map, h2]
      rfl
    · have q : btw 0 (((m.fns.map fun (n : Nat) => PyData.int (n : Int)).length : Int) - 1) (fnD (some g)) = true := btw_nat (n := g) (by omega) (by rw [List.length_map]; omega)
      rw [q]
      simp
/-- a valid line -/
def spLine (K : PySem.W.Frag) : Sp := fun vs H Q _ => ∃ mv lv m l, vs = [mv, lv] ∧ Dp K H mv (Mc.enc m) ∧ Dp K H lv (Ln.enc l) ∧ m.Ok ∧ l.Ok m ∧ ∀ H', Ex H H' → Q (.bl true) H'
abbrev CLine (P : Program) (w : World) (K : PySem.W.Frag) (mg : Str → Option Value) (base : Heap) := Cal P w K mg base 4 "is_line" ["machine", "value"] (spLine K)
theorem ok_is_line (B : Bi mg) (D : Dfn K mg "is_line" sIsLine ["machine", "value"]) (C_is_number_below : CBelow P w K mg base) (C_are_sources : CSources P w K mg base) : CLine P w K mg base := by
  refine D.ok scIsLine (fun vs H Q E h => ?_) (fun f cdv A outer s H vs Q E hr h => ?_)
  · obtain ⟨mv, lv, m, l, rfl, _⟩ := h
    rfl
  obtain ⟨mv, lv, m, l, rfl, hm, hl, mok, ok, k⟩ := h
  refine ⟨_, (pss_cons (ps_if (PW.pt (pw_or (pt_not (pt_val (pe_callB call_isi (by rfl) B.isinstance (by decide +kernel) (pa_cons (pv 1) (pa_cons (pe_bltn (v := .ty "tuple") (by rfl) B.tuple (by decide +kernel) rfl) pa_nil))))) (pw_or1 (pt_cmpR op_ne (pe_callB call_lenq (by rfl) B.len PySem.boot_len (pa_cons (pv 1) pa_nil)) pe_int (by first | exact nomark _ | rfl))))) (pss_one (ps_ret pe_bl)) pss_nil) (pss_cons (ps_asg (pv 1) (pg_tup rfl (pgs_cons (pg_name (i := 2) scIsLine.nd rfl (by first | exact Or.inl rfl | exact Or.inr rfl)) (pgs_cons (pg_name (i := 3) scIsLine.nd rfl (by first | exact Or.inl rfl | exact Or.inr rfl)) (pgs_cons (pg_name (i := 4) scIsLine.nd rfl (by first | exact Or.inl rfl | exact Or.inr rfl)) pgs_nil))))) (pss_one (ps_ret (pe_and (pe_cal C_is_number_below hr (by omega) rfl (pa_cons (pv 2) (pa_cons (pe_ix ix_tup (pv 0) pe_int (fun _ _ => rfl)) pa_nil))) (pe_one (pe_cal C_are_sources hr (by omega) rfl (pa_cons (pv 0) (pa_cons (pv 3) (pa_cons (pv 2) (pa_cons (pv 4) pa_nil))))))))))), ?_⟩
  have hx : EvD K (tVar 1) [some mv, some lv, none, none, none] H l.enc := ed_var rfl hl
  refine qd_pass (et_or (et_not (et_B (ev_isi hx (kT _)))) fun _ => et_test (ev_op (ev_lenT hx) ev_c (rv_ne rfl))) rfl fun H1 e1 => ?_
  refine qd_un3 (hx.mono e1) fun a b c H2 e2 ha hb hc => ?_
  have hm2 := dmono (e1.trans e2) _ _ hm
  refine s_ret (ev_is (ev_andV (sp_below (ed_var rfl ha) (ev_int (ed_ix (ed_var rfl hm2) (ed_int ev_c) (atD (n := 0) rfl)))) fun _ => ev_sp (v := .bl true) (ead_cons (ed_var rfl hm2) (ead_cons (ed_var rfl hb) (ead_cons (ed_var rfl ha) (ead_cons (ed_var rfl hc) ead_nil)))) fun H4 vs e4 hvs Q q => ?_) ?_) fun H4 e4 => k H4 ((e1.trans e2).trans e4)
  · cases hvs with
    | cons h0 t0 => cases t0 with
      | cons h1 t1 => cases t1 with
        | cons h2 t2 => cases t2 with
          | cons h3 t3 => cases t3; exact ⟨_, _, _, _, m, l, rfl, h0, h1, h2, h3, mok, ok, q⟩
  · rw [btw_nat (by omega) (by have := ok.cell; omega)]
    rfl
/-- a valid program -/
def spChkP (K : PySem.W.Frag) : Sp := fun vs H Q _ => ∃ mv pv m p, vs = [mv, pv] ∧ Dp K H mv (Mc.enc m) ∧ Dp K H pv (progD p) ∧ m.Ok ∧ (∀ l ∈ p, Ln.Ok m l) ∧ p.length ≤ 60 ∧ ∀ H', Ex H H' → Q .non H'
abbrev CChkP (P : Program) (w : World) (K : PySem.W.Frag) (mg : Str → Option Value) (base : Heap) := Cal P w K mg base 5 "check_program" ["machine", "program"] (spChkP K)
theorem ok_check_program (B : Bi mg) (G : Gs mg) (D : Dfn K mg "check_program" sCheckProgram ["machine", "program"]) (C_is_line : CLine P w K mg base) : CChkP P w K mg base := by
  refine D.ok scCheckProgram (fun vs H Q E h => ?_) (fun f cdv A outer s H vs Q E hr h => ?_)
  · obtain ⟨mv, pv, m, p, rfl, _⟩ := h
    rfl
  obtain ⟨mv, pw, m, p, rfl, hm, hp, mok, ok, hlen, k⟩ := h
  refine ⟨_, (pss_cons (ps_if (PW.pt (pw_or (pt_not (pt_val (pe_callB call_isi (by rfl) B.isinstance (by decide +kernel) (pa_cons (pv 1) (pa_cons (pe_bltn (v := .ty "tuple") (by rfl) B.tuple (by decide +kernel) rfl) pa_nil))))) (pw_or1 (pt_cmpR op_gt (pe_callB call_lenq (by rfl) B.len PySem.boot_len (pa_cons (pv 1) pa_nil)) (pe_gi G.MOST_LINES) (by first | exact nomark _ | rfl))))) (pss_one ps_never) pss_nil) (pss_one (ps_for PassesOwn.never rfl (pi_enumT rfl B.enumerate (pa_cons (pv 1) pa_nil)) (pg_tup rfl (pgs_cons (pg_name (i := 2) scCheckProgram.nd rfl (by first | exact Or.inl rfl | exact Or.inr rfl)) (pgs_cons (pg_name (i := 3) scCheckProgram.nd rfl (by first | exact Or.inl rfl | exact Or.inr rfl)) pgs_nil))) (pss_one (ps_if (pt_not (pt_val (pe_cal C_is_line hr (by omega) rfl (pa_cons (pv 0) (pa_cons (pv 3) pa_nil))))) (pss_one ps_never) pss_nil))))), ?_⟩
  have hx : EvD K (tVar 1) [some mv, some pw, none, none] H (progD p) := ed_var rfl hp
  refine qd_pass (et_or (et_not (et_B (ev_isi hx (kT _)))) fun _ => et_test (ev_op (ev_lenT hx) ev_c rv_I0)) ?_ fun H1 e1 => ?_
  · rw [List.length_map]
    simp [progD, isT]
    omega
  refine sd_forE (hx.mono e1) fun H2 a xs e2 sq al => ⟨fun i σ' H' => Ex H H' ∧ Ex H2 H' ∧ ∃ x y, σ' = [some mv, some pw, x, y], ⟨e1.trans e2, Ex.refl _, _, _, rfl⟩, fun i σ' H' q => TK.of q.2.1, ?_, fun σ' H' q => k H' q.1⟩
  rintro i x d T σ' H' hxi hdi hxd ⟨q1, q2, y, z, rfl⟩ hT
  obtain ⟨l, hl, rfl⟩ := List.mem_map.mp (List.mem_of_getElem? hdi)
  have e3 := q2.trans (Ex.new (o := .tup [.int (i : Nat), x]) hT)
  have e4 := q1.trans (Ex.new (o := .tup [.int (i : Nat), x]) hT)
  refine sd_pass (et_not (et_B (ev_sp (v := .bl true) (ead_cons (ed_var rfl (dmono e4 _ _ hm)) (ead_cons (ed_var rfl (dmono e3 _ _ hxd)) ead_nil)) fun H4 vs e4 hvs Q q => ?_))) rfl fun H5 e5 => ⟨e4.trans e5, e3.trans e5, _, _, rfl⟩
  cases hvs with
  | cons h0 t0 => cases t0 with
    | cons h1 t1 => cases t1; exact ⟨_, _, m, l, rfl, h0, h1, mok, ok l hl, q⟩
theorem ed_chkP {σ : L2.St} {H : Hp} {ta tb : TE} {E : XK} {m : Mc} {p : List Ln} (mok : m.Ok) (ok : ∀ l ∈ p, Ln.Ok m l) (hl : p.length ≤ 60) (ha : EvD K ta σ H m.enc) (hb : EvD K tb σ H (progD p)) : EvD K (tCall (spChkP K) [] E (tCons ta (tCons tb tNil))) σ H .none :=
  ed_non (ev_sp (ead_cons ha (ead_cons hb ead_nil)) fun H1 vs e hvs Q q => by
    cases hvs with
    | cons h0 t0 => cases t0 with
      | cons h1 t1 => cases t1; exact ⟨_, _, m, p, rfl, h0, h1, mok, ok, hl, q⟩)
def spChkN (K : PySem.W.Frag) : Sp := fun vs H Q _ => ∃ n : Nat, vs = [.int (n : Int)] ∧ 1 ≤ n ∧ n ≤ 3 ∧ ∀ H', Ex H H' → Q .non H'
abbrev CChkN (P : Program) (w : World) (K : PySem.W.Frag) (mg : Str → Option Value) (base : Heap) := Cal P w K mg base 2 "check_many" ["many"] (spChkN K)
theorem ed_chkN {σ : L2.St} {H : Hp} {ta : TE} {E : XK} {n : Nat} (h1 : 1 ≤ n) (h3 : n ≤ 3) (h : EvD K ta σ H (.int (n : Int))) : EvD K (tCall (spChkN K) [] E (tCons ta tNil)) σ H .none :=
  ed_non (ev_sp (ead_cons h ead_nil) fun H1 vs e hvs Q q => by
    cases hvs with
    | cons h0 ht => cases ht; cases h0.intD; exact ⟨n, rfl, h1, h3, q⟩)
end
end Lb

set_option Elab.async false
set_option linter.all false
set_option maxRecDepth 100000
set_option maxHeartbeats 4000000
namespace Lb
open PySem L2 Evl PyProof.Rows
/-- losses of so many lines -/
structure LsOk (n many : Nat) (ls : List Nat) : Prop where
  lt : ∀ l ∈ ls, l < n
  asc : ∀ (i : Nat) (a b : Nat), ls[i]? = some a → ls[i + 1]? = some b → a < b
  far : ∀ (i : Nat) (a b : Nat), ls[i]? = some a → ls[i + many]? = some b → many < b - a
/-- what a compound term is made of -/
theorem Tm.Of.parts {m : Mc} (hm : m.Ok) {t : Tm} (h : Tm.Of m t) : (∃ n, t = .c n ∧ n < m.cells) ∨ ∃ (g : Nat) (as : List Tm), t.enc = .tuple (.int (g : Int) :: as.map Tm.enc) ∧ m.fns[g]? = some as.length ∧ as.length ≤ 2 ∧ ∀ a ∈ as, Tm.Of m a ∧ a.dep + 1 ≤ t.dep := by
  cases h with
  | c h => exact .inl ⟨_, rfl, h⟩
  | f1 h a =>
    refine .inr ⟨_, [_], rfl, h, by simp, fun x hx => ?_⟩
    rw [List.mem_singleton.mp hx]
    exact ⟨a, Nat.le_refl _⟩
  | f2 h a b =>
    refine .inr ⟨_, [_, _], rfl, h, by simp, fun x hx => ?_⟩
    rcases List.mem_cons.mp hx with e | hx
    · rw [e]
      exact ⟨a, by show _ ≤ max _ _ + 1; omega⟩
    · rw [List.mem_singleton.mp hx]
      exact ⟨b, by show _ ≤ max _ _ + 1; omega⟩
section
variable {P : Program} {w : World} {K : PySem.W.Frag} {mg : Str → Option Value} {base : Heap}
/-- all(..) of a comprehension each item of which is true -/
theorem ev_allT {σ : L2.St} {H : Hp} {te tl : TE} {ds : List PyData} {j : Nat} (hx : EvD K tl σ H (.tuple ds)) (hz : ds.length ≤ 40000) (h : ∀ d x H2, d ∈ ds → Ex H H2 → Dp K H2 x d → Ev te ((wipe σ [j]).set j (some x)) H2 (.bl true)) :
    Ev (tCB (rAll K) (tCons (tLc (iTup K tl) (gName j) tYes te [j]) tNil)) σ H (.bl true) := by
  refine ev_is (ev_all (bs := ds.map fun _ => true) (ed_is (ed_lcT (fun _ => .bool true) hx hz (fun _ _ => rfl) fun d x H2 hd e hx => ed_bl (h d x H2 hd e hx)) ?_)) (by rw [all_true _ _ fun _ _ => rfl])
  rw [List.map_map]
  rfl
theorem ev_allR {σ : L2.St} {H : Hp} {te ti : TE} {z : Int} {n j : Nat} (hx : EvD K ti σ H (.int z)) (hn : z.toNat = n) (hz0 : -40000 ≤ z) (hz : n ≤ 40000) (h : ∀ (i : Nat) H2, Ex H H2 → i < n → Ev te ((wipe σ [j]).set j (some (.int (i : Int)))) H2 (.bl true)) :
    Ev (tCB (rAll K) (tCons (tLc (iRng1 (tCons ti tNil)) (gName j) tYes te [j]) tNil)) σ H (.bl true) := by
  refine ev_is (ev_all (bs := (List.range n).map fun _ => true) (ed_is (ed_lcRz (fun _ => true) (fun _ => .bool true) hx hn hz0 hz (fun _ _ => rfl) fun i H2 e hi => ⟨et_yes, fun _ => ed_bl (h i H2 e hi)⟩) ?_)) (by rw [all_true _ _ fun _ _ => rfl])
  rw [givenD_all, List.map_map]
  rfl
def spLosses (K : PySem.W.Frag) : Sp := fun vs H Q _ => ∃ (pv mv lv : V) (pd : List PyData) (many : Nat) (ls : List Nat), vs = [pv, .int (many : Int), lv] ∧ Dp K H pv (.tuple pd) ∧ Dp K H lv (natsD ls) ∧ 1 ≤ many ∧ many ≤ 3 ∧ pd.length ≤ 60 ∧ ls.length ≤ 60 ∧ LsOk pd.length many ls ∧ ∀ H', Ex H H' → Q (.bl true) H'
abbrev CLosses (P : Program) (w : World) (K : PySem.W.Frag) (mg : Str → Option Value) (base : Heap) := Cal P w K mg base 3 "is_losses" ["program", "many", "value"] (spLosses K)
theorem nat_at {ls : List Nat} {i a : Nat} (h : ls[i]? = some a) : atI (ls.map fun (n : Nat) => PyData.int (n : Int)) (i : Int) = some (.int (a : Int)) := atD (by rw [List.getElem?_map, h]; rfl)
def spChkL (K : PySem.W.Frag) : Sp := fun vs H Q _ => ∃ (pv lv : V) (pd : List PyData) (many : Nat) (ls : List Nat), vs = [pv, .int (many : Int), lv] ∧ Dp K H pv (.tuple pd) ∧ Dp K H lv (natsD ls) ∧ 1 ≤ many ∧ many ≤ 3 ∧ pd.length ≤ 60 ∧ ls.length ≤ 60 ∧ LsOk pd.length many ls ∧ ∀ H', Ex H H' → Q .non H'
abbrev CChkL (P : Program) (w : World) (K : PySem.W.Frag) (mg : Str → Option Value) (base : Heap) := Cal P w K mg base 4 "check_losses" ["program", "many", "losses"] (spChkL K)
theorem ed_chkL {σ : L2.St} {H : Hp} {ta tb tc : TE} {E : XK} {pd : List PyData} {many : Nat} {ls : List Nat} (m1 : 1 ≤ many) (m3 : many ≤ 3) (hz : pd.length ≤ 60) (hzl : ls.length ≤ 60) (ok : LsOk pd.length many ls) (ha : EvD K ta σ H (.tuple pd)) (hb : EvD K tb σ H (.int (many : Int))) (hc : EvD K tc σ H (natsD ls)) :
    EvD K (tCall (spChkL K) [] E (tCons ta (tCons tb (tCons tc tNil)))) σ H .none :=
  ed_non (ev_sp (ead_cons ha (ead_cons hb (ead_cons hc ead_nil))) fun H1 vs e hvs Q q => by
    cases hvs with
    | cons h0 t0 => cases t0 with
      | cons h1 t1 => cases t1 with
        | cons h2 t2 => cases t2; cases h1.intD; exact ⟨_, _, pd, many, ls, rfl, h0, h2, m1, m3, hz, hzl, ok, q⟩)
/-- a valid term -/
def spTerm (K : PySem.W.Frag) (n : Nat) : Sp := fun vs H Q _ => ∃ (mv tv : V) (m : Mc) (t : Tm), vs = [mv, tv, .int (n : Int)] ∧ Dp K H mv m.enc ∧ Dp K H tv t.enc ∧ m.Ok ∧ Tm.Of m t ∧ t.dep ≤ n ∧ ∀ H', Ex H H' → Q (.bl true) H'
abbrev CTerm (P : Program) (w : World) (K : PySem.W.Frag) (mg : Str → Option Value) (base : Heap) (n : Nat) := Cal P w K mg base (n + 3) "is_term" ["machine", "value", "depth"] (spTerm K n)
theorem ok_is_term (B : Bi mg) (D : Dfn K mg "is_term" sIsTerm ["machine", "value", "depth"]) (C_is_number_below : CBelow P w K mg base) : ∀ n, CTerm P w K mg base n
  | 0 => D.none fun vs H Q E h => by
    obtain ⟨mv, tv, m, t, _, _, _, _, _, h, _⟩ := h
    have := t.dep_pos
    omega
  | n + 1 => by
    have C_is_term := ok_is_term B D C_is_number_below n
    refine D.ok scIsTerm (fun vs H Q E h => ?_) (fun f cdv A outer s H vs Q E hr h => ?_)
    · obtain ⟨mv, tv, m, t, rfl, _⟩ := h
      rfl
    obtain ⟨mv, tv, m, t, rfl, hm, ht, mok, ok, hd, k⟩ := h
    refine ⟨_, (pss_cons (ps_asg (pv 0) (pg_tup rfl (pgs_cons (pg_name (i := 3) scIsTerm.nd rfl (by first | exact Or.inl rfl | exact Or.inr rfl)) (pgs_cons (pg_name (i := 4) scIsTerm.nd rfl (by first | exact Or.inl rfl | exact Or.inr rfl)) pgs_nil)))) (pss_cons (ps_if (pt_cmpR op_eq (pv 2) pe_int (by first | exact nomark _ | rfl)) (pss_one (ps_ret pe_bl)) pss_nil) (pss_cons (ps_if (pt_not (pt_val (pe_callB call_isi (by rfl) B.isinstance (by decide +kernel) (pa_cons (pv 1) (pa_cons (pe_bltn (v := .ty "tuple") (by rfl) B.tuple (by decide +kernel) rfl) pa_nil))))) (pss_one (ps_ret (pe_cal C_is_number_below hr (by omega) rfl (pa_cons (pv 1) (pa_cons (pv 3) pa_nil))))) pss_nil) (pss_cons (ps_if (PW.pt (pw_or (pt_cmpR op_eq (pe_callB call_lenq (by rfl) B.len PySem.boot_len (pa_cons (pv 1) pa_nil)) pe_int (by first | exact nomark _ | rfl)) (pw_or1 (pt_not (pt_val (pe_cal C_is_number_below hr (by omega) rfl (pa_cons (pe_ix ix_tup (pv 1) pe_int (fun _ _ => rfl)) (pa_cons (pe_callB call_lenq (by rfl) B.len PySem.boot_len (pa_cons (pv 4) pa_nil)) pa_nil)))))))) (pss_one (ps_ret pe_bl)) pss_nil) (pss_cons (ps_set (i := 5) scIsTerm.nd rfl (by first | exact Or.inl rfl | exact Or.inr rfl) (pe_slice sl_tupA (pv 1) (po_some pe_int) po_none)) (pss_cons (ps_if (pt_cmpR op_ne (pe_callB call_lenq (by rfl) B.len PySem.boot_len (pa_cons (pv 5) pa_nil)) (pe_ix ix_tup (pv 4) (pe_ix ix_tup (pv 1) pe_int (fun _ _ => rfl)) (fun _ _ => rfl)) (by first | exact nomark _ | rfl)) (pss_one (ps_ret pe_bl)) pss_nil) (pss_one (ps_ret (pe_callB (cr_all rfl) (by rfl) B.all (by decide +kernel) (pa_cons (pe_lc (own := [("part", 6)]) (g := (gName 6)) (tt := tYes) rfl scIsTerm.nd (pi_tup (pv 5)) (blkOk_by (N := NIsTerm) (sc := defScope sIsTerm) (by decide +kernel)) (fun _ _ _ _ _ => (pg_name (i := 6) scIsTerm.nd rfl (by first | exact Or.inl rfl | exact Or.inr rfl))) (fun _ _ _ _ _ => pts_nil) (fun _ _ _ _ _ => (pe_cal C_is_term hr (by omega) rfl (pa_cons (pv 0) (pa_cons (pv 6) (pa_cons (pe_op op_sub (pv 2) pe_int) pa_nil)))))) pa_nil)))))))))), ?_⟩
    refine qd_un2 (ed_var rfl hm) fun a b H1 e1 ha hb => ?_
    have ht1 := dmono e1 _ _ ht
    have nz : ¬ V.int ((n + 1 : Nat) : Int) = V.int 0 := fun z => by injection z with z; omega
    refine qd_pass (et_test (ev_op (ev_var rfl) ev_c (rv_eq rfl))) (decide_eq_false nz) fun H2 e2 => ?_
    have ht2 := dmono e2 _ _ ht1
    have ha2 := dmono e2 _ _ ha
    have hb2 := dmono e2 _ _ hb
    rcases ok.parts mok with ⟨i, rfl, hi⟩ | ⟨g, as, et, hg, hl2, has⟩
    · refine q_if (et_not (et_B (ev_isi (ed_var rfl ht2) (kT _)))) (fun _ H3 e3 => ?_) (fun z => by simp [Tm.enc, isT] at z)
      refine s_ret (ev_is (sp_below (ed_var rfl (dmono e3 _ _ ht2)) (ev_int (ed_var rfl (dmono e3 _ _ ha2)))) ?_) fun H4 e4 => k H4 (((e1.trans e2).trans e3).trans e4)
      show V.bl (btw 0 ((m.cells : Int) - 1) (.int (i : Int))) = V.bl true
      rw [btw_nat (by omega) (by omega)]
    · rw [et] at ht2
      refine qd_pass (et_not (et_B (ev_isi (ed_var rfl ht2) (kT _)))) rfl fun H3 e3 => ?_
      have ht3 := dmono e3 _ _ ht2
      have hb3 := dmono e3 _ _ hb2
      have glt : g < m.fns.length := (List.getElem?_eq_some_iff.mp hg).1
      refine qd_pass (et_or (et_test (ev_op (ev_lenT (ed_var rfl ht3)) ev_c (rv_eq rfl))) fun _ => et_not (et_B (sp_below (d := .int (g : Int)) (ed_ix (ed_var rfl ht3) (ed_int ev_c) (atD (n := 0) rfl)) (ev_lenT (ed_var rfl hb3))))) ?_ fun H4 e4 => ?_
      · rw [btw_nat (by omega) (by rw [List.length_map]; omega)]
        have : ¬ V.int (((PyData.int (g : Int) :: as.map Tm.enc).length : Nat) : Int) = V.int 0 := fun z => by injection z with z; rw [List.length_cons] at z; omega
        simp only [this, decide_false]
        rfl
      have ht4 := dmono e4 _ _ ht3
      have hb4 := dmono e4 _ _ hb3
      refine qd_asg (d := encs as) (ed_is (ed_sl (ed_var rfl ht4) (eo_some ev_c) eo_none) ?_) fun pw H5 e5 hp => ?_
      · unfold cutD encs
        have z : HT.sIx (PyData.int (g : Int) :: as.map Tm.enc).length 0 (some (1 : Int)) = 1 := by
          have q := HT.sIx_nat (PyData.int (g : Int) :: as.map Tm.enc).length 0 1
          rw [List.length_cons] at q ⊢
          exact q.trans (by omega)
        rw [z, HT.sIx_none, List.drop_one, List.tail_cons, List.take_of_length_le (by simp)]
      have hb5 := dmono e5 _ _ hb4
      have ht5 := dmono e5 _ _ ht4
      refine qd_pass (et_test (ev_op (ev_lenT (ed_var rfl hp)) (ev_int (ed_ix (d := .int (as.length : Int)) (ed_var rfl hb5) (ed_ix (ed_var rfl ht5) (ed_int ev_c) (atD (n := 0) rfl)) (nat_at hg))) (rv_ne rfl))) ?_ fun H6 e6 => ?_
      · rw [List.length_map]
        simp
      have e06 := ((((e1.trans e2).trans e3).trans e4).trans e5).trans e6
      refine s_ret (ev_allT (ed_var rfl (dmono e6 _ _ hp)) (by rw [List.length_map]; omega) fun d x H7 hd7 e7 hx => ?_) fun H7 e7 => k H7 (e06.trans e7)
      obtain ⟨a, ha, rfl⟩ := List.mem_map.mp hd7
      obtain ⟨oa, da⟩ := has a ha
      refine ev_sp (ds := [m.enc, a.enc, .int (n : Int)]) (ead_cons (ed_var rfl (dmono (e06.trans e7) _ _ hm)) (ead_cons (ed_var rfl hx) (ead_cons (ed_int (ev_is (ev_op (ev_var rfl) ev_c rv_I0) ?_)) ead_nil))) fun H8 vs e8 hvs Q q => ?_
      · show V.int (((n + 1 : Nat) : Int) - 1) = V.int (n : Int)
        exact congrArg V.int (by omega)
      · cases hvs with
        | cons h0 t0 => cases t0 with
          | cons h1 t1 => cases t1 with
            | cons h2 t2 => cases t2; cases h2.intD; exact ⟨_, _, m, a, rfl, h0, h1, mok, oa, by omega, q⟩
end
end Lb

set_option Elab.async false
set_option linter.all false
set_option maxRecDepth 100000
set_option maxHeartbeats 4000000
namespace Lb
open PySem L2 Evl PyProof.Rows
section
variable {P : Program} {w : World} {K : PySem.W.Frag} {mg : Str → Option Value} {base : Heap}
theorem ok_check_term_ev {σ : L2.St} {H : Hp} : True := trivial
def spChkT (K : PySem.W.Frag) : Sp := fun vs H Q _ => ∃ (mv tv : V) (m : Mc) (t : Tm), vs = [mv, tv] ∧ Dp K H mv m.enc ∧ Dp K H tv t.enc ∧ m.Ok ∧ Tm.Of m t ∧ t.dep ≤ 8 ∧ ∀ H', Ex H H' → Q .non H'
abbrev CChkT (P : Program) (w : World) (K : PySem.W.Frag) (mg : Str → Option Value) (base : Heap) := Cal P w K mg base 12 "check_term" ["machine", "term"] (spChkT K)
theorem ed_chkT {σ : L2.St} {H : Hp} {ta tb : TE} {E : XK} {m : Mc} {t : Tm} (mok : m.Ok) (ok : Tm.Of m t) (hd : t.dep ≤ 8) (ha : EvD K ta σ H m.enc) (hb : EvD K tb σ H t.enc) : EvD K (tCall (spChkT K) [] E (tCons ta (tCons tb tNil))) σ H .none :=
  ed_non (ev_sp (ead_cons ha (ead_cons hb ead_nil)) fun H1 vs e hvs Q q => by
    cases hvs with
    | cons h0 t0 => cases t0 with
      | cons h1 t1 => cases t1; exact ⟨_, _, m, t, rfl, h0, h1, mok, ok, hd, q⟩)
def spLossy (K : PySem.W.Frag) : Sp := fun vs H Q _ => ∃ (mv pv : V) (m : Mc) (p : List Ln) (n : Nat), vs = [mv, pv, .int (n : Int)] ∧ Dp K H mv m.enc ∧ Dp K H pv (progD p) ∧ m.Ok ∧ (∀ l ∈ p, Ln.Ok m l) ∧ p.length ≤ 60 ∧ 1 ≤ n ∧ n ≤ 3 ∧ ∀ H', Ex H H' → Q .non H'
abbrev CLossy (P : Program) (w : World) (K : PySem.W.Frag) (mg : Str → Option Value) (base : Heap) := Cal P w K mg base 6 "check_lossy" ["machine", "program", "many"] (spLossy K)
theorem ed_lossy {σ : L2.St} {H : Hp} {ta tb tc : TE} {E : XK} {m : Mc} {p : List Ln} {n : Nat} (mok : m.Ok) (ok : ∀ l ∈ p, Ln.Ok m l) (hl : p.length ≤ 60) (n1 : 1 ≤ n) (n3 : n ≤ 3) (ha : EvD K ta σ H m.enc) (hb : EvD K tb σ H (progD p)) (hc : EvD K tc σ H (.int (n : Int))) :
    EvD K (tCall (spLossy K) [] E (tCons ta (tCons tb (tCons tc tNil)))) σ H .none :=
  ed_non (ev_sp (ead_cons ha (ead_cons hb (ead_cons hc ead_nil))) fun H1 vs e hvs Q q => by
    cases hvs with
    | cons h0 t0 => cases t0 with
      | cons h1 t1 => cases t1 with
        | cons h2 t2 => cases t2; cases h2.intD; exact ⟨_, _, m, p, n, rfl, h0, h1, mok, ok, hl, n1, n3, q⟩)
/-! ### is_gentle -/
def gentle (p : List Ln) : Bool := p.all fun l => !decide (l.cell ∈ l.src)
def spGentle (K : PySem.W.Frag) : Sp := fun vs H Q _ => ∃ (mv pv : V) (m : Mc) (p : List Ln), vs = [mv, pv] ∧ Dp K H mv m.enc ∧ Dp K H pv (progD p) ∧ m.Ok ∧ (∀ l ∈ p, Ln.Ok m l) ∧ p.length ≤ 60 ∧ ∀ H', Ex H H' → Q (.bl (gentle p)) H'
abbrev CGentle (P : Program) (w : World) (K : PySem.W.Frag) (mg : Str → Option Value) (base : Heap) := Cal P w K mg base 6 "is_gentle" ["machine", "program"] (spGentle K)
theorem mem_cast {n : Nat} {ns : List Nat} : decide ((n : Int) ∈ ns.map fun (k : Nat) => (k : Int)) = decide (n ∈ ns) := by
  rw [Bool.eq_iff_iff, decide_eq_true_iff, decide_eq_true_iff, List.mem_map]
  constructor
  · rintro ⟨k, hk, e⟩
    rw [show n = k by omega]
    exact hk
  · exact fun h => ⟨n, h, rfl⟩
theorem natsD_ints (ns : List Nat) : natsD ns = .tuple ((ns.map fun (k : Nat) => (k : Int)).map PyData.int) := by
  unfold natsD
  rw [List.map_map]
  rfl
def spGLine (K : PySem.W.Frag) : Sp := fun vs H Q _ => ∃ (lv : V) (l : Ln), vs = [lv] ∧ Dp K H lv l.enc ∧ ∀ H', Ex H H' → Q (.bl (!decide (l.cell ∈ l.src))) H'
abbrev CGLine (P : Program) (w : World) (K : PySem.W.Frag) (mg : Str → Option Value) (base : Heap) := Cal P w K mg base 1 "is_gentle_line" ["line"] (spGLine K)
theorem ev_gline {σ : L2.St} {H : Hp} {ta : TE} {E : XK} {l : Ln} (h : EvD K ta σ H l.enc) : Ev (tCall (spGLine K) [] E (tCons ta tNil)) σ H (.bl (!decide (l.cell ∈ l.src))) :=
  ev_sp (ead_cons h ead_nil) fun H1 vs e hvs Q q => by
    cases hvs with
    | cons h0 t0 => cases t0; exact ⟨_, l, rfl, h0, q⟩
/-! ### texts -/
def rJoin (K : PySem.W.Frag) : V → List V → Hp → VK → Prop := fun x xs H Q => ∃ a p, ∃ ys : List Str, x = .str a ∧ xs = [.ref p] ∧ (SqL K H p (ys.map V.str) ∨ SqT K H p (ys.map V.str)) ∧ (ys.map (·.length)).sum + ys.length * a.length ≤ 16777216 ∧ Q (.str (Txt.join a ys)) H
theorem mt_joinq {X : Cx} : MtR X "str.join" (rJoin X.K) := mt_join
theorem ev_join {σ : L2.St} {H : Hp} {to ta : TE} {a : Str} {ys : List Str} (h1 : Ev to σ H (.str a)) (h2 : EvD K ta σ H (.list (ys.map PyData.str))) (hz : (ys.map (·.length)).sum + ys.length * a.length ≤ 16777216) : Ev (tBM K "str" (rJoin K) to (tCons ta tNil)) σ H (.str (Txt.join a ys)) := fun H1 e Q q =>
  h1 H1 e _ fun H2 e2 => ⟨rfl, h2 H2 (e.trans e2) _ fun v H3 e3 hv => by
    obtain ⟨p, xs, rfl, sq, al⟩ := Dp.lstD hv
    rw [D_strs al] at sq
    exact ⟨a, p, ys, rfl, rfl, .inl sq, hz, q H3 (e2.trans e3)⟩⟩
theorem ev_strN {σ : L2.St} {H : Hp} {ta : TE} {n : Nat} (hn : n < 10) (h : EvD K ta σ H (.int (n : Int))) : Ev (tCB (fun xs H Q => ∃ i, xs = [V.int i] ∧ i.natAbs.log2 < 1920 ∧ Q (.str (Str.ofString (toString i))) H) (tCons ta tNil)) σ H (.str (numS n)) := fun H1 e Q q =>
  h H1 e _ fun v H2 e2 hv => by
    cases hv.intD
    exact ⟨(n : Int), rfl, by rw [Int.natAbs_natCast]; exact Nat.lt_of_le_of_lt (Nat.log2_le_self n) (by omega), q H2 e2⟩
theorem ev_addS {σ : L2.St} {H : Hp} {ta tb : TE} {a b : Str} (ha : Ev ta σ H (.str a)) (hb : Ev tb σ H (.str b)) (hz : a.length + b.length ≤ 100000) : Ev (tOp (fun x y H Q => ∃ i j, x = V.str i ∧ y = V.str j ∧ i.length + j.length ≤ sizeLine ∧ Q (.str (i ++ j)) H) ta tb) σ H (.str (a ++ b)) := fun H1 e Q q =>
  ha H1 e _ fun H2 e2 => hb H2 (e.trans e2) _ fun H3 e3 => ⟨a, b, rfl, rfl, sz_of hz, q H3 (e2.trans e3)⟩
/-- what a compound term's text is made of -/
theorem Tm.Of.parts2 {m : Mc} (hm : m.Ok) {t : Tm} (h : Tm.Of m t) : (∃ n, t = .c n ∧ n < m.cells) ∨ ∃ (g : Nat) (as : List Tm), t.enc = .tuple (.int (g : Int) :: as.map Tm.enc) ∧ t.txt = "f" ++ numS g ++ "(" ++ Txt.join "," (as.map Tm.txt) ++ ")" ∧ (∃ d ∈ as.map Tm.dep, t.dep = d + 1 ∧ ∀ y ∈ as.map Tm.dep, y ≤ d) ∧ g < m.fns.length ∧ as.length ≤ 2 ∧ ∀ a ∈ as, Tm.Of m a ∧ a.dep + 1 ≤ t.dep := by
  cases h with
  | c h => exact .inl ⟨_, rfl, h⟩
  | @f1 g a h oa =>
    refine .inr ⟨g, [a], rfl, rfl, ⟨a.dep, by simp, rfl, by simp⟩, (List.getElem?_eq_some_iff.mp h).1, by simp, fun x hx => ?_⟩
    rw [List.mem_singleton.mp hx]
    exact ⟨oa, Nat.le_refl _⟩
  | @f2 g a b h oa ob =>
    refine .inr ⟨g, [a, b], rfl, rfl, ⟨max a.dep b.dep, ?_, rfl, ?_⟩, (List.getElem?_eq_some_iff.mp h).1, by simp, fun x hx => ?_⟩
    · rcases Nat.le_total a.dep b.dep with q | q
      · rw [Nat.max_eq_right q]; simp
      · rw [Nat.max_eq_left q]; simp
    · intro y hy
      simp only [List.map_cons, List.map_nil, List.mem_cons, List.not_mem_nil, or_false] at hy
      omega
    · rcases List.mem_cons.mp hx with e | hx
      · rw [e]
        exact ⟨oa, by show _ ≤ max _ _ + 1; omega⟩
      · rw [List.mem_singleton.mp hx]
        exact ⟨ob, by show _ ≤ max _ _ + 1; omega⟩
theorem sl1 {x : PyData} {ds : List PyData} : cutD (x :: ds) (some (1 : Int)) none = ds := by
  unfold cutD
  have z : HT.sIx (x :: ds).length 0 (some (1 : Int)) = 1 := by
    have q := HT.sIx_nat (x :: ds).length 0 1
    rw [List.length_cons] at q ⊢
    exact q.trans (by omega)
  rw [z, HT.sIx_none, List.drop_one, List.tail_cons, List.take_of_length_le (by simp)]
/-- the sum of a few texts' lengths -/
theorem few_len {as : List Tm} {B : Nat} (h2 : as.length ≤ 2) (h : ∀ a ∈ as, a.txt.length ≤ B) (s : Str) (hs : s.length = 1) : (((as.map Tm.txt).map (·.length)).sum + (as.map Tm.txt).length * s.length ≤ 2 * B + 2) ∧ (Txt.join s (as.map Tm.txt)).length ≤ 2 * B + 2 := by
  match as, h2, h with
  | [], _, _ => exact ⟨by simp, by simp [show Txt.join s [] = Str.empty from rfl]; exact Nat.zero_le _⟩
  | [a], _, h =>
    have := h a (by simp)
    refine ⟨by simp [hs]; omega, ?_⟩
    rw [List.map_cons, List.map_nil, join1]
    omega
  | [a, b], _, h =>
    have h1 := h a (by simp)
    have h2 := h b (by simp)
    refine ⟨by simp [hs]; omega, ?_⟩
    rw [List.map_cons, List.map_cons, List.map_nil, join2, len_app, len_app, hs]
    omega
def spText (K : PySem.W.Frag) (n : Nat) : Sp := fun vs H Q _ => ∃ (tv : V) (m : Mc) (t : Tm), vs = [tv] ∧ Dp K H tv t.enc ∧ m.Ok ∧ Tm.Of m t ∧ t.dep ≤ n ∧ n ≤ 8 ∧ ∀ H', Ex H H' → Q (.str t.txt) H'
theorem ev_text {σ : L2.St} {H : Hp} {ta : TE} {E : XK} {m : Mc} {t : Tm} {n : Nat} (mok : m.Ok) (ok : Tm.Of m t) (hd : t.dep ≤ n) (hn : n ≤ 8) (ha : EvD K ta σ H t.enc) : Ev (tCall (spText K n) [] E (tCons ta tNil)) σ H (.str t.txt) :=
  ev_sp (ead_cons ha ead_nil) fun H1 vs e hvs Q q => by
    cases hvs with
    | cons h0 t0 => cases t0; exact ⟨_, m, t, rfl, h0, mok, ok, hd, hn, q⟩
abbrev CLText (P : Program) (w : World) (K : PySem.W.Frag) (mg : Str → Option Value) (base : Heap) (n : Nat) := Cal P w K mg base (n + 1) "_law_text" ["term"] (spText K n)
theorem ok_law_text (B : Bi mg) (D : Dfn K mg "_law_text" sLText ["term"]) : ∀ n, CLText P w K mg base n
  | 0 => D.none fun vs H Q E h => by
    obtain ⟨tv, m, t, _, _, _, _, h, _⟩ := h
    have := t.dep_pos
    omega
  | n + 1 => by
    have C__law_text := ok_law_text B D n
    refine D.ok scLText (fun vs H Q E h => ?_) (fun f cdv A outer s H vs Q E hr h => ?_)
    · obtain ⟨tv, m, t, rfl, _⟩ := h
      rfl
    obtain ⟨tv, m, t, rfl, ht, mok, ok, hd, hn, k⟩ := h
    refine ⟨_, (pss_one (ps_ret (pe_ifExp (pt_not (pt_val (pe_callB call_isi (by rfl) B.isinstance (by decide +kernel) (pa_cons (pv 0) (pa_cons (pe_bltn (v := .ty "tuple") (by rfl) B.tuple (by decide +kernel) rfl) pa_nil))))) (pe_op op_add_str pe_str (pe_callTy call_str_int (by rfl) B.str (by decide +kernel) (pa_cons (pv 0) pa_nil))) (pe_op op_add_str (pe_op op_add_str (pe_op op_add_str (pe_op op_add_str pe_str (pe_callTy call_str_int (by rfl) B.str (by decide +kernel) (pa_cons (pe_ix ix_tup (pv 0) pe_int (fun _ _ => rfl)) pa_nil))) pe_str) (pe_bm PySem.F.plainAttrs_str PySem.F.slot_str_join PySem.F.type_str_join mt_joinq pe_str (pa_cons (pe_lc (own := [("part", 1)]) (g := (gName 1)) (tt := tYes) rfl scLText.nd (pi_tup (pe_slice sl_tupA (pv 0) (po_some pe_int) po_none)) (blkOk_by (N := NLText) (sc := defScope sLText) (by decide +kernel)) (fun _ _ _ _ _ => (pg_name (i := 1) scLText.nd rfl (by first | exact Or.inl rfl | exact Or.inr rfl))) (fun _ _ _ _ _ => pts_nil) (fun _ _ _ _ _ => (pe_cal C__law_text hr (by omega) rfl (pa_cons (pv 1) pa_nil)))) pa_nil))) pe_str)))), ?_⟩
    have cells4 := mok.c4
    have fns3 := mok.f3
    rcases ok.parts2 mok with ⟨i, rfl, hi⟩ | ⟨g, as, et, ett, _, hg, hl2, has⟩
    · refine sd_ret (K := K) (d := .str (Tm.c i).txt) (ed_if (b := true) (et_not (et_B (ev_isi (ed_var rfl ht) (kT _)))) (fun _ => ed_str (ev_addS ev_c (ev_strN (n := i) (by omega) (ed_var rfl ht)) (by rw [numS_len (by omega)]; decide))) fun z => nomatch z) fun v H4 e4 hv => ?_
      cases hv.strD
      exact k H4 e4
    · rw [et] at ht
      have sm : ∀ a ∈ as, a.txt.length ≤ 2048 := fun a ha => Tm.txt_le ((has a ha).1.small mok) (n := 8) (by have := (has a ha).2; omega) (Nat.le_refl _)
      have few := few_len hl2 sm "," rfl
      have z : ("f" ++ numS g : Str).length = 2 := by rw [len_app, numS_len (by omega)]; rfl
      have e0 : ("f" ++ numS g ++ "(" : Str).length = 3 := by rw [len_app, z]; rfl
      refine sd_ret (K := K) (d := .str t.txt) (ed_if (b := false) (et_not (a := true) (et_B (ev_isi (ed_var rfl ht) (kT _)))) (fun z => nomatch z) fun _ => ed_str (ev_is (ev_addS (ev_addS (ev_addS (ev_addS ev_c (ev_strN (n := g) (by omega) (ed_ix (ed_var rfl ht) (ed_int ev_c) (atD (n := 0) rfl))) (by rw [numS_len (by omega)]; decide)) ev_c (by rw [z]; decide)) (ev_join (ys := as.map Tm.txt) ev_c (ed_is (ed_lcM Tm.enc (fun a => .str a.txt) (ed_is (ed_sl (ed_var rfl ht) (eo_some ev_c) eo_none) (by rw [sl1])) (by omega) (fun _ _ => rfl) fun a x H4 ha e4 hx => ?_) ?_) (by have := few.1; omega)) ?_) ev_c ?_) ?_)) fun v H4 e4 hv => ?_
      · exact ed_str (ev_text mok (has a ha).1 (by have := (has a ha).2; omega) (by omega) (ed_var rfl hx))
      · rw [List.map_map]
        rfl
      · rw [e0]
        have := few.2
        omega
      · rw [len_app, e0]
        have := few.2
        show 3 + _ + 1 ≤ 100000
        omega
      · rw [ett]
      · cases hv.strD
        exact k H4 e4
/-- the program's own text of a term -/
theorem tJ_c {σ : L2.St} {H : Hp} {ts : List TE} {acc s : Str} {Q : Str → Hp → Prop} (hz : (acc ++ s).length ≤ 100000) (h : tJs ts (acc ++ s) σ H Q) : tJs (tC (.str s) :: ts) acc σ H Q := ⟨s, rfl, sz_of hz, h⟩
theorem tJ_e {σ : L2.St} {H : Hp} {te : TE} {ts : List TE} {acc s : Str} {Q : Str → Hp → Prop} (he : Ev te σ H (.str s)) (hz : (acc ++ s).length ≤ 100000) (h : ∀ H1, Ex H H1 → tJs ts (acc ++ s) σ H1 Q) : tJs (te :: ts) acc σ H Q := he H (Ex.refl _) _ fun H1 e => ⟨s, rfl, sz_of hz, h H1 e⟩
theorem ev_fmtN {σ : L2.St} {H : Hp} {te : TE} {n : Nat} (hn : n < 10) (h : EvD K te σ H (.int (n : Int))) : Ev (tFmt te) σ H (.str (numS n)) := fun H1 e Q q => h H1 e _ fun v H2 e2 hv => by
  cases hv.intD
  exact .inr ⟨(n : Int), rfl, by rw [Int.natAbs_natCast]; exact Nat.lt_of_le_of_lt (Nat.log2_le_self n) (by omega), q H2 e2⟩
theorem ev_fmtS {σ : L2.St} {H : Hp} {te : TE} {s : Str} (hz : s.length ≤ 100000) (h : Ev te σ H (.str s)) : Ev (tFmt te) σ H (.str s) := fun H1 e Q q => h H1 e _ fun H2 e2 => .inl ⟨s, rfl, sz_of hz, q H2 e2⟩
abbrev CText (P : Program) (w : World) (K : PySem.W.Frag) (mg : Str → Option Value) (base : Heap) (n : Nat) := Cal P w K mg base (n + 1) "text_of" ["term"] (spText K n)
theorem ok_text_of (B : Bi mg) (D : Dfn K mg "text_of" sTextOf ["term"]) : ∀ n, CText P w K mg base n
  | 0 => D.none fun vs H Q E h => by
    obtain ⟨tv, m, t, _, _, _, _, h, _⟩ := h
    have := t.dep_pos
    omega
  | n + 1 => by
    have C_text_of := ok_text_of B D n
    refine D.ok scTextOf (fun vs H Q E h => ?_) (fun f cdv A outer s H vs Q E hr h => ?_)
    · obtain ⟨tv, m, t, rfl, _⟩ := h
      rfl
    obtain ⟨tv, m, t, rfl, ht, mok, ok, hd, hn, k⟩ := h
    refine ⟨_, (pss_cons (ps_if (pt_val (pe_callB call_isi (by rfl) B.isinstance (by decide +kernel) (pa_cons (pv 0) (pa_cons (pe_bltn (v := .ty "int") (by rfl) B.int (by decide +kernel) rfl) pa_nil)))) (pss_one (ps_ret (pe_joined (PJ.cons pe_str (PJ.cons (pe_fmt (pv 0)) PJ.nil))))) pss_nil) (pss_cons (ps_set (i := 1) scTextOf.nd rfl (by first | exact Or.inl rfl | exact Or.inr rfl) (pe_bm PySem.F.plainAttrs_str PySem.F.slot_str_join PySem.F.type_str_join mt_joinq pe_str (pa_cons (pe_lc (own := [("part", 2)]) (g := (gName 2)) (tt := tYes) rfl scTextOf.nd (pi_tup (pe_slice sl_tupA (pv 0) (po_some pe_int) po_none)) (blkOk_by (N := NTextOf) (sc := defScope sTextOf) (by decide +kernel)) (fun _ _ _ _ _ => (pg_name (i := 2) scTextOf.nd rfl (by first | exact Or.inl rfl | exact Or.inr rfl))) (fun _ _ _ _ _ => pts_nil) (fun _ _ _ _ _ => (pe_cal C_text_of hr (by omega) rfl (pa_cons (pv 2) pa_nil)))) pa_nil))) (pss_one (ps_ret (pe_joined (PJ.cons pe_str (PJ.cons (pe_fmt (pe_ix ix_tup (pv 0) pe_int (fun _ _ => rfl))) (PJ.cons pe_str (PJ.cons (pe_fmt (pv 1)) (PJ.cons pe_str PJ.nil)))))))))), ?_⟩
    have cells4 := mok.c4
    have fns3 := mok.f3
    rcases ok.parts2 mok with ⟨i, rfl, hi⟩ | ⟨g, as, et, ett, _, hg, hl2, has⟩
    · refine q_if (et_B (ev_isi (ed_var rfl ht) (kI _))) (fun _ H3 e3 => ?_) (fun z => by simp [Tm.enc, isI] at z)
      refine tJ_c (by rw [empty_app]; decide) ?_
      refine tJ_e (s := numS i) (ev_fmtN (by omega) (ed_var rfl (dmono e3 _ _ ht))) (by rw [empty_app, len_app, numS_len (by omega)]; decide) fun H4 e4 => ?_
      show Q (.str (Str.empty ++ "c" ++ numS i)) H4
      rw [empty_app]
      exact k H4 (e3.trans e4)
    · rw [et] at ht
      refine q_when (et_B (ev_isi (ed_var rfl ht) (kI _))) (fun z => by simp [isI] at z) (fun _ H3 e3 => ?_)
      have ht3 := dmono e3 _ _ ht
      have sm : ∀ a ∈ as, a.txt.length ≤ 2048 := fun a ha => Tm.txt_le ((has a ha).1.small mok) (n := 8) (by have := (has a ha).2; omega) (Nat.le_refl _)
      have few := few_len hl2 sm "," rfl
      have z : ("f" ++ numS g : Str).length = 2 := by rw [len_app, numS_len (by omega)]; rfl
      have e0 : ("f" ++ numS g ++ "(" : Str).length = 3 := by rw [len_app, z]; rfl
      refine q_asg (ev_join (ys := as.map Tm.txt) ev_c (ed_is (ed_lcM Tm.enc (fun a => .str a.txt) (ed_is (ed_sl (ed_var rfl ht3) (eo_some ev_c) eo_none) (by rw [sl1])) (by omega) (fun _ _ => rfl) fun a x H4 ha e4 hx => ?_) ?_) (by have := few.1; omega)) fun H4 e4 => ?_
      · exact ed_str (ev_text mok (has a ha).1 (by have := (has a ha).2; omega) (by omega) (ed_var rfl hx))
      · rw [List.map_map]
        rfl
      have ht4 := dmono e4 _ _ ht3
      refine tJ_c (by rw [empty_app]; decide) ?_
      rw [empty_app]
      refine tJ_e (s := numS g) (ev_fmtN (by omega) (ed_ix (ed_var rfl ht4) (ed_int ev_c) (atD (n := 0) rfl))) (by rw [z]; decide) fun H5 e5 => ?_
      refine tJ_c (by rw [e0]; decide) ?_
      refine tJ_e (s := Txt.join "," (as.map Tm.txt)) (ev_fmtS (by have := few.2; omega) (ev_var rfl)) (by rw [len_app, e0]; have := few.2; omega) fun H6 e6 => ?_
      refine tJ_c (by rw [len_app, len_app, e0]; have := few.2; show 3 + _ + 1 ≤ 100000; omega) ?_
      show Q (.str _) H6
      rw [← ett]
      exact k H6 (((e3.trans e4).trans e5).trans e6)
/-! ### how deep -/
def spDeep (K : PySem.W.Frag) (n : Nat) : Sp := fun vs H Q _ => ∃ (tv : V) (m : Mc) (t : Tm), vs = [tv] ∧ Dp K H tv t.enc ∧ m.Ok ∧ Tm.Of m t ∧ t.dep ≤ n ∧ ∀ H', Ex H H' → Q (.int (t.dep : Int)) H'
theorem ev_deep {σ : L2.St} {H : Hp} {ta : TE} {E : XK} {m : Mc} {t : Tm} {n : Nat} (mok : m.Ok) (ok : Tm.Of m t) (hd : t.dep ≤ n) (ha : EvD K ta σ H t.enc) : Ev (tCall (spDeep K n) [] E (tCons ta tNil)) σ H (.int (t.dep : Int)) :=
  ev_sp (ead_cons ha ead_nil) fun H1 vs e hvs Q q => by
    cases hvs with
    | cons h0 t0 => cases t0; exact ⟨_, m, t, rfl, h0, mok, ok, hd, q⟩
abbrev CDeep (P : Program) (w : World) (K : PySem.W.Frag) (mg : Str → Option Value) (base : Heap) (n : Nat) := Cal P w K mg base (n + 1) "_law_deep" ["term"] (spDeep K n)
/-! ### a line done -/
def spDid (K : PySem.W.Frag) : Sp := fun vs H Q _ => ∃ (hv lv : V) (m : Mc) (held : List Tm) (l : Ln), vs = [hv, lv] ∧ Dp K H hv (encs held) ∧ Dp K H lv l.enc ∧ m.Ok ∧ Held m held ∧ l.Ok m ∧ ∀ v H', Ex H H' → Dp K H' v (encs (did held l)) → Q v H'
theorem ed_did {σ : L2.St} {H : Hp} {ta tb : TE} {E : XK} {m : Mc} {held : List Tm} {l : Ln} (mok : m.Ok) (hh : Held m held) (ok : l.Ok m) (ha : EvD K ta σ H (encs held)) (hb : EvD K tb σ H l.enc) : EvD K (tCall (spDid K) [] E (tCons ta (tCons tb tNil))) σ H (encs (did held l)) :=
  ed_call (ead_cons ha (ead_cons hb ead_nil)) fun H1 vs hvs Q E q => by
    cases hvs with
    | cons h0 t0 => cases t0 with
      | cons h1 t1 => cases t1; exact ⟨_, _, m, held, l, rfl, h0, h1, mok, hh, ok, q⟩
abbrev CDid (P : Program) (w : World) (K : PySem.W.Frag) (mg : Str → Option Value) (base : Heap) := Cal P w K mg base 1 "_law_did" ["held", "line"] (spDid K)
theorem held_at {m : Mc} {held : List Tm} (h : Held m held) {s : Nat} (hs : s < m.cells) : atI (held.map Tm.enc) (s : Int) = some (at0 held s).enc := atD (by rw [List.getElem?_map, (h.at hs).1]; rfl)
theorem sl_to {ds : List PyData} {c : Nat} (h : c ≤ ds.length) : cutD ds none (some (c : Int)) = ds.take c := by
  unfold cutD
  rw [HT.sIx_none, HT.sIx_nat, List.drop_zero, Nat.sub_zero, Nat.min_eq_left h]
theorem sl_from {ds : List PyData} {c : Nat} (h : c ≤ ds.length) : cutD ds (some (c : Int)) none = ds.drop c := by
  unfold cutD
  rw [HT.sIx_none, HT.sIx_nat, Nat.min_eq_left h, List.take_of_length_le (by rw [List.length_drop]; omega)]
theorem encs_set {held : List Tm} {c : Nat} {t : Tm} (h : c < held.length) : encs (held.set c t) = .tuple (((held.map Tm.enc).take c ++ [t.enc]) ++ (held.map Tm.enc).drop (c + 1)) := by
  unfold encs
  rw [List.map_set, List.set_eq_take_append_cons_drop, if_pos (by rw [List.length_map]; exact h), List.append_assoc]
  rfl
theorem mk_enc {g : Nat} {as : List Tm} (h : 1 ≤ as.length ∧ as.length ≤ 2) : (Tm.mk g as).enc = .tuple (.int (g : Int) :: as.map Tm.enc) := by
  match as, h with
  | [a], _ => rfl
  | [a, b], _ => rfl
end
end Lb

set_option Elab.async false
set_option linter.all false
set_option maxRecDepth 100000
set_option maxHeartbeats 4000000
namespace Lb
open PySem L2 Evl PyProof.Rows
section
variable {K : PySem.W.Frag} {H H' : Hp} {r : Addr}
theorem ExB.sql {a : Addr} {xs : List V} (e : ExB r H H') (ne : a ≠ r) (h : SqL K H a xs) : SqL K H' a xs := by
  rcases h with (h | ⟨o, h⟩) | h
  · exact .inl (.inl (e _ _ h ne))
  · exact .inl (.inr ⟨o, e _ _ h ne⟩)
  · exact .inr h
theorem ExB.sqlO {a : Addr} {xs : List V} (e : ExB r H H') (ne : a ≠ r ∨ ∀ G : Hp, SqL K G a xs) (h : SqL K H a xs) : SqL K H' a xs := ne.elim (fun n => e.sql n h) fun f => f H'
/-- the law's row: the script, three numbers -/
structure RowIs (K : PySem.W.Frag) (H : Hp) (r sa : Addr) (ns : List Int) (i x y : Int) : Prop where
  at_ : H r = some (.lst [.ref sa, .int i, .int x, .int y])
  sc : SqL K H sa (ns.map V.int)
  ne : sa ≠ r ∨ ∀ G : Hp, SqL K G sa (ns.map V.int)
  i0 : 0 ≤ i
def RowOk (K : PySem.W.Frag) (H : Hp) (r sa : Addr) (ns : List Int) : Prop := ∃ i x y, RowIs K H r sa ns i x y
theorem RowIs.mono {sa : Addr} {ns : List Int} {i x y : Int} (h : RowIs K H r sa ns i x y) (e : Ex H H') : RowIs K H' r sa ns i x y := ⟨e _ _ h.at_, ex_l e h.sc, h.ne, h.i0⟩
theorem RowOk.mono {sa : Addr} {ns : List Int} (h : RowOk K H r sa ns) (e : Ex H H') : RowOk K H' r sa ns := by
  obtain ⟨i, x, y, h⟩ := h
  exact ⟨i, x, y, h.mono e⟩
theorem RowIs.put {sa : Addr} {ns : List Int} {i x y i' x' y' : Int} (h : RowIs K H r sa ns i x y) (hi : 0 ≤ i') : RowIs K (upd H r (.lst [.ref sa, .int i', .int x', .int y'])) r sa ns i' x' y' := ⟨upd_same, ExB.upd.sqlO h.ne h.sc, h.ne, hi⟩
theorem RowOk.noTup {sa : Addr} {ns : List Int} (h : RowOk K H r sa ns) : ∀ xs, ¬ Rd H r (.tup xs) := by
  obtain ⟨i, x, y, h⟩ := h
  exact no_rd h.at_ (fun _ z => nomatch z) (fun _ _ z => nomatch z)
theorem RowOk.some_ {sa : Addr} {ns : List Int} (h : RowOk K H r sa ns) {l : Addr} (hl : H l = none) : l ≠ r := fun z => by
  obtain ⟨i, x, y, h⟩ := h
  rw [z, h.at_] at hl
  cases hl
/-- a list made behind H0 grows -/
theorem RowOk.grow {H0 : Hp} {sa l : Addr} {ns : List Int} {o : HO} (h0 : RowOk K H0 r sa ns) (h : RowOk K H r sa ns) (e : ExB r H0 (upd H l o)) (ne : l ≠ r) : RowOk K (upd H l o) r sa ns := by
  obtain ⟨i, x, y, h⟩ := h
  obtain ⟨_, _, _, h0⟩ := h0
  exact ⟨i, x, y, by rw [upd_ne (Ne.symm ne)]; exact h.at_, e.sqlO h0.ne h0.sc, h.ne, h.i0⟩
end
section
variable {P : Program} {w : World} {K : PySem.W.Frag} {mg : Str → Option Value} {base : Heap}
theorem ev_int1 {σ : L2.St} {H : Hp} {ta : TE} {i : Int} (h : Ev ta σ H (.int i)) : Ev (tCB (fun xs H Q => (∃ i, xs = [V.int i] ∧ Q (.int i) H) ∨ ∃ k, xs = [V.bl k] ∧ Q (.int (if k then 1 else 0)) H) (tCons ta tNil)) σ H (.int i) := fun H1 e Q q =>
  h H1 e _ fun H2 e2 => .inl ⟨i, rfl, q H2 e2⟩
theorem q_row {σ : L2.St} {H : Hp} {D : Ends} {tz : TS} {te ta tb : TE} {r sa : Addr} {i x y i' x' y' : Int} {v : V} (j : Nat) (hl : H r = some (.lst [.ref sa, .int i, .int x, .int y])) (h : Ev te σ H v) (ho : Ev ta σ H (.ref r)) (hi : Ev tb σ H (.int (j : Int))) (hj : j < 4)
    (hs : ([.ref sa, .int i, .int x, .int y] : List V).set j v = [.ref sa, .int i', .int x', .int y']) (k : ∀ H1, Ex H H1 → tz D σ (upd H1 r (.lst [.ref sa, .int i', .int x', .int y']))) : tSeq (tAsg te (gSub ta tb rSetL)) tz D σ H :=
  q_setL hl h ho hi hj fun H1 e => by
    rw [hs]
    exact k H1 e
theorem s_row {σ : L2.St} {H : Hp} {D : Ends} {te ta tb : TE} {r sa : Addr} {i x y i' x' y' : Int} {v : V} (j : Nat) (hl : H r = some (.lst [.ref sa, .int i, .int x, .int y])) (h : Ev te σ H v) (ho : Ev ta σ H (.ref r)) (hi : Ev tb σ H (.int (j : Int))) (hj : j < 4)
    (hs : ([.ref sa, .int i, .int x, .int y] : List V).set j v = [.ref sa, .int i', .int x', .int y']) (k : ∀ H1, Ex H H1 → D.nx σ (upd H1 r (.lst [.ref sa, .int i', .int x', .int y']))) : tAsg te (gSub ta tb rSetL) D σ H :=
  s_setL hl h ho hi hj fun H1 e => by
    rw [hs]
    exact k H1 e
def spTaken (K : PySem.W.Frag) : Sp := fun vs H Q _ => ∃ (r sa : Addr) (ns : List Int) (many : Int), vs = [.ref r, .int many] ∧ 0 < many ∧ many < 1000000 ∧ RowOk K H r sa ns ∧ ∀ (k : Int) H', ExB r H H' → RowOk K H' r sa ns → 0 ≤ k → k < many → Q (.int k) H'
abbrev CTaken (P : Program) (w : World) (K : PySem.W.Frag) (mg : Str → Option Value) (base : Heap) := Cal P w K mg base 1 "_law_taken" ["row", "many"] (spTaken K)
theorem ok_law_taken (B : Bi mg) (D : Dfn K mg "_law_taken" sLTaken ["row", "many"]) : CTaken P w K mg base := by
  refine D.ok scLTaken (fun vs H Q E h => ?_) (fun f cdv A outer s H vs Q E hr h => ?_)
  · obtain ⟨r, _, _, many, rfl, _⟩ := h
    rfl
  obtain ⟨r, sa, ns, many, rfl, m0, m1, ⟨i, x, y, R⟩, k⟩ := h
  refine ⟨_, (pss_cons (ps_if (pt_cmpR op_gt (pe_ix ix_list (pv 0) pe_int (fun _ _ => rfl)) pe_int (by first | exact nomark _ | rfl)) (pss_cons (ps_set (i := 2) scLTaken.nd rfl (by first | exact Or.inl rfl | exact Or.inr rfl) (pe_op op_mod (pe_callTy call_int1 (by rfl) B.int (by decide +kernel) (pa_cons (pe_ix ix_list (pv 0) pe_int (fun _ _ => rfl)) pa_nil)) (pv 1))) (pss_cons (ps_asg (pe_op op_fdiv (pe_ix ix_list (pv 0) pe_int (fun _ _ => rfl)) (pv 1)) (pg_sub (pv 0) pe_int set_list)) (pss_one (ps_ret (pv 2))))) pss_nil) (pss_cons (ps_asg (pe_op op_add (pe_ix ix_list (pv 0) pe_int (fun _ _ => rfl)) pe_int) (pg_sub (pv 0) pe_int set_list)) (pss_cons (ps_if (pt_cmpR op_gt (pe_ix ix_list (pv 0) pe_int (fun _ _ => rfl)) (pe_callB call_lenq (by rfl) B.len PySem.boot_len (pa_cons (pe_ix ix_list (pv 0) pe_int (fun _ _ => rfl)) pa_nil)) (by first | exact nomark _ | rfl)) (pss_cons (ps_asg (pe_op op_mod (pe_callTy call_int1 (by rfl) B.int (by decide +kernel) (pa_cons (pe_op op_add (pe_op op_mul (pe_ix ix_list (pv 0) pe_int (fun _ _ => rfl)) pe_int) pe_int) pa_nil)) pe_int) (pg_sub (pv 0) pe_int set_list)) (pss_one (ps_ret (pe_op op_mod (pe_callTy call_int1 (by rfl) B.int (by decide +kernel) (pa_cons (pe_op op_fdiv (pe_ix ix_list (pv 0) pe_int (fun _ _ => rfl)) pe_int) pa_nil)) (pv 1))))) pss_nil) (pss_cons (ps_set (i := 3) scLTaken.nd rfl (by first | exact Or.inl rfl | exact Or.inr rfl) (pe_ix ix_list (pe_ix ix_list (pv 0) pe_int (fun _ _ => rfl)) (pe_op op_sub (pe_ix ix_list (pv 0) pe_int (fun _ _ => rfl)) pe_int) (fun _ _ => rfl))) (pss_cons (ps_asg (pe_op op_mod (pe_callTy call_int1 (by rfl) B.int (by decide +kernel) (pa_cons (pe_op op_add (pe_op op_add (pe_op op_mul (pe_ix ix_list (pv 0) pe_int (fun _ _ => rfl)) pe_int) (pv 3)) pe_int) pa_nil)) pe_int) (pg_sub (pv 0) pe_int set_list)) (pss_cons (ps_if (pt_cmpR op_ge (pv 3) (pe_op op_pow pe_int pe_int) (by first | exact nomark _ | rfl)) (pss_one (ps_asg (pe_op op_fdiv (pv 3) (pv 1)) (pg_sub (pv 0) pe_int set_list))) pss_nil) (pss_one (ps_ret (pe_op op_mod (pe_callTy call_int1 (by rfl) B.int (by decide +kernel) (pa_cons (pv 3) pa_nil)) (pv 1)))))))))), ?_⟩
  have at3 : ∀ {H1 : Hp} {j : Nat} {v : V} {σ : L2.St} {i x y : Int}, RowIs K H1 r sa ns i x y → σ[0]? = some (some (.ref r)) → ([V.ref sa, .int i, .int x, .int y] : List V)[j]? = some v → Ev (tOp (rIxL K) (tVar 0) (tC (.int (j : Int)))) σ H1 v :=
    fun hR hs hj => ev_op (ev_var hs) ev_c (rv_ixL (sq_of hR.at_) (atI_nat hj))
  refine q_when (et_test (ev_op (at3 (j := 3) R rfl rfl) ev_c rv_I0)) (fun _ H1 e1 => ?_) (fun _ H1 e1 => ?_)
  · have R1 := R.mono e1
    refine q_asg (ev_op (ev_int1 (at3 (j := 3) R1 rfl rfl)) (ev_var rfl) (rv_I m0)) fun H2 e2 => ?_
    have R2 := R1.mono e2
    refine q_row 3 R2.at_ (ev_op (at3 (j := 3) R2 rfl rfl) (ev_var rfl) (rv_I ⟨m0, by omega⟩)) (ev_var rfl) ev_c (by decide) rfl fun H3 e3 => ?_
    refine s_ret (ev_var rfl) fun H4 e4 => ?_
    exact k _ H4 (((ExB.of ((e1.trans e2).trans e3)).trans ExB.upd).trans (ExB.of e4)) ⟨_, _, _, ((R2.mono e3).put R.i0).mono e4⟩ (Int.emod_nonneg _ (by omega)) (Int.emod_lt_of_pos _ m0)
  · have R1 := R.mono e1
    refine q_row 1 R1.at_ (ev_op (at3 (j := 1) R1 rfl rfl) ev_c rv_I0) (ev_var rfl) ev_c (by decide) rfl fun H2 e2 => ?_
    have i1 : 0 ≤ i + 1 := by have := R.i0; omega
    have R2 : RowIs K (upd H2 r (.lst [.ref sa, .int (i + 1), .int x, .int y])) r sa ns (i + 1) x y := (R1.mono e2).put i1
    have X2 : ExB r H (upd H2 r (.lst [.ref sa, .int (i + 1), .int x, .int y])) := (ExB.of (e1.trans e2)).trans ExB.upd
    revert R2 X2
    generalize (upd H2 r (.lst [.ref sa, .int (i + 1), .int x, .int y])) = G2
    intro R2 X2
    have hlen : ∀ {G3 : Hp}, Ex G2 G3 → Ev (tCB (rLenA K) (tCons (tOp (rIxL K) (tVar 0) (tC (.int 0))) tNil)) [some (.ref r), some (.int many), none, none] G3 (.int (ns.length : Int)) := fun {G3} e => by
      have q := ev_lenLD (K := K) (ds := ns.map PyData.int) (ta := tOp (rIxL K) (tVar 0) (tC (.int 0))) (σ := [some (.ref r), some (.int many), none, none]) (H := G3) (ed_ev (at3 (j := 0) (R2.mono e) rfl rfl) (.lst (R2.mono e).sc (ints_D ns)))
      rw [List.length_map] at q
      exact q
    refine q_when (et_test (ev_op (at3 (j := 1) R2 rfl rfl) (hlen (Ex.refl _)) rv_I0)) (fun _ H3 e3 => ?_) (fun c H3 e3 => ?_)
    · have R3 := R2.mono e3
      refine q_row 2 R3.at_ (ev_op (ev_int1 (ev_op (ev_op (at3 (j := 2) R3 rfl rfl) ev_c (rv_I (.inr ⟨by decide, by decide⟩))) ev_c rv_I0)) ev_c (rv_I (by decide))) (ev_var rfl) ev_c (by decide) rfl fun H4 e4 => ?_
      have R4 := (R3.mono e4).put (x' := (x * 48271 + 11) % 2147483647) (y' := y) i1
      refine s_ret (ev_op (ev_int1 (ev_op (at3 (j := 2) R4 rfl rfl) ev_c (rv_I ⟨by decide, by decide⟩))) (ev_var rfl) (rv_I m0)) fun H5 e5 => ?_
      exact k _ H5 (((X2.trans (ExB.of (e3.trans e4))).trans ExB.upd).trans (ExB.of e5)) ⟨_, _, _, R4.mono e5⟩ (Int.emod_nonneg _ (by omega)) (Int.emod_lt_of_pos _ m0)
    · have R3 := R2.mono e3
      have c' : ¬ (ns.length : Int) < i + 1 := of_decide_eq_false c
      have hlt : i.toNat < ns.length := by have := R.i0; omega
      have hc : Ev (tOp (rIxL K) (tOp (rIxL K) (tVar 0) (tC (.int 0))) (tOp (rI0 fun i j => .int (i - j)) (tOp (rIxL K) (tVar 0) (tC (.int 1))) (tC (.int 1)))) [some (.ref r), some (.int many), none, none] H3 (.int ns[i.toNat]) := by
        refine ev_op (at3 (j := 0) R3 rfl rfl) (ev_op (at3 (j := 1) R3 rfl rfl) ev_c rv_I0) (rv_ixL R3.sc ?_)
        rw [show i + 1 - 1 = ((i.toNat : Nat) : Int) by have := R.i0; omega]
        exact atI_nat (by rw [List.getElem?_map, List.getElem?_eq_getElem hlt]; rfl)
      refine q_asg hc fun H4 e4 => ?_
      have R4 := R3.mono e4
      refine q_row 2 R4.at_ (ev_op (ev_int1 (ev_op (ev_op (ev_op (at3 (j := 2) R4 rfl rfl) ev_c (rv_I (.inr ⟨by decide, by decide⟩))) (ev_var rfl) rv_I0) ev_c rv_I0)) ev_c (rv_I (by decide))) (ev_var rfl) ev_c (by decide) rfl fun H5 e5 => ?_
      have R5 := (R4.mono e5).put (x' := (x * 48271 + ns[i.toNat] + 11) % 2147483647) (y' := y) i1
      have X5 := (X2.trans (ExB.of ((e3.trans e4).trans e5))).trans (ExB.upd (o := .lst [.ref sa, .int (i + 1), .int ((x * 48271 + ns[i.toNat] + 11) % 2147483647), .int y]))
      refine q_when (et_test (ev_op (ev_var rfl) (ev_op ev_c ev_c (rv_I ⟨by decide, by decide, by decide⟩)) rv_I0)) (fun _ H6 e6 => ?_) (fun _ H6 e6 => ?_)
      · have R6 := R5.mono e6
        have hq : Ev (tOp (rI CDiv fun i j => V.int (i / j)) (tVar 3) (tVar 1)) [some (.ref r), some (.int many), none, some (.int ns[i.toNat])] H6 (.int (ns[i.toNat] / many)) := ev_op (ev_var rfl) (ev_var rfl) (rv_I ⟨m0, by omega⟩)
        refine s_row 3 R6.at_ hq (ev_var rfl) ev_c (by decide) rfl fun H7 e7 => ?_
        dsimp only
        refine s_ret (ev_op (ev_int1 (ev_var rfl)) (ev_var rfl) (rv_I m0)) fun H8 e8 => ?_
        exact k _ H8 (((X5.trans (ExB.of (e6.trans e7))).trans ExB.upd).trans (ExB.of e8)) ⟨_, _, _, ((R6.mono e7).put i1).mono e8⟩ (Int.emod_nonneg _ (by omega)) (Int.emod_lt_of_pos _ m0)
      · refine s_ret (ev_op (ev_int1 (ev_var rfl)) (ev_var rfl) (rv_I m0)) fun H8 e8 => ?_
        exact k _ H8 ((X5.trans (ExB.of e6)).trans (ExB.of e8)) ⟨_, _, _, (R5.mono e6).mono e8⟩ (Int.emod_nonneg _ (by omega)) (Int.emod_lt_of_pos _ m0)
def spPick (K : PySem.W.Frag) : Sp := fun vs H Q _ => ∃ (r l sa : Addr) (ns : List Int) (xs : List V) (ds : List PyData), vs = [.ref r, .ref l] ∧ l ≠ r ∧ SqL K H l xs ∧ DpAll K H xs ds ∧ noLs ds = true ∧ 0 < ds.length ∧ ds.length ≤ 40000 ∧ RowOk K H r sa ns ∧ ∀ v d H', d ∈ ds → ExB r H H' → RowOk K H' r sa ns → Dp K H' v d → Q v H'
abbrev CPick (P : Program) (w : World) (K : PySem.W.Frag) (mg : Str → Option Value) (base : Heap) := Cal P w K mg base 2 "_law_pick" ["row", "things"] (spPick K)
theorem ok_law_pick (B : Bi mg) (D : Dfn K mg "_law_pick" sLPick ["row", "things"]) (C__law_taken : CTaken P w K mg base) : CPick P w K mg base := by
  refine D.ok scLPick (fun vs H Q E h => ?_) (fun f cdv A outer s H vs Q E hr h => ?_)
  · obtain ⟨r, l, _, _, xs, ds, rfl, _⟩ := h
    rfl
  obtain ⟨r, l, sa, ns, xs, ds, rfl, ne, sq, al, nl, h0, hz, R, k⟩ := h
  refine ⟨_, (pss_one (ps_ret (pe_ix ix_list (pv 1) (pe_cal C__law_taken hr (by omega) rfl (pa_cons (pv 0) (pa_cons (pe_callB call_lenq (by rfl) B.len PySem.boot_len (pa_cons (pv 1) pa_nil)) pa_nil))) (fun _ _ => rfl)))), ?_⟩
  refine ⟨_, rfl, _, rfl, _, rfl, _, ds.length, rfl,   .inl ⟨xs, sq, al.len.symm⟩, r, sa, ns, _, rfl, by omega, by omega, R, fun n H1 e1 R1 n0 n1 => ?_⟩
  have al1 := tmonoAll (e1.tk R.noTup) _ _ nl al
  have hlt : n.toNat < ds.length := by omega
  obtain ⟨v, hv, hd⟩ := al1.get (List.getElem?_eq_getElem hlt)
  refine ⟨l, xs, n, v, rfl, rfl, e1.sql ne sq, ?_, k v _ H1 (List.getElem_mem hlt) e1 R1 hd⟩
  rw [show n = ((n.toNat : Nat) : Int) by omega]
  exact atI_nat hv
def spMach (K : PySem.W.Frag) : Sp := fun vs H Q _ => ∃ (r sa : Addr) (ns : List Int), vs = [.ref r] ∧ RowOk K H r sa ns ∧ ∀ v m H', ExB r H H' → RowOk K H' r sa ns → Mc.Ok m → m.cells ≤ 3 → Dp K H' v m.enc → Q v H'
abbrev CMach (P : Program) (w : World) (K : PySem.W.Frag) (mg : Str → Option Value) (base : Heap) := Cal P w K mg base 2 "_law_machine" ["row"] (spMach K)
theorem ExB.new {H : Hp} {r p : Addr} {o : HO} (h : H p = none) : ExB r H (L2.upd H p o) := ExB.of (Ex.new h)
/-- a list that is being made, apart from the row -/
theorem ExB.grow {H0 H : Hp} {r l : Addr} {o : HO} (e : ExB r H0 H) (hl : H0 l = none) : ExB r H0 (L2.upd H l o) := fun b u h hb => by
  rw [upd_ne (ne_of_none h hl)]
  exact e b u h hb
theorem noLs_nats (ns : List Nat) : noLs (ns.map fun (n : Nat) => PyData.int (n : Int)) = true := noLs_iff.mpr fun d hd => by
  obtain ⟨n, _, rfl⟩ := List.mem_map.mp hd
  rfl
theorem ok_law_machine (B : Bi mg) (D : Dfn K mg "_law_machine" sLMachine ["row"]) (C__law_taken : CTaken P w K mg base) : CMach P w K mg base := by
  refine D.ok scLMachine (fun vs H Q E h => ?_) (fun f cdv A outer s H vs Q E hr h => ?_)
  · obtain ⟨r, _, _, rfl, _⟩ := h
    rfl
  obtain ⟨r, sa, sn, rfl, R, k⟩ := h
  refine ⟨_, (pss_one (ps_ret (pe_tup (pa_cons (pe_op op_add pe_int (pe_cal C__law_taken hr (by omega) rfl (pa_cons (pv 0) (pa_cons pe_int pa_nil)))) (pa_cons (pe_callTy call_tupq (by rfl) B.tuple (by decide +kernel) (pa_cons (pe_lc (own := [("k", 1)]) (g := (gName 1)) (tt := tYes) rfl scLMachine.nd (pi_range1 rfl B.range (pa_cons (pe_op op_add pe_int (pe_cal C__law_taken hr (by omega) rfl (pa_cons (pv 0) (pa_cons pe_int pa_nil)))) pa_nil)) (blkOk_by (N := NLMachine) (sc := defScope sLMachine) (by decide +kernel)) (fun _ _ _ _ _ => (pg_name (i := 1) scLMachine.nd rfl (by first | exact Or.inl rfl | exact Or.inr rfl))) (fun _ _ _ _ _ => pts_nil) (fun _ _ _ _ _ => (pe_op op_add pe_int (pe_cal C__law_taken hr (by omega) rfl (pa_cons (pv 0) (pa_cons pe_int pa_nil)))))) pa_nil)) pa_nil))))), ?_⟩
  refine ⟨_, rfl, r, sa, sn, 3, rfl, by decide, by decide, R, fun c H1 e1 R1 c0 c3 => ?_⟩
  refine ⟨_, _, rfl, rfl, _, rfl, r, sa, sn, 2, rfl, by decide, by decide, R1, fun n H2 e2 R2 n0 n2 => ?_⟩
  refine ⟨_, _, rfl, rfl, _, rfl, by omega, by omega, fun Dl hD => ?_⟩
  have hnr : Dl ≠ r := R2.some_ hD
  rw [show (1 + n).toNat = (1 + n.toNat : Nat) by omega]
  refine lc_range (lo := 0) (n := 1 + n.toNat) (fun i H' => ExB r H2 H' ∧ RowOk K H' r sa sn ∧ ∃ ns : List Nat, ns.length = i ∧ (∀ m ∈ ns, 1 ≤ m ∧ m ≤ 2) ∧ H' Dl = some (.lst (ns.map fun (m : Nat) => V.int (m : Int))))
    ⟨ExB.new (o := .lst []) hD, R2.mono (Ex.new hD), [], rfl, (fun _ h => by cases h), upd_same⟩ (fun i H' hi p => ?_) (fun H' p => ?_)
  · obtain ⟨p1, p2, ns, p3, p4, p5⟩ := p
    refine ⟨wipe1 _, ?_⟩
    unfold tYes
    dsimp only
    rw [if_pos rfl]
    refine ⟨_, rfl, r, sa, sn, 2, rfl, by decide, by decide, p2, fun k H3 e3 R3 k0 k2 => ?_⟩
    have hD3 := e3 _ _ p5 hnr
    refine ⟨_, _, rfl, rfl, _, hD3, ?_, ?_⟩
    · rw [List.length_map]
      exact sz_lt (by omega)
    have X : ExB r H2 (L2.upd H3 Dl (.lst (ns.map (fun (m : Nat) => V.int (m : Int)) ++ [V.int (1 + k)]))) := (p1.trans e3).grow hD
    refine ⟨X, RowOk.grow R2 R3 X hnr, ns ++ [1 + k.toNat], by rw [List.length_append, p3]; rfl, fun m hm => ?_, ?_⟩
    · rcases List.mem_append.mp hm with hm | hm
      · exact p4 m hm
      · rw [List.mem_singleton.mp hm]
        omega
    · rw [upd_same, List.map_append]
      exact congrArg (fun z => some (HO.lst (ns.map (fun (m : Nat) => V.int (m : Int)) ++ [z]))) (congrArg V.int (show 1 + k = ((1 + k.toNat : Nat) : Int) by omega))
  · obtain ⟨p1, p2, ns, p3, p4, p5⟩ := p
    refine ⟨Dl, _, rfl, .inl ⟨sq_of p5, fun l hl => ?_⟩⟩
    refine ⟨by show 2 ≤ sizeLine; decide, fun t ht => ?_⟩
    have X : ExB r H (L2.upd (L2.upd H' l (.tup (ns.map fun (m : Nat) => V.int (m : Int)))) t (.tup [.int (1 + c), .ref l])) := (((e1.trans e2).trans p1).trans (ExB.new hl)).trans (ExB.new ht)
    refine k _ ⟨1 + c.toNat, ns⟩ _ X ((p2.mono (Ex.new hl)).mono (Ex.new ht)) ⟨by show 1 ≤ 1 + c.toNat; omega, by show 1 + c.toNat ≤ 4; omega, by show 1 ≤ ns.length; omega, by show ns.length ≤ 3; omega, p4⟩ (by show 1 + c.toNat ≤ 3; omega) ?_
    refine .tup (st_of upd_same) (.cons ?_ (.cons (.tup (st_of (Ex.new ht _ _ upd_same)) ?_) .nil))
    · show Dp K _ (V.int (1 + c)) (.int ((1 + c.toNat : Nat) : Int))
      rw [show (1 + c : Int) = ((1 + c.toNat : Nat) : Int) by omega]
      exact .int _
    · exact all_map fun m _ => .int _
end
end Lb

set_option Elab.async false
set_option linter.all false
set_option maxRecDepth 100000
set_option maxHeartbeats 4000000
namespace Lb
open PySem L2 Evl PyProof.Rows
section
variable {P : Program} {w : World} {K : PySem.W.Frag} {mg : Str → Option Value} {base : Heap}
/-- a new list, tracked, of data -/
def EvDL (K : PySem.W.Frag) (te : TE) (σ : L2.St) (H : Hp) (ds : List PyData) : Prop := ∀ H1, Ex H H1 → ∀ Q : VK, (∀ p vs H2, H1 p = none → Ex H1 H2 → H2 p = some (.lst vs) → DpAll K H2 vs ds → Q (.ref p) H2) → te σ H1 Q
theorem EvDL.is {te : TE} {σ : L2.St} {H : Hp} {ds es : List PyData} (h : EvDL K te σ H ds) (e : ds = es) : EvDL K te σ H es := e ▸ h
theorem elD_lcR {σ : L2.St} {H : Hp} {n j : Nat} {ti te : TE} {tt : TT} (f : Nat → Bool) (out : Nat → PyData) (h : EvD K ti σ H (.int (n : Int))) (hz : n ≤ 40000) (hn : ∀ i, i < n → noL (out i) = true)
    (he : ∀ (i : Nat) H1, Ex H H1 → i < n → EvT tt ((wipe σ [j]).set j (some (.int (i : Int)))) H1 (f i) ∧ (f i = true → EvD K te ((wipe σ [j]).set j (some (.int (i : Int)))) H1 (out i))) :
    EvDL K (tLc (iRng1 (tCons ti tNil)) (gName j) tt te [j]) σ H (givenD n f out) := fun H0 e Q q => h H0 e _ fun v H1 e1 hv => by
  cases hv.intD
  refine ⟨(n : Int), rfl, by omega, by omega, fun Dl hD => ?_⟩
  rw [Int.toNat_natCast]
  refine lc_range (lo := 0) (n := n) (fun i H' => Lw K H1 (givenD i f out) Dl H') ⟨hD, Ex.new hD, [], upd_same, .nil⟩ (fun i H' hi p => ?_) (fun H' p => ?_)
  · have e0 : (0 : Int) + (i : Int) = (i : Int) := Int.zero_add _
    rw [e0]
    obtain ⟨h1, h2⟩ := he i H' ((e.trans e1).trans p.2.1) hi
    exact ⟨wipe1 _, lw_turn (n := n) p (Ex.refl _) (by omega) (fun k hk => hn k (by omega)) h1 h2⟩
  · obtain ⟨p1, p2, acc, p3, p4⟩ := p
    exact q Dl acc H' (fresh_back e1 p1) (e1.trans p2) p3 p4
/-- the list that grows: at l, fresh behind H0 -/
structure Gr (K : PySem.W.Frag) (H0 H : Hp) (l : Addr) (ds : List PyData) : Prop where
  fresh : H0 l = none
  old : Ex H0 H
  here : ∃ xs, H l = some (.lst xs) ∧ DpAll K H xs ds
theorem Gr.mono {H0 H H' : Hp} {l : Addr} {ds : List PyData} (g : Gr K H0 H l ds) (e : Ex H H') : Gr K H0 H' l ds := by
  obtain ⟨f, o, xs, h1, h2⟩ := g
  exact ⟨f, o.trans e, xs, e _ _ h1, dmonoAll e _ _ h2⟩
/-- l.append(te) -/
theorem s_appG {σ : L2.St} {H H0 : Hp} {D : Ends} {ta te : TE} {l : Addr} {ds : List PyData} {d : PyData} (g : Gr K H0 H l ds) (ha : Ev ta σ H (.ref l)) (h : EvD K te σ H d) (hn : noLs ds = true ∧ noL d = true) (hz : ds.length < 100000)
    (k : ∀ H', Gr K H0 H' l (ds ++ [d]) → TK K H H' → D.nx σ H') : tDrop (tBM K "list" rAppend ta (tCons te tNil)) D σ H := by
  obtain ⟨f, o, xs, h1, h2⟩ := g
  refine ha H (Ex.refl _) _ fun H1 e1 => ⟨.inl ⟨rfl, _, sq_of (e1 _ _ h1)⟩, h H1 e1 _ fun y H2 e2 hy => ?_⟩
  have e12 := e1.trans e2
  have hl := e12 _ _ h1
  refine ⟨l, xs, y, rfl, rfl, hl, by rw [h2.len]; exact sz_lt hz, ?_⟩
  refine k _ ⟨f, Ex.mut (o.trans e12) f, _, upd_same, ?_⟩ ((TK.of e12).trans (TK.lst hl))
  refine tmonoAll (TK.lst hl) _ _ ?_ ((dmonoAll e12 _ _ h2).app (.cons hy .nil))
  refine noLs_iff.mpr fun d' hd => ?_
  rcases List.mem_append.mp hd with hd | hd
  · exact noLs_iff.mp hn.1 d' hd
  · rw [List.mem_singleton.mp hd]
    exact hn.2
/-- l + te, te a new list -/
theorem ev_catG {σ : L2.St} {H H0 : Hp} {ta te : TE} {l : Addr} {ds es : List PyData} (g : Gr K H0 H l ds) (ha : Ev ta σ H (.ref l)) (h : EvDL K te σ H es) (hz : ds.length + es.length ≤ 100000) {Q : VK}
    (k : ∀ p H', Gr K H0 H' p (ds ++ es) → Ex H H' → Q (.ref p) H') : tOp rCat ta te σ H Q := by
  obtain ⟨f, o, xs, h1, h2⟩ := g
  refine ha H (Ex.refl _) _ fun H1 e1 => h H1 e1 _ fun b vs H2 hb e2 hv hd => ?_
  have e12 := e1.trans e2
  refine ⟨l, b, xs, vs, rfl, rfl, e12 _ _ h1, hv, by rw [h2.len, hd.len]; exact sz_of hz, fun p hp => ?_⟩
  have en := Ex.new (o := .lst (xs ++ vs)) hp
  exact k p _ ⟨fresh_back (o.trans e12) hp, (o.trans e12).trans en, _, upd_same, dmonoAll en _ _ ((dmonoAll e12 _ _ h2).app hd)⟩ (e12.trans en)
def lineD (c : Nat) (f : Option Nat) (ss : List Nat) : PyData := Ln.enc ⟨c, f, ss⟩
theorem encL_noL (ls : List Ln) : noLs (ls.map Ln.enc) = true := noLs_iff.mpr fun d hd => by
  obtain ⟨l, _, rfl⟩ := List.mem_map.mp hd
  exact l.noL
def spEvery (K : PySem.W.Frag) : Sp := fun vs H Q _ => ∃ (mv : V) (m : Mc), vs = [mv] ∧ Dp K H mv m.enc ∧ m.Ok ∧ ∀ l ls H', Gr K H H' l (ls.map Ln.enc) → (∀ n ∈ ls, Ln.Ok m n) → ls ≠ [] → ls.length ≤ 300 → Q (.ref l) H'
abbrev CEvery (P : Program) (w : World) (K : PySem.W.Frag) (mg : Str → Option Value) (base : Heap) := Cal P w K mg base 1 "_law_every_line" ["machine"] (spEvery K)
/-- between two turns -/
def EL (K : PySem.W.Frag) (m : Mc) (H0 : Hp) (mv fv : V) (hi : Nat) (nz : Prop) (rest : List (Option V)) (σ : L2.St) (H : Hp) : Prop :=
  ∃ l ls, σ = some mv :: some (.int (m.cells : Int)) :: some fv :: some (.ref l) :: rest ∧ Gr K H0 H l (ls.map Ln.enc) ∧ (∀ n ∈ ls, Ln.Ok m n) ∧ ls.length ≤ hi ∧ (nz → ls ≠ [])
end
end Lb

set_option Elab.async false
set_option linter.all false
set_option maxRecDepth 100000
set_option maxHeartbeats 4000000
namespace Lb
open PySem L2 Evl PyProof.Rows
/-! ### mirrors -/
def md (ts : List Tm) : Nat := (ts.map Tm.dep).foldr max 0
theorem md_le : ∀ {ts : List Tm} {t : Tm}, t ∈ ts → t.dep ≤ md ts
  | u :: ts, t, h => by
    show t.dep ≤ max u.dep (md ts)
    rcases List.mem_cons.mp h with e | h
    · rw [e]; exact Nat.le_max_left _ _
    · exact Nat.le_trans (md_le h) (Nat.le_max_right _ _)
theorem md_mem : ∀ {ts : List Tm}, ts ≠ [] → ∃ t ∈ ts, t.dep = md ts
  | [u], _ => ⟨u, List.mem_singleton_self _, by show u.dep = max u.dep 0; omega⟩
  | u :: v :: ts, _ => by
    obtain ⟨t, h1, h2⟩ := md_mem (ts := v :: ts) (by simp)
    show ∃ t ∈ u :: v :: ts, t.dep = max u.dep (md (v :: ts))
    rcases Nat.le_total u.dep (md (v :: ts)) with q | q
    · exact ⟨t, List.mem_cons_of_mem _ h1, by rw [Nat.max_eq_right q]; exact h2⟩
    · exact ⟨u, List.mem_cons_self, by rw [Nat.max_eq_left q]⟩
theorem md_bound {ts : List Tm} {B : Nat} (h : ∀ t ∈ ts, t.dep ≤ B) : md ts ≤ B := by
  cases ts with
  | nil => exact Nat.zero_le _
  | cons u ts =>
    obtain ⟨t, h1, h2⟩ := md_mem (ts := u :: ts) (by simp)
    rw [← h2]
    exact h t h1
theorem mk_dep {g : Nat} {as : List Tm} {B : Nat} (h : ∀ t ∈ as, t.dep ≤ B) : (Tm.mk g as).dep ≤ B + 1 := by
  match as, h with
  | [], _ => show 1 ≤ B + 1; omega
  | [a], h => have := h a (by simp); show a.dep + 1 ≤ B + 1; omega
  | [a, b], h => have h1 := h a (by simp); have h2 := h b (by simp); show max a.dep b.dep + 1 ≤ B + 1; omega
  | _ :: _ :: _ :: _, _ => show 1 ≤ B + 1; omega
theorem at0_dep {held : List Tm} {s B : Nat} (h1 : 1 ≤ B) (h : ∀ t ∈ held, t.dep ≤ B) : (at0 held s).dep ≤ B := by
  unfold at0
  rw [List.getD_eq_getElem?_getD]
  cases e : held[s]? with
  | none => exact h1
  | some t => exact h t (List.mem_of_getElem? e)
theorem did_dep {held : List Tm} {l : Ln} {B : Nat} (h1 : 1 ≤ B) (h : md held ≤ B) : md (did held l) ≤ B + 1 := by
  have hb : ∀ t ∈ held, t.dep ≤ B := fun t ht => Nat.le_trans (md_le ht) h
  refine md_bound fun t ht => ?_
  rcases List.mem_or_eq_of_mem_set ht with q | q
  · have := hb t q; omega
  · rw [q]
    unfold Ln.made
    split
    · have := at0_dep (s := l.src.headD 0) h1 hb; omega
    · exact mk_dep fun t ht => by
        obtain ⟨s, _, rfl⟩ := List.mem_map.mp ht
        exact at0_dep h1 hb
theorem start_md (n : Nat) : md (start0 n) ≤ 1 := md_bound fun t ht => by
  obtain ⟨i, _, rfl⟩ := List.mem_map.mp ht
  exact Nat.le_refl _
def tameStep (s : List Tm × List Ln) (l : Ln) : List Tm × List Ln := if md (did s.1 l) < 6 then (did s.1 l, s.2 ++ [l]) else s
def tame (m : Mc) (p : List Ln) : List Ln := (p.foldl tameStep (start0 m.cells, [])).2
def ranG (ls : List Nat) : Nat → List Tm → List Ln → Option (List Tm)
  | _, h, [] => some h
  | i, h, l :: p => if i ∈ ls then ranG ls (i + 1) h p else if 8 < md (did h l) then none else ranG ls (i + 1) (did h l) p
def ran (m : Mc) (p : List Ln) (ls : List Nat) : Option (List Tm) := ranG ls 0 (start0 m.cells) p
def optD : Option (List Tm) → PyData
  | none => .none
  | some h => encs h
theorem optD_noL (o : Option (List Tm)) : noL (optD o) = true := by
  cases o with
  | none => rfl
  | some h => exact encs_noL h
theorem held_ne {m : Mc} (hm : m.Ok) {held : List Tm} (h : Held m held) : held ≠ [] := fun z => by
  have := h.len
  have := hm.c1
  rw [z] at *
  simp at *
  omega
section
variable {P : Program} {w : World} {K : PySem.W.Frag} {mg : Str → Option Value} {base : Heap}
/-- max([deep(term) for term in held]) -/
theorem ev_md {σ : L2.St} {H : Hp} {tl : TE} {j : Nat} {E : XK} {m : Mc} {held : List Tm} {n : Nat} (mok : m.Ok) (hh : Held m held) (hd : md held ≤ n) (h : EvD K tl σ H (encs held)) (hj : ((wipe σ [j]).set j (some (V.int 0))).length = σ.length) (hi : j < σ.length) :
    Ev (tCB (rMax K) (tCons (tLc (iTup K tl) (gName j) tYes (tCall (spDeep K n) [] E (tCons (tVar j) tNil)) [j]) tNil)) σ H (.int (md held : Int)) := by
  obtain ⟨t, ht, e⟩ := md_mem (held_ne mok hh)
  refine ev_max (ns := held.map fun t => (t.dep : Int)) (ed_is (ed_lcM Tm.enc (fun t => .int (t.dep : Int)) h (by rw [hh.len]; have := mok.c4; omega) (fun _ _ => rfl) fun t x H1 ht e hx => ?_) ?_) (List.mem_map.mpr ⟨t, ht, by rw [e]⟩) fun y hy => ?_
  · refine ed_int (ev_deep mok (hh.of t ht) (Nat.le_trans (md_le ht) hd) (ed_var ?_ hx))
    rw [List.getElem?_set_self]
    rw [wipe_length]
    exact hi
  · rw [List.map_map]
    rfl
  · obtain ⟨t, ht, rfl⟩ := List.mem_map.mp hy
    have := md_le ht
    omega
def spTame (K : PySem.W.Frag) : Sp := fun vs H Q _ => ∃ (mv pv : V) (m : Mc) (p : List Ln), vs = [mv, pv] ∧ Dp K H mv m.enc ∧ Dp K H pv (progD p) ∧ m.Ok ∧ (∀ l ∈ p, Ln.Ok m l) ∧ p.length ≤ 60 ∧ ∀ v H', Ex H H' → Dp K H' v (progD (tame m p)) → Q v H'
theorem ed_tame {σ : L2.St} {H : Hp} {ta tb : TE} {E : XK} {m : Mc} {p : List Ln} (mok : m.Ok) (ok : ∀ l ∈ p, Ln.Ok m l) (hl : p.length ≤ 60) (ha : EvD K ta σ H m.enc) (hb : EvD K tb σ H (progD p)) : EvD K (tCall (spTame K) [] E (tCons ta (tCons tb tNil))) σ H (progD (tame m p)) :=
  ed_call (ead_cons ha (ead_cons hb ead_nil)) fun H1 vs hvs Q E q => by
    cases hvs with
    | cons h0 t0 => cases t0 with
      | cons h1 t1 => cases t1; exact ⟨_, _, m, p, rfl, h0, h1, mok, ok, hl, q⟩
theorem tame_len (m : Mc) (p : List Ln) (s : List Tm × List Ln) : (p.foldl tameStep s).2.length ≤ s.2.length + p.length := by
  induction p generalizing s with
  | nil => exact Nat.le_refl _
  | cons l p ih =>
    have h := ih (tameStep s l)
    have h2 : (tameStep s l).2.length ≤ s.2.length + 1 := by
      unfold tameStep
      split
      · simp
      · omega
    rw [List.foldl_cons, List.length_cons]
    omega
/-- what holds of the pair that tame keeps -/
theorem tame_inv {m : Mc} (mok : m.Ok) {p : List Ln} (ok : ∀ l ∈ p, Ln.Ok m l) (s : List Tm × List Ln) (h : Held m s.1) (hd : md s.1 ≤ 5) (h2 : ∀ l ∈ s.2, Ln.Ok m l) :
    Held m (p.foldl tameStep s).1 ∧ md (p.foldl tameStep s).1 ≤ 5 ∧ ∀ l ∈ (p.foldl tameStep s).2, Ln.Ok m l := by
  induction p generalizing s with
  | nil => exact ⟨h, hd, h2⟩
  | cons l p ih =>
    rw [List.foldl_cons]
    refine ih (fun l hl => ok l (List.mem_cons_of_mem _ hl)) _ ?_ ?_ ?_ <;> unfold tameStep <;> split
    · exact did_held mok h (ok l List.mem_cons_self)
    · exact h
    · show md (did s.1 l) ≤ 5; omega
    · exact hd
    · intro n hn
      rcases List.mem_append.mp hn with hn | hn
      · exact h2 n hn
      · rw [List.mem_singleton.mp hn]; exact ok l List.mem_cons_self
    · exact h2
abbrev CTame (P : Program) (w : World) (K : PySem.W.Frag) (mg : Str → Option Value) (base : Heap) := Cal P w K mg base 11 "_law_tame" ["machine", "program"] (spTame K)
theorem take_foldl {α β : Type} (f : β → α → β) (b : β) {l : List α} {i : Nat} {x : α} (h : l[i]? = some x) : (l.take (i + 1)).foldl f b = f ((l.take i).foldl f b) x := by
  rw [List.take_succ, h, List.foldl_append]
  rfl
/-! ### a run with losses -/
def spRan (K : PySem.W.Frag) : Sp := fun vs H Q _ => ∃ (mv pv lv : V) (m : Mc) (p : List Ln) (ls : List Nat), vs = [mv, pv, lv] ∧ Dp K H mv m.enc ∧ Dp K H pv (progD p) ∧ Dp K H lv (natsD ls) ∧ m.Ok ∧ (∀ l ∈ p, Ln.Ok m l) ∧ ∀ v H', Ex H H' → Dp K H' v (optD (ran m p ls)) → Q v H'
theorem ed_ran {σ : L2.St} {H : Hp} {ta tb tc : TE} {E : XK} {m : Mc} {p : List Ln} {ls : List Nat} (mok : m.Ok) (ok : ∀ l ∈ p, Ln.Ok m l) (ha : EvD K ta σ H m.enc) (hb : EvD K tb σ H (progD p)) (hc : EvD K tc σ H (natsD ls)) : EvD K (tCall (spRan K) [] E (tCons ta (tCons tb (tCons tc tNil)))) σ H (optD (ran m p ls)) :=
  ed_call (ead_cons ha (ead_cons hb (ead_cons hc ead_nil))) fun H1 vs hvs Q E q => by
    cases hvs with
    | cons h0 t0 => cases t0 with
      | cons h1 t1 => cases t1 with
        | cons h2 t2 => cases t2; exact ⟨_, _, _, m, p, ls, rfl, h0, h1, h2, mok, ok, q⟩
abbrev CRan (P : Program) (w : World) (K : PySem.W.Frag) (mg : Str → Option Value) (base : Heap) := Cal P w K mg base 11 "_law_ran" ["machine", "program", "losses"] (spRan K)
end
end Lb

set_option Elab.async false
set_option linter.all false
set_option maxRecDepth 100000
set_option maxHeartbeats 4000000
namespace Lb
open PySem L2 Evl PyProof.Rows
section
variable {P : Program} {w : World} {K : PySem.W.Frag} {mg : Str → Option Value} {base : Heap}
/-! ### lines and programs drawn -/
/-- a comprehension of draws -/
theorem dr_ints {σ : L2.St} {H : Hp} {r sa : Addr} {ns : List Int} {n j jr jk : Nat} {kk : Nat} (nz : n ≤ 100) (k1 : 0 < kk) (k2 : kk < 1000000) (R : RowOk K H r sa ns) (hrow : ∀ x : V, ((wipe σ [j]).set j (some x))[jr]? = some (some (.ref r))) (hkk : ∀ x : V, ((wipe σ [j]).set j (some x))[jk]? = some (some (.int (kk : Int)))) {ti : TE} (hn : Ev ti σ H (.int (n : Int))) {Q : VK}
    (k : ∀ l H' (is : List Nat), l ≠ r → is.length = n → (∀ i ∈ is, i < kk) → ExB r H H' → RowOk K H' r sa ns → H' l = some (.lst (is.map fun (i : Nat) => V.int (i : Int))) → Q (.ref l) H') :
    tLc (iRng1 (tCons ti tNil)) (gName j) tYes (tCall (spTaken K) [] E0 (tCons (tVar jr) (tCons (tVar jk) tNil))) [j] σ H Q := by
  refine hn H (Ex.refl _) _ fun H1 e1 => ?_
  refine ⟨_, rfl, by omega, by omega, fun Dl hD => ?_⟩
  have R1 := R.mono e1
  have hnr : Dl ≠ r := R1.some_ hD
  rw [Int.toNat_natCast]
  refine lc_range (lo := 0) (n := n) (g := gName j) (vs := [j]) (fun i H' => ExB r H1 H' ∧ RowOk K H' r sa ns ∧ ∃ is : List Nat, is.length = i ∧ (∀ x ∈ is, x < kk) ∧ H' Dl = some (.lst (is.map fun (x : Nat) => V.int (x : Int))))
    ⟨ExB.new (o := .lst []) hD, R1.mono (Ex.new hD), [], rfl, (fun _ h => by cases h), upd_same⟩ (fun i H' hi p => ?_) (fun H' p => ?_)
  · obtain ⟨p1, p2, is, p3, p4, p5⟩ := p
    refine ⟨wipe1 _, ?_⟩
    unfold tYes
    dsimp only
    rw [if_pos rfl]
    refine ⟨_, hrow _, _, hkk _, r, sa, ns, _, rfl, by omega, by omega, p2, fun d H3 e3 R3 d0 d1 => ?_⟩
    have hD3 := e3 _ _ p5 hnr
    refine ⟨_, hD3, ?_, ?_⟩
    · rw [List.length_map]
      exact sz_lt (by omega)
    have X : ExB r H1 (L2.upd H3 Dl (.lst (is.map (fun (m : Nat) => V.int (m : Int)) ++ [V.int d]))) := (p1.trans e3).grow hD
    refine ⟨X, RowOk.grow R1 R3 X hnr, is ++ [d.toNat], by rw [List.length_append, p3]; rfl, fun m hm => ?_, ?_⟩
    · rcases List.mem_append.mp hm with hm | hm
      · exact p4 m hm
      · rw [List.mem_singleton.mp hm]
        omega
    · rw [upd_same, List.map_append]
      exact congrArg (fun z => some (HO.lst (is.map (fun (m : Nat) => V.int (m : Int)) ++ [z]))) (congrArg V.int (show d = ((d.toNat : Nat) : Int) by omega))
  · obtain ⟨p1, p2, is, p3, p4, p5⟩ := p
    exact k Dl H' is hnr p3 p4 ((ExB.of e1).trans p1) p2 p5
def spLineD (K : PySem.W.Frag) : Sp := fun vs H Q _ => ∃ (r sa : Addr) (sn : List Int) (mv : V) (m : Mc), vs = [.ref r, mv] ∧ RowOk K H r sa sn ∧ Dp K H mv m.enc ∧ m.Ok ∧ ∀ v l H', ExB r H H' → RowOk K H' r sa sn → Ln.Ok m l → Dp K H' v l.enc → Q v H'
abbrev CLineD (P : Program) (w : World) (K : PySem.W.Frag) (mg : Str → Option Value) (base : Heap) := Cal P w K mg base 3 "_law_line" ["row", "machine"] (spLineD K)
theorem tcb1 {r : List V → Hp → VK → Prop} {te : TE} {σ : L2.St} {H : Hp} {Q : VK} (h : te σ H fun v H1 => r [v] H1 Q) : tCB r (tCons te tNil) σ H Q := h
theorem tcons1 {te : TE} {tr : TA} {σ : L2.St} {H : Hp} {R : List V → Hp → Prop} (h : te σ H fun v H1 => tr σ H1 fun vs H2 => R (v :: vs) H2) : tCons te tr σ H R := h
theorem a_li {te : TE} {tr : TA} {σ : L2.St} {H : Hp} {ds : List PyData} {R : List V → Hp → Prop} (h : EvLi K te σ H ds) (k : ∀ l xs H1, Ex H H1 → H1 l = some (.lst xs) → DpAll K H1 xs ds → tr σ H1 fun vs H2 => R (.ref l :: vs) H2) : tCons te tr σ H R :=
  h H (Ex.refl _) _ fun l xs H1 e1 hl al => k l xs H1 e1 hl al
theorem tas {te : TE} {i : Nat} {D : Ends} {σ : L2.St} {H : Hp} (h : te σ H fun v H1 => gName i v σ H1 D.nx) : tAsg te (gName i) D σ H := h
theorem qan {σ : L2.St} {D : Ends} {te : TE} {tz : TS} {i : Nat} {H : Hp} (h : te σ H fun v H1 => tz D (σ.set i (some v)) H1) : tSeq (tAsg te (gName i)) tz D σ H := h
theorem ok_law_line (B : Bi mg) (D : Dfn K mg "_law_line" sLLine ["row", "machine"]) (C__law_taken : CTaken P w K mg base) (C__law_pick : CPick P w K mg base) : CLineD P w K mg base := by
  refine D.ok scLLine (fun vs H Q E h => ?_) (fun f cdv A outer s H vs Q E hr h => ?_)
  · obtain ⟨r, sa, sn, mv, m, rfl, _⟩ := h
    rfl
  obtain ⟨r, sa, sn, mv, m, rfl, R, hm, mok, k⟩ := h
  refine ⟨_, (pss_cons (ps_asg (pv 1) (pg_tup rfl (pgs_cons (pg_name (i := 2) scLLine.nd rfl (by first | exact Or.inl rfl | exact Or.inr rfl)) (pgs_cons (pg_name (i := 3) scLLine.nd rfl (by first | exact Or.inl rfl | exact Or.inr rfl)) pgs_nil)))) (pss_cons (ps_if (PW.pt (pw_and (pt_cmpR op_gt (pv 2) pe_int (by first | exact nomark _ | rfl)) (pw_and1 (pt_cmpR op_eq (pe_cal C__law_taken hr (by omega) rfl (pa_cons (pv 0) (pa_cons pe_int pa_nil))) pe_int (by first | exact nomark _ | rfl))))) (pss_cons (ps_set (i := 4) scLLine.nd rfl (by first | exact Or.inl rfl | exact Or.inr rfl) (pe_cal C__law_taken hr (by omega) rfl (pa_cons (pv 0) (pa_cons (pv 2) pa_nil)))) (pss_one (ps_ret (pe_tup (pa_cons (pv 4) (pa_cons pe_non (pa_cons (pe_tup (pa_cons (pe_cal C__law_pick hr (by omega) rfl (pa_cons (pv 0) (pa_cons (pe_lc (own := [("one", 6)]) (g := (gName 6)) rfl scLLine.nd (pi_range1 rfl B.range (pa_cons (pv 2) pa_nil)) (blkOk_by (N := NLLine) (sc := defScope sLLine) (by decide +kernel)) (fun _ _ _ _ _ => (pg_name (i := 6) scLLine.nd rfl (by first | exact Or.inl rfl | exact Or.inr rfl))) (fun _ _ _ _ _ => (pts_one (pt_cmpR op_ne (pv 6) (pv 4) (by first | exact nomark _ | rfl)))) (fun _ _ _ _ _ => (pv 6))) pa_nil))) pa_nil)) pa_nil))))))) pss_nil) (pss_cons (ps_set (i := 5) scLLine.nd rfl (by first | exact Or.inl rfl | exact Or.inr rfl) (pe_cal C__law_taken hr (by omega) rfl (pa_cons (pv 0) (pa_cons (pe_callB call_lenq (by rfl) B.len PySem.boot_len (pa_cons (pv 3) pa_nil)) pa_nil)))) (pss_one (ps_ret (pe_tup (pa_cons (pe_cal C__law_taken hr (by omega) rfl (pa_cons (pv 0) (pa_cons (pv 2) pa_nil))) (pa_cons (pv 5) (pa_cons (pe_callTy call_tupq (by rfl) B.tuple (by decide +kernel) (pa_cons (pe_lc (own := [("k", 7)]) (g := (gName 7)) (tt := tYes) rfl scLLine.nd (pi_range1 rfl B.range (pa_cons (pe_ix ix_tup (pv 3) (pv 5) (fun _ _ => rfl)) pa_nil)) (blkOk_by (N := NLLine) (sc := defScope sLLine) (by decide +kernel)) (fun _ _ _ _ _ => (pg_name (i := 7) scLLine.nd rfl (by first | exact Or.inl rfl | exact Or.inr rfl))) (fun _ _ _ _ _ => pts_nil) (fun _ _ _ _ _ => (pe_cal C__law_taken hr (by omega) rfl (pa_cons (pv 0) (pa_cons (pv 2) pa_nil))))) pa_nil)) pa_nil))))))))), ?_⟩
  have c1 := mok.c1
  have c4 := mok.c4
  have f1 := mok.f1
  have f3 := mok.f3
  refine qd_un2 (K := K) (d1 := .int (m.cells : Int)) (d2 := natsD m.fns) (ed_var rfl hm) fun cv fv H1 e1 hcv hfv => ?_
  cases hcv.intD
  have R1 := R.mono e1
  have tail : ∀ (H2 : Hp), ExB r H H2 → RowOk K H2 r sa sn → Dp K H2 fv (natsD m.fns) → tSeq (tAsg (tCall (spTaken K) [] E0 (tCons (tVar 0) (tCons (tCB (rLenA K) (tCons (tVar 3) tNil)) tNil))) (gName 5)) (tRet (tTup (tCons (tCall (spTaken K) [] E0 (tCons (tVar 0) (tCons (tVar 2) tNil))) (tCons (tVar 5) (tCons (tCB (rTupA K) (tCons (tLc (iRng1 (tCons (tOp (rIxT K) (tVar 3) (tVar 5)) tNil)) (gName 7) tYes (tCall (spTaken K) [] E0 (tCons (tVar 0) (tCons (tVar 2) tNil))) [7]) tNil)) tNil))))) { nx := fun _ H' => Q .non H', rt := Q } [some (.ref r), some mv, some (.int (m.cells : Int)), some fv, none, none, none, none] H2 := by
    intro H2 e2 R2 hf2
    refine qan ⟨_, rfl, ?_⟩
    refine ev_lenT (K := K) (ed_var rfl hf2) H2 (Ex.refl _) _ fun H3 e3 => ?_
    rw [List.length_map]
    refine ⟨r, sa, sn, _, rfl, by omega, by omega, R2.mono e3, fun g H4 e4 R4 g0 g1 => ?_⟩
    obtain ⟨q, rfl⟩ : ∃ q : Nat, g = (q : Int) := ⟨g.toNat, by omega⟩
    have hf4 := tmono (e4.tk (R2.mono e3).noTup) _ _ (natsD_noL _) (dmono e3 _ _ hf2)
    refine ⟨_, rfl, _, rfl, r, sa, sn, _, rfl, by omega, by omega, R4, fun c H5 e5 R5 c0 c1' => ?_⟩
    obtain ⟨d, rfl⟩ : ∃ d : Nat, c = (d : Int) := ⟨c.toNat, by omega⟩
    refine ⟨_, rfl, ?_⟩
    have hf5 := tmono (e5.tk R4.noTup) _ _ (natsD_noL _) hf4
    have hg : q < m.fns.length := by omega
    have hrd := mok.rd (m.fns[q]) (List.getElem_mem hg)
    dsimp only
    refine tcons1 (tcb1 (dr_ints (K := K) (n := m.fns[q]) (kk := m.cells) (j := 7) (jr := 0) (jk := 2) (by omega) (by omega) (by omega) R5 (fun x => by rfl) (fun x => by rfl) ?_ fun l H6 is ne il ib e6 R6 hl => ?_))
    · exact ev_int (ed_ix (ed_var rfl hf5) (ed_int (ev_var rfl)) (atD (by rw [List.getElem?_map, List.getElem?_eq_getElem hg]; rfl)))
    · refine ⟨l, _, rfl, .inl ⟨sq_of hl, fun t ht => ⟨by show 3 ≤ sizeLine; decide, fun p hp => ?_⟩⟩⟩
      have en1 := Ex.new (o := .tup (is.map fun (i : Nat) => V.int (i : Int))) ht
      have en2 := Ex.new (o := .tup [.int (d : Int), .int (q : Int), .ref t]) hp
      refine k _ ⟨d, some q, is⟩ _ ((((((e2.trans (ExB.of e3)).trans e4).trans e5).trans e6).trans (ExB.of en1)).trans (ExB.of en2)) ((R6.mono en1).mono en2) ⟨by show d < m.cells; omega, ib, (fun z => nomatch z), fun g' z => ?_⟩ (.tup (st_of upd_same) (.cons (.int _) (.cons (.int _) (.cons (.tup (st_of (en2 _ _ upd_same)) (all_map fun x _ => .int _)) .nil))))
      cases z
      exact ⟨hg, by rw [List.getElem?_eq_getElem hg, il]⟩
  have hcell : ∀ H2, Ex H H2 → Dp K H2 fv (natsD m.fns) → RowOk K H2 r sa sn → tSeq (tIfS (tAnd (tTest (tOp (rI0 fun i j => V.bl (decide (j < i))) (tVar 2) (tC (.int 1)))) (tTest (tOp rEq (tCall (spTaken K) [] E0 (tCons (tVar 0) (tCons (tC (.int 4)) tNil))) (tC (.int 0)))))
      (tSeq (tAsg (tCall (spTaken K) [] E0 (tCons (tVar 0) (tCons (tVar 2) tNil))) (gName 4)) (tRet (tTup (tCons (tVar 4) (tCons (tC .non) (tCons (tTup (tCons (tCall (spPick K) [] E0 (tCons (tVar 0) (tCons (tLc (iRng1 (tCons (tVar 2) tNil)) (gName 6) (tTest (tOp rNe (tVar 6) (tVar 4))) (tVar 6) [6]) tNil))) tNil)) tNil)))))) tNext)
      (tSeq (tAsg (tCall (spTaken K) [] E0 (tCons (tVar 0) (tCons (tCB (rLenA K) (tCons (tVar 3) tNil)) tNil))) (gName 5)) (tRet (tTup (tCons (tCall (spTaken K) [] E0 (tCons (tVar 0) (tCons (tVar 2) tNil))) (tCons (tVar 5) (tCons (tCB (rTupA K) (tCons (tLc (iRng1 (tCons (tOp (rIxT K) (tVar 3) (tVar 5)) tNil)) (gName 7) tYes (tCall (spTaken K) [] E0 (tCons (tVar 0) (tCons (tVar 2) tNil))) [7]) tNil)) tNil)))))) { nx := fun _ H' => Q .non H', rt := Q } [some (.ref r), some mv, some (.int (m.cells : Int)), some fv, none, none, none, none] H2 := by
    intro H2 e2 hf2 R2
    have tl : ∀ H3, ExB r H2 H3 → RowOk K H3 r sa sn → _ := fun H3 e3 R3 => tail H3 ((ExB.of e2).trans e3) R3 (tmono (e3.tk R2.noTup) _ _ (natsD_noL _) hf2)
    refine et_test (ev_op (ev_var (i := 2) rfl) ev_c rv_I0) H2 (Ex.refl _) _ fun H3 e3 => ?_
    have R3 := R2.mono e3
    dsimp only
    by_cases hc : (1 : Int) < (m.cells : Int)
    · rw [decide_eq_true hc, if_pos rfl]
      refine ⟨_, rfl, r, sa, sn, 4, rfl, by decide, by decide, R3, fun t H4 e4 R4 t0 t1 => ⟨rfl, _, rfl, ?_⟩⟩
      dsimp only
      split
      · refine qan ⟨_, rfl, _, rfl, r, sa, sn, _, rfl, by omega, by omega, R4, fun c H5 e5 R5 c0 c1' => ?_⟩
        obtain ⟨d, rfl⟩ : ∃ d : Nat, c = (d : Int) := ⟨c.toNat, by omega⟩
        refine ⟨_, rfl, ?_⟩
        refine ⟨_, rfl, ?_⟩
        dsimp only
        refine a_li (li_lcRz (K := K) (z := (m.cells : Int)) (n := m.cells) (fun i => decide (i ≠ d)) (fun i => .int (i : Int)) (ed_int (ev_var (i := 2) rfl)) (by omega) (by omega) (by omega) (fun _ _ => rfl) fun i H6 e6 hi => ⟨et_test (ev_is (ev_op (ev_var rfl) (ev_var rfl) (rv_ne rfl)) ?_), fun _ => ed_int (ev_var rfl)⟩) fun l xs H6 e6 hl al => ?_
        · simp
          omega
        have R6 := R5.mono e6
        have ne : l ≠ r := fun z => by
          obtain ⟨i, x, y, q⟩ := R6
          have q1 := q.at_
          rw [z] at hl
          rw [hl] at q1
          cases q1
          obtain ⟨dd, h1, h2⟩ := al.getV (i := 0) rfl
          unfold givenD at h1
          obtain ⟨j, _, rfl⟩ := List.mem_map.mp (List.mem_of_getElem? h1)
          cases h2
        have pos : 0 < (givenD m.cells (fun i => decide (i ≠ d)) (fun i => PyData.int (i : Int))).length := by
          unfold givenD
          rw [List.length_map]
          refine List.length_pos_of_mem (a := if d = 0 then 1 else 0) (List.mem_filter.mpr ⟨List.mem_range.mpr (by split <;> omega), ?_⟩)
          split <;> simp <;> omega
        refine ⟨r, l, sa, sn, xs, _, rfl, ne, sq_of hl, al, givenD_noL (fun _ _ => rfl), pos, by have := givenD_len m.cells (fun i => decide (i ≠ d)) (fun i => PyData.int (i : Int)); omega, R6, fun v dd H7 hd e7 R7 hv => ?_⟩
        obtain ⟨j, hj, rfl⟩ : ∃ j, (j < m.cells ∧ j ≠ d) ∧ dd = .int (j : Int) := by
          unfold givenD at hd
          obtain ⟨j, hj, rfl⟩ := List.mem_map.mp hd
          obtain ⟨h1, h2⟩ := List.mem_filter.mp hj
          exact ⟨j, ⟨List.mem_range.mp h1, of_decide_eq_true h2⟩, rfl⟩
        cases hv.intD
        refine ⟨by show 1 ≤ sizeLine; decide, fun t1 ht1 => ⟨by show 3 ≤ sizeLine; decide, fun t2 ht2 => ?_⟩⟩
        have en1 := Ex.new (o := .tup [.int (j : Int)]) ht1
        have en2 := Ex.new (o := .tup [.int (d : Int), .non, .ref t1]) ht2
        exact k _ ⟨d, none, [j]⟩ _ (((ExB.of (e2.trans e3)).trans (e4.trans (e5.trans ((ExB.of e6).trans e7)))).trans (ExB.of (en1.trans en2))) ((R7.mono en1).mono en2) ⟨by show d < m.cells; omega, fun s hs => by rw [List.mem_singleton.mp hs]; exact hj.1, fun _ => ⟨j, rfl, hj.2⟩, fun g z => nomatch z⟩ (.tup (st_of upd_same) (.cons (.int _) (.cons .non (.cons (.tup (st_of (en2 _ _ upd_same)) (.cons (.int _) .nil)) .nil))))
      · exact tl H4 ((ExB.of e3).trans e4) R4
    · rw [decide_eq_false hc, if_neg (by decide)]
      exact tl H3 (ExB.of e3) R3
  exact hcell H1 e1 hfv R1
theorem cut_to (ds : List PyData) (n : Nat) : cutD ds none (some (n : Int)) = ds.take n := by
  by_cases h : n ≤ ds.length
  · exact sl_to h
  · unfold cutD
    rw [HT.sIx_none, HT.sIx_nat, List.drop_zero, List.take_of_length_le (by omega), List.take_of_length_le (by omega)]
def spProg (K : PySem.W.Frag) : Sp := fun vs H Q _ => ∃ (r sa : Addr) (sn : List Int) (mv : V) (m : Mc) (n : Nat), vs = [.ref r, mv, .int (n : Int)] ∧ RowOk K H r sa sn ∧ Dp K H mv m.enc ∧ m.Ok ∧ n ≤ 50 ∧ ∀ v p H', ExB r H H' → RowOk K H' r sa sn → (∀ l ∈ p, Ln.Ok m l) → p.length ≤ n → Dp K H' v (progD p) → Q v H'
abbrev CProg (P : Program) (w : World) (K : PySem.W.Frag) (mg : Str → Option Value) (base : Heap) := Cal P w K mg base 4 "_law_program" ["row", "machine", "most"] (spProg K)
theorem ok_law_program (B : Bi mg) (D : Dfn K mg "_law_program" sLProgram ["row", "machine", "most"]) (C__law_taken : CTaken P w K mg base) (C__law_line : CLineD P w K mg base) : CProg P w K mg base := by
  refine D.ok scLProgram (fun vs H Q E h => ?_) (fun f cdv A outer s H vs Q E hr h => ?_)
  · obtain ⟨r, sa, sn, mv, m, n, rfl, _⟩ := h
    rfl
  obtain ⟨r, sa, sn, mv, m, n, rfl, R, hm, mok, hn, k⟩ := h
  refine ⟨_, (pss_cons (ps_set (i := 3) scLProgram.nd rfl (by first | exact Or.inl rfl | exact Or.inr rfl) (pe_tup pa_nil)) (pss_cons (ps_for PassesOwn.never rfl (pi_range1 rfl B.range (pa_cons (pe_cal C__law_taken hr (by omega) rfl (pa_cons (pv 0) (pa_cons (pe_op op_add (pv 2) pe_int) pa_nil))) pa_nil)) (pg_name (i := 4) scLProgram.nd rfl (by first | exact Or.inl rfl | exact Or.inr rfl)) (pss_cons (ps_set (i := 5) scLProgram.nd rfl (by first | exact Or.inl rfl | exact Or.inr rfl) (pe_cal C__law_line hr (by omega) rfl (pa_cons (pv 0) (pa_cons (pv 1) pa_nil)))) (pss_one (ps_set (i := 3) scLProgram.nd rfl (by first | exact Or.inl rfl | exact Or.inr rfl) (pe_op op_catA (pv 3) (pe_ifExp (pt_cmpR op_eq (pe_cal C__law_taken hr (by omega) rfl (pa_cons (pv 0) (pa_cons pe_int pa_nil))) pe_int (by first | exact nomark _ | rfl)) (pe_tup (pa_cons (pv 5) (pa_cons (pv 5) pa_nil))) (pe_tup (pa_cons (pv 5) pa_nil)))))))) (pss_one (ps_ret (pe_slice sl_tupA (pv 3) po_none (po_some (pv 2))))))), ?_⟩
  refine qd_asg (K := K) (ed_tup ead_nil (by simp)) fun v3 H1 e1 h3 => ?_
  have R1 := R.mono e1
  have hm1 := dmono e1 _ _ hm
  refine ⟨_, rfl, _, rfl, _, _, rfl, rfl, r, sa, sn, _, rfl, by omega, by omega, R1, fun t H2 e2 R2 t0 t1 => ?_⟩
  obtain ⟨q, rfl⟩ : ∃ q : Nat, t = (q : Int) := ⟨t.toNat, by omega⟩
  refine ⟨_, rfl, by omega, by omega, ?_⟩
  rw [Int.toNat_natCast]
  have hm2 := tmono (e2.tk R1.noTup) _ _ m.noL hm1
  have h32 := tmono (e2.tk R1.noTup) _ _ (progD_noL []) h3
  refine for_range (lo := 0) (n := q) (fun i σ' H' => ∃ v p x4 x5, σ' = [some (.ref r), some mv, some (.int (n : Int)), some v, x4, x5] ∧ ExB r H2 H' ∧ RowOk K H' r sa sn ∧ (∀ l ∈ p, Ln.Ok m l) ∧ p.length ≤ 2 * i ∧ Dp K H' v (progD p)) ⟨v3, [], none, none, rfl, ExB.of (Ex.refl _), R2, (fun _ h => by cases h), Nat.le_refl _, h32⟩ (fun i σ' H' hi p => ?_) (fun σ' H' p => ?_)
  · obtain ⟨v, p, x4, x5, rfl, e', R', ok, pl, hv⟩ := p
    have hm' := tmono (e'.tk R2.noTup) _ _ m.noL hm2
    refine qan ⟨_, rfl, _, rfl, r, sa, sn, mv, m, rfl, R', hm', mok, fun lv l H3 e3 R3 lok hl => ?_⟩
    have hv3 := tmono (e3.tk R'.noTup) _ _ (progD_noL p) hv
    refine tas ⟨_, rfl, ?_⟩
    refine ⟨_, rfl, r, sa, sn, 3, rfl, by decide, by decide, R3, fun d H4 e4 R4 d0 d1 => ⟨rfl, _, rfl, ?_⟩⟩
    have hv4 := tmono (e4.tk R3.noTup) _ _ (progD_noL p) hv3
    have hl4 := tmono (e4.tk R3.noTup) _ _ l.noL hl
    have e04 := e'.trans (e3.trans e4)
    dsimp only
    have fin : ∀ (ls : List Ln) (wv : V) H5, Ex H4 H5 → (∀ x ∈ ls, Ln.Ok m x) → ls.length ≤ 2 → Dp K H5 wv (progD ls) → ∀ (Q2 : VK), (∀ v' H6, Ex H5 H6 → Dp K H6 v' (progD (p ++ ls)) → Q2 v' H6) → rCatA K v wv H5 Q2 := fun ls wv H5 e5 lk l2 hw Q2 q2 => by
      have c := ed_cat (K := K) (σ := []) (H := H5) (ta := tC v) (tb := tC wv) (ed_ev ev_c (dmono e5 _ _ hv4)) (ed_ev ev_c hw) (by rw [List.length_map, List.length_map]; omega)
      exact c H5 (Ex.refl _) Q2 fun v' H6 e6 hv' => q2 v' H6 e6 (by unfold progD; rw [List.map_append]; exact hv')
    have step : ∀ (ls : List Ln) v' H6, Ex H4 H6 → (∀ x ∈ ls, Ln.Ok m x) → ls.length ≤ 2 → Dp K H6 v' (progD (p ++ ls)) → ExB r H2 H6 ∧ RowOk K H6 r sa sn ∧ (∀ x ∈ p ++ ls, Ln.Ok m x) ∧ (p ++ ls).length ≤ 2 * (i + 1) ∧ Dp K H6 v' (progD (p ++ ls)) := fun ls v' H6 e6 lk l2 hv' =>
      ⟨e04.trans (ExB.of e6), R4.mono e6, fun x hx => (List.mem_append.mp hx).elim (ok x) (lk x), by rw [List.length_append]; omega, hv'⟩
    split
    · refine (ed_tup (K := K) (ead_cons (ed_var (i := 5) rfl hl4) (ead_cons (ed_var (i := 5) rfl hl4) ead_nil)) (by simp)) H4 (Ex.refl _) _ fun wv H5 e5 hw => ?_
      refine fin [l, l] wv H5 e5 (fun x hx => ?_) (by simp) hw _ fun v' H6 e6 hv' => ⟨v', _, _, _, rfl, step [l, l] v' H6 (e5.trans e6) (fun x hx => ?_) (by simp) hv'⟩ <;>
      · rcases List.mem_cons.mp hx with rfl | hx
        · exact lok
        · rw [List.mem_singleton.mp hx]; exact lok
    · refine (ed_tup (K := K) (ead_cons (ed_var (i := 5) rfl hl4) ead_nil) (by simp)) H4 (Ex.refl _) _ fun wv H5 e5 hw => ?_
      exact fin [l] wv H5 e5 (fun x hx => by rw [List.mem_singleton.mp hx]; exact lok) (by simp) hw _ fun v' H6 e6 hv' => ⟨v', _, _, _, rfl, step [l] v' H6 (e5.trans e6) (fun x hx => by rw [List.mem_singleton.mp hx]; exact lok) (by simp) hv'⟩
  · obtain ⟨v, p, x4, x5, rfl, e', R', ok, pl, hv⟩ := p
    refine sd_ret (K := K) (ed_sl (ed_var (i := 3) rfl hv) eo_none (eo_some (ev_var (i := 2) rfl))) fun v' H3 e3 hv' => ?_
    have pe : cutD (p.map Ln.enc) none (some (n : Int)) = (p.take n).map Ln.enc := by
      rw [cut_to, List.map_take]
    refine k v' (p.take n) H3 (((ExB.of e1).trans (e2.trans e')).trans (ExB.of e3)) (R'.mono e3) (fun l hl => ok l (List.mem_of_mem_take hl)) (by rw [List.length_take]; omega) ?_
    unfold progD
    rw [← pe]
    exact hv'
/-! ### alike -/
def AOk : Nat → PyData → Prop
  | 0, _ => False
  | _ + 1, .none => True
  | _ + 1, .bool _ => True
  | _ + 1, .int _ => True
  | _ + 1, .str x => PyData.strOk x = true
  | n + 1, .tuple ds => ds.length ≤ 1000 ∧ ∀ e ∈ ds, AOk n e
  | _ + 1, _ => False
theorem AOk.mono : ∀ {n k : Nat} {d : PyData}, n ≤ k → AOk n d → AOk k d
  | n + 1, k + 1, .none, _, _ => trivial
  | n + 1, k + 1, .bool _, _, _ => trivial
  | n + 1, k + 1, .int _, _, _ => trivial
  | n + 1, k + 1, .str x, _, h => h
  | n + 1, k + 1, .tuple ds, hk, h => ⟨h.1, fun e he => AOk.mono (n := n) (by omega) (h.2 e he)⟩
theorem aok_tm : ∀ (t : Tm), AOk t.dep t.enc
  | .c n => trivial
  | .f1 g a => ⟨by simp, fun e he => by
      have hp := a.dep_pos
      rcases List.mem_cons.mp he with q | he
      · rw [q]
        show AOk a.dep (.int _)
        obtain ⟨k, hk⟩ : ∃ k, a.dep = k + 1 := ⟨a.dep - 1, by omega⟩
        rw [hk]
        trivial
      · rw [List.mem_singleton.mp he]
        exact aok_tm a⟩
  | .f2 g a b => ⟨by simp, fun e he => by
      have hp := a.dep_pos
      show AOk (max a.dep b.dep) e
      rcases List.mem_cons.mp he with q | he
      · rw [q]
        obtain ⟨k, hk⟩ : ∃ k, max a.dep b.dep = k + 1 := ⟨max a.dep b.dep - 1, by omega⟩
        rw [hk]
        trivial
      rcases List.mem_cons.mp he with q | he
      · rw [q]
        exact (aok_tm a).mono (Nat.le_max_left _ _)
      · rw [List.mem_singleton.mp he]
        exact (aok_tm b).mono (Nat.le_max_right _ _)⟩
def spAlike (K : PySem.W.Frag) (n : Nat) : Sp := fun vs H Q _ => ∃ (a b : V) (d : PyData), vs = [a, b] ∧ Dp K H a d ∧ Dp K H b d ∧ AOk n d ∧ ∀ H', Ex H H' → Q (.bl true) H'
theorem ev_alike {σ : L2.St} {H : Hp} {ta tb : TE} {E : XK} {d : PyData} {n : Nat} (ok : AOk n d) (ha : EvD K ta σ H d) (hb : EvD K tb σ H d) : Ev (tCall (spAlike K n) [] E (tCons ta (tCons tb tNil))) σ H (.bl true) :=
  ev_sp (ead_cons ha (ead_cons hb ead_nil)) fun H1 vs e hvs Q q => by
    cases hvs with
    | cons h0 t0 => cases t0 with
      | cons h1 t1 => cases t1; exact ⟨_, _, d, rfl, h0, h1, ok, q⟩
theorem kL (d : PyData) : kitB (tyD d) "list" = some (match d with | .list _ => true | _ => false) := by cases d <;> (simp only [tyD]; decide +kernel)
theorem kS (d : PyData) : kitB (tyD d) "str" = some (match d with | .str _ => true | _ => false) := by cases d <;> (simp only [tyD]; decide +kernel)
abbrev CAlike (P : Program) (w : World) (K : PySem.W.Frag) (mg : Str → Option Value) (base : Heap) (n : Nat) := Cal P w K mg base (n + 1) "_law_alike" ["found", "due"] (spAlike K n)
theorem ok_law_alike (B : Bi mg) (D : Dfn K mg "_law_alike" sLAlike ["found", "due"]) : ∀ n, CAlike P w K mg base n
  | 0 => D.none fun vs H Q E h => by
    obtain ⟨a, b, d, _, _, _, h, _⟩ := h
    cases d <;> exact h
  | n + 1 => by
    have C__law_alike := ok_law_alike B D n
    refine D.ok scLAlike (fun vs H Q E h => ?_) (fun f cdv A outer s H vs Q E hr h => ?_)
    · obtain ⟨a, b, d, rfl, _⟩ := h
      rfl
    obtain ⟨a, b, d, rfl, ha, hb, ok, k⟩ := h
    have hu := hr.un
    refine ⟨_, (pss_cons (ps_if (pt_val (pe_callB call_isiT (by rfl) B.isinstance (by decide +kernel) (pa_cons (pv 1) (pa_cons (pe_tup (pa_cons (pe_bltn (v := .ty "tuple") (by rfl) B.tuple (by decide +kernel) rfl) (pa_cons (pe_bltn (v := .ty "list") (by rfl) B.list (by decide +kernel) rfl) pa_nil))) pa_nil)))) (pss_cons (ps_if (PW.pt (pw_or (pt_not (pt_val (pe_callB call_isiT (by rfl) B.isinstance (by decide +kernel) (pa_cons (pv 0) (pa_cons (pe_tup (pa_cons (pe_bltn (v := .ty "tuple") (by rfl) B.tuple (by decide +kernel) rfl) (pa_cons (pe_bltn (v := .ty "list") (by rfl) B.list (by decide +kernel) rfl) pa_nil))) pa_nil))))) (pw_or1 (pt_cmpR op_ne (pe_callB call_isi (by rfl) B.isinstance (by decide +kernel) (pa_cons (pv 0) (pa_cons (pe_bltn (v := .ty "list") (by rfl) B.list (by decide +kernel) rfl) pa_nil))) (pe_callB call_isi (by rfl) B.isinstance (by decide +kernel) (pa_cons (pv 1) (pa_cons (pe_bltn (v := .ty "list") (by rfl) B.list (by decide +kernel) rfl) pa_nil))) (by first | exact nomark _ | rfl))))) (pss_one (ps_ret pe_bl)) pss_nil) (pss_cons (ps_if (pt_cmpR op_ne (pe_callB call_lenq (by rfl) B.len PySem.boot_len (pa_cons (pv 0) pa_nil)) (pe_callB call_lenq (by rfl) B.len PySem.boot_len (pa_cons (pv 1) pa_nil)) (by first | exact nomark _ | rfl)) (pss_one (ps_ret pe_bl)) pss_nil) (pss_one (ps_ret (pe_cmpR (op_eqD (hr.units)) (pe_lc (own := [("k", 2)]) (g := (gName 2)) rfl scLAlike.nd (pi_range1 rfl B.range (pa_cons (pe_callB call_lenq (by rfl) B.len PySem.boot_len (pa_cons (pv 1) pa_nil)) pa_nil)) (blkOk_by (N := NLAlike) (sc := defScope sLAlike) (by decide +kernel)) (fun _ _ _ _ _ => (pg_name (i := 2) scLAlike.nd rfl (by first | exact Or.inl rfl | exact Or.inr rfl))) (fun _ _ _ _ _ => (pts_one (pt_not (pt_val (pe_cal C__law_alike hr (by omega) rfl (pa_cons (pe_ix (show IxR _ (rIxT K) from ix_tup) (pv 0) (pv 2) (fun _ _ => rfl)) (pa_cons (pe_ix (show IxR _ (rIxT K) from ix_tup) (pv 1) (pv 2) (fun _ _ => rfl)) pa_nil))))))) (fun _ _ _ _ _ => (pv 2))) (pe_lst pa_nil) (by first | exact nomark _ | rfl)))))) pss_nil) (pss_cons (ps_if (PW.pt (pw_or (pt_cmpR op_isN (pv 1) pe_non (by first | exact nomark _ | rfl)) (pw_or1 (pt_val (pe_callB call_isi (by rfl) B.isinstance (by decide +kernel) (pa_cons (pv 1) (pa_cons (pe_bltn (v := .ty "str") (by rfl) B.str (by decide +kernel) rfl) pa_nil))))))) (pss_one (ps_ret (pe_and (pe_cmpR (op_eqD (hr.units)) (pv 0) (pv 1) (by first | exact nomark _ | rfl)) (pe_one (pe_cmpR op_eq (pe_callB call_isi (by rfl) B.isinstance (by decide +kernel) (pa_cons (pv 0) (pa_cons (pe_bltn (v := .ty "str") (by rfl) B.str (by decide +kernel) rfl) pa_nil))) (pe_callB call_isi (by rfl) B.isinstance (by decide +kernel) (pa_cons (pv 1) (pa_cons (pe_bltn (v := .ty "str") (by rfl) B.str (by decide +kernel) rfl) pa_nil))) (by first | exact nomark _ | rfl)))))) pss_nil) (pss_one (ps_ret (pe_and (pe_callB call_isi (by rfl) B.isinstance (by decide +kernel) (pa_cons (pv 0) (pa_cons (pe_bltn (v := .ty "int") (by rfl) B.int (by decide +kernel) rfl) pa_nil))) (pe_and (pe_cmpR op_eq (pe_callB call_isi (by rfl) B.isinstance (by decide +kernel) (pa_cons (pv 0) (pa_cons (pe_bltn (v := .ty "bool") (by rfl) B.bool (by decide +kernel) rfl) pa_nil))) (pe_callB call_isi (by rfl) B.isinstance (by decide +kernel) (pa_cons (pv 1) (pa_cons (pe_bltn (v := .ty "bool") (by rfl) B.bool (by decide +kernel) rfl) pa_nil))) (by first | exact nomark _ | rfl)) (pe_one (pe_cmpR (op_eqD (hr.units)) (pv 0) (pv 1) (by first | exact nomark _ | rfl))))))))), ?_⟩
    have xa : ∀ {H1 : Hp}, Ex H H1 → EvD K (tVar 0) [some a, some b, none] H1 d := fun e => ed_var rfl (dmono e _ _ ha)
    have xb : ∀ {H1 : Hp}, Ex H H1 → EvD K (tVar 1) [some a, some b, none] H1 d := fun e => ed_var rfl (dmono e _ _ hb)
    cases d with
    | none =>
      refine q_when (et_B (ev_isi2 (xb (Ex.refl _)) (kT _) (kL _))) (fun z => by simp [isT] at z) (fun _ H1 e1 => ?_)
      refine q_if (et_or (b := false) (et_test (ev_isN (xb e1))) fun z => by cases z) (fun _ H2 e2 => ?_) (fun z => by simp [isNon] at z)
      have e12 := e1.trans e2
      refine s_ret (ev_is (ev_andV (ev_eqD (xa e12) (xb e12) rfl rfl) fun _ => ev_op (ev_isi (xa e12) (kS _)) (ev_isi (xb e12) (kS _)) (rv_eq rfl)) ?_) fun H3 e3 => k H3 (e12.trans e3)
      simp [PyData.eqv]
    | list l => exact ok.elim
    | dict l => exact ok.elim
    | tuple ds =>
      refine q_if (et_B (ev_isi2 (xb (Ex.refl _)) (kT _) (kL _))) (fun _ H1 e1 => ?_) (fun z => by simp [isT] at z)
      refine qd_pass (et_or (et_not (et_B (ev_isi2 (xa e1) (kT _) (kL _)))) fun _ => et_test (ev_op (ev_isi (xa e1) (kL _)) (ev_isi (xb e1) (kL _)) (rv_ne rfl))) rfl fun H2 e2 => ?_
      have e12 := e1.trans e2
      refine qd_pass (et_test (ev_op (ev_lenT (xa e12)) (ev_lenT (xb e12)) (rv_ne rfl))) (by simp) fun H3 e3 => ?_
      have e13 := e12.trans e3
      have z := ok.1
      refine s_ret (ev_is (ev_eqD (K := K) (e1 := .list []) (e2 := .list []) (ed_is (ed_lcRg (n := ds.length) (fun _ => false) (fun i => .int (i : Int)) (ed_int (ev_lenT (xb e13))) (by omega) (fun _ _ => rfl) fun i H4 e4 hi => ⟨et_not (et_B (ev_alike (d := ds[i]) (ok.2 _ (List.getElem_mem hi)) ?_ ?_)), fun z => by cases z⟩) (by rw [givenD_nil])) (ed_lst ead_nil (by simp)) rfl rfl) rfl) fun H4 e4 => k H4 (e13.trans e4)
      · exact ed_ix (ed_var rfl (dmono (e13.trans e4) _ _ ha)) (ed_int (ev_var rfl)) (atD (List.getElem?_eq_getElem hi))
      · exact ed_ix (ed_var rfl (dmono (e13.trans e4) _ _ hb)) (ed_int (ev_var rfl)) (atD (List.getElem?_eq_getElem hi))
    | str x =>
      have hs : SeqAt.shaped (.str x) = true := by
        show (PyData.canLay0 (.str x) && decide (PyData.depth (.str x) ≤ 64)) = true
        rw [show PyData.canLay0 (.str x) = PyData.strOk x by simp [PyData.canLay0], show PyData.strOk x = true from ok]
        rfl
      refine q_when (et_B (ev_isi2 (xb (Ex.refl _)) (kT _) (kL _))) (fun z => by simp [isT] at z) (fun _ H1 e1 => ?_)
      refine q_if (et_or (et_test (ev_isN (xb e1))) fun _ => et_B (ev_isi (xb e1) (kS _))) (fun _ H2 e2 => ?_) (fun z => by simp [isNon] at z)
      have e12 := e1.trans e2
      refine s_ret (ev_is (ev_andV (ev_eqD (xa e12) (xb e12) hs hs) fun _ => ev_op (ev_isi (xa e12) (kS _)) (ev_isi (xb e12) (kS _)) (rv_eq rfl)) ?_) fun H3 e3 => k H3 (e12.trans e3)
      simp [PyData.eqv]
    | bool x =>
      refine q_when (et_B (ev_isi2 (xb (Ex.refl _)) (kT _) (kL _))) (fun z => by simp [isT] at z) (fun _ H1 e1 => ?_)
      refine q_when (et_or (et_test (ev_isN (xb e1))) fun _ => et_B (ev_isi (xb e1) (kS _))) (fun z => by simp [isNon] at z) (fun _ H2 e2 => ?_)
      have e12 := e1.trans e2
      refine s_ret (ev_is (ev_andV (ev_isi (xa e12) (kI _)) fun _ => ev_andV (ev_op (ev_isi (xa e12) (kB _)) (ev_isi (xb e12) (kB _)) (rv_eq rfl)) fun _ => ev_eqD (xa e12) (xb e12) rfl rfl) ?_) fun H3 e3 => k H3 (e12.trans e3)
      simp [PyData.eqv, isI, isB]
    | int x =>
      refine q_when (et_B (ev_isi2 (xb (Ex.refl _)) (kT _) (kL _))) (fun z => by simp [isT] at z) (fun _ H1 e1 => ?_)
      refine q_when (et_or (et_test (ev_isN (xb e1))) fun _ => et_B (ev_isi (xb e1) (kS _))) (fun z => by simp [isNon] at z) (fun _ H2 e2 => ?_)
      have e12 := e1.trans e2
      refine s_ret (ev_is (ev_andV (ev_isi (xa e12) (kI _)) fun _ => ev_andV (ev_op (ev_isi (xa e12) (kB _)) (ev_isi (xb e12) (kB _)) (rv_eq rfl)) fun _ => ev_eqD (xa e12) (xb e12) rfl rfl) ?_) fun H3 e3 => k H3 (e12.trans e3)
      simp [PyData.eqv, isI, isB]
end
end Lb

set_option Elab.async false
set_option linter.all false
set_option maxRecDepth 100000
set_option maxHeartbeats 4000000
namespace Lb
open PySem L2 Evl PyProof.Rows PySem.W
/-! ### mirrors -/
/-- whether the last losses are those straight ahead -/
def hot (many at_ : Nat) (l : List Nat) : Bool := decide ((l.drop (l.length - many)).map (fun n : Nat => (n : Int)) = (List.range many).map fun i : Nat => (at_ : Int) - (many : Int) + (i : Int))
def everyMore (many at_ : Nat) (ls : List (List Nat)) : List (List Nat) := (ls.filter fun l => !hot many at_ l).map (· ++ [at_])
def everyL (many : Nat) : Nat → List (List Nat)
  | 0 => [[]]
  | n + 1 => everyL many n ++ everyMore many n (everyL many n)
theorem everyMore_len (many at_ : Nat) (ls : List (List Nat)) : (everyMore many at_ ls).length ≤ ls.length := by
  unfold everyMore
  rw [List.length_map]
  exact List.length_filter_le _ _
theorem everyL_len (many : Nat) : ∀ n, (everyL many n).length ≤ 2 ^ n
  | 0 => Nat.le_refl _
  | n + 1 => by
    have h := everyL_len many n
    have h2 := everyMore_len many n (everyL many n)
    rw [everyL, List.length_append, Nat.pow_succ]
    omega
theorem everyL_small (many : Nat) {n : Nat} (h : n ≤ 8) : (everyL many n).length ≤ 256 := Nat.le_trans (everyL_len many n) (by rw [show (256 : Nat) = 2 ^ 8 from rfl]; exact Nat.pow_le_pow_right (by decide) h)
theorem everyL_mem (many : Nat) : ∀ {n : Nat} {l : List Nat}, l ∈ everyL many n → l.length ≤ n ∧ ∀ x ∈ l, x < n
  | 0, l, h => by
    rw [List.mem_singleton.mp h]
    exact ⟨Nat.le_refl _, fun x hx => by cases hx⟩
  | n + 1, l, h => by
    rw [everyL] at h
    rcases List.mem_append.mp h with h | h
    · obtain ⟨h1, h2⟩ := everyL_mem many h
      exact ⟨by omega, fun x hx => by have := h2 x hx; omega⟩
    · obtain ⟨k, hk, rfl⟩ := List.mem_map.mp h
      obtain ⟨h1, h2⟩ := everyL_mem many (List.mem_filter.mp hk).1
      refine ⟨by simp; omega, fun x hx => ?_⟩
      rcases List.mem_append.mp hx with hx | hx
      · have := h2 x hx; omega
      · rw [List.mem_singleton.mp hx]; omega
/-! ### tuples of ints as data -/
def intsD (ns : List Int) : PyData := .tuple (ns.map PyData.int)
theorem lay_ints : ∀ ns : List Int, PyData.canLayAll0 (ns.map PyData.int) = true
  | [] => rfl
  | n :: ns => by
    rw [List.map_cons, PyData.canLayAll0, lay_ints ns]
    rfl
theorem depth_ints : ∀ ns : List Int, PyData.depthAll (ns.map PyData.int) = 0
  | [] => rfl
  | n :: ns => by
    rw [List.map_cons, PyData.depthAll, depth_ints ns]
    rfl
theorem eqv_ints : ∀ xs ys : List Int, PyData.eqvAll (xs.map PyData.int) (ys.map PyData.int) = decide (xs = ys)
  | [], [] => by simp [PyData.eqvAll]
  | [], _ :: _ => by simp [PyData.eqvAll]
  | _ :: _, [] => by simp [PyData.eqvAll]
  | x :: xs, y :: ys => by
    rw [List.map_cons, List.map_cons, PyData.eqvAll, eqv_ints xs ys, PyData.eqv, Bool.eq_iff_iff]
    simp
theorem intsD_shaped (ns : List Int) : SeqAt.shaped (intsD ns) = true := by
  have h2 := depth_ints ns
  unfold SeqAt.shaped intsD
  rw [Bool.and_eq_true]
  refine ⟨by rw [PyData.canLay0]; exact lay_ints ns, decide_eq_true ?_⟩
  rw [PyData.depth]
  omega
theorem intsD_eqv (a b : List Int) : PyData.eqv (intsD a) (intsD b) = decide (a = b) := by
  unfold intsD
  rw [PyData.eqv]
  exact eqv_ints a b
theorem natsD_intsD (ns : List Nat) : natsD ns = intsD (ns.map fun n : Nat => (n : Int)) := by
  unfold natsD intsD
  rw [List.map_map]
  rfl
theorem cutD_last (ds : List PyData) (many : Nat) (h : 1 ≤ many) : cutD ds (some (-(many : Int))) none = ds.drop (ds.length - many) := by
  unfold cutD
  rw [show HT.sIx ds.length 0 (some (-(many : Int))) = ds.length - many by
    show (if -(many : Int) < 0 then (-(many : Int) + (ds.length : Int)).toNat else _) = _
    rw [if_pos (by omega)]
    omega]
  rw [show HT.sIx ds.length ds.length none = ds.length from rfl]
  rw [List.take_of_length_le (by rw [List.length_drop]; omega)]
section
variable {P : Program} {w : World} {K : PySem.W.Frag} {mg : Str → Option Value} {base : Heap}
theorem ev_neg {σ : L2.St} {H : Hp} {ta : TE} {i : Int} (h : Ev ta σ H (.int i)) : Ev (tUn (rU fun i => .int (-i)) ta) σ H (.int (-i)) := fun H1 e Q q => h H1 e _ fun H2 e2 => ⟨i, rfl, q H2 e2⟩
/-- tuple(range(a, b)) -/
theorem ed_tupRg2 {σ : L2.St} {H : Hp} {ta tb : TE} {a b : Int} (ha : Ev ta σ H (.int a)) (hb : Ev tb σ H (.int b)) (h1 : -1000 ≤ a) (h2 : a ≤ 1000) (h3 : -1000 ≤ b) (h4 : b ≤ 1000) :
    EvD K (tTupRg (tRg2 ta tb)) σ H (intsD ((List.range (b - a).toNat).map fun i : Nat => a + (i : Int))) := fun H1 e Q q =>
  ha H1 e _ fun H2 e2 => hb H2 (e.trans e2) _ fun H3 e3 => ⟨a, b, rfl, rfl, ⟨by omega, by omega, by omega, by omega, by omega⟩, fun p hp => q _ _ ((e2.trans e3).trans (Ex.new hp)) (by
    unfold intsD
    refine .tup (st_of upd_same) ?_
    unfold rgV
    rw [List.map_map]
    exact all_map fun x _ => .int _)⟩
/-- l + b, both lists that grow -/
theorem ev_cat2 {σ : L2.St} {H H0 H1 : Hp} {ta tb : TE} {l b : Addr} {ds es : List PyData} (g : Gr K H0 H l ds) (gb : Gr K H1 H b es) (ha : Ev ta σ H (.ref l)) (hb : Ev tb σ H (.ref b)) (hz : ds.length + es.length ≤ 100000) {Q : VK}
    (k : ∀ p H', Gr K H0 H' p (ds ++ es) → Ex H H' → Q (.ref p) H') : tOp rCat ta tb σ H Q := by
  obtain ⟨f, o, xs, h1, h2⟩ := g
  obtain ⟨_, _, ys, j1, j2⟩ := gb
  refine ha H (Ex.refl _) _ fun H2 e2 => hb H2 e2 _ fun H3 e3 => ?_
  have e23 := e2.trans e3
  refine ⟨l, b, xs, ys, rfl, rfl, e23 _ _ h1, e23 _ _ j1, by rw [h2.len, j2.len]; exact sz_of hz, fun p hp => ?_⟩
  have en := Ex.new (o := .lst (xs ++ ys)) hp
  exact k p _ ⟨fresh_back (o.trans e23) hp, (o.trans e23).trans en, _, upd_same, dmonoAll en _ _ ((dmonoAll e23 _ _ h2).app (dmonoAll e23 _ _ j2))⟩ (e23.trans en)
/-- i = [..]: a list that grows -/
theorem q_newG {σ : L2.St} {H : Hp} {D : Ends} {tz : TS} {ta : TA} {ds : List PyData} {i : Nat} (h : EvAD K ta σ H ds) (hz : ds.length ≤ 100000) (k : ∀ l H', Gr K H H' l ds → Ex H H' → tz D (σ.set i (some (.ref l))) H') : tSeq (tAsg (tLst ta) (gName i)) tz D σ H :=
  h H (Ex.refl _) _ fun vs H1 e1 hv => ⟨by rw [hv.len]; exact sz_of hz, fun l hl => by
    have en := Ex.new (o := .lst vs) hl
    exact k l _ ⟨fresh_back e1 hl, e1.trans en, vs, upd_same, dmonoAll en _ _ hv⟩ (e1.trans en)⟩
theorem Gr.dp {H0 H : Hp} {l : Addr} {ds : List PyData} (g : Gr K H0 H l ds) : Dp K H (.ref l) (.list ds) := by
  obtain ⟨f, o, xs, h1, h2⟩ := g
  exact .lst (sq_of h1) h2
theorem noLs_natsL (ls : List (List Nat)) : noLs (ls.map natsD) = true := noLs_iff.mpr fun d hd => by
  obtain ⟨l, _, rfl⟩ := List.mem_map.mp hd
  exact natsD_noL l
theorem sd_forG {σ : L2.St} {H : Hp} {D : Ends} {tl : TE} {tu : TS} {g : TG} {l : Addr} {xs : List V} (h : Ev tl σ H (.ref l)) (hl : H l = some (.lst xs))
    (k : ∀ H1, Ex H H1 → ∃ Pv : Nat → L2.St → Hp → Prop, Pv 0 σ H1 ∧ (∀ i σ' H', Pv i σ' H' → H' l = some (.lst xs)) ∧
      (∀ i x σ' H', xs[i]? = some x → Pv i σ' H' → g x σ' H' fun σ2 H2 => tu { D with nx := Pv (i + 1), ct := Pv (i + 1), bk := D.nx } σ2 H2) ∧ ∀ σ' H', Pv xs.length σ' H' → D.nx σ' H') : tFor (iList K tl) g tu D σ H := h H (Ex.refl H) _ fun H1 e => by
  obtain ⟨Pv, h0, hk, hs, hd⟩ := k H1 e
  exact ⟨l, rfl, ⟨xs, sq_of (e _ _ hl)⟩, for_list (xs := xs) Pv h0 (fun i σ' H' _ p => sq_of (hk i σ' H' p)) (fun i x σ' H' hi p => hs i x σ' H' hi p) hd⟩
def spEveryLoss (K : PySem.W.Frag) : Sp := fun vs H Q _ => ∃ (n many : Nat), vs = [.int (n : Int), .int (many : Int)] ∧ n ≤ 8 ∧ 1 ≤ many ∧ many ≤ 10 ∧ ∀ l H', Gr K H H' l ((everyL many n).map natsD) → Q (.ref l) H'
abbrev CEveryLoss (P : Program) (w : World) (K : PySem.W.Frag) (mg : Str → Option Value) (base : Heap) := Cal P w K mg base 1 "_law_every_loss" ["size", "many"] (spEveryLoss K)
end
end Lb

set_option Elab.async false
set_option linter.all false
set_option maxRecDepth 100000
set_option maxHeartbeats 4000000
namespace Lb
open PySem L2 Evl PyProof.Rows
/-! ### methods, classes -/
def MetC (P : Program) (w : World) (K : PySem.W.Frag) (mg : Str → Option Value) (base : Heap) (k : Nat) (C : Addr) (m : Str) (ps : List Str) (sp : Sp) : Prop :=
  ∃ f fd, Cls K C ∧ Meth K C m f ∧ FnOk P w K mg base CX0 k f fd ps sp ∧ Binds K fd ps []
def MakC (P : Program) (w : World) (K : PySem.W.Frag) (mg : Str → Option Value) (base : Heap) (k : Nat) (x : Str) (C : Addr) (ps : List Str) (sp : Sp) (dvs : List V) : Prop :=
  ∃ f fd ds, Mk K C f ∧ FnOk P w K mg base CX0 k f fd ps sp ∧ mg x = some (.ref C) ∧ Binds K fd ps ds ∧ Vals dvs ds
def Mdn (K : PySem.W.Frag) (C : Addr) (m qual : Str) (st : Stmt) (ps : List Str) : Prop := ∃ f fd, Meth K C m f ∧ Fun K m qual st f fd ∧ Binds K fd ps []
/-- the class Store -/
structure StC (K : PySem.W.Frag) (mg : Str → Option Value) (C : Addr) : Prop where
  cl : Cls K C
  nA : NoAttr K C "at_first"
  nT : NoAttr K C "_terms"
  nD : NoAttr K C "_depths"
  nN : NoAttr K C "_numbers"
  nX : NoAttr K C "_texts"
  nP : NoAttr K C "_deepest"
  nC : NoAttr K C "_is_closed"
  nS : NoAttr K C "_shared"
  mgC : mg "Store" = some (.ref C)
  init : ∃ f fd ds, Mk K C f ∧ FunD K "__init__" "Store.__init__" (defArgs sStoreInit) (defBody sStoreInit) (defScope sStoreInit) [.int 8] [] f fd ∧ Binds K fd ["self", "cells", "deepest"] ds ∧ Vals [.int 8] ds
  made : Mdn K C "made" "Store.made" sStoreMade ["self", "function", "parts"]
  terms : Mdn K C "terms" "Store.terms" sStoreTerms ["self", "numbers"]
  texts : Mdn K C "texts" "Store.texts" sStoreTexts ["self", "numbers"]
  new_ : Mdn K C "_new" "Store._new" sStoreNew ["self", "depth", "term"]
theorem Mdn.ok {P : Program} {w : World} {K : PySem.W.Frag} {mg : Str → Option Value} {base : Heap} {C : Addr} {m qual : Str} {st : Stmt} {N ps : List Str} {k : Nat} {sp : Sp} (D : Mdn K C m qual st ps) (cl : Cls K C) (S : FnScope N ps (defScope st)) (len : ∀ vs H Q E, sp vs H Q E → vs.length = ps.length)
    (hb : ∀ (f : Addr) (cdv : Value) (A : Around) (outer : List Env) (s : Shared) (H : Hp) (vs : List V) (Q : VK) (E : XK), Room k (A.deeper (envOfC qual (defScope st) s.heap.objs.size f cdv)) → sp vs H Q E →
      ∃ t, PSs (cxOf CX0 P w K mg base N qual (defScope st) f cdv A outer s H E).nox (defBody st) t ∧ t { nx := fun _ H' => Q .non H', rt := Q } (start N vs) H) : MetC P w K mg base (k + 1) C m ps sp := by
  obtain ⟨f, fd, M, F, b⟩ := D
  exact ⟨f, fd, cl, M, F.ok S len (fun cdv A outer s H vs Q E hr h => hb f cdv A outer s H vs Q E hr h), b⟩
theorem pe_mtC {X : Cx} {k j : Nat} {C : Addr} {m : Str} {ps : List Str} {sp : Sp} {apos pos : Pos} {o e : Expr} {es : List Expr} {ta : TE} {t : TA} {pl : Sem Bool} (M : MetC X.prog X.w X.K X.mg X.base k C m ps sp) (hr : Room j X.A) (hk : k ≤ j) (he : PE X o ta) (ha : PA X (e :: es) t)
    (hst : starEach (e :: es) X.env = (false, eval e X.env) :: starEach es X.env := by rfl) (hpl : (backTo pos (starEach es X.env)).any (·.1) = false := by rfl)
    (ht : eval (.Call (.Attribute o m apos) (e :: es) [] pos) X.env = (do
      let ov ← eval o X.env
      standAt apos.atName
      let (f, first) ← holding [ov] (getMethod ov m pl)
      callWith pos f first (backTo pos (starEach (e :: es) X.env)) (backToKw pos (keywordEach [] X.env))) := by rfl) :
    PE X (.Call (.Attribute o m apos) (e :: es) [] pos) (tMeth C m sp [] E0 ta t) := by
  obtain ⟨f, fd, c, hm, F, b⟩ := M
  exact pe_meth (pl := pl) he c hm F (hr.mono hk) b .nil pass0 ha hst hpl ht
theorem pe_mkC {X : Cx} {k j : Nat} {C : Addr} {x : Str} {ps : List Str} {sp : Sp} {dvs : List V} {p pos : Pos} {e : Expr} {es : List Expr} {t : TA} (M : MakC X.prog X.w X.K X.mg X.base k x C ps sp dvs) (hr : Room j X.A) (hk : k + 1 ≤ j) (hg : Gl X x) (ha : PA X (e :: es) t)
    (hdb : (x == ("__debug__" : Str)) = false := by decide) (he : starEach (e :: es) X.env = (false, eval e X.env) :: starEach es X.env := by rfl) (hpl : (backTo pos (starEach es X.env)).any (·.1) = false := by rfl) :
    PE X (.Call (.Name x p) (e :: es) [] pos) (tMake C sp dvs E0 t) := by
  obtain ⟨f, fd, ds, M, F, hm, b, v⟩ := M
  exact pe_make M F (hr.mono hk) hg hm b v pass0 ha hdb he hpl
/-! ### the store, as data of Lean -/
theorem at0_app {ts us : List Tm} {p : Nat} (h : p < ts.length) : at0 (ts ++ us) p = at0 ts p := by
  unfold at0
  rw [List.getD_eq_getElem?_getD, List.getD_eq_getElem?_getD, List.getElem?_append_left h]
theorem at0_get {ts : List Tm} {p : Nat} (h : p < ts.length) : ts[p]? = some (at0 ts p) := by
  unfold at0
  rw [List.getD_eq_getElem?_getD, List.getElem?_eq_getElem h]
  rfl
theorem at0_map {ts us : List Tm} {ps : List Nat} (h : ∀ p ∈ ps, p < ts.length) : ps.map (at0 (ts ++ us)) = ps.map (at0 ts) := List.map_congr_left fun p hp => at0_app (h p hp)
theorem at0_inj {ts : List Tm} (nd : ts.Nodup) {p q : Nat} (hp : p < ts.length) (hq : q < ts.length) (e : at0 ts p = at0 ts q) : p = q := by
  have h1 := at0_get hp
  have h2 := at0_get hq
  rw [List.getElem?_eq_getElem hp] at h1
  rw [List.getElem?_eq_getElem hq] at h2
  have h3 : ts[p] = ts[q] := by rw [Option.some.inj h1, Option.some.inj h2, e]
  exact (List.getElem_inj nd).mp h3
theorem at0_maps_inj {ts : List Tm} (nd : ts.Nodup) : ∀ {ps qs : List Nat}, (∀ p ∈ ps, p < ts.length) → (∀ p ∈ qs, p < ts.length) → ps.map (at0 ts) = qs.map (at0 ts) → ps = qs
  | [], [], _, _, _ => rfl
  | [], _ :: _, _, _, e => by simp at e
  | _ :: _, [], _, _, e => by simp at e
  | p :: ps, q :: qs, h1, h2, e => by
    rw [List.map_cons, List.map_cons, List.cons.injEq] at e
    rw [at0_inj nd (h1 p List.mem_cons_self) (h2 q List.mem_cons_self) e.1, at0_maps_inj nd (fun x hx => h1 x (List.mem_cons_of_mem _ hx)) (fun x hx => h2 x (List.mem_cons_of_mem _ hx)) e.2]
theorem mk_inj {g h : Nat} {as bs : List Tm} (ha : 1 ≤ as.length ∧ as.length ≤ 2) (hb : 1 ≤ bs.length ∧ bs.length ≤ 2) (e : Tm.mk g as = Tm.mk h bs) : g = h ∧ as = bs := by
  match as, bs, ha, hb, e with
  | [], _, ha, _, _ => exact absurd ha.1 (by decide)
  | _ :: _ :: _ :: _, _, ha, _, _ => simp at ha
  | _, [], _, hb, _ => exact absurd hb.1 (by decide)
  | _, _ :: _ :: _ :: _, _, hb, _ => simp at hb
  | [a], [b], _, _, e => cases e; exact ⟨rfl, rfl⟩
  | [a], [b, c], _, _, e => cases e
  | [a, c], [b], _, _, e => cases e
  | [a, c], [b, d], _, _, e => cases e; exact ⟨rfl, rfl⟩
theorem mk_noC {g i : Nat} {as : List Tm} (ha : 1 ≤ as.length ∧ as.length ≤ 2) : Tm.mk g as ≠ .c i := by
  match as, ha with
  | [], ha => exact absurd ha.1 (by decide)
  | [a], _ => exact fun e => by cases e
  | [a, b], _ => exact fun e => by cases e
  | _ :: _ :: _ :: _, ha => simp at ha
theorem mk_md {g : Nat} {as : List Tm} (ha : 1 ≤ as.length ∧ as.length ≤ 2) : (Tm.mk g as).dep = md as + 1 := by
  match as, ha with
  | [], ha => exact absurd ha.1 (by decide)
  | [a], _ => show a.dep + 1 = max a.dep 0 + 1; omega
  | [a, b], _ => show max a.dep b.dep + 1 = max a.dep (max b.dep 0) + 1; omega
  | _ :: _ :: _ :: _, ha => simp at ha
theorem mk_of {m : Mc} {g : Nat} {as : List Tm} (mok : m.Ok) (hg : m.fns[g]? = some as.length) (h : ∀ a ∈ as, Tm.Of m a) : Tm.Of m (Tm.mk g as) := by
  have hr := mok.rd _ (List.mem_of_getElem? hg)
  match as, hg, h, hr with
  | [], _, _, hr => exact absurd hr.1 (by decide)
  | [a], hg, h, _ => exact .f1 hg (h a (by simp))
  | [a, b], hg, h, _ => exact .f2 hg (h a (by simp)) (h b (by simp))
  | _ :: _ :: _ :: _, _, _, hr => simp at hr
structure SInv (m : Mc) (ts : List Tm) (log : List (Nat × List Nat)) : Prop where
  len : ts.length = m.cells + log.length
  base : ∀ i, i < m.cells → ts[i]? = some (.c i)
  ent : ∀ j g ps, log[j]? = some (g, ps) → (∀ p ∈ ps, p < m.cells + j) ∧ m.fns[g]? = some ps.length ∧ ts[m.cells + j]? = some (Tm.mk g (ps.map (at0 ts)))
  nod : ts.Nodup
  of : ∀ t ∈ ts, Tm.Of m t ∧ t.dep ≤ 8
theorem SInv.start (m : Mc) : SInv m (start0 m.cells) [] := by
  refine ⟨by simp [start0], fun i hi => by simp [start0, hi], fun j g ps h => by simp at h, ?_, fun t ht => ?_⟩
  · unfold start0
    refine List.Pairwise.map _ (fun a b h => ?_) List.nodup_range
    exact fun e => h (Tm.c.inj e)
  · obtain ⟨i, hi, rfl⟩ := List.mem_map.mp ht
    exact ⟨.c (List.mem_range.mp hi), by show 1 ≤ 8; decide⟩
theorem SInv.snoc {m : Mc} (mok : m.Ok) {ts : List Tm} {log : List (Nat × List Nat)} (I : SInv m ts log) {g : Nat} {ps : List Nat} (hp : ∀ p ∈ ps, p < ts.length) (hg : m.fns[g]? = some ps.length) (hn : (g, ps) ∉ log) (hd : (Tm.mk g (ps.map (at0 ts))).dep ≤ 8) :
    SInv m (ts ++ [Tm.mk g (ps.map (at0 ts))]) (log ++ [(g, ps)]) := by
  have hr := mok.rd _ (List.mem_of_getElem? hg)
  have hl : 1 ≤ (ps.map (at0 ts)).length ∧ (ps.map (at0 ts)).length ≤ 2 := by rw [List.length_map]; exact hr
  have tn : Tm.mk g (ps.map (at0 ts)) ∉ ts := fun h => by
    obtain ⟨i, hi⟩ := List.getElem?_of_mem h
    have il := (List.getElem?_eq_some_iff.mp hi).1
    by_cases hc : i < m.cells
    · rw [I.base i hc] at hi
      exact mk_noC hl (Option.some.inj hi).symm
    · have jl : i - m.cells < log.length := by have := I.len; omega
      obtain ⟨h1, h2, h3⟩ := I.ent (i - m.cells) log[i - m.cells].1 log[i - m.cells].2 (List.getElem?_eq_getElem jl)
      rw [show m.cells + (i - m.cells) = i by omega, hi] at h3
      have hr' := mok.rd _ (List.mem_of_getElem? h2)
      obtain ⟨e1, e2⟩ := mk_inj hl (by rw [List.length_map]; exact hr') (Option.some.inj h3)
      have e3 := at0_maps_inj I.nod hp (fun p hp => by have := h1 p hp; omega) e2
      refine hn ?_
      rw [e1, e3]
      exact List.getElem_mem jl
  refine ⟨by have := I.len; simp; omega, fun i hi => ?_, fun j g' ps' h => ?_, ?_, fun t ht => ?_⟩
  · rw [List.getElem?_append_left (by have := I.len; omega)]
    exact I.base i hi
  · by_cases hj : j < log.length
    · rw [List.getElem?_append_left hj] at h
      obtain ⟨h1, h2, h3⟩ := I.ent j g' ps' h
      refine ⟨h1, h2, ?_⟩
      rw [List.getElem?_append_left (by have := I.len; omega), at0_map fun p hp => by have := h1 p hp; have := I.len; omega]
      exact h3
    · have ej : j = log.length := by
        have := (List.getElem?_eq_some_iff.mp h).1
        simp at this
        omega
      subst ej
      rw [List.getElem?_append_right (Nat.le_refl _), Nat.sub_self] at h
      cases h
      refine ⟨fun p hq => by have := hp p hq; have := I.len; omega, hg, ?_⟩
      rw [at0_map hp, ← I.len, List.getElem?_append_right (Nat.le_refl _), Nat.sub_self]
      rfl
  · rw [List.nodup_append]
    refine ⟨I.nod, List.pairwise_singleton _ _, fun a ha b hb e => ?_⟩
    rw [List.mem_singleton.mp hb] at e
    exact tn (e ▸ ha)
  · rcases List.mem_append.mp ht with ht | ht
    · exact I.of t ht
    · rw [List.mem_singleton.mp ht]
      refine ⟨mk_of mok (by rw [List.length_map]; exact hg) fun a ha => ?_, hd⟩
      obtain ⟨p, hq, rfl⟩ := List.mem_map.mp ha
      exact (I.of _ (List.mem_of_getElem? (at0_get (hp p hq)))).1
/-! ### the dict of numbers -/
def kOf (e : Nat × List Nat) : List NI := [.inl (.inl (e.1 : Int)), .inr (e.2.map fun n : Nat => .inl (n : Int))]
theorem kOf_D (g : Nat) (ps : List Nat) : keyD (kOf (g, ps)) = .tuple [.int (g : Int), natsD ps] := by
  unfold keyD kOf natsD
  simp [niD, kD]
theorem nats_inj : ∀ {a b : List Nat}, (a.map fun n : Nat => (Sum.inl (n : Int) : Key)) = b.map (fun n : Nat => (Sum.inl (n : Int) : Key)) → a = b
  | [], [], _ => rfl
  | [], _ :: _, e => by simp at e
  | _ :: _, [], e => by simp at e
  | x :: a, y :: b, e => by
    rw [List.map_cons, List.map_cons, List.cons.injEq] at e
    have e1 : (x : Int) = (y : Int) := Sum.inl.inj e.1
    rw [nats_inj e.2, show x = y by omega]
theorem kOf_inj {a b : Nat × List Nat} (h : kOf a = kOf b) : a = b := by
  obtain ⟨g, ps⟩ := a
  obtain ⟨g', ps'⟩ := b
  unfold kOf at h
  rw [List.cons.injEq, List.cons.injEq] at h
  have e1 : (g : Int) = (g' : Int) := Sum.inl.inj (Sum.inl.inj h.1)
  have e2 := nats_inj (Sum.inr.inj h.2.1)
  have e3 : ps = ps' := e2
  rw [show g = g' by omega, e3]
def ents (c : Nat) : List (Nat × List Nat) → List (List NI × V)
  | [] => []
  | e :: l => (kOf e, .int (c : Int)) :: ents (c + 1) l
theorem ents_len : ∀ (c : Nat) (l : List (Nat × List Nat)), (ents c l).length = l.length
  | _, [] => rfl
  | c, e :: l => by rw [ents, List.length_cons, List.length_cons, ents_len]
theorem ents_no {e : Nat × List Nat} : ∀ {c : Nat} {l : List (Nat × List Nat)}, e ∉ l → valV (ents c l) (kOf e) = none
  | _, [], _ => rfl
  | c, x :: l, h => by
    rw [ents, valV_neg fun z => h (by rw [show x = e from kOf_inj z]; exact List.mem_cons_self)]
    exact ents_no fun z => h (List.mem_cons_of_mem _ z)
theorem ents_in {e : Nat × List Nat} : ∀ {c : Nat} {l : List (Nat × List Nat)}, e ∈ l → ∃ j : Nat, l[j]? = some e ∧ valV (ents c l) (kOf e) = some (.int ((c + j : Nat) : Int))
  | _, [], h => by cases h
  | c, x :: l, h => by
    by_cases z : x = e
    · refine ⟨0, by rw [z]; rfl, ?_⟩
      rw [ents, valV_pos (by rw [z])]
      rfl
    · obtain ⟨j, h1, h2⟩ := ents_in (c := c + 1) (l := l) (by
        rcases List.mem_cons.mp h with h | h
        · exact absurd h.symm z
        · exact h)
      refine ⟨j + 1, h1, ?_⟩
      rw [ents, valV_neg fun q => z (kOf_inj q), h2, show c + 1 + j = c + (j + 1) by omega]
theorem ents_snoc (e : Nat × List Nat) : ∀ (c : Nat) (l : List (Nat × List Nat)), ents c (l ++ [e]) = ents c l ++ [(kOf e, .int ((c + l.length : Nat) : Int))]
  | c, [] => rfl
  | c, x :: l => by
    rw [List.cons_append, ents, ents, ents_snoc e (c + 1) l, List.cons_append, List.length_cons, show c + 1 + l.length = c + (l.length + 1) by omega]
theorem ents_put {e : Nat × List Nat} {c : Nat} {l : List (Nat × List Nat)} (h : e ∉ l) : putK (ents c l) (kOf e) (.int ((c + l.length : Nat) : Int)) = ents c (l ++ [e]) := by
  unfold putK
  rw [valV_any, ents_no h, ents_snoc]
  rfl
/-! ### the store, on the heap -/
structure SA where
  S : Addr
  tl : Addr
  dl : Addr
  nd : Addr
  xd : Addr
  hd : Addr
structure StF (fs : List (Str × V)) (s : SA) (af : V) : Prop where
  a : fs.lookup ("at_first" : Str) = some af
  t : fs.lookup ("_terms" : Str) = some (.ref s.tl)
  d : fs.lookup ("_depths" : Str) = some (.ref s.dl)
  n : fs.lookup ("_numbers" : Str) = some (.ref s.nd)
  x : fs.lookup ("_texts" : Str) = some (.ref s.xd)
  m1 : fs.lookup ("made" : Str) = none
  m2 : fs.lookup ("terms" : Str) = none
  m3 : fs.lookup ("texts" : Str) = none
  m4 : fs.lookup ("number" : Str) = none
  p : fs.lookup ("_deepest" : Str) = some (.int 8)
  c : fs.lookup ("_is_closed" : Str) = some (.bl false)
  h : fs.lookup ("_shared" : Str) = some (.ref s.hd)
  m5 : fs.lookup ("_new" : Str) = none
  hx : s.hd ≠ s.xd
def txE (ts : List Tm) (ns : List Nat) : List (Key × V) := ns.map fun n : Nat => ((Sum.inl (n : Int) : Key), V.str (at0 ts n).txt)
structure StoreAt (P : Program) (w : World) (K : PySem.W.Frag) (C : Addr) (H : Hp) (s : SA) (m : Mc) (ts : List Tm) (log : List (Nat × List Nat)) : Prop where
  ins : ∃ dx fs af, H s.S = some (.ins C dx fs) ∧ StF fs s af ∧ Dp K H af (.tuple (rangeD m.cells))
  tms : ∃ xs, H s.tl = some (.lst xs) ∧ DpAll K H xs (ts.map Tm.enc)
  dps : H s.dl = some (.lst (ts.map fun t => V.int (t.dep : Int)))
  nms : NDictW P w K [true, false] H s.nd (ents m.cells log)
  txs : ∃ ns : List Nat, H s.xd = some (.dK (txE ts ns)) ∧ ns.Nodup ∧ ∀ n ∈ ns, n < ts.length
  ne : s.tl ≠ s.dl
  inv : SInv m ts log
  shd : H s.hd = some (.dK [])
/-- all but the store's insides stays -/
def FrM (s : SA) (H H' : Hp) : Prop := ∀ b o, H b = some o → b ≠ s.tl → b ≠ s.dl → b ≠ s.nd → b ≠ s.xd → H' b = some o
theorem FrM.of {s : SA} {H H' : Hp} (e : Ex H H') : FrM s H H' := fun b o h _ _ _ _ => e b o h
theorem FrM.trans {s : SA} {H H' H'' : Hp} (a : FrM s H H') (b : FrM s H' H'') : FrM s H H'' := fun c o h h1 h2 h3 h4 => b c o (a c o h h1 h2 h3 h4) h1 h2 h3 h4
section
variable {P : Program} {w : World} {K : PySem.W.Frag} {mg : Str → Option Value} {base : Heap} {C : Addr} {H H' : Hp} {s : SA} {m : Mc} {ts : List Tm} {log : List (Nat × List Nat)}
theorem NDictW.mono {sh : List Bool} {d : Addr} {kvs : List (List NI × V)} (h : NDictW P w K sh H d kvs) (e : Ex H H') : NDictW P w K sh H' d kvs := h.keep (TK.of e) fun o ho => e d o ho
theorem StoreAt.mono (h : StoreAt P w K C H s m ts log) (e : Ex H H') : StoreAt P w K C H' s m ts log := by
  obtain ⟨⟨dx, fs, af, i1, i2, i3⟩, ⟨xs, t1, t2⟩, d, n, ⟨ns, x1, x2, x3⟩, ne, iv, shd⟩ := h
  exact ⟨⟨dx, fs, af, e _ _ i1, i2, dmono e _ _ i3⟩, ⟨xs, e _ _ t1, dmonoAll e _ _ t2⟩, e _ _ d, n.mono e, ⟨ns, e _ _ x1, x2, x3⟩, ne, iv, e _ _ shd⟩
theorem StoreAt.tk (h : StoreAt P w K C H s m ts log) (f : FrM s H H') : TK K H H' := fun a xs q => by
  obtain ⟨⟨dx, fs, af, i1, i2, i3⟩, ⟨ys, t1, t2⟩, d, n, ⟨ns, x1, x2, x3⟩, ne, iv, shd⟩ := h
  rcases q with q | q
  · have e1 : a ≠ s.tl := fun z => no_rd t1 (fun _ z => nomatch z) (fun _ _ z => nomatch z) xs (z ▸ q)
    have e2 : a ≠ s.dl := fun z => no_rd d (fun _ z => nomatch z) (fun _ _ z => nomatch z) xs (z ▸ q)
    have e3 : a ≠ s.nd := fun z => n.noTup xs (z ▸ q)
    have e4 : a ≠ s.xd := fun z => no_rd x1 (fun _ z => nomatch z) (fun _ _ z => nomatch z) xs (z ▸ q)
    refine Or.inl ?_
    rcases q with q | ⟨o, q⟩
    · exact Or.inl (f _ _ q e1 e2 e3 e4)
    · exact Or.inr ⟨o, f _ _ q e1 e2 e3 e4⟩
  · exact Or.inr q
theorem ev_fldS {σ : L2.St} {ta : TE} {a dx : Addr} {fs : List (Str × V)} {f : Str} {v : V} (h : H a = some (.ins C dx fs)) (cl : Cls K C) (n : NoAttr K C f) (l : fs.lookup f = some v) (ha : Ev ta σ H (.ref a)) : Ev (tFld K ta f) σ H v := fun H1 e Q q =>
  ha H1 e _ fun H2 e2 => ⟨a, C, dx, fs, v, rfl, e2 _ _ (e _ _ h), cl, n, l, q H2 e2⟩
/-- for x in a list or a tuple -/
def iSeq (K : PySem.W.Frag) (tl : TE) : TI := fun σ H R => iList K tl σ H R ∨ iTup K tl σ H R
theorem pi_seq {X : Cx} {tg l : Expr} {tl : TE} (hl : PE X l tl) : PI X tg l (iSeq X.K tl) := ⟨fun pins s σ H R I h => h.elim ((pi_list hl).run pins s σ H R I) ((pi_tup hl).run pins s σ H R I)⟩
def NumsV (K : PySem.W.Frag) (H : Hp) (nv : V) (ns : List Nat) : Prop := Dp K H nv (natsD ns) ∨ Dp K H nv (.list (ns.map fun (n : Nat) => PyData.int (n : Int)))
/-! ### terms -/
def spTerms (K : PySem.W.Frag) (C : Addr) : Sp := fun vs H Q _ => ∃ (S dx tl : Addr) (nv : V) (fs : List (Str × V)) (xs : List V) (ts : List Tm) (ns : List Nat), vs = [.ref S, nv] ∧ H S = some (.ins C dx fs) ∧ fs.lookup ("_terms" : Str) = some (.ref tl) ∧ H tl = some (.lst xs) ∧ DpAll K H xs (ts.map Tm.enc) ∧
  NumsV K H nv ns ∧ (∀ n ∈ ns, n < ts.length) ∧ ns.length ≤ 300 ∧ ∀ v H', Ex H H' → Dp K H' v (encs (ns.map (at0 ts))) → Q v H'
abbrev MTerms (P : Program) (w : World) (K : PySem.W.Frag) (mg : Str → Option Value) (base : Heap) (C : Addr) := MetC P w K mg base 1 C "terms" ["self", "numbers"] (spTerms K C)
theorem ok_terms (B : Bi mg) (T : StC K mg C) : MTerms P w K mg base C := by
  refine T.terms.ok T.cl scStoreTerms (fun vs H Q E h => ?_) (fun f cdv A outer s H vs Q E hr h => ?_)
  · obtain ⟨S, dx, tl, nv, fs, xs, ts, ns, rfl, _⟩ := h
    rfl
  obtain ⟨S, dx, tl, nv, fs, xs, ts, ns, rfl, hS, hf, htl, hal, hn, hlt, hz, k⟩ := h
  refine ⟨_, (pss_one (ps_ret (pe_callTy call_tupq (by rfl) B.tuple (by decide +kernel) (pa_cons (pe_lc (own := [("number", 2)]) (g := (gName 2)) (tt := tYes) rfl scStoreTerms.nd (pi_seq (pv 1)) (blkOk_by (N := NStoreTerms) (sc := defScope sStoreTerms) (by decide +kernel)) (fun _ _ _ _ _ => (pg_name (i := 2) scStoreTerms.nd rfl (by first | exact Or.inl rfl | exact Or.inr rfl))) (fun _ _ _ _ _ => pts_nil) (fun _ _ _ _ _ => (pe_ix (show IxR _ (rIxL K) from ix_list) (pe_fldK (K := K) (pv 0)) (pv 2) (fun _ _ => rfl)))) pa_nil)))), ?_⟩
  have elem : ∀ (n : Nat) (x : V) (H1 : Hp), n ∈ ns → Ex H H1 → Dp K H1 x (.int (n : Int)) → EvD K (tOp (rIxL K) (tFld K (tVar 0) "_terms") (tVar 2)) [some (.ref S), some nv, some x] H1 (at0 ts n).enc := fun n x H1 hm e hx => by
    cases hx.intD
    refine ed_ixL (ds := ts.map Tm.enc) (ed_ev (v := .ref tl) (ev_fldS (e _ _ hS) T.cl T.nT hf (ev_var rfl)) (.lst (sq_of (e _ _ htl)) (dmonoAll e _ _ hal))) (ed_int (ev_var rfl)) (atD ?_)
    rw [List.getElem?_map, at0_get (hlt n hm)]
    rfl
  have comp : EvD K (tLc (iSeq K (tVar 1)) (gName 2) tYes (tOp (rIxL K) (tFld K (tVar 0) "_terms") (tVar 2)) [2]) [some (.ref S), some nv, none] H (.list (ns.map fun n => (at0 ts n).enc)) := fun H1 e Q q => by
    rcases hn with hn | hn
    · exact .inr (ed_lcM (as := ns) (fun n : Nat => .int (n : Int)) (fun n => (at0 ts n).enc) (ed_var rfl hn) (by omega) (fun n _ => Tm.noL _) (fun n x H1 hm e hx => elem n x H1 hm e hx) H1 e Q q)
    · refine .inl (ed_is (ed_lcL (K := K) (fun d => match d with | .int i => (at0 ts i.toNat).enc | _ => .none) (ed_var rfl hn) (by rw [List.length_map]; omega) (fun d hd => ?_) fun d x H1 hd e hx => ?_) ?_ H1 e Q q)
      · obtain ⟨n, hn, rfl⟩ := List.mem_map.mp hd
        exact Tm.noL _
      · obtain ⟨n, hn, rfl⟩ := List.mem_map.mp hd
        exact elem n x H1 hn e hx
      · rw [List.map_map]
        rfl
  refine sd_ret (K := K) (ed_tupL (ed_is comp ?_)) fun v H1 e hv => k v H1 e hv
  rw [List.map_map]
  rfl
theorem ed_terms {σ : L2.St} {E : XK} {ta tb : TE} {S dx tl : Addr} {fs : List (Str × V)} {xs : List V} {ns : List Nat} (hS : H S = some (.ins C dx fs)) (hm : fs.lookup ("terms" : Str) = none) (hf : fs.lookup ("_terms" : Str) = some (.ref tl)) (ht : H tl = some (.lst xs)) (hal : DpAll K H xs (ts.map Tm.enc)) (hlt : ∀ n ∈ ns, n < ts.length) (hz : ns.length ≤ 100)
    (ha : Ev ta σ H (.ref S)) (hb : EvD K tb σ H (natsD ns)) : EvD K (tMeth C "terms" (spTerms K C) [] E ta (tCons tb tNil)) σ H (encs (ns.map (at0 ts))) := fun H1 e Q q =>
  ha H1 e _ fun H2 e2 => ⟨S, dx, fs, rfl, (e.trans e2) _ _ hS, hm, hb H2 (e.trans e2) _ fun v H3 e3 hv => by
    have e13 := (e.trans e2).trans e3
    exact ⟨S, dx, tl, v, fs, xs, ts, ns, rfl, e13 _ _ hS, hf, e13 _ _ ht, dmonoAll e13 _ _ hal, .inl hv, hlt, by omega, fun v H4 e4 hv => q v H4 ((e2.trans e3).trans e4) hv⟩⟩
end
end Lb

set_option Elab.async false
set_option linter.all false
set_option maxRecDepth 100000
set_option maxHeartbeats 4000000
namespace Lb
open PySem L2 Evl PyProof.Rows
structure SD (s : SA) : Prop where
  st : s.S ≠ s.tl
  sd : s.S ≠ s.dl
  sn : s.S ≠ s.nd
  sx : s.S ≠ s.xd
  tn : s.tl ≠ s.nd
  dn : s.dl ≠ s.nd
  xn : s.xd ≠ s.nd
  tx : s.tl ≠ s.xd
  dx : s.dl ≠ s.xd
  td : s.tl ≠ s.dl
  ht : s.hd ≠ s.tl
  hD : s.hd ≠ s.dl
  hn : s.hd ≠ s.nd
  hS : s.hd ≠ s.S
section
variable {P : Program} {w : World} {K : PySem.W.Frag} {mg : Str → Option Value} {base : Heap} {C : Addr} {H H' : Hp} {s : SA} {m : Mc} {ts : List Tm} {log : List (Nat × List Nat)}
theorem StoreAt.dist (h : StoreAt P w K C H s m ts log) : SD s := by
  obtain ⟨⟨dx, fs, af, i1, i2, i3⟩, ⟨ys, t1, t2⟩, d, n, ⟨ns, x1, x2, x3⟩, ne, iv, shd⟩ := h
  obtain ⟨_, xs, n1, _⟩ := n
  exact ⟨ne_of i1 t1 (fun z => nomatch z), ne_of i1 d (fun z => nomatch z), ne_of i1 n1 (fun z => by unfold nestO at z; cases z), ne_of i1 x1 (fun z => nomatch z),
    ne_of t1 n1 (fun z => by unfold nestO at z; cases z), ne_of d n1 (fun z => by unfold nestO at z; cases z), ne_of x1 n1 (fun z => by unfold nestO at z; cases z), ne_of t1 x1 (fun z => nomatch z), ne_of d x1 (fun z => nomatch z), ne, ne_of shd t1 (fun z => nomatch z), ne_of shd d (fun z => nomatch z), ne_of shd n1 (fun z => by unfold nestO at z; cases z), ne_of shd i1 (fun z => nomatch z)⟩
theorem FrM.tl {o : HO} : FrM s H (upd H s.tl o) := fun b u h h1 _ _ _ => by rw [upd_ne h1]; exact h
theorem FrM.dl {o : HO} : FrM s H (upd H s.dl o) := fun b u h _ h1 _ _ => by rw [upd_ne h1]; exact h
theorem FrM.xd {o : HO} : FrM s H (upd H s.xd o) := fun b u h _ _ _ h1 => by rw [upd_ne h1]; exact h
theorem FrM.nd (e : ExB s.nd H H') : FrM s H H' := fun b u h _ _ h1 _ => e b u h h1
theorem ev_nin {σ : L2.St} {ty td : TE} {d : Addr} {sh : List Bool} {kvs : List (List NI × V)} {ks : List NI} (hd : NDictW P w K sh H d kvs) (hs : ks.map isKey = sh) (h1 : EvD K ty σ H (keyD ks)) (h2 : Ev td σ H (.ref d)) : Ev (tNNotIn P w K ty td) σ H (.bl (!(valV kvs ks).isSome)) := fun H1 e Q q =>
  h1 H1 e _ fun y H2 e2 hy => h2 H2 (e.trans e2) _ fun H3 e3 => ⟨d, sh, kvs, ks, rfl, (hd.mono ((e.trans e2).trans e3)).rd, dmono e3 _ _ hy, hs, q H3 (e2.trans e3)⟩
theorem ev_nget {σ : L2.St} {ty td : TE} {d : Addr} {sh : List Bool} {kvs : List (List NI × V)} {ks : List NI} {v : V} (hd : NDictW P w K sh H d kvs) (hs : ks.map isKey = sh) (h1 : EvD K ty σ H (keyD ks)) (h2 : Ev td σ H (.ref d)) (hv : valV kvs ks = some v) : Ev (tNGet P w K td ty) σ H v := fun H1 e Q q =>
  h2 H1 e _ fun H2 e2 => h1 H2 (e.trans e2) _ fun y H3 e3 hy => ⟨d, sh, kvs, ks, v, rfl, (hd.mono ((e.trans e2).trans e3)).rd, hy, hs, hv, q H3 (e2.trans e3)⟩
/-- d[y] = v -/
theorem s_nput {σ : L2.St} {D : Ends} {ty td tv : TE} {d : Addr} {sh : List Bool} {kvs : List (List NI × V)} {ks : List NI} {v : V} (hd : NDictW P w K sh H d kvs) (hs : ks.map isKey = sh) (hv : Ev tv σ H v) (h2 : Ev td σ H (.ref d)) (h1 : EvD K ty σ H (keyD ks)) (hl : kvs.length < 100000)
    (k : ∀ H1, ExB d H H1 → NDictW P w K sh H1 d (putK kvs ks v) → D.nx σ H1) : sNPut P w K td ty tv D σ H :=
  hv H (Ex.refl _) _ fun H1 e1 => h2 H1 e1 _ fun H2 e2 => h1 H2 (e1.trans e2) _ fun y H3 e3 hy => ⟨d, sh, kvs, ks, rfl, hd.mono ((e1.trans e2).trans e3), hy, hs, sz_lt hl, fun H4 e4 n4 => k H4 ((ExB.of ((e1.trans e2).trans e3)).trans e4) n4⟩
theorem q_nput {σ : L2.St} {D : Ends} {tz : TS} {ty td tv : TE} {d : Addr} {sh : List Bool} {kvs : List (List NI × V)} {ks : List NI} {v : V} (hd : NDictW P w K sh H d kvs) (hs : ks.map isKey = sh) (hv : Ev tv σ H v) (h2 : Ev td σ H (.ref d)) (h1 : EvD K ty σ H (keyD ks)) (hl : kvs.length < 100000)
    (k : ∀ H1, ExB d H H1 → NDictW P w K sh H1 d (putK kvs ks v) → tz D σ H1) : tSeq (sNPut P w K td ty tv) tz D σ H := s_nput (D := { D with nx := tz D }) hd hs hv h2 h1 hl k
/-- l.append(te), by data -/
theorem s_appD {σ : L2.St} {D : Ends} {ta te : TE} {l : Addr} {xs : List V} {d : PyData} (hl : H l = some (.lst xs)) (ha : Ev ta σ H (.ref l)) (h : EvD K te σ H d) (hz : xs.length < 100000) (k : ∀ y H1, Ex H H1 → Dp K H1 y d → D.nx σ (upd H1 l (.lst (xs ++ [y])))) :
    tDrop (tBM K "list" rAppend ta (tCons te tNil)) D σ H := ha H (Ex.refl _) _ fun H1 e1 =>
  ⟨.inl ⟨rfl, _, sq_of (e1 _ _ hl)⟩, h H1 e1 _ fun y H2 e2 hy => ⟨l, xs, y, rfl, rfl, e2 _ _ (e1 _ _ hl), sz_lt hz, k y H2 (e1.trans e2) hy⟩⟩
theorem q_appD {σ : L2.St} {D : Ends} {tz : TS} {ta te : TE} {l : Addr} {xs : List V} {d : PyData} (hl : H l = some (.lst xs)) (ha : Ev ta σ H (.ref l)) (h : EvD K te σ H d) (hz : xs.length < 100000) (k : ∀ y H1, Ex H H1 → Dp K H1 y d → tz D σ (upd H1 l (.lst (xs ++ [y])))) :
    tSeq (tDrop (tBM K "list" rAppend ta (tCons te tNil))) tz D σ H := s_appD (D := { D with nx := tz D }) hl ha h hz k
theorem rangeD_noL (n : Nat) : noL (.tuple (rangeD n)) = true := by
  rw [noL_tup]
  refine noLs_iff.mpr fun d hd => ?_
  obtain ⟨i, _, rfl⟩ := List.mem_map.mp hd
  rfl
def spMade (P : Program) (w : World) (K : PySem.W.Frag) (C : Addr) : Sp := fun vs H Q _ => ∃ (s : SA) (m : Mc) (ts : List Tm) (log : List (Nat × List Nat)) (g : Nat) (ps : List Nat) (pv : V), vs = [.ref s.S, .int (g : Int), pv] ∧ Dp K H pv (natsD ps) ∧ StoreAt P w K C H s m ts log ∧ m.Ok ∧ (∀ p ∈ ps, p < ts.length) ∧ m.fns[g]? = some ps.length ∧
  (Tm.mk g (ps.map (at0 ts))).dep ≤ 8 ∧ ts.length < 50000 ∧ ∀ (n : Nat) H' us log', us.length ≤ 1 → (ts ++ us)[n]? = some (Tm.mk g (ps.map (at0 ts))) → StoreAt P w K C H' s m (ts ++ us) log' → FrM s H H' → Q (.int (n : Int)) H'
abbrev MMade (P : Program) (w : World) (K : PySem.W.Frag) (mg : Str → Option Value) (base : Heap) (C : Addr) := MetC P w K mg base 2 C "made" ["self", "function", "parts"] (spMade P w K C)
theorem txE_app {us : List Tm} {ns : List Nat} (h : ∀ n ∈ ns, n < ts.length) : txE (ts ++ us) ns = txE ts ns := List.map_congr_left fun n hn => by rw [at0_app (h n hn)]
/-- q ∈ d for a dict of ints -/
theorem ev_din {σ : L2.St} {td ty : TE} {d : Addr} {kvs : List (Key × V)} {k : Key} (hd : H d = some (.dK kvs)) (h2 : Ev ty σ H (kV k)) (h1 : Ev td σ H (.ref d)) : Ev (tDIn ty td) σ H (.bl (valV kvs k).isSome) := fun H1 e Q q =>
  h2 H1 e _ fun H2 e2 => h1 H2 (e.trans e2) _ fun H3 e3 => ⟨d, _, rfl, DGet.k (((e.trans e2).trans e3) _ _ hd), q H3 (e2.trans e3)⟩
theorem ev_lenLV {σ : L2.St} {te : TE} {a : Addr} {xs : List V} (h : Ev te σ H (.ref a)) (hl : H a = some (.lst xs)) : Ev (tCB (rLenA K) (tCons te tNil)) σ H (.int (xs.length : Int)) := fun H1 e Q q =>
  h H1 e _ fun H2 e2 => ⟨_, xs.length, rfl, Or.inl ⟨xs, sq_of ((e.trans e2) _ _ hl), rfl⟩, q H2 e2⟩
theorem q_appV {σ : L2.St} {D : Ends} {tz : TS} {ta te : TE} {l : Addr} {xs : List V} {v : V} (hl : H l = some (.lst xs)) (ha : Ev ta σ H (.ref l)) (h : Ev te σ H v) (hz : xs.length < 100000) (k : ∀ H1, Ex H H1 → tz D σ (upd H1 l (.lst (xs ++ [v])))) :
    tSeq (tDrop (tBM K "list" rAppend ta (tCons te tNil))) tz D σ H := ha H (Ex.refl _) _ fun H1 e1 =>
  ⟨.inl ⟨rfl, _, sq_of (e1 _ _ hl)⟩, h H1 e1 _ fun H2 e2 => ⟨l, xs, v, rfl, rfl, e2 _ _ (e1 _ _ hl), sz_lt hz, k H2 (e1.trans e2)⟩⟩
def spNew (K : PySem.W.Frag) (C : Addr) : Sp := fun vs H Q _ => ∃ (S dx tl dl hd : Addr) (fs : List (Str × V)) (xs ys : List V) (d : Nat) (v : V), vs = [.ref S, .int (d : Int), v] ∧ H S = some (.ins C dx fs) ∧ fs.lookup ("_terms" : Str) = some (.ref tl) ∧ fs.lookup ("_depths" : Str) = some (.ref dl) ∧ fs.lookup ("_is_closed" : Str) = some (.bl false) ∧ fs.lookup ("_shared" : Str) = some (.ref hd) ∧
  H hd = some (.dK []) ∧ H tl = some (.lst xs) ∧ H dl = some (.lst ys) ∧ S ≠ tl ∧ S ≠ dl ∧ tl ≠ dl ∧ xs.length < 60000 ∧ ys.length < 60000 ∧
  ∀ H1 H2 H3, Ex H H1 → Ex (upd H1 tl (.lst (xs ++ [v]))) H2 → Ex (upd H2 dl (.lst (ys ++ [.int (d : Int)]))) H3 → Q (.int (xs.length : Int)) H3
abbrev MNew (P : Program) (w : World) (K : PySem.W.Frag) (mg : Str → Option Value) (base : Heap) (C : Addr) := MetC P w K mg base 1 C "_new" ["self", "depth", "term"] (spNew K C)
theorem ok_new (B : Bi mg) (T : StC K mg C) : MNew P w K mg base C := by
  refine T.new_.ok T.cl scStoreNew (fun vs H Q E h => ?_) (fun f cdv A outer sh0 H vs Q E hr h => ?_)
  · obtain ⟨S, dx, tl, dl, hd, fs, xs, ys, d, v, rfl, _⟩ := h
    rfl
  obtain ⟨S, dx, tl, dl, hd, fs, xs, ys, d, v, rfl, i1, ft, fd, fc, fh, hh, ht, hdl, n1, n2, n3, z1, z2, k⟩ := h
  have hu1 := (show (A.deeper (envOfC "Store._new" (defScope sStoreNew) sh0.heap.objs.size f cdv)).units + 1 < cLine by have := hr.un; omega)
  refine ⟨_, (pss_cons (ps_if (pt_cmp (pc_din hu1 (pv 1) (pe_fldK (K := K) (pv 0)))) (pss_one (ps_ret (pe_dget hu1 (pe_fldK (K := K) (pv 0)) (pv 1) (fun _ _ => rfl)))) pss_nil) (pss_cons (ps_set (i := 3) scStoreNew.nd rfl (by first | exact Or.inl rfl | exact Or.inr rfl) (pe_callB call_lenq (by rfl) B.len PySem.boot_len (pa_cons (pe_fldK (K := K) (pv 0)) pa_nil))) (pss_cons (ps_expr (pe_bm PySem.F.plainAttrs_list PySem.F.slot_list_append PySem.F.type_list_append mt_append (pe_fldK (K := K) (pv 0)) (pa_cons (pv 2) pa_nil))) (pss_cons (ps_expr (pe_bm PySem.F.plainAttrs_list PySem.F.slot_list_append PySem.F.type_list_append mt_append (pe_fldK (K := K) (pv 0)) (pa_cons (pv 1) pa_nil))) (pss_cons (ps_if (pt_val (pe_fldK (K := K) (pv 0))) (pss_one (ps_dput hu1 (pe_fldK (K := K) (pv 0)) (pv 1) (pv 3) rfl)) pss_nil) (pss_one (ps_ret (pv 3)))))))), ?_⟩
  refine qd_pass (et_test (ev_din (k := .inl (d : Int)) hh (ev_var rfl) (ev_fldS i1 T.cl T.nS fh (ev_var rfl)))) rfl fun H1 e1 => ?_
  refine q_asg (ev_lenLV (K := K) (ev_fldS (e1 _ _ i1) T.cl T.nT ft (ev_var rfl)) (e1 _ _ ht)) fun H2 e2 => ?_
  have e12 := e1.trans e2
  refine q_appV (K := K) (v := v) (e12 _ _ ht) (ev_fldS (e12 _ _ i1) T.cl T.nT ft (ev_var rfl)) (ev_var rfl) (by omega) fun H3 e3 => ?_
  have e13 := e12.trans e3
  have i3 : (upd H3 tl (.lst (xs ++ [v]))) S = some (.ins C dx fs) := by rw [upd_ne n1]; exact e13 _ _ i1
  have d3 : (upd H3 tl (.lst (xs ++ [v]))) dl = some (.lst ys) := by rw [upd_ne (Ne.symm n3)]; exact e13 _ _ hdl
  refine q_appV (K := K) (v := .int (d : Int)) d3 (ev_fldS i3 T.cl T.nD fd (ev_var rfl)) (ev_var rfl) (by omega) fun H4 e4 => ?_
  have i4 : (upd H4 dl (.lst (ys ++ [.int (d : Int)]))) S = some (.ins C dx fs) := by rw [upd_ne n2]; exact e4 _ _ i3
  refine qd_pass (et_B (ev_fldS i4 T.cl T.nC fc (ev_var rfl))) rfl fun H5 e5 => ?_
  exact s_ret (ev_var rfl) fun H6 e6 => k H3 H4 H6 e13 e4 (e5.trans e6)
theorem ok_made (B : Bi mg) (G : Gs mg) (T : StC K mg C) (M_terms : MTerms P w K mg base C) (M__new : MNew P w K mg base C) : MMade P w K mg base C := by
  refine T.made.ok T.cl scStoreMade (fun vs H Q E h => ?_) (fun f cdv A outer sh0 H vs Q E hr h => ?_)
  · obtain ⟨s, m, ts, log, g, ps, pw, rfl, _⟩ := h
    rfl
  obtain ⟨s, m, ts, log, g, ps, pw, rfl, hp, st, mok, hlt, hg, hd, hz, k⟩ := h
  have hu := (show (A.deeper (envOfC "Store.made" (defScope sStoreMade) sh0.heap.objs.size f cdv)).units + 4 < cLine by have := hr.un; omega)
  refine ⟨_, (pss_cons (ps_set (i := 3) scStoreMade.nd rfl (by first | exact Or.inl rfl | exact Or.inr rfl) (pe_tup (pa_cons (pv 1) (pa_cons (pv 2) pa_nil)))) (pss_cons (ps_if (pt_cmp (pc_dnotinN hu (pv 3) (pe_fldK (K := K) (pv 0)))) (pss_cons (ps_set (i := 4) scStoreMade.nd rfl (by first | exact Or.inl rfl | exact Or.inr rfl) (pe_op op_add pe_int (pe_callB (cr_max rfl) (by rfl) B.max (by decide +kernel) (pa_cons (pe_lc (own := [("part", 5)]) (g := (gName 5)) (tt := tYes) rfl scStoreMade.nd (pi_tup (pv 2)) (blkOk_by (N := NStoreMade) (sc := defScope sStoreMade) (by decide +kernel)) (fun _ _ _ _ _ => (pg_name (i := 5) scStoreMade.nd rfl (by first | exact Or.inl rfl | exact Or.inr rfl))) (fun _ _ _ _ _ => pts_nil) (fun _ _ _ _ _ => (pe_ix (show IxR _ (rIxL K) from ix_list) (pe_fldK (K := K) (pv 0)) (pv 5) (fun _ _ => rfl)))) pa_nil)))) (pss_cons (ps_if (pt_cmpR op_gt (pv 4) (pe_fldK (K := K) (pv 0)) (by first | exact nomark _ | rfl)) (pss_one ps_never) pss_nil) (pss_one (ps_dputN hu (pe_fldK (K := K) (pv 0)) (pv 3) (pe_mtC M__new hr (by omega) (pv 0) (pa_cons (pv 4) (pa_cons (pe_op op_catA (pe_tup (pa_cons (pv 1) pa_nil)) (pe_mtC M_terms hr (by omega) (pv 0) (pa_cons (pv 2) pa_nil))) pa_nil))) rfl)))) pss_nil) (pss_one (ps_ret (pe_dgetN hu (pe_fldK (K := K) (pv 0)) (pv 3) (fun _ _ => rfl)))))), ?_⟩
  have pl := mok.rd _ (List.mem_of_getElem? hg)
  have sd := st.dist
  have lle : log.length < 50000 := by have := st.inv.len; omega
  refine qd_asg (K := K) (d := keyD (kOf (g, ps))) (ed_is (ed_tup (ead_cons (ed_int (ev_var rfl)) (ead_cons (ed_var rfl hp) ead_nil)) (by simp)) (kOf_D g ps).symm) fun kv H1 e1 hk => ?_
  have st1 := st.mono e1
  obtain ⟨⟨dx, fs, af, i1, i2, i3⟩, ⟨ys, t1, t2⟩, d1, n1, ⟨ns, x1, x2, x3⟩, ne, iv, shd⟩ := id st1
  have fld : ∀ {H2 : Hp} {σ : L2.St} {f : Str} {v : V}, H2 s.S = some (.ins C dx fs) → NoAttr K C f → fs.lookup f = some v → σ[0]? = some (some (.ref s.S)) → Ev (tFld K (tVar 0) f) σ H2 v := fun h n l h0 => ev_fldS h T.cl n l (ev_var h0)
  refine q_when (et_test (ev_nin n1 rfl (ed_var rfl hk) (fld i1 T.nN i2.n rfl))) (fun c H2 e2 => ?_) (fun c H2 e2 => ?_)
  · have new : (g, ps) ∉ log := fun h => by
      obtain ⟨j, _, h2⟩ := ents_in (c := m.cells) h
      rw [h2] at c
      cases c
    have st2 := st1.mono e2
    have i1' := e2 _ _ i1
    have hp2 := dmono (e1.trans e2) _ _ hp
    refine q_asg (v := .int ((Tm.mk g (ps.map (at0 ts))).dep : Int)) (ev_is (ev_op ev_c (ev_max (ns := ps.map fun p => ((at0 ts p).dep : Int)) (m := (md (ps.map (at0 ts)) : Int)) (ed_is (ed_lcM (as := ps) (fun n : Nat => .int (n : Int)) (fun p => .int ((at0 ts p).dep : Int)) (ed_var rfl hp2) (by omega) (fun _ _ => rfl) fun p x H3 hm e3 hx => ?_) ?_) ?_ ?_) rv_I0) ?_) fun H3 e3 => ?_
    · cases hx.intD
      refine ed_ixL (ds := ts.map fun t => .int (t.dep : Int)) (ed_ev (v := .ref s.dl) (fld (e3 _ _ i1') T.nD i2.d rfl) (.lst (sq_of (e3 _ _ (e2 _ _ d1))) (all_map fun t _ => .int _))) (ed_int (ev_var rfl)) (atD ?_)
      rw [List.getElem?_map, at0_get (hlt p hm)]
      rfl
    · rw [List.map_map]
      rfl
    · obtain ⟨t, ht, e⟩ := md_mem (ts := ps.map (at0 ts)) (fun z => by rw [List.map_eq_nil_iff] at z; rw [z] at pl; exact absurd pl.1 (by decide))
      obtain ⟨p, hp, rfl⟩ := List.mem_map.mp ht
      exact List.mem_map.mpr ⟨p, hp, by rw [e]⟩
    · intro y hy
      obtain ⟨p, hp, rfl⟩ := List.mem_map.mp hy
      have := md_le (List.mem_map.mpr ⟨p, hp, rfl⟩ : at0 ts p ∈ ps.map (at0 ts))
      omega
    · rw [mk_md (by rw [List.length_map]; exact pl)]
      exact congrArg V.int (by omega)
    have st3 := st2.mono e3
    have i13 := e3 _ _ i1'
    refine qd_pass (et_test (ev_op (ev_var rfl) (fld i13 T.nP i2.p rfl) rv_I0)) (decide_eq_false (by omega)) fun H4 e4 => ?_
    have st4 := st3.mono e4
    have i14 := e4 _ _ i13
    have e14 := (e2.trans e3).trans e4
    have hk14 := dmono e14 _ _ hk
    have dE : ys.length = ts.length := by rw [t2.len, List.length_map]
    refine ⟨_, rfl, s.S, dx, fs, rfl, i14, i2.m5, _, rfl, (ed_is (ed_cat (ed_tup (ead_cons (ed_int (ev_var rfl)) ead_nil) (by simp)) (ed_terms (E := E0) i14 i2.m2 i2.t (e14 _ _ t1) (dmonoAll e14 _ _ t2) hlt (by omega) (ev_var rfl) (ed_var rfl (dmono (e1.trans e14) _ _ hp))) (by simp; omega)) (mk_enc (by rw [List.length_map]; exact pl)).symm) H4 (Ex.refl _) _ fun tv H5 e5 htv => ?_⟩
    have e15 := e14.trans e5
    refine ⟨s.S, dx, s.tl, s.dl, s.hd, fs, ys, _, _, tv, rfl, e5 _ _ i14, i2.t, i2.d, i2.c, i2.h, e15 _ _ shd, e15 _ _ t1, e15 _ _ d1, sd.st, sd.sd, sd.td, by omega, by rw [List.length_map]; omega, fun G1 G2 G3 g1 g2 g3 => ?_⟩
    have tT := (e15.trans g1) _ _ t1
    have dT : (upd G1 s.tl (.lst (ys ++ [tv]))) s.dl = some (.lst (ts.map fun t => V.int (t.dep : Int))) := by rw [upd_ne (Ne.symm sd.td)]; exact (e15.trans g1) _ _ d1
    have old : ∀ {b : Addr} {o : HO}, H1 b = some o → b ≠ s.tl → b ≠ s.dl → G3 b = some o := fun h h1 h2 => g3 _ _ (by rw [upd_ne h2]; exact g2 _ _ (by rw [upd_ne h1]; exact (e15.trans g1) _ _ h))
    have tk1 : TK K H1 G1 := TK.of (e15.trans g1)
    have tk2 : TK K G1 G3 := (TK.lst tT).trans ((TK.of g2).trans ((TK.lst (g2 _ _ dT)).trans (TK.of g3)))
    have tk3 := tk1.trans tk2
    have gi := old i1 sd.st sd.sd
    have n3 : NDictW P w K [true, false] G3 s.nd (ents m.cells log) := n1.keep tk3 fun o ho => old ho (Ne.symm sd.tn) (Ne.symm sd.dn)
    have hk3 := tmono tk3 _ _ (keyD_noL _) hk
    refine ⟨_, rfl, s.S, C, dx, fs, _, rfl, gi, T.cl, T.nN, i2.n, _, rfl, s.nd, [true, false], _, kOf (g, ps), rfl, n3, hk3, rfl, sz_lt (by rw [ents_len]; omega), fun G4 g4 n4 => ?_⟩
    have lE : ys.length = m.cells + log.length := by rw [dE, iv.len]
    rw [lE, ents_put new] at n4
    have tk4 : TK K G3 G4 := g4.tk n3.noTup
    have tk := tk3.trans tk4
    have old4 : ∀ {b : Addr} {o : HO}, H1 b = some o → b ≠ s.tl → b ≠ s.dl → b ≠ s.nd → G4 b = some o := fun h h1 h2 h3 => g4 _ _ (old h h1 h2) h3
    have t4 : G4 s.tl = some (.lst (ys ++ [tv])) := g4 _ _ (g3 _ _ (by rw [upd_ne sd.td]; exact g2 _ _ upd_same)) sd.tn
    have d4 : G4 s.dl = some (.lst ((ts.map fun t => V.int (t.dep : Int)) ++ [.int ((Tm.mk g (ps.map (at0 ts))).dep : Int)])) := g4 _ _ (g3 _ _ upd_same) sd.dn
    have nls : noLs ((ts ++ [Tm.mk g (ps.map (at0 ts))]).map Tm.enc) = true := noLs_iff.mpr fun d hd => by
      obtain ⟨t, _, rfl⟩ := List.mem_map.mp hd
      exact t.noL
    have t25 : DpAll K H5 (ys ++ [tv]) ((ts ++ [Tm.mk g (ps.map (at0 ts))]).map Tm.enc) := by
      rw [List.map_append]
      exact (dmonoAll e15 _ _ t2).app (.cons htv .nil)
    have new7 : StoreAt P w K C G4 s m (ts ++ [Tm.mk g (ps.map (at0 ts))]) (log ++ [(g, ps)]) := by
      refine ⟨⟨dx, fs, af, old4 i1 sd.st sd.sd sd.sn, i2, tmono tk _ _ (rangeD_noL _) i3⟩, ⟨_, t4, tmonoAll ((TK.of g1).trans (tk2.trans tk4)) _ _ nls t25⟩, by rw [d4, List.map_append]; rfl, n4, ⟨ns, ?_, x2, fun n hn => by have := x3 n hn; simp; omega⟩, ne, iv.snoc mok hlt hg new hd, old4 shd sd.ht sd.hD sd.hn⟩
      rw [txE_app x3]
      exact old4 x1 (Ne.symm sd.tx) (Ne.symm sd.dx) sd.xn
    have fr7 : FrM s H G4 := fun b o h h1 h2 h3 _ => old4 (e1 _ _ h) h1 h2 h3
    have hk7 := tmono tk _ _ (keyD_noL _) hk
    obtain ⟨j, hj, hv⟩ := ents_in (c := m.cells) (l := log ++ [(g, ps)]) (e := (g, ps)) (by simp)
    obtain ⟨⟨dx', fs', af', j1, j2, j3⟩, _, _, n7, _, _, iv7, _⟩ := id new7
    refine s_ret (ev_nget n7 rfl (ed_var rfl hk7) (ev_fldS j1 T.cl T.nN j2.n (ev_var rfl)) hv) fun H8 e8 => ?_
    obtain ⟨_, _, h3⟩ := iv7.ent j g ps hj
    refine k (m.cells + j) H8 [Tm.mk g (ps.map (at0 ts))] _ (by simp) ?_ (new7.mono e8) (fr7.trans (FrM.of e8))
    rw [at0_map hlt] at h3
    exact h3
  · have old : (g, ps) ∈ log := Classical.byContradiction fun h => by
      rw [ents_no h] at c
      cases c
    obtain ⟨j, hj, hv⟩ := ents_in (c := m.cells) old
    have st2 := st1.mono e2
    refine s_ret (ev_nget st2.nms rfl (ed_var rfl (dmono e2 _ _ hk)) (fld (e2 _ _ i1) T.nN i2.n rfl) hv) fun H8 e8 => ?_
    obtain ⟨_, _, h3⟩ := iv.ent j g ps hj
    refine k (m.cells + j) H8 [] log (by simp) ?_ (by rw [List.append_nil]; exact st2.mono e8) (FrM.of ((e1.trans e2).trans e8))
    rw [List.append_nil]
    exact h3
end
end Lb

set_option Elab.async false
set_option linter.all false
set_option maxRecDepth 100000
set_option maxHeartbeats 4000000
namespace Lb
open PySem L2 Evl PyProof.Rows
theorem nodup_bound : ∀ (n : Nat) (l : List Nat), l.Nodup → (∀ x ∈ l, x < n) → l.length ≤ n
  | 0, [], _, _ => Nat.le_refl _
  | 0, x :: l, _, h => absurd (h x List.mem_cons_self) (Nat.not_lt_zero _)
  | n + 1, l, nd, h => by
    have h1 := nodup_bound n (l.filter fun x => x ≠ n) (nd.filter _) fun x hx => by
      obtain ⟨a, b⟩ := List.mem_filter.mp hx
      have := h x a
      have : x ≠ n := by simpa using b
      omega
    have h2 : l.length ≤ (l.filter fun x => x ≠ n).length + 1 := by
      clear h h1
      induction l with
      | nil => simp
      | cons x l ih =>
        rw [List.nodup_cons] at nd
        by_cases e : x = n
        · rw [List.filter_cons, if_neg (by simp [e])]
          have : l.filter (fun x => x ≠ n) = l := List.filter_eq_self.mpr fun y hy => by
            have : y ≠ n := fun z => nd.1 (by rw [e, ← z]; exact hy)
            simpa using this
          rw [this]
          simp
        · rw [List.filter_cons, if_pos (by simpa using e)]
          have := ih nd.2
          simp only [List.length_cons]
          omega
    omega
theorem txE_in {ts : List Tm} {n : Nat} : ∀ {ks : List Nat}, n ∈ ks → valV (txE ts ks) (Sum.inl (n : Int) : Key) = some (.str (at0 ts n).txt)
  | x :: ks, h => by
    unfold txE
    rw [List.map_cons]
    by_cases e : x = n
    · rw [valV_pos (by rw [e]), e]
    · rw [valV_neg fun z => e (by have : (x : Int) = (n : Int) := Sum.inl.inj z; omega)]
      refine txE_in ?_
      rcases List.mem_cons.mp h with h | h
      · exact absurd h.symm e
      · exact h
theorem txE_no {ts : List Tm} {n : Nat} : ∀ {ks : List Nat}, n ∉ ks → valV (txE ts ks) (Sum.inl (n : Int) : Key) = none
  | [], _ => rfl
  | x :: ks, h => by
    unfold txE
    rw [List.map_cons, valV_neg fun z => h (by have : (x : Int) = (n : Int) := Sum.inl.inj z; rw [show n = x by omega]; exact List.mem_cons_self)]
    exact txE_no fun z => h (List.mem_cons_of_mem _ z)
theorem txE_put {ts : List Tm} {n : Nat} {ks : List Nat} (h : n ∉ ks) : putK (txE ts ks) (Sum.inl (n : Int) : Key) (.str (at0 ts n).txt) = txE ts (ks ++ [n]) := by
  unfold putK
  rw [valV_any, txE_no h]
  unfold txE
  rw [List.map_append]
  rfl
section
variable {P : Program} {w : World} {K : PySem.W.Frag} {mg : Str → Option Value} {base : Heap} {C : Addr} {H H' : Hp} {s : SA} {m : Mc} {ts : List Tm} {log : List (Nat × List Nat)}
theorem ev_dget {σ : L2.St} {td ty : TE} {d : Addr} {kvs : List (Key × V)} {k : Key} {v : V} (hd : H d = some (.dK kvs)) (h1 : Ev td σ H (.ref d)) (h2 : Ev ty σ H (kV k)) (hv : valV kvs k = some v) : Ev (tDGet td ty) σ H v := fun H1 e Q q =>
  h1 H1 e _ fun H2 e2 => h2 H2 (e.trans e2) _ fun H3 e3 => ⟨d, v, rfl, hv ▸ DGet.k (((e.trans e2).trans e3) _ _ hd), q H3 (e2.trans e3)⟩
theorem ev_dnin {σ : L2.St} {td ty : TE} {d : Addr} {kvs : List (Key × V)} {k : Key} (hd : H d = some (.dK kvs)) (h2 : Ev ty σ H (kV k)) (h1 : Ev td σ H (.ref d)) : Ev (tDNotIn ty td) σ H (.bl (!(valV kvs k).isSome)) := fun H1 e Q q =>
  h2 H1 e _ fun H2 e2 => h1 H2 (e.trans e2) _ fun H3 e3 => ⟨d, _, rfl, DGet.k (((e.trans e2).trans e3) _ _ hd), q H3 (e2.trans e3)⟩
theorem s_dputK {σ : L2.St} {D : Ends} {td ty tv : TE} {d : Addr} {kvs : List (Key × V)} {k : Key} {v : V} (hd : H d = some (.dK kvs)) (hl : kvs.length < 100000) (hv : Ev tv σ H v) (h1 : Ev td σ H (.ref d)) (h2 : Ev ty σ H (kV k)) (kk : ∀ H1, Ex H H1 → D.nx σ (upd H1 d (.dK (putK kvs k v)))) : sDPut td ty tv D σ H :=
  hv H (Ex.refl _) _ fun H1 e1 => h1 H1 e1 _ fun H2 e2 => h2 H2 (e1.trans e2) _ fun H3 e3 => ⟨d, _, rfl, DPut.k (((e1.trans e2).trans e3) _ _ hd) (sz_lt hl), kk H3 ((e1.trans e2).trans e3)⟩
/-- tuple(a list of texts): a new tuple -/
theorem eu_tupS {σ : L2.St} {ta : TE} {xs : List Str} (h : EvD K ta σ H (.list (xs.map PyData.str))) : EvU (tCB (rTupA K) (tCons ta tNil)) σ H (xs.map V.str) := fun H1 e Q q =>
  h H1 e _ fun v H2 e2 hv => by
    obtain ⟨a, ys, rfl, sq, al⟩ := Dp.lstD hv
    rw [D_strs al] at sq
    exact ⟨a, _, rfl, .inl ⟨sq, fun l hl => q l _ (fresh_back e2 hl) (e2.trans (Ex.new hl)) upd_same⟩⟩
def spTexts (P : Program) (w : World) (K : PySem.W.Frag) (C : Addr) : Sp := fun vs H Q _ => ∃ (s : SA) (m : Mc) (ts : List Tm) (log : List (Nat × List Nat)) (nv : V) (ns : List Nat), vs = [.ref s.S, nv] ∧ Dp K H nv (natsD ns) ∧ StoreAt P w K C H s m ts log ∧ m.Ok ∧ (∀ n ∈ ns, n < ts.length) ∧ ns.length ≤ 100 ∧ ts.length < 50000 ∧
  ∀ b H', H b = none → H' b = some (.tup ((ns.map fun n => (at0 ts n).txt).map V.str)) → StoreAt P w K C H' s m ts log → FrM s H H' → Q (.ref b) H'
abbrev MTexts (P : Program) (w : World) (K : PySem.W.Frag) (mg : Str → Option Value) (base : Heap) (C : Addr) := MetC P w K mg base 10 C "texts" ["self", "numbers"] (spTexts P w K C)
theorem ok_texts (B : Bi mg) (T : StC K mg C) (C_text_of : CText P w K mg base 8) : MTexts P w K mg base C := by
  refine T.texts.ok T.cl scStoreTexts (fun vs H Q E h => ?_) (fun f cdv A outer sh0 H vs Q E hr h => ?_)
  · obtain ⟨s, m, ts, log, nv, ns, rfl, _⟩ := h
    rfl
  obtain ⟨s, m, ts, log, nv, ns, rfl, hn, st, mok, hlt, hz, hts, k⟩ := h
  have hu1 := (show (A.deeper (envOfC "Store.texts" (defScope sStoreTexts) sh0.heap.objs.size f cdv)).units + 1 < cLine by have := hr.un; omega)
  refine ⟨_, (pss_cons (ps_for PassesOwn.never rfl (pi_tup (pv 1)) (pg_name (i := 2) scStoreTexts.nd rfl (by first | exact Or.inl rfl | exact Or.inr rfl)) (pss_one (ps_if (pt_cmp (pc_dnotin hu1 (pv 2) (pe_fldK (K := K) (pv 0)))) (pss_one (ps_dput hu1 (pe_fldK (K := K) (pv 0)) (pv 2) (pe_cal C_text_of hr (by omega) rfl (pa_cons (pe_ix ix_list (pe_fldK (K := K) (pv 0)) (pv 2) (fun _ _ => rfl)) pa_nil)) rfl)) pss_nil))) (pss_one (ps_ret (pe_callTy call_tupq (by rfl) B.tuple (by decide +kernel) (pa_cons (pe_lc (own := [("number", 2)]) (g := (gName 2)) (tt := tYes) rfl scStoreTexts.nd (pi_tup (pv 1)) (blkOk_by (N := NStoreTexts) (sc := defScope sStoreTexts) (by decide +kernel)) (fun _ _ _ _ _ => (pg_name (i := 2) scStoreTexts.nd rfl (by first | exact Or.inl rfl | exact Or.inr rfl))) (fun _ _ _ _ _ => pts_nil) (fun _ _ _ _ _ => (pe_dget hu1 (pe_fldK (K := K) (pv 0)) (pv 2) (fun _ _ => rfl)))) pa_nil))))), ?_⟩
  have sd := st.dist
  obtain ⟨ks0, x1, x2, x3⟩ := st.txs
  refine (sd_forT (K := K) (D := { nx := _, rt := _, bk := _, ct := _ }) (ds := ns.map fun (n : Nat) => PyData.int (n : Int)) (ed_var rfl hn) fun H1 a xs e1 sq al => ⟨fun i σ' H' => ∃ x2 ks, σ' = [some (.ref s.S), some nv, x2] ∧ StoreAt P w K C H' s m ts log ∧ FrM s H1 H' ∧ H' s.xd = some (.dK (txE ts ks)) ∧ ks.Nodup ∧ (∀ n ∈ ks, n < ts.length) ∧ (∀ n ∈ ns.take i, n ∈ ks), ?_, ?_, ?_, ?_⟩)
  · exact ⟨none, ks0, rfl, st.mono e1, FrM.of (Ex.refl _), e1 _ _ x1, x2, x3, fun n h => by simp at h⟩
  · rintro i σ' H' ⟨_, _, _, _, q, _⟩
    exact (st.mono e1).tk q
  · rintro i x d σ' H' hxi hdi hxd ⟨_, ks, rfl, st', fr, q1, q2, q3, q4⟩
    obtain ⟨n, hni, rfl⟩ : ∃ n, ns[i]? = some n ∧ d = .int ((n : Nat) : Int) := by
      rw [List.getElem?_map] at hdi
      cases e : ns[i]? with
      | none => rw [e] at hdi; cases hdi
      | some n => rw [e] at hdi; cases hdi; exact ⟨n, rfl, rfl⟩
    cases Dp.intD hxd
    have nlt := hlt n (List.mem_of_getElem? hni)
    have tk1 : ns.take (i + 1) = ns.take i ++ [n] := by rw [List.take_succ, hni]; rfl
    obtain ⟨⟨dx, fs, af, i1, i2, i3⟩, ⟨ys, t1, t2⟩, d1, n1, _, ne, iv, shd⟩ := id st'
    refine s_when (et_test (ev_dnin (k := .inl (n : Int)) q1 (ev_var rfl) (ev_fldS i1 T.cl T.nX i2.x (ev_var rfl)))) (fun c H2 e2 => ?_) (fun c H2 e2 => ?_)
    · have new : n ∉ ks := fun h => by rw [txE_in h] at c; cases c
      have hof := iv.of _ (List.mem_of_getElem? (at0_get nlt))
      refine s_dputK (k := .inl (n : Int)) (v := .str (at0 ts n).txt) (e2 _ _ q1) (by have := nodup_bound _ _ q2 q3; unfold txE; rw [List.length_map]; omega) (ev_text (n := 8) mok hof.1 hof.2 (Nat.le_refl _) (ed_ixL (ds := ts.map Tm.enc) (ed_ev (v := .ref s.tl) (ev_fldS (e2 _ _ i1) T.cl T.nT i2.t (ev_var rfl)) (.lst (sq_of (e2 _ _ t1)) (dmonoAll e2 _ _ t2))) (ed_int (ev_var rfl)) (atD (n := n) (by rw [List.getElem?_map, at0_get nlt]; rfl)))) (ev_fldS (e2 _ _ i1) T.cl T.nX i2.x (ev_var rfl)) (ev_var rfl) fun H3 e3 => ?_
      rw [txE_put new]
      have e23 := e2.trans e3
      have xH := e23 _ _ q1
      have nd2 : (ks ++ [n]).Nodup := by
        rw [List.nodup_append]
        refine ⟨q2, List.pairwise_singleton _ _, fun a ha b hb e => ?_⟩
        rw [List.mem_singleton.mp hb] at e
        exact new (e ▸ ha)
      have b2 : ∀ k ∈ ks ++ [n], k < ts.length := fun k hk => by
        rcases List.mem_append.mp hk with hk | hk
        · exact q3 k hk
        · rw [List.mem_singleton.mp hk]; exact nlt
      have tkx : TK K H' (upd H3 s.xd (.dK (txE ts (ks ++ [n])))) := st'.tk ((FrM.of e23).trans FrM.xd)
      have fx : ∀ {a : Addr} {o : HO}, H' a = some o → a ≠ s.xd → (upd H3 s.xd (.dK (txE ts (ks ++ [n])))) a = some o := fun h hn => by rw [upd_ne hn]; exact e23 _ _ h
      refine ⟨_, ks ++ [n], rfl, ⟨⟨dx, fs, af, fx i1 sd.sx, i2, tmono tkx _ _ (rangeD_noL _) i3⟩, ⟨ys, fx t1 sd.tx, tmonoAll tkx _ _ (noLs_iff.mpr fun d hd => by
          obtain ⟨t, _, rfl⟩ := List.mem_map.mp hd
          exact t.noL) t2⟩, fx d1 sd.dx, n1.keep tkx fun o ho => fx ho (Ne.symm sd.xn), ⟨_, upd_same, nd2, b2⟩, ne, iv, fx shd i2.hx⟩, (fr.trans (FrM.of e23)).trans FrM.xd, upd_same, nd2, b2, fun k hk => ?_⟩
      rw [tk1] at hk
      rcases List.mem_append.mp hk with hk | hk
      · exact List.mem_append_left _ (q4 k hk)
      · exact List.mem_append_right _ hk
    · have old : n ∈ ks := Classical.byContradiction fun h => by rw [txE_no h] at c; cases c
      refine ⟨_, ks, rfl, st'.mono e2, fr.trans (FrM.of e2), e2 _ _ q1, q2, q3, fun k hk => ?_⟩
      rw [tk1] at hk
      rcases List.mem_append.mp hk with hk | hk
      · exact q4 k hk
      · rw [List.mem_singleton.mp hk]; exact old
  · rintro σ' H' ⟨_, ks, rfl, st', fr, q1, q2, q3, q4⟩
    rw [List.length_map, List.take_length] at q4
    obtain ⟨⟨dx, fs, af, i1, i2, i3⟩, _, _, _, _, _, iv⟩ := id st'
    have hn' := tmono ((st.mono e1).tk fr) _ _ (natsD_noL _) (dmono e1 _ _ hn)
    refine s_retU (eu_tupS (xs := ns.map fun n => (at0 ts n).txt) (ed_is (ed_lcM (as := ns) (fun n : Nat => .int (n : Int)) (fun n => .str (at0 ts n).txt) (ed_var rfl hn') (by omega) (fun _ _ => rfl) fun n x H2 hm e hx => ?_) (by rw [List.map_map]; rfl))) fun b H2 hb e hbt => ?_
    · cases hx.intD
      exact ed_str (ev_dget (k := .inl (n : Int)) (e _ _ q1) (ev_fldS (e _ _ i1) T.cl T.nX i2.x (ev_var rfl)) (ev_var rfl) (txE_in (q4 n hm)))
    · refine k b H2 ?_ hbt (st'.mono e) (((FrM.of e1).trans fr).trans (FrM.of e))
      have sd' := st'.dist
      cases hb0 : H b with
      | none => rfl
      | some o =>
        exfalso
        have ne1 : b ≠ s.tl := fun z => by obtain ⟨ys, t1, _⟩ := st'.tms; rw [z, t1] at hb; cases hb
        have ne2 : b ≠ s.dl := fun z => by have t1 := st'.dps; rw [z, t1] at hb; cases hb
        have ne3 : b ≠ s.nd := fun z => by obtain ⟨_, ys, t1, _⟩ := st'.nms; rw [z, t1] at hb; cases hb
        have ne4 : b ≠ s.xd := fun z => by rw [z, q1] at hb; cases hb
        have := fr b o (e1 _ _ hb0) ne1 ne2 ne3 ne4
        rw [this] at hb
        cases hb
end
end Lb

set_option Elab.async false
set_option linter.all false
set_option maxRecDepth 100000
set_option maxHeartbeats 4000000
namespace Lb
open PySem L2 Evl PyProof.Rows
/-- nothing of the store stood here -/
structure NewS (H : Hp) (s : SA) : Prop where
  S : H s.S = none
  t : H s.tl = none
  d : H s.dl = none
  n : H s.nd = none
  x : H s.xd = none
  h : H s.hd = none
theorem FrM.ex {s : SA} {H0 H H' : Hp} (n : NewS H0 s) (e : Ex H0 H) (f : FrM s H H') : Ex H0 H' := fun b o h => f b o (e b o h) (ne_of_none h n.t) (ne_of_none h n.d) (ne_of_none h n.n) (ne_of_none h n.x)
def pf0 (af : V) : List (Str × V) := putF "at_first" af []
def pfd (af : V) : List (Str × V) := putF "_deepest" (.int 8) (pf0 af)
def pf1 (af : V) (tl : Addr) : List (Str × V) := putF "_terms" (.ref tl) (pfd af)
def pf2 (af : V) (tl dl : Addr) : List (Str × V) := putF "_depths" (.ref dl) (pf1 af tl)
def pf3 (af : V) (tl dl nd : Addr) : List (Str × V) := putF "_numbers" (.ref nd) (pf2 af tl dl)
def pf4 (af : V) (tl dl nd xd : Addr) : List (Str × V) := putF "_texts" (.ref xd) (pf3 af tl dl nd)
def pf5 (af : V) (tl dl nd xd : Addr) : List (Str × V) := putF "_is_closed" (.bl false) (pf4 af tl dl nd xd)
def pf6 (af : V) (tl dl nd xd hd : Addr) : List (Str × V) := putF "_shared" (.ref hd) (pf5 af tl dl nd xd)
theorem pf6_look (af : V) (tl dl nd xd hd : Addr) (f : Str) : (pf6 af tl dl nd xd hd).lookup f = if f = "_shared" then some (.ref hd) else if f = "_is_closed" then some (.bl false) else if f = "_texts" then some (.ref xd) else if f = "_numbers" then some (.ref nd) else if f = "_depths" then some (.ref dl) else if f = "_terms" then some (.ref tl) else if f = "_deepest" then some (.int 8) else if f = "at_first" then some af else none := by
  unfold pf6 pf5 pf4 pf3 pf2 pf1 pfd pf0
  rw [lookup_putF, lookup_putF, lookup_putF, lookup_putF, lookup_putF, lookup_putF, lookup_putF, lookup_putF]
  rfl
theorem pf6_ok (af : V) (s : SA) (hx : s.hd ≠ s.xd) : StF (pf6 af s.tl s.dl s.nd s.xd s.hd) s af := by
  refine ⟨?_, ?_, ?_, ?_, ?_, ?_, ?_, ?_, ?_, ?_, ?_, ?_, ?_, hx⟩ <;> rw [pf6_look] <;> repeat (first | rw [if_pos rfl] | rw [if_neg (by decide +kernel)])
section
variable {P : Program} {w : World} {K : PySem.W.Frag} {mg : Str → Option Value} {base : Heap} {C : Addr} {H H' : Hp} {s : SA} {m : Mc} {ts : List Tm} {log : List (Nat × List Nat)}
theorem ev_self {σ : L2.St} {v : V} (h : σ[0]? = some (some v)) : Ev (tVar 0) σ H v := ev_var h
theorem q_fldD {σ : L2.St} {D : Ends} {tz : TS} {ta tv : TE} {S dx : Addr} {fs : List (Str × V)} {f : Str} {d : PyData} (hS : H S = some (.ins C dx fs)) (cl : Cls K C) (n : NoAttr K C f) (hz : fs.length < 1000) (h : EvD K tv σ H d) (ha : Ev ta σ H (.ref S))
    (k : ∀ v H1, Ex H H1 → Dp K H1 v d → tz D σ (upd H1 S (.ins C dx (putF f v fs)))) : tSeq (sFld K ta tv f) tz D σ H :=
  h H (Ex.refl _) _ fun v H1 e1 hv => ha H1 e1 _ fun H2 e2 => ⟨S, C, dx, fs, rfl, e2 _ _ (e1 _ _ hS), cl, n, hz, k v H2 (e1.trans e2) (dmono e2 _ _ hv)⟩
theorem q_fldL {σ : L2.St} {D : Ends} {tz : TS} {ta tv : TE} {S dx : Addr} {fs : List (Str × V)} {f : Str} {ds : List PyData} (hS : H S = some (.ins C dx fs)) (cl : Cls K C) (n : NoAttr K C f) (hz : fs.length < 1000) (h : EvDL K tv σ H ds) (ha : Ev ta σ H (.ref S))
    (k : ∀ p vs H1, H p = none → Ex H H1 → H1 p = some (.lst vs) → DpAll K H1 vs ds → tz D σ (upd H1 S (.ins C dx (putF f (.ref p) fs)))) : tSeq (sFld K ta tv f) tz D σ H :=
  h H (Ex.refl _) _ fun p vs H1 f1 e1 h1 hv => ha H1 e1 _ fun H2 e2 => ⟨S, C, dx, fs, rfl, e2 _ _ (e1 _ _ hS), cl, n, hz, k p vs H2 f1 (e1.trans e2) (e2 _ _ h1) (dmonoAll e2 _ _ hv)⟩
theorem el_rg {σ : L2.St} {te : TE} {n : Nat} (h : EvD K te σ H (.int (n : Int))) (hn : n ≤ 100000) : EvDL K (tLstRg (tRg1 te)) σ H (rangeD n) := fun H1 e Q q =>
  h H1 e _ fun v H2 e2 hv => by
    cases hv.intD
    exact ⟨n, rfl, RgOk.of_le (Int.le_refl 0) (by omega) (by omega) (by omega), fun p hp => q p _ _ (fresh_back e2 hp) (e2.trans (Ex.new hp)) upd_same (rangeD_at n)⟩
theorem ne_of_none' {a b : Addr} {o : HO} (h : H a = none) (h2 : H b = some o) : a ≠ b := fun z => by rw [z, h2] at h; cases h
def spStore (P : Program) (w : World) (K : PySem.W.Frag) (C : Addr) : Sp := fun vs H Q _ => ∃ (S dx : Addr) (m : Mc), vs = [.ref S, .int (m.cells : Int), .int 8] ∧ H S = some (.ins C dx []) ∧ m.cells ≤ 4 ∧
  ∀ s H', s.S = S → StoreAt P w K C H' s m (start0 m.cells) [] → ExB S H H' → H s.tl = none → H s.dl = none → H s.nd = none → H s.xd = none → H s.hd = none → Q .non H'
abbrev KStore (P : Program) (w : World) (K : PySem.W.Frag) (mg : Str → Option Value) (base : Heap) (C : Addr) := MakC P w K mg base 1 "Store" C ["self", "cells", "deepest"] (spStore P w K C) [.int 8]
theorem ok_store (B : Bi mg) (T : StC K mg C) : KStore P w K mg base C := by
  obtain ⟨f, fd, ds, M, F, bd, dv⟩ := T.init
  refine ⟨f, fd, ds, M, FunD.okD F scStoreInit (fun vs H Q E h => ?_) (fun cdv A outer sh0 H vs Q E hr h => ?_), T.mgC, bd, dv⟩
  · obtain ⟨S, dx, m, rfl, _⟩ := h
    rfl
  obtain ⟨S, dx, m, rfl, hS, c4, k⟩ := h
  refine ⟨_, (pss_cons (ps_fld (pv 0) (pe_tupRg rfl rfl B.tuple (prg_1 rfl B.range (pv 1))) rfl) (pss_cons (ps_fld (pv 0) (pv 2) rfl) (pss_cons (ps_fld (pv 0) (pe_listRg rfl rfl B.list (prg_1 rfl B.range (pv 1))) rfl) (pss_cons (ps_fld (pv 0) (pe_lc (own := [("_", 3)]) (g := (gName 3)) (tt := tYes) rfl scStoreInit.nd (pi_range1 rfl B.range (pa_cons (pv 1) pa_nil)) (blkOk_by (N := NStoreInit) (sc := defScope sStoreInit) (by decide +kernel)) (fun _ _ _ _ _ => (pg_name (i := 3) scStoreInit.nd rfl (by first | exact Or.inl rfl | exact Or.inr rfl))) (fun _ _ _ _ _ => pts_nil) (fun _ _ _ _ _ => pe_int)) rfl) (pss_cons (ps_fld (pv 0) (pe_dnewN [true, false]) rfl) (pss_cons (ps_fld (pv 0) pe_dnewK rfl) (pss_cons (ps_fld (pv 0) pe_bl rfl) (pss_one (ps_fld (pv 0) pe_dnewK rfl))))))))), ?_⟩
  refine q_fldD (K := K) (d := .tuple (rangeD m.cells)) hS T.cl T.nA (by show 0 < 1000; decide) (ed_tupRg (ed_int (ev_var rfl)) (by omega)) (ev_var rfl) fun af H1 e1 a1 => ?_
  have s1 : (upd H1 S (.ins C dx (pf0 af))) S = some (.ins C dx (pf0 af)) := upd_same
  have x1 : ExB S H (upd H1 S (.ins C dx (pf0 af))) := (ExB.of e1).trans ExB.upd
  replace a1 := tmono (TK.put (o := .ins C dx (pf0 af)) (no_rd (e1 _ _ hS) (fun _ z => nomatch z) (fun _ _ z => nomatch z))) _ _ (rangeD_noL _) a1
  show tSeq _ _ _ _ (upd H1 S (.ins C dx (pf0 af)))
  revert s1 x1 a1
  generalize (upd H1 S (.ins C dx (pf0 af))) = G1
  intro s1 x1 a1
  refine q_fldD (K := K) (d := .int 8) s1 T.cl T.nP (by show 1 < 1000; decide) (ed_int (ev_var rfl)) (ev_var rfl) fun v8 Hd ed h8 => ?_
  cases h8.intD
  have sd1 : (upd Hd S (.ins C dx (pfd af))) S = some (.ins C dx (pfd af)) := upd_same
  have xd1 : ExB S G1 (upd Hd S (.ins C dx (pfd af))) := (ExB.of ed).trans ExB.upd
  replace a1 := tmono (TK.put (o := .ins C dx (pfd af)) (no_rd (ed _ _ s1) (fun _ z => nomatch z) (fun _ _ z => nomatch z))) _ _ (rangeD_noL _) (dmono ed _ _ a1)
  replace x1 : ExB S H (upd Hd S (.ins C dx (pfd af))) := x1.trans xd1
  show tSeq _ _ _ _ (upd Hd S (.ins C dx (pfd af)))
  clear s1
  revert sd1 x1 a1
  clear xd1
  generalize (upd Hd S (.ins C dx (pfd af))) = GD
  intro s1 a1 x1
  refine q_fldL (K := K) (ds := rangeD m.cells) s1 T.cl T.nT (by show 2 < 1000; decide) (el_rg (ed_int (ev_var rfl)) (by omega)) (ev_var rfl) fun tl xs H2 f2 e2 t2 al2 => ?_
  have nt : tl ≠ S := ne_of_none' f2 s1
  have tkS : ∀ {G : Hp} {fs fs' : List (Str × V)}, G S = some (.ins C dx fs) → TK K G (upd G S (.ins C dx fs')) := fun h => TK.put (no_rd h (fun _ z => nomatch z) (fun _ _ z => nomatch z))
  have s2 : (upd H2 S (.ins C dx (pf1 af tl))) S = some (.ins C dx (pf1 af tl)) := upd_same
  have x2 : ExB S GD (upd H2 S (.ins C dx (pf1 af tl))) := (ExB.of e2).trans ExB.upd
  have tk2 : TK K H2 (upd H2 S (.ins C dx (pf1 af tl))) := tkS (e2 _ _ s1)
  replace t2 : (upd H2 S (.ins C dx (pf1 af tl))) tl = some (.lst xs) := by rw [upd_ne nt]; exact t2
  replace al2 := tmonoAll tk2 _ _ (noL_tup _ ▸ rangeD_noL _) al2
  replace a1 := tmono tk2 _ _ (rangeD_noL _) (dmono e2 _ _ a1)
  show tSeq _ _ _ _ (upd H2 S (.ins C dx (pf1 af tl)))
  revert s2 x2 t2 al2 a1
  clear tk2
  generalize (upd H2 S (.ins C dx (pf1 af tl))) = G2
  intro s2 x2 t2 al2 a1
  refine q_fldL (K := K) (ds := givenD m.cells (fun _ => true) fun _ => .int 1) s2 T.cl T.nD (by show 3 < 1000; decide) (elD_lcR (fun _ => true) (fun _ => .int 1) (ed_int (ev_var rfl)) (by omega) (fun _ _ => rfl) fun i H3 e3 hi => ⟨et_yes, fun _ => ed_int ev_c⟩) (ev_var rfl) fun dl ys H3 f3 e3 t3 al3 => ?_
  have nd_ : dl ≠ S := ne_of_none' f3 s2
  have ntd : tl ≠ dl := fun z => by rw [z, f3] at t2; cases t2
  have s3 : (upd H3 S (.ins C dx (pf2 af tl dl))) S = some (.ins C dx (pf2 af tl dl)) := upd_same
  have x3 : ExB S G2 (upd H3 S (.ins C dx (pf2 af tl dl))) := (ExB.of e3).trans ExB.upd
  have tk3 : TK K H3 (upd H3 S (.ins C dx (pf2 af tl dl))) := tkS (e3 _ _ s2)
  replace t3 : (upd H3 S (.ins C dx (pf2 af tl dl))) dl = some (.lst ys) := by rw [upd_ne nd_]; exact t3
  replace t2 : (upd H3 S (.ins C dx (pf2 af tl dl))) tl = some (.lst xs) := by rw [upd_ne nt]; exact e3 _ _ t2
  replace al2 := tmonoAll tk3 _ _ (noL_tup _ ▸ rangeD_noL _) (dmonoAll e3 _ _ al2)
  replace a1 := tmono tk3 _ _ (rangeD_noL _) (dmono e3 _ _ a1)
  have ye : ys = (start0 m.cells).map fun t => V.int (t.dep : Int) := by
    have h : DpAll K H3 ys ((List.range m.cells).map fun _ => PyData.int 1) := by rw [givenD_all] at al3; exact al3
    have h2 := D_ints (ns := (List.range m.cells).map fun _ => (1 : Int)) (by rw [List.map_map]; exact h)
    rw [h2]
    unfold start0
    rw [List.map_map, List.map_map]
    rfl
  show tSeq _ _ _ _ (upd H3 S (.ins C dx (pf2 af tl dl)))
  revert s3 x3 t3 t2 al2 a1
  clear tk3
  generalize (upd H3 S (.ins C dx (pf2 af tl dl))) = G3
  intro s3 x3 t3 t2 al2 a1
  -- _numbers
  refine fun nd H4 f4 e4 n4 => ⟨_, rfl, S, C, dx, _, rfl, e4 _ _ s3, T.cl, T.nN, by show 4 < 1000; decide, ?_⟩
  have nn : nd ≠ S := ne_of_none' f4 s3
  have s4 : (upd H4 S (.ins C dx (pf3 af tl dl nd))) S = some (.ins C dx (pf3 af tl dl nd)) := upd_same
  have x4 : ExB S G3 (upd H4 S (.ins C dx (pf3 af tl dl nd))) := (ExB.of e4).trans ExB.upd
  have tk4 : TK K H4 (upd H4 S (.ins C dx (pf3 af tl dl nd))) := tkS (e4 _ _ s3)
  replace n4 : NDictW P w K [true, false] (upd H4 S (.ins C dx (pf3 af tl dl nd))) nd [] := n4.keep tk4 fun o ho => by rw [upd_ne nn]; exact ho
  replace t3 : (upd H4 S (.ins C dx (pf3 af tl dl nd))) dl = some (.lst ys) := by rw [upd_ne nd_]; exact e4 _ _ t3
  replace t2 : (upd H4 S (.ins C dx (pf3 af tl dl nd))) tl = some (.lst xs) := by rw [upd_ne nt]; exact e4 _ _ t2
  replace al2 := tmonoAll tk4 _ _ (noL_tup _ ▸ rangeD_noL _) (dmonoAll e4 _ _ al2)
  replace a1 := tmono tk4 _ _ (rangeD_noL _) (dmono e4 _ _ a1)
  dsimp only
  show tSeq _ _ _ _ (upd H4 S (.ins C dx (pf3 af tl dl nd)))
  revert s4 x4 n4 t3 t2 al2 a1
  clear tk4
  generalize (upd H4 S (.ins C dx (pf3 af tl dl nd))) = G4
  intro s4 x4 n4 t3 t2 al2 a1
  -- _texts
  refine fun xd f5 => ⟨_, rfl, S, C, dx, _, rfl, Ex.new f5 _ _ s4, T.cl, T.nX, by show 5 < 1000; decide, ?_⟩
  have nx : xd ≠ S := ne_of_none' f5 s4
  have e5 := Ex.new (o := .dK []) f5
  have tk5 : TK K (upd G4 xd (.dK [])) (upd (upd G4 xd (.dK [])) S (.ins C dx (pf4 af tl dl nd xd))) := tkS (e5 _ _ s4)
  have b5 : ∀ {a : Addr} {o : HO}, G4 a = some o → a ≠ S → (upd (upd G4 xd (.dK [])) S (.ins C dx (pf4 af tl dl nd xd))) a = some o := fun h hn => by rw [upd_ne hn]; exact e5 _ _ h
  have s5 : (upd (upd G4 xd (.dK [])) S (.ins C dx (pf4 af tl dl nd xd))) S = some (.ins C dx (pf4 af tl dl nd xd)) := upd_same
  have x5 : ExB S G4 (upd (upd G4 xd (.dK [])) S (.ins C dx (pf4 af tl dl nd xd))) := (ExB.of e5).trans ExB.upd
  have xd5 : (upd (upd G4 xd (.dK [])) S (.ins C dx (pf4 af tl dl nd xd))) xd = some (.dK []) := by rw [upd_ne nx, upd_same]
  replace n4 : NDictW P w K [true, false] (upd (upd G4 xd (.dK [])) S (.ins C dx (pf4 af tl dl nd xd))) nd [] := (n4.mono e5).keep tk5 fun o ho => by rw [upd_ne nn]; exact ho
  replace t3 := b5 t3 nd_
  replace t2 := b5 t2 nt
  replace al2 := tmonoAll tk5 _ _ (noL_tup _ ▸ rangeD_noL _) (dmonoAll e5 _ _ al2)
  replace a1 := tmono tk5 _ _ (rangeD_noL _) (dmono e5 _ _ a1)
  dsimp only
  show tSeq _ _ _ _ (upd (upd G4 xd (.dK [])) S (.ins C dx (pf4 af tl dl nd xd)))
  revert s5 x5 xd5 n4 t3 t2 al2 a1
  clear tk5 b5
  generalize (upd (upd G4 xd (.dK [])) S (.ins C dx (pf4 af tl dl nd xd))) = G5
  intro s5 x5 xd5 n4 t3 t2 al2 a1
  -- _is_closed
  refine q_fldD (K := K) (d := .bool false) s5 T.cl T.nC (by show 6 < 1000; decide) (ed_bl ev_c) (ev_var rfl) fun vb H6 e6 hb => ?_
  cases hb.boolD
  have s6 : (upd H6 S (.ins C dx (pf5 af tl dl nd xd))) S = some (.ins C dx (pf5 af tl dl nd xd)) := upd_same
  have x6 : ExB S G5 (upd H6 S (.ins C dx (pf5 af tl dl nd xd))) := (ExB.of e6).trans ExB.upd
  have tk6 : TK K H6 (upd H6 S (.ins C dx (pf5 af tl dl nd xd))) := tkS (e6 _ _ s5)
  have xd6 : (upd H6 S (.ins C dx (pf5 af tl dl nd xd))) xd = some (.dK []) := by rw [upd_ne nx]; exact e6 _ _ xd5
  replace n4 : NDictW P w K [true, false] (upd H6 S (.ins C dx (pf5 af tl dl nd xd))) nd [] := (n4.mono e6).keep tk6 fun o ho => by rw [upd_ne nn]; exact ho
  replace t3 : (upd H6 S (.ins C dx (pf5 af tl dl nd xd))) dl = some (.lst ys) := by rw [upd_ne nd_]; exact e6 _ _ t3
  replace t2 : (upd H6 S (.ins C dx (pf5 af tl dl nd xd))) tl = some (.lst xs) := by rw [upd_ne nt]; exact e6 _ _ t2
  replace al2 := tmonoAll tk6 _ _ (noL_tup _ ▸ rangeD_noL _) (dmonoAll e6 _ _ al2)
  replace a1 := tmono tk6 _ _ (rangeD_noL _) (dmono e6 _ _ a1)
  show sFld _ _ _ _ _ _ (upd H6 S (.ins C dx (pf5 af tl dl nd xd)))
  revert s6 x6 xd6 n4 t3 t2 al2 a1
  clear tk6
  generalize (upd H6 S (.ins C dx (pf5 af tl dl nd xd))) = G6
  intro s6 x6 xd6 n4 t3 t2 al2 a1
  -- _shared
  refine fun hd f7 => ⟨_, rfl, S, C, dx, _, rfl, Ex.new f7 _ _ s6, T.cl, T.nS, by show 7 < 1000; decide, ?_⟩
  have nh : hd ≠ S := ne_of_none' f7 s6
  have e7 := Ex.new (o := .dK []) f7
  have tk7 : TK K (upd G6 hd (.dK [])) (upd (upd G6 hd (.dK [])) S (.ins C dx (pf6 af tl dl nd xd hd))) := tkS (e7 _ _ s6)
  have b7 : ∀ {a : Addr} {o : HO}, G6 a = some o → a ≠ S → (upd (upd G6 hd (.dK [])) S (.ins C dx (pf6 af tl dl nd xd hd))) a = some o := fun h hn => by rw [upd_ne hn]; exact e7 _ _ h
  have y1 := x1
  have y2 := y1.trans x2
  have y3 := y2.trans x3
  have y4 := y3.trans x4
  have y6 := (y4.trans x5).trans x6
  have back : ∀ {G : Hp} {a : Addr}, ExB S H G → G a = none → a ≠ S → H a = none := fun {G a} y h hn => by
    cases h0 : H a with
    | none => rfl
    | some o => rw [y a o h0 hn] at h; cases h
  refine k ⟨S, tl, dl, nd, xd, hd⟩ _ rfl ⟨⟨dx, _, af, upd_same, pf6_ok af ⟨S, tl, dl, nd, xd, hd⟩ (ne_of_none' f7 xd6), tmono tk7 _ _ (rangeD_noL _) (dmono e7 _ _ a1)⟩, ⟨xs, b7 t2 nt, ?_⟩, ?_, (n4.mono e7).keep tk7 fun o ho => by rw [upd_ne nn]; exact ho, ⟨[], b7 xd6 nx, List.nodup_nil, fun n h => by cases h⟩, ntd, SInv.start m, by show (upd (upd G6 hd (.dK [])) S _) hd = _; rw [upd_ne nh, upd_same]⟩ (y6.trans ((ExB.of e7).trans ExB.upd)) (back y1 f2 nt) (back y2 f3 nd_) (back y3 f4 nn) (back y4 f5 nx) (back y6 f7 nh)
  · have h := start_enc m.cells
    unfold encs at h
    rw [PyData.tuple.inj h]
    exact tmonoAll tk7 _ _ (noL_tup _ ▸ rangeD_noL _) (dmonoAll e7 _ _ al2)
  · rw [ye] at t3
    exact b7 t3 nd_
end
end Lb

set_option Elab.async false
set_option linter.all false
set_option maxRecDepth 100000
set_option maxHeartbeats 4000000
namespace Lb
open PySem L2 Evl PyProof.Rows
theorem natsD_set {hs : List Nat} {c n : Nat} (h : c < hs.length) : natsD (hs.set c n) = .tuple (((hs.map fun (n : Nat) => PyData.int (n : Int)).take c ++ [.int (n : Int)]) ++ (hs.map fun (n : Nat) => PyData.int (n : Int)).drop (c + 1)) := by
  unfold natsD
  rw [List.map_set, List.set_eq_take_append_cons_drop, if_pos (by rw [List.length_map]; exact h), List.append_assoc]
  rfl
def srcN (hs : List Nat) (l : Ln) : List Nat := l.src.map fun s => hs.getD s 0
theorem at0_hs {ts : List Tm} {hs : List Nat} {i : Nat} (h : i < hs.length) : at0 (hs.map (at0 ts)) i = at0 ts (hs.getD i 0) := by
  unfold at0
  rw [List.getD_eq_getElem?_getD, List.getD_eq_getElem?_getD (l := hs), List.getElem?_map, List.getElem?_eq_getElem h]
  rfl
theorem getD_lt {hs : List Nat} {i n : Nat} (h : i < hs.length) (hl : ∀ x ∈ hs, x < n) : hs.getD i 0 < n := by
  rw [List.getD_eq_getElem?_getD, List.getElem?_eq_getElem h]
  exact hl _ (List.getElem_mem h)
section
variable {P : Program} {w : World} {K : PySem.W.Frag} {mg : Str → Option Value} {base : Heap} {C : Addr} {H H' : Hp} {s : SA} {m : Mc} {ts : List Tm} {log : List (Nat × List Nat)}
theorem q_store {σ : L2.St} {D : Ends} {tz : TS} {ta : TE} {E : XK} {i : Nat} (c4 : m.cells ≤ 4) (h : Ev ta σ H (.int (m.cells : Int))) (k : ∀ s H1, StoreAt P w K C H1 s m (start0 m.cells) [] → NewS H s → Ex H H1 → tz D (σ.set i (some (.ref s.S))) H1) :
    tSeq (tAsg (tMake C (spStore P w K C) [.int 8] E (tCons ta tNil)) (gName i)) tz D σ H := h H (Ex.refl _) _ fun H1 e1 x dx hx hdx ne => by
  have up : ∀ b o, H b = some o → b ≠ x ∧ (upd (upd H1 dx (.own x)) x (.ins C dx [])) b = some o := fun b o hb => by
    have b1 := e1 b o hb
    have n1 : b ≠ x := ne_of_none b1 hx
    have n2 : b ≠ dx := ne_of_none b1 hdx
    exact ⟨n1, by rw [upd_ne n1, upd_ne n2]; exact b1⟩
  have back : ∀ {b : Addr}, (upd (upd H1 dx (.own x)) x (.ins C dx [])) b = none → H b = none := fun {b} hb => by
    cases h0 : H b with
    | none => rfl
    | some o => rw [(up b o h0).2] at hb; cases hb
  refine ⟨x, dx, m, rfl, upd_same, c4, fun s H' hs st ex f1 f2 f3 f4 f5 => ⟨rfl, ?_⟩⟩
  subst hs
  refine k s H' st ⟨?_, back f1, back f2, back f3, back f4, back f5⟩ fun b o hb => ex b o (up b o hb).2 (up b o hb).1
  exact fresh_back e1 hx
/-- holds: numbers of the store -/
structure Hs (m : Mc) (ts : List Tm) (hs : List Nat) : Prop where
  len : hs.length = m.cells
  lt : ∀ h ∈ hs, h < ts.length
theorem Hs.app {us : List Tm} {hs : List Nat} (h : Hs m ts hs) : Hs m (ts ++ us) hs := ⟨h.len, fun x hx => by have := h.lt x hx; rw [List.length_append]; omega⟩
def spBLine (P : Program) (w : World) (K : PySem.W.Frag) (C : Addr) : Sp := fun vs H Q _ => ∃ (s : SA) (m : Mc) (ts : List Tm) (log : List (Nat × List Nat)) (hv lv : V) (hs : List Nat) (l : Ln), vs = [.ref s.S, hv, lv] ∧ Dp K H hv (natsD hs) ∧ Dp K H lv l.enc ∧ StoreAt P w K C H s m ts log ∧ m.Ok ∧ l.Ok m ∧ Hs m ts hs ∧
  md (did (hs.map (at0 ts)) l) ≤ 8 ∧ ts.length < 50000 ∧ ∀ v H' us log' hs', us.length ≤ 1 → StoreAt P w K C H' s m (ts ++ us) log' → FrM s H H' → Dp K H' v (natsD hs') → Hs m (ts ++ us) hs' → hs'.map (at0 (ts ++ us)) = did (hs.map (at0 ts)) l → Q v H'
abbrev CBLine (P : Program) (w : World) (K : PySem.W.Frag) (mg : Str → Option Value) (base : Heap) (C : Addr) := Cal P w K mg base 3 "behind_line" ["store", "holds", "line"] (spBLine P w K C)
theorem ok_behind_line (B : Bi mg) (D : Dfn K mg "behind_line" sBehindLine ["store", "holds", "line"]) (M_made : MMade P w K mg base C) : CBLine P w K mg base C := by
  refine D.ok scBehindLine (fun vs H Q E h => ?_) (fun f cdv A outer sh0 H vs Q E hr h => ?_)
  · obtain ⟨s, m, ts, log, hv, lv, hs, l, rfl, _⟩ := h
    rfl
  obtain ⟨s, m, ts, log, hv, lv, hs, l, rfl, hh, hl, st, mok, lok, ho, hd, hz, k⟩ := h
  refine ⟨_, (pss_cons (ps_asg (pv 2) (pg_tup rfl (pgs_cons (pg_name (i := 3) scBehindLine.nd rfl (by first | exact Or.inl rfl | exact Or.inr rfl)) (pgs_cons (pg_name (i := 4) scBehindLine.nd rfl (by first | exact Or.inl rfl | exact Or.inr rfl)) (pgs_cons (pg_name (i := 5) scBehindLine.nd rfl (by first | exact Or.inl rfl | exact Or.inr rfl)) pgs_nil))))) (pss_cons (ps_set (i := 6) scBehindLine.nd rfl (by first | exact Or.inl rfl | exact Or.inr rfl) (pe_callTy call_tupq (by rfl) B.tuple (by decide +kernel) (pa_cons (pe_lc (own := [("source", 8)]) (g := (gName 8)) (tt := tYes) rfl scBehindLine.nd (pi_tup (pv 5)) (blkOk_by (N := NBehindLine) (sc := defScope sBehindLine) (by decide +kernel)) (fun _ _ _ _ _ => (pg_name (i := 8) scBehindLine.nd rfl (by first | exact Or.inl rfl | exact Or.inr rfl))) (fun _ _ _ _ _ => pts_nil) (fun _ _ _ _ _ => (pe_ix (show IxR _ (rIxT K) from ix_tup) (pv 1) (pv 8) (fun _ _ => rfl)))) pa_nil))) (pss_cons (ps_if (pt_cmpR op_isN (pv 4) pe_non (by first | exact nomark _ | rfl)) (pss_one (ps_set (i := 7) scBehindLine.nd rfl (by first | exact Or.inl rfl | exact Or.inr rfl) (pe_ix ix_tup (pv 6) pe_int (fun _ _ => rfl)))) (pss_one (ps_set (i := 7) scBehindLine.nd rfl (by first | exact Or.inl rfl | exact Or.inr rfl) (pe_mtC M_made hr (by omega) (pv 0) (pa_cons (pv 4) (pa_cons (pv 6) pa_nil)))))) (pss_one (ps_ret (pe_op op_catA (pe_op op_catA (pe_slice sl_tupA (pv 1) po_none (po_some (pv 3))) (pe_tup (pa_cons (pv 7) pa_nil))) (pe_slice sl_tupA (pv 1) (po_some (pe_op op_add (pv 3) pe_int)) po_none))))))), ?_⟩
  have c4 := mok.c4
  have cl := lok.cell
  have hlen := ho.len
  refine qd_un3 (ed_var rfl hl) fun cv fv sv H1 e1 h1 h2 h3 => ?_
  cases h1.intD
  have hh1 := dmono e1 _ _ hh
  have st1 := st.mono e1
  have srcl : ∀ x ∈ l.src, x < hs.length := fun x hx => by have := lok.src x hx; omega
  have slen : l.src.length ≤ 4 := by
    cases e : l.fn with
    | none => obtain ⟨x, e2, _⟩ := lok.cp e; rw [e2]; simp
    | some g => have := mok.rd _ (List.mem_of_getElem? (lok.ap g e).2); omega
  refine qd_asg (K := K) (d := natsD (srcN hs l)) (ed_tupL (ed_is (ed_lcM (as := l.src) (fun n : Nat => .int (n : Int)) (fun n => .int ((hs.getD n 0 : Nat) : Int)) (ed_var rfl h3) (by omega) (fun _ _ => rfl) fun n x H2 hm e hx => ?_) ?_)) fun pw H2 e2 hp => ?_
  · cases hx.intD
    refine ed_ix (ed_var rfl (dmono e _ _ hh1)) (ed_int (ev_var rfl)) (atD ?_)
    rw [List.getElem?_map, List.getD_eq_getElem?_getD, List.getElem?_eq_getElem (srcl n hm)]
    rfl
  · unfold srcN
    rw [List.map_map]
    rfl
  have st2 := st1.mono e2
  -- what is behind the if
  have fin : ∀ (n : Nat) (H3 : Hp) (us : List Tm) (log' : List (Nat × List Nat)) (x8 : Option V), us.length ≤ 1 → n < (ts ++ us).length → at0 (ts ++ us) n = l.made (hs.map (at0 ts)) → StoreAt P w K C H3 s m (ts ++ us) log' → FrM s H2 H3 →
      tRet (tOp (rCatA K) (tOp (rCatA K) (tSl (rSlA K) (tVar 1) tNoPart (tPart (tVar 3))) (tTup (tCons (tVar 7) tNil))) (tSl (rSlA K) (tVar 1) (tPart (tOp (rI0 fun i j => .int (i + j)) (tVar 3) (tC (.int 1)))) tNoPart)) { nx := fun _ H' => Q .non H', rt := Q }
        [some (.ref s.S), some hv, some lv, some (.int (l.cell : Int)), some fv, some sv, some pw, some (.int (n : Int)), x8] H3 := fun n H3 us log' x8 u1 nl en st3 fr => by
    have tk : TK K H2 H3 := st2.tk fr
    have hh3 := tmono tk _ _ (natsD_noL _) (dmono e2 _ _ hh1)
    refine sd_ret (K := K) (ed_is (ed_cat (ed_cat (ed_sl (ed_var rfl hh3) eo_none (eo_some (ev_var rfl))) (ed_tup (ead_cons (ed_int (ev_var rfl)) ead_nil) (by simp)) ?_) (ed_sl (ed_var rfl hh3) (eo_some (ev_is (v := .int ((l.cell + 1 : Nat) : Int)) (ev_op (ev_var rfl) ev_c rv_I0) rfl)) eo_none) ?_) ?_) fun v H4 e4 hv' => k v H4 us log' (hs.set l.cell n) u1 (st3.mono e4) ((FrM.of (e1.trans e2)).trans (fr.trans (FrM.of e4))) hv' ⟨by rw [List.length_set]; exact hlen, fun x hx => ?_⟩ ?_
    · rw [sl_to (by rw [List.length_map]; omega)]
      simp
      omega
    · rw [sl_to (by rw [List.length_map]; omega), sl_from (by rw [List.length_map]; omega)]
      simp
      omega
    · rw [sl_to (by rw [List.length_map]; omega), sl_from (by rw [List.length_map]; omega), natsD_set (by omega)]
    · rcases List.mem_or_eq_of_mem_set hx with q | q
      · have := ho.lt x q
        rw [List.length_append]
        omega
      · rw [q]; exact nl
    · rw [List.map_set, at0_map ho.lt, en]
      rfl
  cases ef : l.fn with
  | none =>
    rw [ef] at h2
    obtain ⟨x, ex, xc⟩ := lok.cp ef
    have xl := srcl x (by rw [ex]; simp)
    refine q_if (et_test (ev_isN (ed_var rfl (dmono e2 _ _ h2)))) (fun _ H3 e3 => ?_) (fun z => by simp [isNon, fnD] at z)
    refine sd_asg (K := K) (d := .int ((hs.getD x 0 : Nat) : Int)) (ed_ix (ed_var rfl (dmono e3 _ _ hp)) (ed_int ev_c) (atD (n := 0) (by unfold srcN; rw [ex]; rfl))) fun v H4 e4 hv4 => ?_
    cases hv4.intD
    refine fin (hs.getD x 0) H4 [] log _ (by decide) ?_ ?_ (by rw [List.append_nil]; exact st2.mono (e3.trans e4)) (FrM.of (e3.trans e4))
    · rw [List.append_nil]
      exact getD_lt xl ho.lt
    · rw [List.append_nil]
      unfold Ln.made
      rw [ef, ex]
      exact (at0_hs xl).symm
  | some g =>
    rw [ef] at h2
    obtain ⟨g1, g2⟩ := lok.ap g ef
    have fvE : fv = .int (g : Int) := Dp.intD h2
    subst fvE
    have mem : l.made (hs.map (at0 ts)) ∈ did (hs.map (at0 ts)) l := by
      unfold did
      exact List.mem_of_getElem? (List.getElem?_set_self (by rw [List.length_map]; omega))
    have made : l.made (hs.map (at0 ts)) = Tm.mk g ((srcN hs l).map (at0 ts)) := by
      unfold Ln.made srcN
      rw [ef, List.map_map]
      refine congrArg (Tm.mk g) (List.map_congr_left fun x hx => ?_)
      exact at0_hs (srcl x hx)
    refine q_if (et_test (ev_isN (ed_var rfl (dmono e2 _ _ h2)))) (fun z => by simp [isNon, fnD] at z) (fun _ H3 e3 => ?_)
    have st3 := st2.mono e3
    obtain ⟨dx, fs, af, i1, i2, i3⟩ := st3.ins
    refine ⟨_, rfl, s.S, dx, fs, rfl, i1, i2.m1, _, rfl, _, rfl, ?_⟩
    refine ⟨s, m, ts, log, g, srcN hs l, pw, rfl, dmono e3 _ _ hp, st3, mok, fun p hp => ?_, by unfold srcN; rw [List.length_map]; exact g2, ?_, hz, fun n H4 us log' u1 en st4 fr => ?_⟩
    · obtain ⟨x, hx, rfl⟩ := List.mem_map.mp hp
      exact getD_lt (srcl x hx) ho.lt
    · rw [← made]
      exact Nat.le_trans (md_le mem) hd
    · refine fin n H4 us log' _ u1 (List.getElem?_eq_some_iff.mp en).1 ?_ st4 ((FrM.of e3).trans fr)
      rw [made]
      have := at0_get (List.getElem?_eq_some_iff.mp en).1
      rw [en] at this
      exact (Option.some.inj this).symm
end
end Lb

set_option Elab.async false
set_option linter.all false
set_option maxRecDepth 100000
set_option maxHeartbeats 4000000
namespace Lb
open PySem L2 Evl PyProof.Rows
/-! ### pairs -/
def kP (hs : List Nat) (t : Nat) : List NI := [.inr (hs.map fun n : Nat => .inl (n : Int)), .inl (.inl (t : Int))]
theorem kP_D (hs : List Nat) (t : Nat) : keyD (kP hs t) = .tuple [natsD hs, .int (t : Int)] := by
  unfold keyD kP natsD
  simp [niD, kD]
theorem kP_inj {a b : List Nat} {t u : Nat} (h : kP a t = kP b u) : a = b ∧ t = u := by
  unfold kP at h
  rw [List.cons.injEq, List.cons.injEq] at h
  have e1 := nats_inj (Sum.inr.inj h.1)
  have e2 : (t : Int) = (u : Int) := Sum.inl.inj (Sum.inl.inj h.2.1)
  exact ⟨e1, by omega⟩
structure Kept (kvs : List (List NI × V)) (ks : List NI) (lv : V) (kvs' : List (List NI × V)) : Prop where
  len : kvs'.length ≤ kvs.length + 1
  src : ∀ e ∈ kvs', e ∈ kvs ∨ (e.1 = ks ∧ e.2 = lv)
  old : ∀ e ∈ kvs, ∃ e' ∈ kvs', e'.1 = e.1
  new : ∃ e ∈ kvs', e.1 = ks
theorem paired_at {α β : Type} {F : α → β → Prop} : ∀ {l₁ : List α} {l₂ : List β} {i : Nat} {a : α} {b : β}, Paired F l₁ l₂ → l₁[i]? = some a → l₂[i]? = some b → F a b
  | _, _, 0, _, _, .cons h _, e1, e2 => by
    simp at e1 e2
    subst e1
    subst e2
    exact h
  | _, _, i + 1, _, _, .cons _ t, e1, e2 => paired_at (i := i) t (by simpa using e1) (by simpa using e2)
  | _, _, _, _, _, .nil, e1, _ => by simp at e1
theorem valV_some_mem {ks : List NI} {v : V} : ∀ {kvs : List (List NI × V)}, valV kvs ks = some v → (ks, v) ∈ kvs
  | [], h => by cases h
  | p :: r, h => by
    by_cases e : p.1 = ks
    · rw [valV_pos e] at h
      rw [show (ks, v) = p from by rw [← e, ← Option.some.inj h]]
      exact List.mem_cons_self
    · rw [valV_neg e] at h
      exact List.mem_cons_of_mem _ (valV_some_mem h)
theorem kept_put (kvs : List (List NI × V)) (ks : List NI) (lv : V) : Kept kvs ks lv (putK kvs ks lv) := by
  unfold putK
  split
  · rename_i h
    refine ⟨by rw [List.length_map]; omega, fun e he => ?_, fun e he => ?_, ?_⟩
    · obtain ⟨p, hp, rfl⟩ := List.mem_map.mp he
      by_cases q : p.1 = ks
      · rw [if_pos q]
        exact .inr ⟨q, rfl⟩
      · rw [if_neg q]
        exact .inl hp
    · refine ⟨_, List.mem_map.mpr ⟨e, he, rfl⟩, ?_⟩
      split <;> rfl
    · obtain ⟨p, hp, q⟩ := List.any_eq_true.mp h
      refine ⟨_, List.mem_map.mpr ⟨p, hp, rfl⟩, ?_⟩
      have q' : p.1 = ks := of_decide_eq_true q
      rw [if_pos q']
      exact q'
  · refine ⟨by simp, fun e he => ?_, fun e he => ⟨e, List.mem_append_left _ he, rfl⟩, ⟨(ks, lv), by simp, rfl⟩⟩
    rcases List.mem_append.mp he with he | he
    · exact .inl he
    · rw [List.mem_singleton.mp he]
      exact .inr ⟨rfl, rfl⟩
theorem kept_same {kvs : List (List NI × V)} {ks : List NI} {lv v : V} (h : valV kvs ks = some v) : Kept kvs ks lv kvs :=
  ⟨Nat.le_succ _, fun e he => .inl he, fun e he => ⟨e, he, rfl⟩, ⟨_, valV_some_mem h, rfl⟩⟩
section
variable {P : Program} {w : World} {K : PySem.W.Frag} {mg : Str → Option Value} {base : Heap} {C : Addr} {H H' : Hp} {s : SA} {m : Mc} {ts : List Tm} {log : List (Nat × List Nat)}
abbrev shP : List Bool := [false, true]
def spKeep (P : Program) (w : World) (K : PySem.W.Frag) : Sp := fun vs H Q _ => ∃ (d : Addr) (kvs : List (List NI × V)) (pv lv : V) (ks : List NI) (ls : List Nat), vs = [.ref d, pv, lv] ∧ NDictW P w K shP H d kvs ∧ Dp K H pv (keyD ks) ∧ ks.map isKey = shP ∧ Dp K H lv (natsD ls) ∧ kvs.length < 50000 ∧
  (∀ e ∈ kvs, ∃ ls, Dp K H e.2 (natsD ls)) ∧ ∀ H' kvs', ExB d H H' → NDictW P w K shP H' d kvs' → Kept kvs ks lv kvs' → Q .non H'
abbrev CKeep (P : Program) (w : World) (K : PySem.W.Frag) (mg : Str → Option Value) (base : Heap) := Cal P w K mg base 1 "keep_fewer" ["found", "key", "numbers"] (spKeep P w K)
theorem ok_keep_shorter (B : Bi mg) (D : Dfn K mg "keep_fewer" sKeepFewer ["found", "key", "numbers"]) : CKeep P w K mg base := by
  refine D.ok scKeepFewer (fun vs H Q E h => ?_) (fun f cdv A outer sh0 H vs Q E hr h => ?_)
  · obtain ⟨d, kvs, pv, lv, ks, ls, rfl, _⟩ := h
    rfl
  obtain ⟨d, kvs, pw, lv, ks, ls, rfl, hd, hp, hs, hl, hz, hall, k⟩ := h
  have hu := (show (A.deeper (envOfC "keep_fewer" (defScope sKeepFewer) sh0.heap.objs.size f cdv)).units + 4 < cLine by have := hr.un; omega)
  refine ⟨_, (pss_one (ps_if (PW.pt (pw_or (pt_cmp (pc_dnotinN hu (pv 1) (pv 0))) (pw_or1 (pt_cmpR op_lt (pe_callB call_lenq (by rfl) B.len PySem.boot_len (pa_cons (pv 2) pa_nil)) (pe_callB call_lenq (by rfl) B.len PySem.boot_len (pa_cons (pe_dgetN hu (pv 0) (pv 1) (fun _ _ => rfl)) pa_nil)) (by first | exact nomark _ | rfl))))) (pss_one (ps_dputN hu (pv 0) (pv 1) (pv 2) rfl)) pss_nil)), ?_⟩
  have put : ∀ {H1 : Hp}, Ex H H1 → sNPut P w K (tVar 0) (tVar 1) (tVar 2) { nx := fun _ H' => Q .non H', rt := Q } [some (.ref d), some pw, some lv] H1 := fun {H1} e1 =>
    s_nput (hd.mono e1) hs (ev_var rfl) (ev_var rfl) (ed_var rfl (dmono e1 _ _ hp)) (by omega) fun H2 e2 n2 => k H2 _ ((ExB.of e1).trans e2) n2 (kept_put _ _ _)
  cases hv : valV kvs ks with
  | none =>
    refine s_when (et_or (b := false) (et_test (ev_nin hd hs (ed_var rfl hp) (ev_var rfl))) fun z => by rw [hv] at z; cases z) (fun _ H1 e1 => put e1) (fun z => by rw [hv] at z; cases z)
  | some v =>
    obtain ⟨ls2, h2⟩ := hall _ (valV_some_mem hv)
    refine s_when (et_or (et_test (ev_nin hd hs (ed_var rfl hp) (ev_var rfl))) fun _ => et_test (ev_op (ev_lenT (ed_var rfl hl)) (ev_lenT (ed_ev (ev_nget hd hs (ed_var rfl hp) (ev_var rfl) hv) h2)) rv_I0)) (fun _ H1 e1 => put e1) (fun _ H1 e1 => k H1 kvs (ExB.of e1) (hd.mono e1) (kept_same hv))
/-- pairs as a set of what is held and how many lines were lost last -/
structure PairsOk (K : PySem.W.Frag) (H : Hp) (m : Mc) (ts : List Tm) (B : Nat) (kvs : List (List NI × V)) (R : List Tm → Nat → Prop) : Prop where
  each : ∀ e ∈ kvs, ∃ hs t ls, e.1 = kP hs t ∧ Hs m ts hs ∧ R (hs.map (at0 ts)) t ∧ Dp K H e.2 (natsD ls) ∧ ls.length ≤ B
  all : ∀ held t, R held t → ∃ e ∈ kvs, ∃ hs, e.1 = kP hs t ∧ Hs m ts hs ∧ hs.map (at0 ts) = held
theorem PairsOk.mono {B B' : Nat} {kvs : List (List NI × V)} {R : List Tm → Nat → Prop} {us : List Tm} (h : PairsOk K H m ts B kvs R) (e : TK K H H') (hB : B ≤ B') : PairsOk K H' m (ts ++ us) B' kvs R := by
  refine ⟨fun e he => ?_, fun held t hR => ?_⟩
  · obtain ⟨hs, t, ls, h1, h2, h3, h4, h5⟩ := h.each e he
    exact ⟨hs, t, ls, h1, h2.app, by rw [at0_map h2.lt]; exact h3, tmono (by assumption) _ _ (natsD_noL _) h4, Nat.le_trans h5 hB⟩
  · obtain ⟨e, he, hs, h1, h2, h3⟩ := h.all held t hR
    exact ⟨e, he, hs, h1, h2.app, by rw [at0_map h2.lt]; exact h3⟩
theorem PairsOk.tk {B : Nat} {kvs : List (List NI × V)} {R : List Tm → Nat → Prop} (h : PairsOk K H m ts B kvs R) (e : TK K H H') : PairsOk K H' m ts B kvs R := by
  have := h.mono (us := []) e (Nat.le_refl _)
  rw [List.append_nil] at this
  exact this
theorem PairsOk.iff {B : Nat} {kvs : List (List NI × V)} {R R' : List Tm → Nat → Prop} (h : PairsOk K H m ts B kvs R) (e : ∀ held t, R held t ↔ R' held t) : PairsOk K H m ts B kvs R' := by
  refine ⟨fun e1 he => ?_, fun held t hR => h.all held t ((e held t).mpr hR)⟩
  obtain ⟨hs, t, ls, h1, h2, h3, h4⟩ := h.each e1 he
  exact ⟨hs, t, ls, h1, h2, (e _ _).mp h3, h4⟩
theorem PairsOk.keep {B : Nat} {kvs kvs' : List (List NI × V)} {R : List Tm → Nat → Prop} {hs : List Nat} {t : Nat} {lv : V} {ls : List Nat} (h : PairsOk K H m ts B kvs R) (k : Kept kvs (kP hs t) lv kvs') (hh : Hs m ts hs) (hl : Dp K H lv (natsD ls)) (hz : ls.length ≤ B) :
    PairsOk K H m ts B kvs' (fun held u => R held u ∨ (held = hs.map (at0 ts) ∧ u = t)) := by
  refine ⟨fun e he => ?_, fun held u hR => ?_⟩
  · rcases k.src e he with q | ⟨q1, q2⟩
    · obtain ⟨hs', t', ls', h1, h2, h3, h4, h5⟩ := h.each e q
      exact ⟨hs', t', ls', h1, h2, .inl h3, h4, h5⟩
    · exact ⟨hs, t, ls, q1, hh, .inr ⟨rfl, rfl⟩, q2 ▸ hl, hz⟩
  · rcases hR with hR | ⟨rfl, rfl⟩
    · obtain ⟨e, he, hs', h1, h2, h3⟩ := h.all held u hR
      obtain ⟨e', he', q⟩ := k.old e he
      exact ⟨e', he', hs', q.trans h1, h2, h3⟩
    · obtain ⟨e, he, q⟩ := k.new
      exact ⟨e, he, hs, q, hh, rfl⟩
/-- for (a, b), v in d.items() -/
theorem sd_forIN {σ : L2.St} {D : Ends} {td : TE} {g : TG} {tu : TS} {d : Addr} {sh : List Bool} {kvs : List (List NI × V)} (h : Ev td σ H (.ref d)) (hd : NDict P w K sh H d kvs)
    (k : ∀ H1 od xs, ExB d H H1 → NDict P w K sh H1 d kvs → Lkd P w sh d od xs H1 → ∃ Pv : Nat → L2.St → Hp → Prop, Pv 0 σ H1 ∧ (∀ i σ' H', Pv i σ' H' → Lkd P w sh d od xs H' ∧ TK K H1 H') ∧
      (∀ i kv y T σ' H', kvs[i]? = some kv → Dp K H' y (keyD kv.1) → Pv i σ' H' → H' T = none → g (.ref T) σ' (upd H' T (.tup [y, kv.2])) fun σ2 H2 => tu { D with nx := Pv (i + 1), ct := Pv (i + 1), bk := D.nx } σ2 H2) ∧ ∀ σ' H', Pv kvs.length σ' H' → D.nx σ' H') :
    tFor (iNI P w K td) g tu D σ H := h H (Ex.refl _) _ fun H1 e1 => by
  refine ⟨d, sh, kvs, rfl, hd.mono e1, fun od xs H2 kn lk ex => ?_⟩
  obtain ⟨Pv, h0, hk, hs, hend⟩ := k H2 od xs ((ExB.of e1).trans ex) ⟨hd.sys, xs, .inr ⟨od, lk⟩, kn⟩ lk
  have hl : kvs.length = xs.length := Paired.length kn
  refine for_in Pv h0 (fun i σ H _ p => (hk i σ H p).1) (fun i kk q u v T σ H hx hv p hT => ?_) (fun σ H p => hend σ H (hl ▸ p))
  have hv' : i < kvs.length := by
    have := (List.getElem?_eq_some_iff.mp hv).1
    rw [List.length_map] at this
    exact this
  have hkv : kvs[i]? = some kvs[i] := List.getElem?_eq_getElem hv'
  rw [List.getElem?_map, hkv] at hv
  cases hv
  obtain ⟨z1, _, z3, _⟩ := paired_at kn hkv hx
  exact hs i _ _ T σ H hkv (tmono (hk i σ H p).2 _ _ (keyD_noL _) z3) p hT
end
end Lb

set_option Elab.async false
set_option linter.all false
set_option maxRecDepth 100000
set_option maxHeartbeats 4000000
namespace Lb
open PySem L2 Evl PyProof.Rows
/-- not an inside of the store -/
structure NotS (s : SA) (b : Addr) : Prop where
  t : b ≠ s.tl
  d : b ≠ s.dl
  n : b ≠ s.nd
  x : b ≠ s.xd
  h : b ≠ s.hd
/-- all but the store's insides and d stays -/
def FrD (s : SA) (d : Addr) (H H' : Hp) : Prop := ∀ b o, H b = some o → NotS s b → b ≠ d → H' b = some o
theorem FrD.of {s : SA} {d : Addr} {H H' : Hp} (e : Ex H H') : FrD s d H H' := fun b o h _ _ => e b o h
theorem FrD.m {s : SA} {d : Addr} {H H' : Hp} (e : FrM s H H') : FrD s d H H' := fun b o h n _ => e b o h n.t n.d n.n n.x
theorem FrD.b {s : SA} {d : Addr} {H H' : Hp} (e : ExB d H H') : FrD s d H H' := fun b o h _ n => e b o h n
theorem FrD.trans {s : SA} {d : Addr} {H H' H'' : Hp} (a : FrD s d H H') (b : FrD s d H' H'') : FrD s d H H'' := fun c o h n z => b c o (a c o h n z) n z
def stepR (many : Nat) (l : Ln) (h0 : List Tm) (t0 : Nat) (h : List Tm) (t : Nat) : Prop := (h = did h0 l ∧ t = 0) ∨ (t0 < many ∧ h = h0 ∧ t = t0 + 1)
def nextR (many : Nat) (l : Ln) (R : List Tm → Nat → Prop) (h : List Tm) (t : Nat) : Prop := ∃ h0 t0, R h0 t0 ∧ stepR many l h0 t0 h t
section
variable {P : Program} {w : World} {K : PySem.W.Frag} {mg : Str → Option Value} {base : Heap} {C : Addr} {H H' : Hp} {s : SA} {m : Mc} {ts : List Tm} {log : List (Nat × List Nat)}
theorem StoreAt.notS (st : StoreAt P w K C H s m ts log) {d : Addr} (h : H d = none) : NotS s d := by
  obtain ⟨_, ⟨ys, t1, _⟩, d1, ⟨_, xs, n1, _⟩, ⟨ns, x1, _⟩, _, _, shd⟩ := st
  exact ⟨ne_of_none' h t1, ne_of_none' h d1, ne_of_none' h n1, ne_of_none' h x1, ne_of_none' h shd⟩
/-- behind the change of another dict -/
theorem StoreAt.exB (st : StoreAt P w K C H s m ts log) {d : Addr} (n : NotS s d) (hS : d ≠ s.S) (e : ExB d H H') (tk : TK K H H') : StoreAt P w K C H' s m ts log := by
  obtain ⟨⟨dx, fs, af, i1, i2, i3⟩, ⟨xs, t1, t2⟩, d1, n1, ⟨ns, x1, x2, x3⟩, ne, iv, shd⟩ := st
  exact ⟨⟨dx, fs, af, e _ _ i1 (Ne.symm hS), i2, tmono tk _ _ (rangeD_noL _) i3⟩, ⟨xs, e _ _ t1 (Ne.symm n.t), tmonoAll tk _ _ (noLs_iff.mpr fun d hd => by
    obtain ⟨t, _, rfl⟩ := List.mem_map.mp hd
    exact t.noL) t2⟩, e _ _ d1 (Ne.symm n.d), n1.keep tk fun o ho => e _ _ ho (Ne.symm n.n), ⟨ns, e _ _ x1 (Ne.symm n.x), x2, x3⟩, ne, iv, e _ _ shd (Ne.symm n.h)⟩
theorem ev_lenN {σ : L2.St} {ta : TE} {d : Addr} {sh : List Bool} {kvs : List (List NI × V)} (hd : NDictW P w K sh H d kvs) (h : Ev ta σ H (.ref d)) : Ev (tCB (rNLen P w K) (tCons ta tNil)) σ H (.int (kvs.length : Int)) := fun H1 e Q q =>
  h H1 e _ fun H2 e2 => ⟨d, sh, kvs, rfl, (hd.mono (e.trans e2)).rd, q H2 e2⟩
def spPairs (P : Program) (w : World) (K : PySem.W.Frag) (C : Addr) : Sp := fun vs H Q _ => ∃ (s : SA) (m : Mc) (ts : List Tm) (log : List (Nat × List Nat)) (d : Addr) (kvs : List (List NI × V)) (i many Bd : Nat) (lv : V) (l : Ln) (R : List Tm → Nat → Prop),
  vs = [.ref s.S, .ref d, .int (i : Int), lv, .int (many : Int)] ∧ Dp K H lv l.enc ∧ StoreAt P w K C H s m ts log ∧ m.Ok ∧ l.Ok m ∧ NDict P w K shP H d kvs ∧ NotS s d ∧ d ≠ s.S ∧ PairsOk K H m ts Bd kvs R ∧ Bd ≤ 100 ∧
  (∀ h t, R h t → md (did h l) ≤ 8) ∧ ts.length ≤ 5000 ∧ kvs.length ≤ 1000 ∧
  ∀ d' H' us log' kvs', us.length ≤ kvs.length → StoreAt P w K C H' s m (ts ++ us) log' → FrD s d H H' → NDictW P w K shP H' d' kvs' → NotS s d' → d' ≠ s.S → H d' = none → PairsOk K H' m (ts ++ us) (Bd + 1) kvs' (nextR many l R) → kvs'.length ≤ 2 * kvs.length → Q (.ref d') H'
abbrev CPairs (P : Program) (w : World) (K : PySem.W.Frag) (mg : Str → Option Value) (base : Heap) (C : Addr) := Cal P w K mg base 4 "pairs_behind" ["store", "pairs", "number", "line", "many"] (spPairs P w K C)
end
end Lb

set_option Elab.async false
set_option linter.all false
set_option maxRecDepth 100000
set_option maxHeartbeats 4000000
namespace Lb
open PySem L2 Evl PyProof.Rows
/-! ### runs, line by line -/
def st (m : Mc) (p : List Ln) (ls : List Nat) : Nat → List Tm
  | 0 => start0 m.cells
  | i + 1 => if i ∈ ls then st m p ls i else match p[i]? with
    | some l => did (st m p ls i) l
    | none => st m p ls i
theorem drop_at {p : List Ln} {i : Nat} {l : Ln} (h : p[i]? = some l) : p.drop i = l :: p.drop (i + 1) := List.drop_eq_getElem_cons (List.getElem?_eq_some_iff.mp h).1 |>.trans (by rw [(List.getElem?_eq_some_iff.mp h).2])
theorem ran_at {m : Mc} {p : List Ln} {ls : List Nat} (h : ran m p ls ≠ none) : ∀ i, i ≤ p.length → ranG ls i (st m p ls i) (p.drop i) = ran m p ls
  | 0, _ => rfl
  | i + 1, hi => by
    have ih := ran_at h i (by omega)
    have e : p[i]? = some p[i] := List.getElem?_eq_getElem (by omega)
    rw [drop_at e, ranG] at ih
    rw [st, e]
    by_cases q : i ∈ ls
    · rw [if_pos q] at ih ⊢
      exact ih
    · rw [if_neg q] at ih ⊢
      by_cases z : 8 < md (did (st m p ls i) p[i])
      · rw [if_pos z] at ih
        exact absurd ih.symm h
      · rw [if_neg z] at ih
        exact ih
theorem ran_deep {m : Mc} {p : List Ln} {ls : List Nat} (h : ran m p ls ≠ none) {i : Nat} {l : Ln} (hl : p[i]? = some l) (hi : i ∉ ls) : md (did (st m p ls i) l) ≤ 8 := by
  have ih := ran_at h i (Nat.le_of_lt (List.getElem?_eq_some_iff.mp hl).1)
  rw [drop_at hl, ranG, if_neg hi] at ih
  by_cases z : 8 < md (did (st m p ls i) l)
  · rw [if_pos z] at ih
    exact absurd ih.symm h
  · omega
theorem ran_end {m : Mc} {p : List Ln} {ls : List Nat} (h : ran m p ls ≠ none) : ran m p ls = some (st m p ls p.length) := by
  have ih := ran_at h p.length (Nat.le_refl _)
  rw [List.drop_length, ranG] at ih
  exact ih.symm
theorem st_held {m : Mc} (mok : m.Ok) {p : List Ln} (ok : ∀ l ∈ p, Ln.Ok m l) (ls : List Nat) : ∀ i, Held m (st m p ls i)
  | 0 => start_held m
  | i + 1 => by
    rw [st]
    split
    · exact st_held mok ok ls i
    · split
      · rename_i h
        exact did_held mok (st_held mok ok ls i) (ok _ (List.mem_of_getElem? h))
      · exact st_held mok ok ls i
theorem st_congr {m : Mc} {p : List Ln} {ls ks : List Nat} : ∀ i, (∀ x, x < i → (x ∈ ls ↔ x ∈ ks)) → st m p ls i = st m p ks i
  | 0, _ => rfl
  | i + 1, h => by
    rw [st, st, st_congr i fun x hx => h x (by omega)]
    by_cases q : i ∈ ls
    · rw [if_pos q, if_pos ((h i (by omega)).mp q)]
    · rw [if_neg q, if_neg fun z => q ((h i (by omega)).mpr z)]
/-! ### the pairs as a relation -/
def Rr (m : Mc) (p : List Ln) (many : Nat) : Nat → List Tm → Nat → Prop
  | 0 => fun h t => h = start0 m.cells ∧ t = 0
  | i + 1 => match p[i]? with
    | some l => nextR many l (Rr m p many i)
    | none => Rr m p many i
def Trail (i t : Nat) (ls : List Nat) : Prop := t ≤ i ∧ ∃ l0, ls = l0 ++ (List.range t).map (fun k => i - t + k) ∧ ∀ x ∈ l0, x + t + 1 < i
theorem trail_zero {i : Nat} {ls : List Nat} (h : ∀ x ∈ ls, x < i) : Trail (i + 1) 0 ls := ⟨Nat.zero_le _, ls, by simp, fun x hx => by have := h x hx; omega⟩
theorem trail_succ {i t : Nat} {ls : List Nat} (h : Trail i t ls) : Trail (i + 1) (t + 1) (ls ++ [i]) := by
  obtain ⟨h1, l0, rfl, h3⟩ := h
  refine ⟨by omega, l0, ?_, fun x hx => by have := h3 x hx; omega⟩
  rw [List.range_succ, List.map_append, List.append_assoc]
  refine congrArg (l0 ++ ·) ?_
  rw [List.map_singleton, show i + 1 - (t + 1) + t = i by omega]
  refine congrArg (· ++ [i]) (List.map_congr_left fun k _ => by omega)
theorem trail_full {i many : Nat} {ls : List Nat} (h : Trail i many ls) : hot many i ls = true := by
  obtain ⟨h1, l0, rfl, h3⟩ := h
  unfold hot
  rw [decide_eq_true_iff]
  have e : (l0 ++ (List.range many).map (fun k => i - many + k)).length - many = l0.length := by simp
  rw [e, List.drop_left, List.map_map]
  refine List.map_congr_left fun k _ => ?_
  show ((i - many + k : Nat) : Int) = (i : Int) - (many : Int) + (k : Int)
  omega
theorem trail_part {i t many : Nat} {ls : List Nat} (h : Trail i t ls) (ht : t < many) : hot many i ls = false := by
  obtain ⟨h1, l0, rfl, h3⟩ := h
  unfold hot
  rw [decide_eq_false_iff_not]
  intro e
  have hl := congrArg List.length e
  rw [List.length_map, List.length_map, List.length_drop, List.length_range, List.length_append, List.length_map, List.length_range] at hl
  -- the one that is last of l0 stands in the tail
  have l0p : many ≤ l0.length + t := by omega
  have g := congrArg (fun l => l[many - t - 1]?) e
  simp only [List.getElem?_map, List.getElem?_drop] at g
  rw [List.length_append, List.length_map, List.length_range, show l0.length + t - many + (many - t - 1) = l0.length - 1 by omega, List.getElem?_append_left (by omega), List.getElem?_eq_getElem (by omega), List.getElem?_range (by omega)] at g
  have g2 : ((l0[l0.length - 1] : Nat) : Int) = (i : Int) - (many : Int) + ((many - t - 1 : Nat) : Int) := Option.some.inj g
  have := h3 _ (List.getElem_mem (l := l0) (n := l0.length - 1) (by omega))
  omega
theorem Rr_every {m : Mc} {p : List Ln} {many : Nat} : ∀ i, i ≤ p.length →
    (∀ h t, Rr m p many i h t → ∃ ls ∈ everyL many i, Trail i t ls ∧ st m p ls i = h) ∧ (∀ ls ∈ everyL many i, ∃ t, t ≤ many ∧ Trail i t ls ∧ Rr m p many i (st m p ls i) t)
  | 0, _ => by
    refine ⟨fun h t hr => ⟨[], List.mem_singleton_self _, ?_, hr.1.symm⟩, fun ls hl => ⟨0, Nat.zero_le _, ?_, rfl, rfl⟩⟩
    · rw [hr.2]
      exact ⟨Nat.le_refl _, [], rfl, fun x hx => by cases hx⟩
    · rw [List.mem_singleton.mp hl]
      exact ⟨Nat.le_refl _, [], rfl, fun x hx => by cases hx⟩
  | i + 1, hi => by
    obtain ⟨ih1, ih2⟩ := Rr_every (m := m) (p := p) (many := many) i (by omega)
    have e : p[i]? = some p[i] := List.getElem?_eq_getElem (by omega)
    have hRr : Rr m p many (i + 1) = nextR many p[i] (Rr m p many i) := by rw [Rr, e]
    have stay : ∀ ls ∈ everyL many i, i ∉ ls := fun ls hl z => absurd ((everyL_mem many hl).2 i z) (Nat.lt_irrefl _)
    have st1 : ∀ ls ∈ everyL many i, st m p ls (i + 1) = did (st m p ls i) p[i] := fun ls hl => by rw [st, if_neg (stay ls hl), e]
    have st2 : ∀ ls, st m p (ls ++ [i]) (i + 1) = st m p ls i := fun ls => by
      rw [st, if_pos (by simp)]
      exact st_congr i fun x hx => by
        rw [List.mem_append, List.mem_singleton]
        exact ⟨fun h => h.resolve_right (by omega), fun h => .inl h⟩
    rw [hRr, everyL]
    refine ⟨fun h t hr => ?_, fun ls hl => ?_⟩
    · obtain ⟨h0, t0, hr0, hs⟩ := hr
      obtain ⟨ls, hl, tr, rfl⟩ := ih1 h0 t0 hr0
      rcases hs with ⟨rfl, rfl⟩ | ⟨q, rfl, rfl⟩
      · exact ⟨ls, List.mem_append_left _ hl, trail_zero (everyL_mem many hl).2, st1 ls hl⟩
      · refine ⟨ls ++ [i], List.mem_append_right _ (List.mem_map.mpr ⟨ls, List.mem_filter.mpr ⟨hl, by rw [trail_part tr q]; rfl⟩, rfl⟩), trail_succ tr, st2 ls⟩
    · rcases List.mem_append.mp hl with hl | hl
      · obtain ⟨t, t1, tr, hr⟩ := ih2 ls hl
        exact ⟨0, Nat.zero_le _, trail_zero (everyL_mem many hl).2, _, t, hr, .inl ⟨st1 ls hl, rfl⟩⟩
      · obtain ⟨ks, hk, rfl⟩ := List.mem_map.mp hl
        obtain ⟨hk1, hk2⟩ := List.mem_filter.mp hk
        obtain ⟨t, t1, tr, hr⟩ := ih2 ks hk1
        have lt : t < many := by
          rcases Nat.lt_or_ge t many with q | q
          · exact q
          · exfalso
            have : t = many := by omega
            subst this
            rw [trail_full tr] at hk2
            cases hk2
        exact ⟨t + 1, lt, trail_succ tr, _, t, hr, .inr ⟨lt, st2 ks, rfl⟩⟩
theorem everyL_le (many : Nat) {i n : Nat} (h : i ≤ n) : ∀ ls ∈ everyL many i, ls ∈ everyL many n := by
  induction n with
  | zero => rw [Nat.le_zero.mp h]; exact fun ls hl => hl
  | succ n ih =>
    rcases Nat.lt_or_ge n i with q | q
    · rw [show i = n + 1 by omega]; exact fun ls hl => hl
    · intro ls hl
      rw [everyL]
      exact List.mem_append_left _ (ih q ls hl)
theorem Rr_deep {m : Mc} {p : List Ln} {many : Nat} (h : ∀ ls ∈ everyL many p.length, ran m p ls ≠ none) {i : Nat} {l : Ln} (hl : p[i]? = some l) {x : List Tm} {t : Nat} (hr : Rr m p many i x t) : md (did x l) ≤ 8 := by
  have il := (List.getElem?_eq_some_iff.mp hl).1
  obtain ⟨ls, hls, _, rfl⟩ := (Rr_every i (by omega)).1 x t hr
  exact ran_deep (h ls (everyL_le many (by omega) ls hls)) hl fun z => absurd ((everyL_mem many hls).2 i z) (Nat.lt_irrefl _)
theorem asc_sum {ks : List Nat} (h : ∀ (i a b : Nat), ks[i]? = some a → ks[i + 1]? = some b → a < b) : ∀ (k i a b : Nat), ks[i]? = some a → ks[i + k]? = some b → a + k ≤ b
  | 0, i, a, b, ha, hb => by
    rw [Nat.add_zero, ha] at hb
    cases hb
    exact Nat.le_refl _
  | k + 1, i, a, b, ha, hb => by
    have il := (List.getElem?_eq_some_iff.mp hb).1
    have hm : ks[i + k]? = some (ks[i + k]'(by omega)) := List.getElem?_eq_getElem (by omega)
    have h1 := asc_sum h k i a _ ha hm
    have h2 := h (i + k) _ b hm hb
    omega
/-- losses that may be asked are losses of the program -/
theorem everyL_ok (many : Nat) (m1 : 1 ≤ many) : ∀ {n : Nat} {ls : List Nat}, ls ∈ everyL many n → LsOk n many ls
  | 0, ls, h => by
    rw [List.mem_singleton.mp h]
    exact ⟨fun l hl => (by cases hl), fun i a b h => (by cases h), fun i a b h => (by cases h)⟩
  | n + 1, ls, h => by
    rw [everyL] at h
    rcases List.mem_append.mp h with h | h
    · obtain ⟨h1, h2, h3⟩ := everyL_ok many m1 h
      exact ⟨fun l hl => by have := h1 l hl; omega, h2, h3⟩
    · obtain ⟨ks, hk, rfl⟩ := List.mem_map.mp h
      obtain ⟨hk1, hk2⟩ := List.mem_filter.mp hk
      obtain ⟨h1, h2, h3⟩ := everyL_ok many m1 hk1
      refine ⟨fun l hl => ?_, fun i a b ha hb => ?_, fun i a b ha hb => ?_⟩
      · rcases List.mem_append.mp hl with hl | hl
        · have := h1 l hl; omega
        · rw [List.mem_singleton.mp hl]; omega
      · by_cases q : i + 1 < ks.length
        · rw [List.getElem?_append_left q] at hb
          rw [List.getElem?_append_left (by omega)] at ha
          exact h2 i a b ha hb
        · have il := (List.getElem?_eq_some_iff.mp hb).1
          rw [List.length_append, List.length_singleton] at il
          have e : i + 1 = ks.length := by omega
          rw [List.getElem?_append_left (by omega)] at ha
          rw [e, List.getElem?_append_right (Nat.le_refl _), Nat.sub_self] at hb
          cases hb
          exact h1 a (List.mem_of_getElem? ha)
      · by_cases q : i + many < ks.length
        · rw [List.getElem?_append_left q] at hb
          rw [List.getElem?_append_left (by omega)] at ha
          exact h3 i a b ha hb
        · have il := (List.getElem?_eq_some_iff.mp hb).1
          rw [List.length_append, List.length_singleton] at il
          have e : i + many = ks.length := by omega
          rw [List.getElem?_append_left (by omega)] at ha
          rw [e, List.getElem?_append_right (Nat.le_refl _), Nat.sub_self] at hb
          cases hb
          obtain ⟨t, t1, tr, _⟩ := (Rr_every (m := ⟨0, []⟩) (p := List.replicate n ⟨0, none, []⟩) (many := many) n (by simp)).2 ks hk1
          have lt : t < many := by
            rcases Nat.lt_or_ge t many with q | q
            · exact q
            · exfalso
              have : t = many := by omega
              subst this
              rw [trail_full tr] at hk2
              cases hk2
          obtain ⟨z1, l0, rfl, z3⟩ := tr
          rw [List.length_append, List.length_map, List.length_range] at e
          have last : (l0 ++ (List.range t).map (fun k => n - t + k))[i + (many - t - 1)]? = some (l0[l0.length - 1]'(by omega)) := by
            rw [show i + (many - t - 1) = l0.length - 1 by omega, List.getElem?_append_left (by omega), List.getElem?_eq_getElem (by omega)]
          have s1 := asc_sum h2 (many - t - 1) i a _ ha last
          have := z3 _ (List.getElem_mem (l := l0) (n := l0.length - 1) (by omega))
          omega
theorem rgs_snoc (ls : List Nat) : ∀ (i : Nat) (h : List Tm) (q : List Ln) (l : Ln), ranG ls i h (q ++ [l]) = (ranG ls i h q).bind fun h' => if i + q.length ∈ ls then some h' else if 8 < md (did h' l) then none else some (did h' l)
  | i, h, [], l => by
    show ranG ls i h [l] = _
    rw [ranG, ranG]
    show (if i ∈ ls then ranG ls (i + 1) h [] else if 8 < md (did h l) then none else ranG ls (i + 1) (did h l) []) = if i + 0 ∈ ls then some h else if 8 < md (did h l) then none else some (did h l)
    rw [ranG, ranG, Nat.add_zero]
  | i, h, x :: q, l => by
    rw [List.cons_append, ranG, ranG, rgs_snoc ls (i + 1) h q l, rgs_snoc ls (i + 1) (did h x) q l, List.length_cons, show i + 1 + q.length = i + (q.length + 1) by omega]
    split
    · rfl
    · split <;> rfl
theorem tame_ran {m : Mc} (p : List Ln) (S : List Tm × List Ln) (h : ranG [] 0 (start0 m.cells) S.2 = some S.1) : ranG [] 0 (start0 m.cells) (p.foldl tameStep S).2 = some (p.foldl tameStep S).1 := by
  induction p generalizing S with
  | nil => exact h
  | cons l p ih =>
    rw [List.foldl_cons]
    refine ih _ ?_
    unfold tameStep
    split
    · rw [rgs_snoc, h]
      show (if 0 + S.2.length ∈ ([] : List Nat) then some S.1 else if 8 < md (did S.1 l) then none else some (did S.1 l)) = _
      rw [if_neg (by simp), if_neg (by omega)]
    · exact h
theorem tame_some (m : Mc) (p : List Ln) : ran m (tame m p) [] ≠ none := by
  have h := tame_ran (m := m) p (start0 m.cells, []) rfl
  unfold ran tame
  rw [h]
  exact fun z => by cases z
end Lb

set_option Elab.async false
set_option linter.all false
set_option maxRecDepth 100000
set_option maxHeartbeats 4000000
namespace Lb
open PySem L2 Evl PyProof.Rows
theorem range_at0 (n : Nat) : (List.range n).map (at0 (start0 n)) = start0 n := by
  unfold start0
  refine List.map_congr_left fun i hi => ?_
  unfold at0
  rw [List.getD_eq_getElem?_getD, List.getElem?_map, List.getElem?_range (List.mem_range.mp hi)]
  rfl
theorem range_Hs (m : Mc) : Hs m (start0 m.cells) (List.range m.cells) := ⟨by simp, fun h hh => by simpa [start0] using hh⟩
theorem pow_le8 {i : Nat} (h : i ≤ 8) : 2 ^ i ≤ 256 := by
  rw [show (256 : Nat) = 2 ^ 8 from rfl]
  exact Nat.pow_le_pow_right (by decide) h
section
variable {P : Program} {w : World} {K : PySem.W.Frag} {mg : Str → Option Value} {base : Heap} {C : Addr} {H H' : Hp} {s : SA} {m : Mc} {ts : List Tm} {log : List (Nat × List Nat)}
theorem FrD.toM {ts' : List Tm} {log' : List (Nat × List Nat)} {d : Addr} (f : FrD s d H H') (st : StoreAt P w K C H s m ts log) (st' : StoreAt P w K C H' s m ts' log') (hd : H d = none) : FrM s H H' := fun b o hb h1 h2 h3 h4 => by
  by_cases e : b = s.hd
  · subst e
    have h := st.shd
    rw [hb] at h
    cases h
    exact st'.shd
  · exact f b o hb ⟨h1, h2, h3, h4, e⟩ (ne_of_none hb hd)
theorem FrD.tk {d : Addr} {kvs : List (List NI × V)} {sh : List Bool} (f : FrD s d H H') (h : StoreAt P w K C H s m ts log) (n : NDict P w K sh H d kvs) : TK K H H' := fun a xs q => by
  obtain ⟨⟨dx, fs, af, i1, i2, i3⟩, ⟨ys, t1, t2⟩, d1, n1, ⟨ns, x1, x2, x3⟩, ne, iv, shd⟩ := h
  rcases q with q | q
  · have e1 : a ≠ s.tl := fun z => no_rd t1 (fun _ z => nomatch z) (fun _ _ z => nomatch z) xs (z ▸ q)
    have e2 : a ≠ s.dl := fun z => no_rd d1 (fun _ z => nomatch z) (fun _ _ z => nomatch z) xs (z ▸ q)
    have e3 : a ≠ s.nd := fun z => n1.noTup xs (z ▸ q)
    have e4 : a ≠ s.xd := fun z => no_rd x1 (fun _ z => nomatch z) (fun _ _ z => nomatch z) xs (z ▸ q)
    have e5 : a ≠ d := fun z => n.noTup xs (z ▸ q)
    have e6 : a ≠ s.hd := fun z => no_rd shd (fun _ z => nomatch z) (fun _ _ z => nomatch z) xs (z ▸ q)
    refine Or.inl ?_
    rcases q with q | ⟨o, q⟩
    · exact Or.inl (f _ _ q ⟨e1, e2, e3, e4, e6⟩ e5)
    · exact Or.inr ⟨o, f _ _ q ⟨e1, e2, e3, e4, e6⟩ e5⟩
  · exact Or.inr q
def spFirst (P : Program) (w : World) (K : PySem.W.Frag) (C : Addr) : Sp := fun vs H Q _ => ∃ (s : SA) (m : Mc) (p : List Ln) (many : Nat), vs = [.ref s.S] ∧ StoreAt P w K C H s m (start0 m.cells) [] ∧ m.Ok ∧
  ∀ d H' kvs, H d = none → Ex H H' → NDictW P w K shP H' d kvs → PairsOk K H' m (start0 m.cells) 0 kvs (Rr m p many 0) → kvs.length = 1 → Q (.ref d) H'
abbrev CFirst (P : Program) (w : World) (K : PySem.W.Frag) (mg : Str → Option Value) (base : Heap) (C : Addr) := Cal P w K mg base 1 "first_pairs" ["store"] (spFirst P w K C)
def spEnd (P : Program) (w : World) (K : PySem.W.Frag) (C : Addr) : Sp := fun vs H Q _ => ∃ (s : SA) (m : Mc) (p : List Ln) (many : Nat) (pw : V), vs = [.ref s.S, pw, .int (many : Int)] ∧ Dp K H pw (progD p) ∧ StoreAt P w K C H s m (start0 m.cells) [] ∧ m.Ok ∧ (∀ l ∈ p, Ln.Ok m l) ∧ p.length ≤ 8 ∧
  (∀ i l h t, p[i]? = some l → Rr m p many i h t → md (did h l) ≤ 8) ∧
  ∀ d H' ts log kvs, StoreAt P w K C H' s m ts log → FrM s H H' → NDictW P w K shP H' d kvs → NotS s d → d ≠ s.S → H d = none → PairsOk K H' m ts 100 kvs (Rr m p many p.length) → kvs.length ≤ 256 → ts.length ≤ 300 → Q (.ref d) H'
abbrev CEnd (P : Program) (w : World) (K : PySem.W.Frag) (mg : Str → Option Value) (base : Heap) (C : Addr) := Cal P w K mg base 5 "pairs_at_end" ["store", "program", "many"] (spEnd P w K C)
end
end Lb

set_option Elab.async false
set_option linter.all false
set_option maxRecDepth 100000
set_option maxHeartbeats 4000000
namespace Lb
open PySem L2 Evl PyProof.Rows
section
variable {P : Program} {w : World} {K : PySem.W.Frag} {mg : Str → Option Value} {base : Heap} {C : Addr} {H H' : Hp} {s : SA} {m : Mc} {ts : List Tm} {log : List (Nat × List Nat)}
def spBLs (P : Program) (w : World) (K : PySem.W.Frag) (C : Addr) : Sp := fun vs H Q _ => ∃ (s : SA) (m : Mc) (p : List Ln) (ls : List Nat) (pw lv : V), vs = [.ref s.S, pw, lv] ∧ Dp K H pw (progD p) ∧ Dp K H lv (natsD ls) ∧ StoreAt P w K C H s m (start0 m.cells) [] ∧ m.Ok ∧ (∀ l ∈ p, Ln.Ok m l) ∧ p.length ≤ 60 ∧ ran m p ls ≠ none ∧
  ∀ v H' ts log hs, StoreAt P w K C H' s m ts log → FrM s H H' → Dp K H' v (natsD hs) → Hs m ts hs → hs.map (at0 ts) = st m p ls p.length → Q v H'
abbrev CBLs (P : Program) (w : World) (K : PySem.W.Frag) (mg : Str → Option Value) (base : Heap) (C : Addr) := Cal P w K mg base 4 "behind_losses" ["store", "program", "losses"] (spBLs P w K C)
theorem ok_behind_losses (B : Bi mg) (T : StC K mg C) (D : Dfn K mg "behind_losses" sBehindLosses ["store", "program", "losses"]) (C_behind_line : CBLine P w K mg base C) : CBLs P w K mg base C := by
  refine D.ok scBehindLosses (fun vs H Q E h => ?_) (fun f cdv A outer sh0 H vs Q E hr h => ?_)
  · obtain ⟨s, m, p, ls, pw, lv, rfl, _⟩ := h
    rfl
  obtain ⟨s, m, p, ls, pw, lv, rfl, hp, hl, st0, mok, ok, pz, nn, k⟩ := h
  refine ⟨_, (pss_cons (ps_set (i := 3) scBehindLosses.nd rfl (by first | exact Or.inl rfl | exact Or.inr rfl) (pe_fldK (K := K) (pv 0))) (pss_cons (ps_for PassesOwn.never rfl (pi_enumT rfl B.enumerate (pa_cons (pv 1) pa_nil)) (pg_tup rfl (pgs_cons (pg_name (i := 4) scBehindLosses.nd rfl (by first | exact Or.inl rfl | exact Or.inr rfl)) (pgs_cons (pg_name (i := 5) scBehindLosses.nd rfl (by first | exact Or.inl rfl | exact Or.inr rfl)) pgs_nil))) (pss_one (ps_if (pt_cmpR op_notIn_seq (pv 4) (pv 2) (by first | exact nomark _ | rfl)) (pss_one (ps_set (i := 3) scBehindLosses.nd rfl (by first | exact Or.inl rfl | exact Or.inr rfl) (pe_cal C_behind_line hr (by omega) rfl (pa_cons (pv 0) (pa_cons (pv 3) (pa_cons (pv 5) pa_nil)))))) pss_nil))) (pss_one (ps_ret (pv 3))))), ?_⟩
  have c4 := mok.c4
  have sl : (start0 m.cells).length = m.cells := by simp [start0]
  obtain ⟨dx, fs, af, i1, i2, i3⟩ := st0.ins
  refine qd_asg (K := K) (d := natsD (List.range m.cells)) (ed_ev (ev_fldS i1 T.cl T.nA i2.a (ev_var rfl)) i3) fun hv H1 e1 hh => ?_
  refine (sd_forE (K := K) (ds := p.map Ln.enc) (D := { nx := _, rt := _, bk := _, ct := _ }) (ed_var rfl (dmono e1 _ _ hp)) fun H2 a xs e2 sq al => ⟨fun i σ' H' => ∃ hv ts log hs x4 x5, σ' = [some (.ref s.S), some pw, some lv, some hv, x4, x5] ∧ StoreAt P w K C H' s m ts log ∧ ts.length ≤ m.cells + i ∧ FrM s H2 H' ∧ Dp K H' hv (natsD hs) ∧ Hs m ts hs ∧ hs.map (at0 ts) = st m p ls i, ?_, ?_, ?_, ?_⟩)
  · exact ⟨hv, start0 m.cells, [], List.range m.cells, none, none, rfl, st0.mono (e1.trans e2), by rw [sl]; exact Nat.le_refl _, FrM.of (Ex.refl _), dmono e2 _ _ hh, range_Hs m, range_at0 _⟩
  · rintro i σ' H' ⟨_, _, _, _, _, _, _, _, _, fr, _⟩
    exact (st0.mono (e1.trans e2)).tk fr
  · rintro i x d0 T σ' H' hxi hdi hxd ⟨hv, ts, log, hs, x4, x5, rfl, st', tl, fr, hh', ho, he⟩ hT
    obtain ⟨l, hpi, rfl⟩ : ∃ l, p[i]? = some l ∧ d0 = l.enc := by
      rw [List.getElem?_map] at hdi
      cases e : p[i]? with
      | none => rw [e] at hdi; cases hdi
      | some l => rw [e] at hdi; cases hdi; exact ⟨l, rfl, rfl⟩
    have il := (List.getElem?_eq_some_iff.mp hpi).1
    have eT := Ex.new (o := .tup [.int (i : Nat), x]) hT
    have tk : TK K H2 H' := (st0.mono (e1.trans e2)).tk fr
    have hl2 := dmono eT _ _ (tmono tk _ _ (natsD_noL _) (dmono (e1.trans e2) _ _ hl))
    refine s_when (et_test (ev_is (ev_inT (neg := true) (i := (i : Int)) (ns := ls.map fun (n : Nat) => (n : Int)) (ed_int (ev_var rfl)) (ed_is (ed_var rfl hl2) (natsD_ints _))) (by rw [mem_cast]))) (fun c H3 e3 => ?_) (fun c H3 e3 => ?_)
    · have c' : i ∉ ls := by simpa using c
      have e23 := eT.trans e3
      refine ⟨_, rfl, _, rfl, _, rfl, s, m, ts, log, hv, x, hs, l, rfl, dmono e23 _ _ hh', dmono e23 _ _ (tmono tk _ _ (Ln.noL l) hxd), st'.mono e23, mok, ok l (List.mem_of_getElem? hpi), ho, by rw [he]; exact ran_deep nn hpi c', by omega, fun v H4 us log' hs' u1 st4 fr4 hv4 ho4 he4 => ?_⟩
      refine ⟨v, ts ++ us, log', hs', _, _, rfl, st4, by rw [List.length_append]; omega, fr.trans ((FrM.of e23).trans fr4), hv4, ho4, ?_⟩
      rw [he4, he, st, if_neg c', hpi]
    · have c' : i ∈ ls := by simpa using c
      have e23 := eT.trans e3
      refine ⟨hv, ts, log, hs, _, _, rfl, st'.mono e23, by omega, fr.trans (FrM.of e23), dmono e23 _ _ hh', ho, ?_⟩
      rw [he, st, if_pos c']
  · rintro σ' H' ⟨hv, ts, log, hs, x4, x5, rfl, st', tl, fr, hh', ho, he⟩
    rw [List.length_map] at he
    refine sd_ret (ed_var (K := K) rfl hh') fun v H3 e3 hv3 => k v H3 ts log hs (st'.mono e3) ((FrM.of (e1.trans e2)).trans (fr.trans (FrM.of e3))) hv3 ho he
/-! ### run, run_lost -/
/-- store.terms(behind_losses(..)) -/
theorem s_ret_terms {σ : L2.St} {D : Ends} {E E' : XK} {i j : Nat} {tl : TE} {p : List Ln} {ls : List Nat} {pw : V} (st0 : StoreAt P w K C H s m (start0 m.cells) []) (mok : m.Ok) (ok : ∀ l ∈ p, Ln.Ok m l) (pz : p.length ≤ 60) (nn : ran m p ls ≠ none) (hi : σ[i]? = some (some (.ref s.S))) (hj : σ[j]? = some (some pw)) (hp : Dp K H pw (progD p)) (hl : EvD K tl σ H (natsD ls))
    (k : ∀ v H', FrM s H H' → Dp K H' v (encs (st m p ls p.length)) → D.rt v H') : tRet (tMeth C "terms" (spTerms K C) [] E (tVar i) (tCons (tCall (spBLs P w K C) [] E' (tCons (tVar i) (tCons (tVar j) (tCons tl tNil)))) tNil)) D σ H := by
  obtain ⟨dx, fs, af, i1, i2, _⟩ := st0.ins
  refine ⟨_, hi, s.S, dx, fs, rfl, i1, i2.m2, _, hi, _, hj, hl H (Ex.refl _) _ fun lv H1 e1 hlv => ?_⟩
  refine ⟨s, m, p, ls, pw, lv, rfl, dmono e1 _ _ hp, hlv, st0.mono e1, mok, ok, pz, nn, fun v H2 ts log hs st2 fr2 hv ho he => ?_⟩
  obtain ⟨dx2, fs2, af2, j1, j2, _⟩ := st2.ins
  obtain ⟨xs, t1, t2⟩ := st2.tms
  have c4 := mok.c4
  refine ⟨s.S, dx2, s.tl, v, fs2, xs, ts, hs, rfl, j1, j2.t, t1, t2, .inl hv, ho.lt, by rw [ho.len]; omega, fun v' H3 e3 hv' => k v' H3 ((FrM.of e1).trans (fr2.trans (FrM.of e3))) ?_⟩
  rw [← he]
  exact hv'
def spRun (K : PySem.W.Frag) : Sp := fun vs H Q _ => ∃ (mv pw : V) (m : Mc) (p : List Ln), vs = [mv, pw] ∧ Dp K H mv m.enc ∧ Dp K H pw (progD p) ∧ m.Ok ∧ (∀ l ∈ p, Ln.Ok m l) ∧ p.length ≤ 60 ∧ ran m p [] ≠ none ∧ ∀ v H', Ex H H' → Dp K H' v (encs (st m p [] p.length)) → Q v H'
abbrev CRun (P : Program) (w : World) (K : PySem.W.Frag) (mg : Str → Option Value) (base : Heap) := Cal P w K mg base 6 "run" ["machine", "program"] (spRun K)
theorem ev_cells {σ : L2.St} {ta : TE} {m : Mc} (h : EvD K ta σ H m.enc) : Ev (tOp (rIxT K) ta (tC (.int 0))) σ H (.int (m.cells : Int)) := ev_int (ed_ix h (ed_int ev_c) (atD (n := 0) rfl))
def spRunL (K : PySem.W.Frag) : Sp := fun vs H Q _ => ∃ (mv pw lv : V) (m : Mc) (p : List Ln) (many : Nat) (ls : List Nat), vs = [mv, pw, .int (many : Int), lv] ∧ Dp K H mv m.enc ∧ Dp K H pw (progD p) ∧ Dp K H lv (natsD ls) ∧ m.Ok ∧ (∀ l ∈ p, Ln.Ok m l) ∧ p.length ≤ 60 ∧ 1 ≤ many ∧ many ≤ 3 ∧ ls.length ≤ 60 ∧ LsOk p.length many ls ∧ ran m p ls ≠ none ∧
  ∀ v H', Ex H H' → Dp K H' v (encs (st m p ls p.length)) → Q v H'
abbrev CRunL (P : Program) (w : World) (K : PySem.W.Frag) (mg : Str → Option Value) (base : Heap) := Cal P w K mg base 8 "run_lost" ["machine", "program", "many", "losses"] (spRunL K)
def spTermText (K : PySem.W.Frag) : Sp := fun vs H Q _ => ∃ (mv tv : V) (m : Mc) (t : Tm), vs = [mv, tv] ∧ Dp K H mv m.enc ∧ Dp K H tv t.enc ∧ m.Ok ∧ Tm.Of m t ∧ t.dep ≤ 8 ∧ ∀ H', Ex H H' → Q (.str t.txt) H'
abbrev CTermText (P : Program) (w : World) (K : PySem.W.Frag) (mg : Str → Option Value) (base : Heap) := Cal P w K mg base 13 "term_text" ["machine", "term"] (spTermText K)
end
end Lb

set_option Elab.async false
set_option linter.all false
set_option maxRecDepth 100000
set_option maxHeartbeats 4000000
namespace Lb
open PySem L2 Evl PyProof.Rows
/-! ### dicts from texts to what is held -/
def txs (u : List Tm) : List Str := u.map Tm.txt
def kTx (u : List Tm) : List Key := (txs u).map Sum.inr
theorem held_small {m : Mc} (mok : m.Ok) {u : List Tm} (h : Held m u) : ∀ t ∈ u, Tm.Small t := fun t ht => (h.of t ht).small mok
theorem txs_inj' {m : Mc} (mok : m.Ok) {u v : List Tm} (hu : Held m u) (hv : Held m v) (e : txs u = txs v) : u = v := txts_inj (held_small mok hu) (held_small mok hv) e
theorem inr_inj : ∀ {a b : List Str}, a.map (Sum.inr : Str → Key) = b.map Sum.inr → a = b
  | [], [], _ => rfl
  | [], _ :: _, e => by simp at e
  | _ :: _, [], e => by simp at e
  | x :: a, y :: b, e => by
    rw [List.map_cons, List.map_cons, List.cons.injEq] at e
    rw [Sum.inr.inj e.1, inr_inj e.2]
theorem kTx_inj {m : Mc} (mok : m.Ok) {u v : List Tm} (hu : Held m u) (hv : Held m v) (e : kTx u = kTx v) : u = v := txs_inj' mok hu hv (inr_inj e)
structure TD (K : PySem.W.Frag) (H : Hp) (m : Mc) (kvs : List (List Key × V)) (us : List (List Tm)) : Prop where
  pr : Paired (fun (e : List Key × V) (u : List Tm) => e.1 = kTx u ∧ Dp K H e.2 (encs u)) kvs us
  nd : us.Nodup
  ok : ∀ u ∈ us, Held m u
def addU (us : List (List Tm)) (u : List Tm) : List (List Tm) := if u ∈ us then us else us ++ [u]
theorem addU_mem {us : List (List Tm)} {u x : List Tm} : x ∈ addU us u ↔ x ∈ us ∨ x = u := by
  unfold addU
  split
  · rename_i h
    exact ⟨fun z => .inl z, fun z => z.elim id fun e => e ▸ h⟩
  · rw [List.mem_append, List.mem_singleton]
theorem addU_len (us : List (List Tm)) (u : List Tm) : (addU us u).length ≤ us.length + 1 := by
  unfold addU
  split <;> simp
section
variable {P : Program} {w : World} {K : PySem.W.Frag} {mg : Str → Option Value} {base : Heap} {C : Addr} {H H' : Hp} {s : SA} {m : Mc} {ts : List Tm} {log : List (Nat × List Nat)}
theorem TD.tk {kvs : List (List Key × V)} {us : List (List Tm)} (h : TD K H m kvs us) (e : TK K H H') : TD K H' m kvs us := ⟨Paired.mapP h.pr fun a b q => ⟨q.1, tmono e _ _ (encs_noL _) q.2⟩, h.nd, h.ok⟩
theorem td_any (mok : m.Ok) {u : List Tm} (hu : Held m u) : ∀ {kvs : List (List Key × V)} {us : List (List Tm)}, Paired (fun (e : List Key × V) (u : List Tm) => e.1 = kTx u ∧ Dp K H e.2 (encs u)) kvs us → (∀ u ∈ us, Held m u) → (kvs.any fun kv => decide (kv.1 = kTx u)) = decide (u ∈ us)
  | _, _, .nil, _ => by simp
  | e :: kvs, x :: us, .cons h t, ok => by
    rw [List.any_cons, td_any mok hu t fun u hu => ok u (List.mem_cons_of_mem _ hu), h.1]
    by_cases q : x = u
    · rw [q]
      simp
    · rw [decide_eq_false fun z => q (kTx_inj mok (ok x List.mem_cons_self) hu z)]
      have : ¬ u = x := fun z => q z.symm
      simp [this]
theorem td_map (mok : m.Ok) {u : List Tm} (hu : Held m u) {v : V} (hv : Dp K H v (encs u)) : ∀ {kvs : List (List Key × V)} {us : List (List Tm)}, Paired (fun (e : List Key × V) (u : List Tm) => e.1 = kTx u ∧ Dp K H e.2 (encs u)) kvs us → (∀ u ∈ us, Held m u) →
    Paired (fun (e : List Key × V) (u : List Tm) => e.1 = kTx u ∧ Dp K H e.2 (encs u)) (kvs.map fun kv => if kv.1 = kTx u then (kv.1, v) else kv) us
  | _, _, .nil, _ => .nil
  | e :: kvs, x :: us, .cons h t, ok => by
    rw [List.map_cons]
    refine .cons ?_ (td_map mok hu hv t fun u hu => ok u (List.mem_cons_of_mem _ hu))
    by_cases q : e.1 = kTx u
    · rw [if_pos q]
      refine ⟨h.1, ?_⟩
      have e2 := kTx_inj mok (ok x List.mem_cons_self) hu (h.1.symm.trans q)
      rw [e2]
      exact hv
    · rw [if_neg q]
      exact h
theorem TD.put (mok : m.Ok) {kvs : List (List Key × V)} {us : List (List Tm)} (h : TD K H m kvs us) {u : List Tm} (hu : Held m u) {v : V} (hv : Dp K H v (encs u)) : TD K H m (putK kvs (kTx u) v) (addU us u) := by
  unfold putK addU
  rw [td_any mok hu h.pr h.ok]
  by_cases q : u ∈ us
  · rw [if_pos (decide_eq_true q), if_pos q]
    exact ⟨td_map mok hu hv h.pr h.ok, h.nd, h.ok⟩
  · rw [if_neg (by simpa using q), if_neg q]
    refine ⟨Paired.snoc h.pr ⟨rfl, hv⟩, ?_, fun x hx => ?_⟩
    · rw [List.nodup_append]
      refine ⟨h.nd, List.pairwise_singleton _ _, fun a ha b hb e => ?_⟩
      rw [List.mem_singleton.mp hb] at e
      exact q (e ▸ ha)
    · rcases List.mem_append.mp hx with hx | hx
      · exact h.ok x hx
      · rw [List.mem_singleton.mp hx]
        exact hu
theorem td_val (mok : m.Ok) {u : List Tm} (hu : Held m u) : ∀ {kvs : List (List Key × V)} {us : List (List Tm)}, Paired (fun (e : List Key × V) (u : List Tm) => e.1 = kTx u ∧ Dp K H e.2 (encs u)) kvs us → (∀ u ∈ us, Held m u) → u ∈ us → ∃ v, valV kvs (kTx u) = some v ∧ Dp K H v (encs u)
  | _, _, .nil, _, h => by cases h
  | e :: kvs, x :: us, .cons h t, ok, hm => by
    by_cases q : e.1 = kTx u
    · have e2 := kTx_inj mok (ok x List.mem_cons_self) hu (h.1.symm.trans q)
      rw [valV_pos q]
      exact ⟨_, rfl, e2 ▸ h.2⟩
    · rw [valV_neg q]
      refine td_val mok hu t (fun u hu => ok u (List.mem_cons_of_mem _ hu)) ?_
      rcases List.mem_cons.mp hm with e | hm
      · exact absurd (h.1.trans (by rw [e])) q
      · exact hm
/-- the keys' addresses, what they hold -/
theorem td_keys : ∀ {kvs : List (List Key × V)} {us : List (List Tm)} {bs : List Addr}, Paired (fun (e : List Key × V) (u : List Tm) => e.1 = kTx u ∧ Dp K H e.2 (encs u)) kvs us → IsKeys H' kvs bs → Paired (fun (b : Addr) (u : List Tm) => H' b = some (.tup ((txs u).map V.str))) bs us
  | _, _, _, .nil, .nil => .nil
  | _, _, _, .cons h t, .cons h2 t2 => by
    refine .cons ?_ (td_keys t t2)
    rw [h2, h.1]
    unfold kTx
    rw [kV_strs]
theorem paired_mem {α β : Type} {F : α → β → Prop} : ∀ {l₁ : List α} {l₂ : List β}, Paired F l₁ l₂ → (∀ a ∈ l₁, ∃ b ∈ l₂, F a b) ∧ ∀ b ∈ l₂, ∃ a ∈ l₁, F a b
  | _, _, .nil => ⟨fun a h => (by cases h), fun a h => (by cases h)⟩
  | _, _, .cons h t => by
    obtain ⟨h1, h2⟩ := paired_mem t
    refine ⟨fun a ha => ?_, fun b hb => ?_⟩
    · rcases List.mem_cons.mp ha with e | ha
      · exact ⟨_, List.mem_cons_self, e ▸ h⟩
      · obtain ⟨b, hb, q⟩ := h1 a ha
        exact ⟨b, List.mem_cons_of_mem _ hb, q⟩
    · rcases List.mem_cons.mp hb with e | hb
      · exact ⟨_, List.mem_cons_self, e ▸ h⟩
      · obtain ⟨a, ha, q⟩ := h2 b hb
        exact ⟨a, List.mem_cons_of_mem _ ha, q⟩
/-- a permutation of the one side has one of the other -/
theorem paired_perm {α β : Type} {F : α → β → Prop} {l₁ l₁' : List α} (p : l₁'.Perm l₁) : ∀ {l₂ : List β}, Paired F l₁ l₂ → ∃ l₂', l₂'.Perm l₂ ∧ Paired F l₁' l₂' := by
  induction p with
  | nil => intro l₂ h; exact ⟨l₂, .refl _, h⟩
  | cons x p ih =>
    intro l₂ h
    cases h with
    | cons a t =>
      obtain ⟨l, h1, h2⟩ := ih t
      exact ⟨_ :: l, h1.cons _, .cons a h2⟩
  | swap x y l =>
    intro l₂ h
    cases h with
    | cons a t => cases t with
      | cons b t2 => exact ⟨_, List.Perm.swap _ _ _, .cons b (.cons a t2)⟩
  | trans p q ih1 ih2 =>
    intro l₂ h
    obtain ⟨l, h1, h2⟩ := ih2 h
    obtain ⟨l', h3, h4⟩ := ih1 h2
    exact ⟨l', h3.trans h1, h4⟩
/-- [te for j in a list of addresses] -/
theorem lc_refs {σ : L2.St} {te : TE} {j : Nat} {a : Addr} {bs : List Addr} {us : List (List Tm)} {F : Addr → List Tm → Prop} {Q : VK} (sq : SqL K H a (bs.map V.ref)) (hz : bs.length ≤ 40000) (pr : Paired F bs us) (he : ∀ b u H2, F b u → u ∈ us → Ex H H2 → EvD K te ((wipe σ [j]).set j (some (.ref b))) H2 (encs u))
    (k : ∀ v H2, Ex H H2 → Dp K H2 v (.list (us.map encs)) → Q v H2) : tLc (iList K fun _ H Q => Q (.ref a) H) (gName j) tYes te [j] σ H Q := by
  have hl : bs.length = us.length := Paired.length pr
  refine ⟨a, rfl, ⟨_, sq⟩, fun Dl hD => ?_⟩
  refine lc_list (xs := bs.map V.ref) (fun i H' => Lw K H (givenD i (fun _ => true) fun i => (us[i]?.map encs).getD .none) Dl H') ⟨hD, Ex.new hD, [], upd_same, .nil⟩ (fun i H' _ p => ex_l p.2.1 sq) (fun i x H' hi p => ?_) (fun H' p => ?_)
  · rw [List.getElem?_map] at hi
    have hib : i < bs.length := Classical.byContradiction fun z => by
      rw [List.getElem?_eq_none (by omega)] at hi
      cases hi
    have hb : bs[i]? = some bs[i] := List.getElem?_eq_getElem hib
    have hu : us[i]? = some (us[i]'(by omega)) := List.getElem?_eq_getElem (by omega)
    rw [hb] at hi
    cases hi
    have f := paired_at pr hb hu
    refine ⟨wipe1 _, lw_turn (n := bs.length) p (Ex.refl _) (by omega) (fun k hk => ?_) et_yes fun _ => ?_⟩
    · rw [List.getElem?_eq_getElem (by omega)]
      exact encs_noL _
    · rw [hu]
      exact he _ _ _ f (List.getElem_mem (by omega)) p.2.1
  · obtain ⟨p1, p2, acc, p3, p4⟩ := p
    have e : givenD (bs.map V.ref).length (fun _ => true) (fun i => (us[i]?.map encs).getD .none) = us.map encs := by
      rw [givenD_all, List.length_map, hl]
      refine List.ext_getElem (by simp) fun i h1 h2 => ?_
      have hi : i < us.length := by simpa using h1
      simp [List.getElem?_eq_getElem hi]
    rw [e] at p4
    exact k _ H' p2 (.lst (sq_of p3) p4)
end
end Lb

set_option Elab.async false
set_option linter.all false
set_option maxRecDepth 100000
set_option maxHeartbeats 4000000
namespace Lb
open PySem L2 Evl PyProof.Rows
structure OutOk (m : Mc) (p : List Ln) (many : Nat) (out : List (List Tm)) : Prop where
  nd : out.Nodup
  ok : ∀ u ∈ out, Held m u
  asc : out.Pairwise fun a b => ltS (txs b) (txs a) = false
  mem : ∀ u, u ∈ out ↔ ∃ ls ∈ everyL many p.length, st m p ls p.length = u
theorem map_inj_on {α β : Type} {f : α → β} : ∀ {l m : List α}, (∀ x ∈ l, ∀ y ∈ m, f x = f y → x = y) → l.map f = m.map f → l = m
  | [], [], _, _ => rfl
  | [], _ :: _, _, e => by simp at e
  | _ :: _, [], _, e => by simp at e
  | x :: l, y :: m, h, e => by
    rw [List.map_cons, List.map_cons, List.cons.injEq] at e
    rw [h x List.mem_cons_self y List.mem_cons_self e.1, map_inj_on (fun a ha b hb => h a (List.mem_cons_of_mem _ ha) b (List.mem_cons_of_mem _ hb)) e.2]
theorem OutOk.uniq {m : Mc} (mok : m.Ok) {p : List Ln} {many : Nat} {o1 o2 : List (List Tm)} (h1 : OutOk m p many o1) (h2 : OutOk m p many o2) : o1 = o2 := by
  have pm : o1.Perm o2 := (List.perm_ext_iff_of_nodup h1.nd h2.nd).mpr fun u => (h1.mem u).trans (h2.mem u).symm
  have e := sort_uniq (pm.map txs) (List.pairwise_map.mpr h1.asc) (List.pairwise_map.mpr h2.asc)
  exact map_inj_on (fun x hx y hy z => txs_inj' mok (h1.ok x hx) (h2.ok y hy) z) e
section
variable {P : Program} {w : World} {K : PySem.W.Frag} {mg : Str → Option Value} {base : Heap} {C : Addr} {H H' : Hp} {s : SA} {m : Mc} {ts : List Tm} {log : List (Nat × List Nat)}
theorem ed_getT {σ : L2.St} {ta tb : TE} {b fa : Addr} {kvs : List (List Key × V)} {us : List (List Tm)} {u : List Tm} (mok : m.Ok) (hf : H fa = some (.dT kvs)) (td : TD K H m kvs us) (hu : u ∈ us) (hb : H b = some (.tup ((txs u).map V.str))) (h1 : Ev ta σ H (.ref fa)) (h2 : Ev tb σ H (.ref b)) : EvD K (tDGet ta tb) σ H (encs u) := fun H1 e Q q =>
  h1 H1 e _ fun H2 e2 => h2 H2 (e.trans e2) _ fun H3 e3 => by
    have e13 := (e.trans e2).trans e3
    obtain ⟨v, hv, hd⟩ := td_val mok (td.ok u hu) (td.tk (TK.of e13)).pr td.ok hu
    refine ⟨fa, v, rfl, hv ▸ DGet.t (e13 _ _ hf) ?_, q v H3 (e2.trans e3) hd⟩
    unfold kTx
    rw [kV_strs]
    exact e13 _ _ hb
theorem asc_us : ∀ {out : List Addr} {us : List (List Tm)}, Asc K H out → Paired (fun (b : Addr) (u : List Tm) => H b = some (.tup ((txs u).map V.str))) out us → us.Pairwise fun a b => ltS (txs b) (txs a) = false
  | _, _, _, .nil => .nil
  | _, _, a, .cons h t => by
    obtain ⟨a1, a2⟩ := List.pairwise_cons.mp a
    refine List.pairwise_cons.mpr ⟨fun u hu => ?_, asc_us a2 t⟩
    obtain ⟨b, hb, q⟩ := (paired_mem t).2 u hu
    exact a1 b hb _ _ (st_of h) (st_of q)
theorem td_ne (mok : m.Ok) {kvs : List (List Key × V)} {us : List (List Tm)} (td : TD K H m kvs us) : ∀ kv ∈ kvs, ∃ ks : List Str, ks ≠ [] ∧ kv.1 = ks.map Sum.inr := fun kv hkv => by
  obtain ⟨u, hu, h1, _⟩ := (paired_mem td.pr).1 kv hkv
  refine ⟨txs u, fun z => ?_, h1⟩
  have h2 := congrArg List.length z
  have h3 := (td.ok u hu).len
  have h4 := mok.c1
  unfold txs at h2
  rw [List.length_map, List.length_nil] at h2
  omega
/-- the sorted keys, what they stand for -/
theorem sorted_us {kvs : List (List Key × V)} {us : List (List Tm)} {bs out : List Addr} (td : TD K H m kvs us) (ik : IsKeys H' kvs bs) (pm : out.Perm bs) (as : Asc K H' out) :
    ∃ us', us'.Perm us ∧ Paired (fun (b : Addr) (u : List Tm) => H' b = some (.tup ((txs u).map V.str))) out us' ∧ us'.Pairwise fun a b => ltS (txs b) (txs a) = false := by
  obtain ⟨us', h1, h2⟩ := paired_perm pm (td_keys td.pr ik)
  exact ⟨us', h1, h2, asc_us as h2⟩
theorem lc_sorted {σ : L2.St} {tl : TE} {i j : Nat} {fa : Addr} {kvs : List (List Key × V)} {us : List (List Tm)} (mok : m.Ok) (hf : H fa = some (.dT kvs)) (td : TD K H m kvs us) (hz : us.length ≤ 300)
    (hi : ∀ x, ((wipe σ [j]).set j (some x))[i]? = some (some (.ref fa))) (hj : ∀ x, ((wipe σ [j]).set j (some x))[j]? = some (some x))
    (hs : ∀ R : VK, (∀ (q : Addr) (out : List Addr) (us' : List (List Tm)) (H2 : Hp), Ex H H2 → H2 q = some (.lst (out.map V.ref)) → us'.Perm us → Paired (fun (b : Addr) (u : List Tm) => H2 b = some (.tup ((txs u).map V.str))) out us' → us'.Pairwise (fun a b => ltS (txs b) (txs a) = false) → R (.ref q) H2) → tl σ H R) (Q : VK)
    (k : ∀ (v : V) (H2 : Hp) (us' : List (List Tm)), Ex H H2 → us'.Perm us → us'.Pairwise (fun a b => ltS (txs b) (txs a) = false) → Dp K H2 v (.list (us'.map encs)) → Q v H2) : tLc (iList K tl) (gName j) tYes (tDGet (tVar i) (tVar j)) [j] σ H Q :=
  hs _ fun q out us' H2 e2 hq pm pr as => by
    refine lc_refs (K := K) (bs := out) (us := us') (H := H2) (te := tDGet (tVar i) (tVar j)) (j := j) (σ := σ) (Q := Q) (sq_of hq) ?_ pr (fun b u H8 hb hu e8 => ?_) fun v H8 e8 hv => k v H8 us' (e2.trans e8) pm as hv
    · have := Paired.length pr
      have := pm.length_eq
      omega
    · exact ed_getT mok ((e2.trans e8) _ _ hf) (td.tk (TK.of (e2.trans e8))) (pm.mem_iff.mp hu) (e8 _ _ hb) (ev_var (hi _)) (ev_var (hj _))
theorem ret_tup {te : TE} {σ : L2.St} {D : Ends} (h : te σ H fun v H1 => rTupA K [v] H1 D.rt) : tRet (tCB (rTupA K) (tCons te tNil)) D σ H := h
def spOut (K : PySem.W.Frag) : Sp := fun vs H Q _ => ∃ (mv pw : V) (m : Mc) (p : List Ln) (many : Nat), vs = [mv, pw, .int (many : Int)] ∧ Dp K H mv m.enc ∧ Dp K H pw (progD p) ∧ m.Ok ∧ (∀ l ∈ p, Ln.Ok m l) ∧ p.length ≤ 8 ∧ 1 ≤ many ∧ many ≤ 3 ∧ (∀ ls ∈ everyL many p.length, ran m p ls ≠ none) ∧
  ∀ v H' out, Ex H H' → OutOk m p many out → Dp K H' v (.tuple (out.map encs)) → Q v H'
abbrev COut (P : Program) (w : World) (K : PySem.W.Frag) (mg : Str → Option Value) (base : Heap) := Cal P w K mg base 13 "outcomes" ["machine", "program", "many"] (spOut K)
end
end Lb

set_option Elab.async false
set_option linter.all false
set_option maxRecDepth 100000
set_option maxHeartbeats 4000000
namespace Lb
open PySem L2 Evl PyProof.Rows
/-! ### what alike may be asked -/
theorem cod_lt : ∀ {t : Tm}, t.Small → ∀ x ∈ t.cod, x < 200
  | .c n, h, x, hx => by
    have h' : n < 10 := h
    simp only [Tm.cod, List.mem_cons, List.not_mem_nil, or_false] at hx
    omega
  | .f1 g a, h, x, hx => by
    have h' := h.1
    simp only [Tm.cod, List.mem_cons, List.mem_append, List.not_mem_nil, or_false] at hx
    rcases hx with e | e | e | e | e
    · omega
    · omega
    · omega
    · exact cod_lt h.2 x e
    · omega
  | .f2 g a b, h, x, hx => by
    have h' := h.1
    simp only [Tm.cod, List.mem_cons, List.mem_append, List.not_mem_nil, or_false] at hx
    rcases hx with e | e | e | e | e | e | e
    · omega
    · omega
    · omega
    · exact cod_lt h.2.1 x e
    · omega
    · exact cod_lt h.2.2 x e
    · omega
theorem txt_strOk {t : Tm} (h : t.Small) : PyData.strOk t.txt = true := by
  unfold PyData.strOk
  rw [← Array.all_toList, List.all_eq_true]
  intro x hx
  rw [Tm.txt_cod h] at hx
  have := cod_lt h x hx
  exact decide_eq_true (by omega)
theorem st_md {m : Mc} {p : List Ln} {ls : List Nat} (h : ran m p ls ≠ none) : ∀ i, i ≤ p.length → md (st m p ls i) ≤ 8
  | 0, _ => Nat.le_trans (start_md _) (by decide)
  | i + 1, hi => by
    have ih := st_md h i (by omega)
    have e : p[i]? = some p[i] := List.getElem?_eq_getElem (by omega)
    rw [st, e]
    split
    · exact ih
    · rename_i q
      exact ran_deep h e q
theorem aok_encs {u : List Tm} (hl : u.length ≤ 100) (hd : md u ≤ 8) : AOk 9 (encs u) := by
  refine ⟨by rw [List.length_map]; omega, fun e he => ?_⟩
  obtain ⟨t, ht, rfl⟩ := List.mem_map.mp he
  exact (aok_tm t).mono (Nat.le_trans (md_le ht) hd)
theorem lines_lay : ∀ ds : List PyData, (∀ d ∈ ds, ∃ l : Ln, d = l.enc) → PyData.canLayAll0 ds = true
  | [], _ => rfl
  | d :: ds, h => by
    rw [PyData.canLayAll0, lines_lay ds fun d hd => h d (List.mem_cons_of_mem _ hd)]
    obtain ⟨l, rfl⟩ := h d List.mem_cons_self
    unfold Ln.enc
    rw [PyData.canLay0, PyData.canLayAll0, PyData.canLayAll0, PyData.canLayAll0, PyData.canLayAll0, natsD_intsD]
    unfold intsD
    rw [PyData.canLay0, PyData.canLay0, lay_ints]
    cases l.fn <;> rfl
theorem lines_depth : ∀ ds : List PyData, (∀ d ∈ ds, ∃ l : Ln, d = l.enc) → PyData.depthAll ds ≤ 2
  | [], _ => by rw [PyData.depthAll]; decide
  | d :: ds, h => by
    rw [PyData.depthAll]
    refine Nat.max_le.mpr ⟨?_, lines_depth ds fun d hd => h d (List.mem_cons_of_mem _ hd)⟩
    obtain ⟨l, rfl⟩ := h d List.mem_cons_self
    unfold Ln.enc
    rw [PyData.depth, PyData.depthAll, PyData.depthAll, PyData.depthAll, PyData.depthAll, natsD_intsD]
    unfold intsD
    have hf : (fnD l.fn).depth = 0 := by cases l.fn <;> simp [fnD, PyData.depth]
    rw [PyData.depth, PyData.depth, depth_ints, hf]
    decide
theorem lines_shaped {ds : List PyData} (h : ∀ d ∈ ds, ∃ l : Ln, d = l.enc) : SeqAt.shaped (.list ds) = true := by
  have h2 := lines_depth ds h
  unfold SeqAt.shaped
  rw [Bool.and_eq_true]
  refine ⟨by rw [PyData.canLay0]; exact lines_lay ds h, decide_eq_true ?_⟩
  rw [PyData.depth]
  omega
theorem eqv_nil (ds : List PyData) : PyData.eqv (.list ds) (.list []) = ds.isEmpty := by
  rw [PyData.eqv]
  cases ds <;> simp [PyData.eqvAll]
section
variable {P : Program} {w : World} {K : PySem.W.Frag} {mg : Str → Option Value} {base : Heap} {H H' : Hp} {m : Mc}
theorem ed_run {σ : L2.St} {ta tb : TE} {E : XK} {p : List Ln} (mok : m.Ok) (ok : ∀ l ∈ p, Ln.Ok m l) (pz : p.length ≤ 60) (nn : ran m p [] ≠ none) (ha : EvD K ta σ H m.enc) (hb : EvD K tb σ H (progD p)) : EvD K (tCall (spRun K) [] E (tCons ta (tCons tb tNil))) σ H (encs (st m p [] p.length)) :=
  ed_call (ead_cons ha (ead_cons hb ead_nil)) fun H1 vs hvs Q E q => by
    cases hvs with
    | cons h0 t0 => cases t0 with
      | cons h1 t1 => cases t1; exact ⟨_, _, m, p, rfl, h0, h1, mok, ok, pz, nn, q⟩
theorem ed_runL {σ : L2.St} {ta tb tc td : TE} {E : XK} {p : List Ln} {many : Nat} {ls : List Nat} (mok : m.Ok) (ok : ∀ l ∈ p, Ln.Ok m l) (pz : p.length ≤ 60) (m1 : 1 ≤ many) (m3 : many ≤ 3) (lz : ls.length ≤ 60) (lok : LsOk p.length many ls) (nn : ran m p ls ≠ none) (ha : EvD K ta σ H m.enc) (hb : EvD K tb σ H (progD p))
    (hc : EvD K tc σ H (.int (many : Int))) (hd : EvD K td σ H (natsD ls)) : EvD K (tCall (spRunL K) [] E (tCons ta (tCons tb (tCons tc (tCons td tNil))))) σ H (encs (st m p ls p.length)) :=
  ed_call (ead_cons ha (ead_cons hb (ead_cons hc (ead_cons hd ead_nil)))) fun H1 vs hvs Q E q => by
    cases hvs with
    | cons h0 t0 => cases t0 with
      | cons h1 t1 => cases t1 with
        | cons h2 t2 => cases t2 with
          | cons h3 t3 => cases t3; cases h2.intD; exact ⟨_, _, _, m, p, many, ls, rfl, h0, h1, h3, mok, ok, pz, m1, m3, lz, lok, nn, q⟩
theorem ev_gentle {σ : L2.St} {ta tb : TE} {E : XK} {p : List Ln} (mok : m.Ok) (ok : ∀ l ∈ p, Ln.Ok m l) (pz : p.length ≤ 60) (ha : EvD K ta σ H m.enc) (hb : EvD K tb σ H (progD p)) : Ev (tCall (spGentle K) [] E (tCons ta (tCons tb tNil))) σ H (.bl (gentle p)) :=
  ev_sp (ead_cons ha (ead_cons hb ead_nil)) fun H1 vs e hvs Q q => by
    cases hvs with
    | cons h0 t0 => cases t0 with
      | cons h1 t1 => cases t1; exact ⟨_, _, m, p, rfl, h0, h1, mok, ok, pz, q⟩
theorem ev_termText {σ : L2.St} {ta tb : TE} {E : XK} {t : Tm} (mok : m.Ok) (of : Tm.Of m t) (hd : t.dep ≤ 8) (ha : EvD K ta σ H m.enc) (hb : EvD K tb σ H t.enc) : Ev (tCall (spTermText K) [] E (tCons ta (tCons tb tNil))) σ H (.str t.txt) :=
  ev_sp (ead_cons ha (ead_cons hb ead_nil)) fun H1 vs e hvs Q q => by
    cases hvs with
    | cons h0 t0 => cases t0 with
      | cons h1 t1 => cases t1; exact ⟨_, _, m, t, rfl, h0, h1, mok, of, hd, q⟩
/-- [line for line in program if line[0] in line[2]] == [] -/
theorem ev_nogentle {σ : L2.St} {i j : Nat} {p : List Ln} {pw : V} (pz : p.length ≤ 60) (hi : σ[i]? = some (some pw)) (hp : Dp K H pw (progD p)) (hj : ∀ x, ((wipe σ [j]).set j (some x))[j]? = some (some x)) :
    Ev (tOp (rEqD K) (tLc (iTup K (tVar i)) (gName j) (tTest (tOp (rIn K false) (tOp (rIxT K) (tVar j) (tC (.int 0))) (tOp (rIxT K) (tVar j) (tC (.int 2))))) (tVar j) [j]) (tLst tNil)) σ H (.bl (gentle p)) := by
  have given : ∀ d ∈ givenD p.length (fun i => (p[i]?.map fun l => decide (l.cell ∈ l.src)).getD false) (fun i => (p[i]?.map Ln.enc).getD .none), ∃ l : Ln, d = l.enc := fun d hd => by
    obtain ⟨i, h1, rfl⟩ := List.mem_map.mp hd
    have hi := List.mem_range.mp (List.mem_filter.mp h1).1
    rw [List.getElem?_eq_getElem hi]
    exact ⟨_, rfl⟩
  refine ev_is (ev_eqD (e1 := .list (givenD p.length (fun i => (p[i]?.map fun l => decide (l.cell ∈ l.src)).getD false) (fun i => (p[i]?.map Ln.enc).getD .none))) (e2 := .list []) ?_ (ed_lst ead_nil (by simp)) (lines_shaped given) rfl) ?_
  · have q := ed_lcTg (K := K) (σ := σ) (H := H) (tl := tVar i) (te := tVar j) (tt := tTest (tOp (rIn K false) (tOp (rIxT K) (tVar j) (tC (.int 0))) (tOp (rIxT K) (tVar j) (tC (.int 2))))) (g := gName j) (ds := p.map Ln.enc) (vs := [j]) (fun i => (p[i]?.map fun l => decide (l.cell ∈ l.src)).getD false) (fun i => (p[i]?.map Ln.enc).getD .none) (ed_var hi hp) (by rw [List.length_map]; omega) (fun i hi => ?_) (fun i d x H1 e hd hx Q q => ?_)
    · rw [List.length_map] at q
      exact q
    · rw [List.length_map] at hi
      rw [List.getElem?_eq_getElem hi]
      exact Ln.noL _
    · rw [List.getElem?_map] at hd
      cases el : p[i]? with
      | none => rw [el] at hd; cases hd
      | some l =>
        rw [el] at hd
        cases hd
        refine q _ H1 (Ex.refl _) (wipe1 x) (et_test (ev_is (ev_inT (neg := false) (i := (l.cell : Int)) (ns := l.src.map fun (n : Nat) => (n : Int)) (ed_ix (ed_var (hj x) hx) (ed_int ev_c) (atD (n := 0) rfl)) (ed_is (ed_ix (ed_var (hj x) hx) (ed_int ev_c) (atD (n := 2) rfl)) (natsD_ints _))) ?_)) fun _ => ?_
        · rw [mem_cast, el]
          rfl
        · rw [el]
          exact ed_var (hj x) hx
  · rw [eqv_nil]
    congr 1
    unfold gentle
    rw [Bool.eq_iff_iff, List.isEmpty_iff, List.all_eq_true]
    unfold givenD
    rw [List.map_eq_nil_iff, List.filter_eq_nil_iff]
    constructor
    · intro h l hl
      obtain ⟨i, hi⟩ := List.getElem?_of_mem hl
      have := h i (List.mem_range.mpr (List.getElem?_eq_some_iff.mp hi).1)
      rw [hi] at this
      simpa using this
    · intro h i hi
      have hi' := List.mem_range.mp hi
      rw [List.getElem?_eq_getElem hi']
      have := h _ (List.getElem_mem hi')
      simpa using this
theorem cons_tup {te : TE} {σ : L2.St} {Q : List V → Hp → Prop} (h : te σ H fun v H1 => rTupA K [v] H1 fun w H2 => Q [w] H2) : tCons (tCB (rTupA K) (tCons te tNil)) tNil σ H Q := h
end
end Lb

set_option Elab.async false
set_option linter.all false
set_option maxRecDepth 100000
set_option maxHeartbeats 4000000
namespace Lb
open PySem L2 Evl PyProof.Rows
/-! ### wishes -/
def wishD (x : Nat × Tm) : PyData := .tuple [.int (x.1 : Int), x.2.enc]
def wishesD (ws : List (Nat × Tm)) : PyData := .tuple (ws.map wishD)
theorem wishD_noL (x : Nat × Tm) : noL (wishD x) = true := by
  unfold wishD
  rw [noL_tup, noLs, noLs, noLs, x.2.noL]
  rfl
theorem wishesD_noL (ws : List (Nat × Tm)) : noL (wishesD ws) = true := by
  unfold wishesD
  rw [noL_tup]
  refine noLs_iff.mpr fun d hd => ?_
  obtain ⟨x, _, rfl⟩ := List.mem_map.mp hd
  exact wishD_noL x
structure WsOk (m : Mc) (ws : List (Nat × Tm)) : Prop where
  ne : ws ≠ []
  cell : ∀ x ∈ ws, x.1 < m.cells
  of : ∀ x ∈ ws, Tm.Of m x.2 ∧ x.2.dep ≤ 8
  asc : ∀ (i : Nat) (a b : Nat × Tm), ws[i]? = some a → ws[i + 1]? = some b → a.1 < b.1
section
variable {P : Program} {w : World} {K : PySem.W.Frag} {mg : Str → Option Value} {base : Heap} {C : Addr} {H H' : Hp} {s : SA} {m : Mc} {ts : List Tm} {log : List (Nat × List Nat)}
def spWish (K : PySem.W.Frag) : Sp := fun vs H Q _ => ∃ (mv wv : V) (m : Mc) (x : Nat × Tm), vs = [mv, wv] ∧ Dp K H mv m.enc ∧ Dp K H wv (wishD x) ∧ m.Ok ∧ x.1 < m.cells ∧ Tm.Of m x.2 ∧ x.2.dep ≤ 8 ∧ ∀ H', Ex H H' → Q (.bl true) H'
abbrev CWish (P : Program) (w : World) (K : PySem.W.Frag) (mg : Str → Option Value) (base : Heap) := Cal P w K mg base 12 "is_wish" ["machine", "value"] (spWish K)
theorem ok_is_wish (B : Bi mg) (G : Gs mg) (D : Dfn K mg "is_wish" sIsWish ["machine", "value"]) (C_is_number_below : CBelow P w K mg base) (C_is_term : CTerm P w K mg base 8) : CWish P w K mg base := by
  refine D.ok scIsWish (fun vs H Q E h => ?_) (fun f cdv A outer sh0 H vs Q E hr h => ?_)
  · obtain ⟨mv, wv, m, x, rfl, _⟩ := h
    rfl
  obtain ⟨mv, wv, m, x, rfl, hm, hw, mok, hc, of, hd, k⟩ := h
  refine ⟨_, (pss_cons (ps_if (PW.pt (pw_or (pt_not (pt_val (pe_callB call_isi (by rfl) B.isinstance (by decide +kernel) (pa_cons (pv 1) (pa_cons (pe_bltn (v := .ty "tuple") (by rfl) B.tuple (by decide +kernel) rfl) pa_nil))))) (pw_or1 (pt_cmpR op_ne (pe_callB call_lenq (by rfl) B.len PySem.boot_len (pa_cons (pv 1) pa_nil)) pe_int (by first | exact nomark _ | rfl))))) (pss_one (ps_ret pe_bl)) pss_nil) (pss_cons (ps_asg (pv 1) (pg_tup rfl (pgs_cons (pg_name (i := 2) scIsWish.nd rfl (by first | exact Or.inl rfl | exact Or.inr rfl)) (pgs_cons (pg_name (i := 3) scIsWish.nd rfl (by first | exact Or.inl rfl | exact Or.inr rfl)) pgs_nil)))) (pss_one (ps_ret (pe_and (pe_cal C_is_number_below hr (by omega) rfl (pa_cons (pv 2) (pa_cons (pe_ix ix_tup (pv 0) pe_int (fun _ _ => rfl)) pa_nil))) (pe_one (pe_cal C_is_term hr (by omega) rfl (pa_cons (pv 0) (pa_cons (pv 3) (pa_cons (pe_gi G.DEEPEST) pa_nil)))))))))), ?_⟩
  have c4 := mok.c4
  refine qd_pass (et_or (et_not (et_B (ev_isi (ed_var rfl hw) (kT _)))) fun _ => et_test (ev_op (ev_lenT (ed_var rfl hw)) ev_c (rv_ne rfl))) (by simp [isT, wishD]) fun H1 e1 => ?_
  refine qd_un2 (ed_var rfl (dmono e1 _ _ hw)) fun a b H2 e2 ha hb => ?_
  have e12 := e1.trans e2
  cases ha.intD
  refine s_ret (v := .bl true) (ev_is (ev_andV (a := true) (ev_is (sp_below (d := .int (x.1 : Int)) (ed_int (ev_var rfl)) (ev_cells (ed_var rfl (dmono e12 _ _ hm)))) (by rw [btw_nat (by omega) (by omega)])) fun _ => (ev_sp (v := .bl true) (ead_cons (ed_var rfl (dmono e12 _ _ hm)) (ead_cons (ed_var rfl hb) (ead_cons (ed_int ev_c) ead_nil))) fun H4 vs e4 hvs Q q => ?_)) ?_) fun H3 e3 => k H3 (e12.trans e3)
  · cases hvs with
    | cons h0 t0 => cases t0 with
      | cons h1 t1 => cases t1 with
        | cons h2 t2 => cases t2; cases h2.intD; exact ⟨_, _, m, x.2, rfl, h0, h1, mok, of, hd, q⟩
  · rfl
end
end Lb

set_option Elab.async false
set_option linter.all false
set_option maxRecDepth 100000
set_option maxHeartbeats 4000000
namespace Lb
open PySem L2 Evl PyProof.Rows
def Tm.siz : Tm → Nat
  | .c _ => 0
  | .f1 _ a => a.siz + 1
  | .f2 _ a b => a.siz + b.siz + 1
theorem Tm.siz_le : ∀ t : Tm, t.siz + 1 ≤ 2 ^ t.dep
  | .c _ => by show 0 + 1 ≤ 2 ^ 1; decide
  | .f1 g a => by
    have h := Tm.siz_le a
    show a.siz + 1 + 1 ≤ 2 ^ (a.dep + 1)
    rw [Nat.pow_succ]
    omega
  | .f2 g a b => by
    have h1 := Tm.siz_le a
    have h2 := Tm.siz_le b
    have h3 : 2 ^ a.dep ≤ 2 ^ (max a.dep b.dep) := Nat.pow_le_pow_right (by decide) (Nat.le_max_left _ _)
    have h4 : 2 ^ b.dep ≤ 2 ^ (max a.dep b.dep) := Nat.pow_le_pow_right (by decide) (Nat.le_max_right _ _)
    show a.siz + b.siz + 1 + 1 ≤ 2 ^ (max a.dep b.dep + 1)
    rw [Nat.pow_succ]
    omega
/-- the sizes of the parts -/
def sizs (as : List Tm) : Nat := (as.map Tm.siz).foldr (· + ·) 0
/-- a term of functions, its parts -/
theorem Tm.Of.parts3 {m : Mc} (hm : m.Ok) {t : Tm} (h : Tm.Of m t) : (∃ n, t = .c n ∧ n < m.cells) ∨ ∃ (g : Nat) (as : List Tm), t = Tm.mk g as ∧ t.enc = .tuple (.int (g : Int) :: as.map Tm.enc) ∧ m.fns[g]? = some as.length ∧ 1 ≤ as.length ∧ as.length ≤ 2 ∧ t.siz = sizs as + 1 ∧ ∀ a ∈ as, Tm.Of m a ∧ a.dep + 1 ≤ t.dep := by
  cases h with
  | c h => exact .inl ⟨_, rfl, h⟩
  | f1 h a =>
    refine .inr ⟨_, [_], rfl, rfl, h, by simp, by simp, rfl, fun x hx => ?_⟩
    rw [List.mem_singleton.mp hx]
    exact ⟨a, Nat.le_refl _⟩
  | f2 h a b =>
    refine .inr ⟨_, [_, _], rfl, rfl, h, by simp, by simp, rfl, fun x hx => ?_⟩
    rcases List.mem_cons.mp hx with e | hx
    · rw [e]
      exact ⟨a, by show _ ≤ max _ _ + 1; omega⟩
    · rw [List.mem_singleton.mp hx]
      exact ⟨b, by show _ ≤ max _ _ + 1; omega⟩
theorem sizs_take {as : List Tm} {i : Nat} {a : Tm} (h : as[i]? = some a) : sizs (as.take (i + 1)) = sizs (as.take i) + a.siz := by
  have e : ∀ (l : List Tm) (x : Tm), sizs (l ++ [x]) = sizs l + x.siz := fun l x => by
    induction l with
    | nil => show x.siz + 0 = 0 + x.siz; omega
    | cons y l ih =>
      show y.siz + sizs (l ++ [x]) = y.siz + sizs l + x.siz
      rw [ih]
      omega
  rw [List.take_succ, h]
  exact e _ _
section
variable {P : Program} {w : World} {K : PySem.W.Frag} {mg : Str → Option Value} {base : Heap} {C : Addr} {H H' : Hp} {s : SA} {m : Mc} {ts : List Tm} {log : List (Nat × List Nat)}
def spNumber (P : Program) (w : World) (K : PySem.W.Frag) (C : Addr) (n : Nat) : Sp := fun vs H Q _ => ∃ (s : SA) (m : Mc) (ts : List Tm) (log : List (Nat × List Nat)) (tv : V) (t : Tm), vs = [.ref s.S, tv] ∧ Dp K H tv t.enc ∧ StoreAt P w K C H s m ts log ∧ m.Ok ∧ Tm.Of m t ∧ t.dep ≤ n ∧ n ≤ 8 ∧ ts.length + t.siz ≤ 40000 ∧
  ∀ (i : Nat) H' us log', us.length ≤ t.siz → (ts ++ us)[i]? = some t → StoreAt P w K C H' s m (ts ++ us) log' → FrM s H H' → Q (.int (i : Int)) H'
abbrev MNumber (P : Program) (w : World) (K : PySem.W.Frag) (mg : Str → Option Value) (base : Heap) (C : Addr) (n : Nat) := MetC P w K mg base (n + 2) C "number" ["self", "term"] (spNumber P w K C n)
theorem Mdn.none {m qual : Str} {st : Stmt} {ps : List Str} {k : Nat} {sp : Sp} (D : Mdn K C m qual st ps) (cl : Cls K C) (no : ∀ vs H Q E, ¬ sp vs H Q E) : MetC P w K mg base k C m ps sp := by
  obtain ⟨f, fd, M, F, b⟩ := D
  exact ⟨f, fd, cl, M, ⟨fun vs H Q E h => absurd h (no vs H Q E), fun A outer s H args us vs Q E _ _ _ _ h => absurd h (no vs H Q E)⟩, b⟩
theorem get_at0 {ts : List Tm} {i : Nat} {t : Tm} (h : ts[i]? = some t) : i < ts.length ∧ at0 ts i = t := by
  have hl := (List.getElem?_eq_some_iff.mp h).1
  have := at0_get hl
  rw [h] at this
  exact ⟨hl, (Option.some.inj this).symm⟩
theorem ok_number (B : Bi mg) (T : StC K mg C) (Dn : Mdn K C "number" "Store.number" sStoreNumber ["self", "term"]) (M_made : MMade P w K mg base C) : ∀ n, MNumber P w K mg base C n
  | 0 => Dn.none T.cl fun vs H Q E h => by
    obtain ⟨s, m, ts, log, tv, t, _, _, _, _, _, h, _⟩ := h
    have := t.dep_pos
    omega
  | n + 1 => by
    have M_number := ok_number B T Dn M_made n
    refine Dn.ok T.cl scStoreNumber (fun vs H Q E h => ?_) (fun f cdv A outer sh0 H vs Q E hr h => ?_)
    · obtain ⟨s, m, ts, log, tv, t, rfl, _⟩ := h
      rfl
    obtain ⟨s, m, ts, log, tv, t, rfl, ht, st, mok, of, hd, hn, hz, k⟩ := h
    refine ⟨_, (pss_cons (ps_if (pt_val (pe_callB call_isi (by rfl) B.isinstance (by decide +kernel) (pa_cons (pv 1) (pa_cons (pe_bltn (v := .ty "int") (by rfl) B.int (by decide +kernel) rfl) pa_nil)))) (pss_one (ps_ret (pv 1))) pss_nil) (pss_one (ps_ret (pe_mtC M_made hr (by omega) (pv 0) (pa_cons (pe_ix ix_tup (pv 1) pe_int (fun _ _ => rfl)) (pa_cons (pe_callTy call_tupq (by rfl) B.tuple (by decide +kernel) (pa_cons (pe_lc (own := [("part", 2)]) (g := (gName 2)) (tt := tYes) rfl scStoreNumber.nd (pi_tup (pe_slice sl_tupA (pv 1) (po_some pe_int) po_none)) (blkOk_by (N := NStoreNumber) (sc := defScope sStoreNumber) (by decide +kernel)) (fun _ _ _ _ _ => (pg_name (i := 2) scStoreNumber.nd rfl (by first | exact Or.inl rfl | exact Or.inr rfl))) (fun _ _ _ _ _ => pts_nil) (fun _ _ _ _ _ => (pe_mtC M_number hr (by omega) (pv 0) (pa_cons (pv 2) pa_nil)))) pa_nil)) pa_nil)))))), ?_⟩
    rcases of.parts3 mok with ⟨i, rfl, hi⟩ | ⟨g, as, et, ee, hg, a1, a2, es, has⟩
    · refine q_if (et_B (ev_isi (ed_var rfl ht) (kI _))) (fun _ H3 e3 => ?_) (fun z => by simp [Tm.enc, isI] at z)
      cases ht.intD
      refine s_ret (ev_var rfl) fun H4 e4 => k i H4 [] log (Nat.zero_le _) ?_ ?_ (FrM.of (e3.trans e4))
      · rw [List.append_nil]
        exact st.inv.base i hi
      · rw [List.append_nil]
        exact st.mono (e3.trans e4)
    · rw [ee] at ht
      refine q_when (et_B (ev_isi (ed_var rfl ht) (kI _))) (fun z => by simp [isI] at z) (fun _ H1 e1 => ?_)
      have ht1 := dmono e1 _ _ ht
      have st1 := st.mono e1
      obtain ⟨dx, fs, af, i1, i2, _⟩ := st1.ins
      refine ⟨_, rfl, s.S, dx, fs, rfl, i1, i2.m1, ?_⟩
      refine ed_ix (K := K) (d := .int (g : Int)) (ed_var rfl ht1) (ed_int ev_c) (atD (n := 0) rfl) H1 (Ex.refl _) _ fun gv H2 e2 hgv => ?_
      cases hgv.intD
      refine ed_sl (K := K) (ed_var rfl (dmono e2 _ _ ht1)) (eo_some ev_c) eo_none H2 (Ex.refl _) _ fun pv0 H3 e3 hps => ?_
      rw [sl1] at hps
      obtain ⟨pa, xs, rfl, sq, al⟩ := Dp.tupD hps
      have st3 := (st1.mono e2).mono e3
      refine ⟨pa, rfl, ⟨xs, sq⟩, fun Dl hD => ?_⟩
      have nDl := st3.notS hD
      have sumle : ∀ j, sizs (as.take j) ≤ sizs as := fun j => by
        have e : ∀ (l r : List Tm), sizs l ≤ sizs (l ++ r) := fun l r => by
          induction l with
          | nil => exact Nat.zero_le _
          | cons y l ih => show y.siz + sizs l ≤ y.siz + sizs (l ++ r); omega
        have := e (as.take j) (as.drop j)
        rw [List.take_append_drop] at this
        exact this
      refine lc_tup (xs := xs) (fun j H' => ∃ (us : List Tm) (log' : List (Nat × List Nat)) (nums : List Nat), H' Dl = some (.lst (nums.map fun (n : Nat) => V.int (n : Int))) ∧ nums.length = j ∧ us.length ≤ sizs (as.take j) ∧ StoreAt P w K C H' s m (ts ++ us) log' ∧ FrD s Dl H3 H' ∧ TK K H3 H' ∧ (∀ n ∈ nums, n < (ts ++ us).length) ∧ nums.map (at0 (ts ++ us)) = as.take j) ?_ (fun j H' _ q => ?_) (fun j x H' hj q => ?_) (fun H' q => ?_)
      · refine ⟨[], log, [], upd_same, rfl, Nat.zero_le _, by rw [List.append_nil]; exact st3.mono (Ex.new hD), FrD.of (Ex.new hD), TK.of (Ex.new hD), fun n h => (by cases h), by simp⟩
      · obtain ⟨_, _, _, _, _, _, _, _, tk, _⟩ := q
        exact tk _ _ sq
      · obtain ⟨us, log', nums, q1, q2, q3, q4, q5, q6, q7, q8⟩ := q
        obtain ⟨d, hd, hxd⟩ := al.getV hj
        obtain ⟨a, ha, rfl⟩ : ∃ a, as[j]? = some a ∧ d = a.enc := by
          rw [List.getElem?_map] at hd
          cases e : as[j]? with
          | none => rw [e] at hd; cases hd
          | some a => rw [e] at hd; cases hd; exact ⟨a, rfl, rfl⟩
        have hja := (List.getElem?_eq_some_iff.mp ha).1
        obtain ⟨oa, da⟩ := has a (List.mem_of_getElem? ha)
        have st_ := sizs_take ha
        have sl_ := sumle (j + 1)
        refine ⟨wipe1 _, ?_⟩
        unfold tYes
        dsimp only
        rw [if_pos rfl]
        obtain ⟨dx2, fs2, af2, j1, j2, _⟩ := q4.ins
        refine ⟨_, rfl, s.S, dx2, fs2, rfl, j1, j2.m4, _, rfl, ?_⟩
        refine ⟨s, m, ts ++ us, log', x, a, rfl, tmono q6 _ _ a.noL hxd, q4, mok, oa, by omega, by omega, by rw [List.length_append]; omega, fun i H4 us2 log2 u1 hi st4 fr4 => ?_⟩
        have hDl4 := fr4 _ _ q1 nDl.t nDl.d nDl.n nDl.x
        obtain ⟨il, ia⟩ := get_at0 hi
        refine ⟨_, hDl4, by rw [List.length_map]; exact sz_lt (by omega), us ++ us2, log2, nums ++ [i], by rw [upd_same, List.map_append]; rfl, by rw [List.length_append, q2]; rfl, by rw [List.length_append]; omega, ?_, ?_, ?_, ?_, ?_⟩
        · rw [← List.append_assoc]
          exact st4.exB nDl (ne_of hDl4 (fr4 _ _ j1 q4.dist.st q4.dist.sd q4.dist.sn q4.dist.sx) (fun z => nomatch z)) ExB.upd (TK.lst hDl4)
        · exact q5.trans ((FrD.m fr4).trans (FrD.b ExB.upd))
        · exact q6.trans ((q4.tk fr4).trans (TK.lst hDl4))
        · intro x hx
          rw [← List.append_assoc]
          rcases List.mem_append.mp hx with hx | hx
          · have := q7 x hx
            rw [List.length_append]
            omega
          · rw [List.mem_singleton.mp hx]
            exact il
        · rw [← List.append_assoc, List.map_append, at0_map q7, q8, List.map_singleton, ia, List.take_succ, ha]
          rfl
      · obtain ⟨us, log', nums, q1, q2, q3, q4, q5, q6, q7, q8⟩ := q
        have lx : xs.length = as.length := by rw [al.len, List.length_map]
        rw [lx, List.take_length] at q8
        rw [lx, List.take_length] at q3
        rw [lx] at q2
        refine ⟨Dl, _, rfl, .inl ⟨sq_of q1, fun l hl => ?_⟩⟩
        have el := Ex.new (o := .tup (nums.map fun (n : Nat) => V.int (n : Int))) hl
        refine ⟨s, m, ts ++ us, log', g, nums, .ref l, rfl, .tup (st_of upd_same) (all_map fun n _ => .int _), q4.mono el, mok, q7, by rw [q2]; exact hg, by rw [q8, ← et]; omega, by rw [List.length_append]; omega, fun i H4 us2 log2 u1 hi st4 fr4 => ?_⟩
        rw [q8, ← et, List.append_assoc] at hi
        rw [List.append_assoc] at st4
        refine k i H4 (us ++ us2) log2 (by rw [List.length_append]; omega) hi st4 (((FrM.of ((e1.trans e2).trans e3)).trans (q5.toM (st.mono ((e1.trans e2).trans e3)) q4 hD)).trans ((FrM.of el).trans fr4))
end
end Lb

set_option Elab.async false
set_option linter.all false
set_option maxRecDepth 100000
set_option maxHeartbeats 4000000
namespace Lb
open PySem L2 Evl PyProof.Rows
section
variable {P : Program} {w : World} {K : PySem.W.Frag} {mg : Str → Option Value} {base : Heap} {C : Addr} {H H' : Hp} {s : SA} {m : Mc} {ts : List Tm} {log : List (Nat × List Nat)}
/-! ### check_wishes -/
def spChkW (K : PySem.W.Frag) : Sp := fun vs H Q _ => ∃ (mv wv : V) (m : Mc) (ws : List (Nat × Tm)), vs = [mv, wv] ∧ Dp K H mv m.enc ∧ Dp K H wv (wishesD ws) ∧ m.Ok ∧ WsOk m ws ∧ ws.length ≤ 60 ∧ ∀ H', Ex H H' → Q .non H'
abbrev CChkW (P : Program) (w : World) (K : PySem.W.Frag) (mg : Str → Option Value) (base : Heap) := Cal P w K mg base 13 "check_wishes" ["machine", "wishes"] (spChkW K)
theorem ok_check_wishes (B : Bi mg) (D : Dfn K mg "check_wishes" sCheckWishes ["machine", "wishes"]) (C_is_wish : CWish P w K mg base) : CChkW P w K mg base := by
  refine D.ok scCheckWishes (fun vs H Q E h => ?_) (fun f cdv A outer sh0 H vs Q E hr h => ?_)
  · obtain ⟨mv, wv, m, ws, rfl, _⟩ := h
    rfl
  obtain ⟨mv, wv, m, ws, rfl, hm, hw, mok, wok, wz, k⟩ := h
  refine ⟨_, (pss_cons (ps_if (PW.pt (pw_or (pt_not (pt_val (pe_callB call_isi (by rfl) B.isinstance (by decide +kernel) (pa_cons (pv 1) (pa_cons (pe_bltn (v := .ty "tuple") (by rfl) B.tuple (by decide +kernel) rfl) pa_nil))))) (pw_or1 (pt_cmpR op_eq (pe_callB call_lenq (by rfl) B.len PySem.boot_len (pa_cons (pv 1) pa_nil)) pe_int (by first | exact nomark _ | rfl))))) (pss_one ps_never) pss_nil) (pss_cons (ps_set (i := 2) scCheckWishes.nd rfl (by first | exact Or.inl rfl | exact Or.inr rfl) (pe_un un_neg pe_int)) (pss_one (ps_for PassesOwn.never rfl (pi_enumT rfl B.enumerate (pa_cons (pv 1) pa_nil)) (pg_tup rfl (pgs_cons (pg_name (i := 3) scCheckWishes.nd rfl (by first | exact Or.inl rfl | exact Or.inr rfl)) (pgs_cons (pg_name (i := 4) scCheckWishes.nd rfl (by first | exact Or.inl rfl | exact Or.inr rfl)) pgs_nil))) (pss_cons (ps_if (PW.pt (pw_or (pt_not (pt_val (pe_cal C_is_wish hr (by omega) rfl (pa_cons (pv 0) (pa_cons (pv 4) pa_nil))))) (pw_or1 (pt_cmpR op_le (pe_ix ix_tup (pv 4) pe_int (fun _ _ => rfl)) (pv 2) (by first | exact nomark _ | rfl))))) (pss_one ps_never) pss_nil) (pss_one (ps_set (i := 2) scCheckWishes.nd rfl (by first | exact Or.inl rfl | exact Or.inr rfl) (pe_ix ix_tup (pv 4) pe_int (fun _ _ => rfl))))))))), ?_⟩
  have hx : EvD K (tVar 1) [some mv, some wv, none, none, none] H (wishesD ws) := ed_var rfl hw
  have w0 : 0 < ws.length := List.length_pos_iff.mpr wok.ne
  refine qd_pass (et_or (et_not (et_B (ev_isi hx (kT _)))) fun _ => et_test (ev_op (ev_lenT hx) ev_c (rv_eq rfl))) ?_ fun H1 e1 => ?_
  · have : ¬ V.int (((ws.map wishD).length : Nat) : Int) = V.int 0 := fun z => by injection z with z; rw [List.length_map] at z; omega
    rw [decide_eq_false this]
    simp [isT, wishesD]
  refine q_asg (v := .int (-1)) (ev_neg ev_c) fun H2 e2 => ?_
  have e12 := e1.trans e2
  refine sd_forE (K := K) (ds := ws.map wishD) (ed_var rfl (dmono e12 _ _ hw)) fun H3 a xs e3 sq al => ⟨fun i σ' H' => Ex H H' ∧ Ex H3 H' ∧ ∃ (ab : Int) (x y : Option V), σ' = [some mv, some wv, some (.int ab), x, y] ∧ ∀ b, ws[i]? = some b → ab < (b.1 : Int), ⟨e12.trans e3, Ex.refl _, -1, _, _, rfl, fun b _ => by omega⟩, fun i σ' H' q => TK.of q.2.1, ?_, fun σ' H' q => k H' q.1⟩
  rintro i x d T σ' H' hxi hdi hxd ⟨q1, q2, ab, y, z, rfl, q3⟩ hT
  obtain ⟨b, hb, rfl⟩ : ∃ b, ws[i]? = some b ∧ d = wishD b := by
    rw [List.getElem?_map] at hdi
    cases e : ws[i]? with
    | none => rw [e] at hdi; cases hdi
    | some b => rw [e] at hdi; cases hdi; exact ⟨b, rfl, rfl⟩
  have bm := List.mem_of_getElem? hb
  have eT := Ex.new (o := .tup [.int (i : Nat), x]) hT
  have e3' := q2.trans eT
  have e4 := q1.trans eT
  have hx4 := dmono e3' _ _ hxd
  have lt := q3 b hb
  refine qd_pass (et_or (et_not (et_B (ev_sp (v := .bl true) (ead_cons (ed_var rfl (dmono e4 _ _ hm)) (ead_cons (ed_var rfl hx4) ead_nil)) fun H4 vs e4 hvs Q q => ?_))) fun _ => et_test (ev_op (ev_int (ed_ix (d := .int (b.1 : Int)) (ed_var rfl hx4) (ed_int ev_c) (atD (n := 0) rfl))) (ev_var rfl) rv_I0)) ?_ fun H5 e5 => ?_
  · cases hvs with
    | cons h0 t0 => cases t0 with
      | cons h1 t1 => cases t1; exact ⟨_, _, m, b, rfl, h0, h1, mok, wok.cell b bm, (wok.of b bm).1, (wok.of b bm).2, q⟩
  · rw [decide_eq_false (by omega)]
    rfl
  · refine sd_asg (K := K) (d := .int (b.1 : Int)) (ed_ix (ed_var rfl (dmono e5 _ _ hx4)) (ed_int ev_c) (atD (n := 0) rfl)) fun v H6 e6 hv => ?_
    cases hv.intD
    refine ⟨(e4.trans e5).trans e6, (e3'.trans e5).trans e6, (b.1 : Int), _, _, rfl, fun c hc => ?_⟩
    have := wok.asc i b c hb hc
    omega
theorem ed_chkW {σ : L2.St} {ta tb : TE} {E : XK} {ws : List (Nat × Tm)} (mok : m.Ok) (wok : WsOk m ws) (wz : ws.length ≤ 60) (ha : EvD K ta σ H m.enc) (hb : EvD K tb σ H (wishesD ws)) : EvD K (tCall (spChkW K) [] E (tCons ta (tCons tb tNil))) σ H .none :=
  ed_non (ev_sp (ead_cons ha (ead_cons hb ead_nil)) fun H1 vs e hvs Q q => by
    cases hvs with
    | cons h0 t0 => cases t0 with
      | cons h1 t1 => cases t1; exact ⟨_, _, m, ws, rfl, h0, h1, mok, wok, wz, q⟩)
/-! ### are_fulfilled -/
/-- the numbers of what is wished -/
def wantD (x : Nat × Nat) : PyData := .tuple [.int (x.1 : Int), .int (x.2 : Int)]
def full (hs : List Nat) (wn : List (Nat × Nat)) : Bool := wn.all fun x => decide (hs.getD x.1 0 = x.2)
def spFull (K : PySem.W.Frag) : Sp := fun vs H Q _ => ∃ (hv wv : V) (hs : List Nat) (wn : List (Nat × Nat)), vs = [hv, wv] ∧ Dp K H hv (natsD hs) ∧ Dp K H wv (.list (wn.map wantD)) ∧ (∀ x ∈ wn, x.1 < hs.length) ∧ wn.length ≤ 60 ∧ ∀ H', Ex H H' → Q (.bl (full hs wn)) H'
abbrev CFull (P : Program) (w : World) (K : PySem.W.Frag) (mg : Str → Option Value) (base : Heap) := Cal P w K mg base 1 "are_fulfilled" ["holds", "wanted"] (spFull K)
theorem ok_are_fulfilled (B : Bi mg) (D : Dfn K mg "are_fulfilled" sAreFulfilled ["holds", "wanted"]) : CFull P w K mg base := by
  refine D.ok scAreFulfilled (fun vs H Q E h => ?_) (fun f cdv A outer sh0 H vs Q E hr h => ?_)
  · obtain ⟨hv, wv, hs, wn, rfl, _⟩ := h
    rfl
  obtain ⟨hv, wv, hs, wn, rfl, hh, hw, hlt, hz, k⟩ := h
  refine ⟨_, (pss_one (ps_ret (pe_callB (cr_all rfl) (by rfl) B.all (by decide +kernel) (pa_cons (pe_lc (own := [("cell", 2), ("number", 3)]) (g := (gTup K 2 (gCons (gName 2) (gCons (gName 3) gNil)))) (tt := tYes) rfl scAreFulfilled.nd (pi_list (pv 1)) (blkOk_by (N := NAreFulfilled) (sc := defScope sAreFulfilled) (by decide +kernel)) (fun _ _ _ _ _ => (pg_tup rfl (pgs_cons (pg_name (i := 2) scAreFulfilled.nd rfl (by first | exact Or.inl rfl | exact Or.inr rfl)) (pgs_cons (pg_name (i := 3) scAreFulfilled.nd rfl (by first | exact Or.inl rfl | exact Or.inr rfl)) pgs_nil)))) (fun _ _ _ _ _ => pts_nil) (fun _ _ _ _ _ => (pe_cmpR op_eq (pe_ix (show IxR _ (rIxT K) from ix_tup) (pv 0) (pv 2) (fun _ _ => rfl)) (pv 3) (by first | exact nomark _ | rfl)))) pa_nil)))), ?_⟩
  refine s_ret (v := .bl (full hs wn)) (ev_is (ev_all (bs := wn.map fun x => decide (hs.getD x.1 0 = x.2)) ?_) (by unfold full; rw [List.all_map]; rfl)) k
  have q := ed_lcLg (K := K) (σ := [some hv, some wv, none, none]) (H := H) (tl := tVar 1) (te := tOp rEq (tOp (rIxT K) (tVar 0) (tVar 2)) (tVar 3)) (tt := tYes) (g := gTup K 2 (gCons (gName 2) (gCons (gName 3) gNil))) (ds := wn.map wantD) (vs := [2, 3]) (fun _ => true) (fun i => (wn[i]?.map fun x => PyData.bool (decide (hs.getD x.1 0 = x.2))).getD .none) (ed_var rfl hw) (by rw [List.length_map]; omega) (fun i hi => ?_) (fun i d x H1 e hd hx Q q => ?_)
  · rw [List.length_map, givenD_all] at q
    refine ed_is q ?_
    refine congrArg PyData.list ?_
    rw [List.map_map]
    refine List.ext_getElem (by simp) fun i h1 h2 => ?_
    have hi : i < wn.length := by simpa using h1
    simp [List.getElem?_eq_getElem hi]
  · rw [List.length_map] at hi
    rw [List.getElem?_eq_getElem hi]
    rfl
  · rw [List.getElem?_map] at hd
    cases ew : wn[i]? with
    | none => rw [ew] at hd; cases hd
    | some b =>
      rw [ew] at hd
      cases hd
      have bm := hlt b (List.mem_of_getElem? ew)
      obtain ⟨a, ys, rfl, sq, al⟩ := Dp.tupD hx
      cases al with
      | cons h1 t1 => cases t1 with
        | cons h2 t2 =>
          cases t2
          cases h1.intD
          cases h2.intD
          refine ⟨a, _, rfl, sq, rfl, _, _, rfl, _, _, rfl, rfl, ?_⟩
          refine q _ H1 (Ex.refl _) rfl et_yes fun _ => ?_
          rw [ew]
          show EvD K _ _ _ (.bool (decide (hs.getD b.1 0 = b.2)))
          refine ed_bl (ev_is (ev_op (ev_int (ed_ix (d := .int ((hs.getD b.1 0 : Nat) : Int)) (ed_var rfl (dmono e _ _ hh)) (ed_int (ev_var rfl)) (atD ?_))) (ev_var (v := .int (b.2 : Int)) rfl) (rv_eq rfl)) ?_)
          · rw [List.getElem?_map, List.getD_eq_getElem?_getD, List.getElem?_eq_getElem bm]
            rfl
          · refine congrArg V.bl ?_
            rw [Bool.eq_iff_iff, decide_eq_true_iff, decide_eq_true_iff]
            exact ⟨fun z => by injection z with z; omega, fun z => by rw [z]⟩
end
end Lb

set_option Elab.async false
set_option linter.all false
set_option maxRecDepth 100000
set_option maxHeartbeats 4000000
namespace Lb
open PySem L2 Evl PyProof.Rows
theorem wantD_noL (x : Nat × Nat) : noL (wantD x) = true := rfl
theorem wants_noL (wn : List (Nat × Nat)) : noLs (wn.map wantD) = true := noLs_iff.mpr fun d hd => by
  obtain ⟨x, _, rfl⟩ := List.mem_map.mp hd
  rfl
/-- the numbers stand for the wishes -/
structure Wants (ts : List Tm) (ws : List (Nat × Tm)) (wn : List (Nat × Nat)) : Prop where
  lt : ∀ x ∈ wn, x.2 < ts.length
  eq : wn.map (fun x => (x.1, at0 ts x.2)) = ws
theorem Wants.app {ts us : List Tm} {ws : List (Nat × Tm)} {wn : List (Nat × Nat)} (h : Wants ts ws wn) : Wants (ts ++ us) ws wn := by
  refine ⟨fun x hx => by have := h.lt x hx; rw [List.length_append]; omega, ?_⟩
  rw [← h.eq]
  exact List.map_congr_left fun x hx => by rw [at0_app (h.lt x hx)]
theorem Wants.len {ts : List Tm} {ws : List (Nat × Tm)} {wn : List (Nat × Nat)} (h : Wants ts ws wn) : wn.length = ws.length := by rw [← h.eq, List.length_map]
section
variable {P : Program} {w : World} {K : PySem.W.Frag} {mg : Str → Option Value} {base : Heap} {C : Addr} {H H' : Hp} {s : SA} {m : Mc} {ts : List Tm} {log : List (Nat × List Nat)}
def spWanted (P : Program) (w : World) (K : PySem.W.Frag) (C : Addr) : Sp := fun vs H Q _ => ∃ (s : SA) (m : Mc) (ts : List Tm) (log : List (Nat × List Nat)) (wv : V) (ws : List (Nat × Tm)), vs = [.ref s.S, wv] ∧ Dp K H wv (wishesD ws) ∧ StoreAt P w K C H s m ts log ∧ m.Ok ∧ WsOk m ws ∧ ws.length ≤ 20 ∧ ts.length ≤ 10000 ∧
  ∀ p acc H' us log' wn, us.length ≤ 256 * ws.length → StoreAt P w K C H' s m (ts ++ us) log' → FrM s H H' → H' p = some (.lst acc) → DpAll K H' acc (wn.map wantD) → Wants (ts ++ us) ws wn → NotS s p → Q (.ref p) H'
abbrev CWanted (P : Program) (w : World) (K : PySem.W.Frag) (mg : Str → Option Value) (base : Heap) (C : Addr) := Cal P w K mg base 11 "wanted_numbers" ["store", "wishes"] (spWanted P w K C)
theorem ok_wanted_numbers (D : Dfn K mg "wanted_numbers" sWantedNumbers ["store", "wishes"]) (M_number : MNumber P w K mg base C 8) : CWanted P w K mg base C := by
  refine D.ok scWantedNumbers (fun vs H Q E h => ?_) (fun f cdv A outer sh0 H vs Q E hr h => ?_)
  · obtain ⟨s, m, ts, log, wv, ws, rfl, _⟩ := h
    rfl
  obtain ⟨s, m, ts, log, wv, ws, rfl, hw, st, mok, wok, wz, tz, k⟩ := h
  refine ⟨_, (pss_one (ps_ret (pe_lc (own := [("cell", 2), ("term", 3)]) (g := (gTup K 2 (gCons (gName 2) (gCons (gName 3) gNil)))) (tt := tYes) rfl scWantedNumbers.nd (pi_tup (pv 1)) (blkOk_by (N := NWantedNumbers) (sc := defScope sWantedNumbers) (by decide +kernel)) (fun _ _ _ _ _ => (pg_tup rfl (pgs_cons (pg_name (i := 2) scWantedNumbers.nd rfl (by first | exact Or.inl rfl | exact Or.inr rfl)) (pgs_cons (pg_name (i := 3) scWantedNumbers.nd rfl (by first | exact Or.inl rfl | exact Or.inr rfl)) pgs_nil)))) (fun _ _ _ _ _ => pts_nil) (fun _ _ _ _ _ => (pe_tup (pa_cons (pv 2) (pa_cons (pe_mtC M_number hr (by omega) (pv 0) (pa_cons (pv 3) pa_nil)) pa_nil))))))), ?_⟩
  obtain ⟨wa, xs, rfl, sq, al⟩ := Dp.tupD hw
  refine ⟨_, rfl, wa, rfl, ⟨xs, sq⟩, fun Dl hD => ?_⟩
  have nDl := st.notS hD
  refine lc_tup (xs := xs) (fun j H' => ∃ (us : List Tm) (log' : List (Nat × List Nat)) (wn : List (Nat × Nat)) (acc : List V), H' Dl = some (.lst acc) ∧ DpAll K H' acc (wn.map wantD) ∧ us.length ≤ 256 * j ∧ StoreAt P w K C H' s m (ts ++ us) log' ∧ FrD s Dl H H' ∧ TK K H H' ∧ Wants (ts ++ us) (ws.take j) wn) ?_ (fun j H' _ q => ?_) (fun j x H' hj q => ?_) (fun H' q => ?_)
  · exact ⟨[], log, [], [], upd_same, .nil, Nat.zero_le _, by rw [List.append_nil]; exact st.mono (Ex.new hD), FrD.of (Ex.new hD), TK.of (Ex.new hD), ⟨fun x h => (by cases h), by simp⟩⟩
  · obtain ⟨_, _, _, _, _, _, _, _, _, tk, _⟩ := q
    exact tk _ _ sq
  · obtain ⟨us, log', wn, acc, q1, q2, q3, q4, q5, q6, q7⟩ := q
    obtain ⟨d, hd, hxd⟩ := al.getV hj
    obtain ⟨b, hb, rfl⟩ : ∃ b, ws[j]? = some b ∧ d = wishD b := by
      rw [List.getElem?_map] at hd
      cases e : ws[j]? with
      | none => rw [e] at hd; cases hd
      | some b => rw [e] at hd; cases hd; exact ⟨b, rfl, rfl⟩
    have hjb := (List.getElem?_eq_some_iff.mp hb).1
    have bm := List.mem_of_getElem? hb
    obtain ⟨ob, db⟩ := wok.of b bm
    have hx' := tmono q6 _ _ (wishD_noL b) hxd
    obtain ⟨a, ys, rfl, sqx, alx⟩ := Dp.tupD hx'
    cases alx with
    | cons h1 t1 => cases t1 with
      | cons h2 t2 =>
        cases t2
        cases h1.intD
        refine ⟨a, _, rfl, sqx, rfl, _, _, rfl, _, _, rfl, rfl, rfl, ?_⟩
        unfold tYes
        dsimp only
        rw [if_pos rfl]
        obtain ⟨dx2, fs2, af2, j1, j2, _⟩ := q4.ins
        refine ⟨_, rfl, _, rfl, s.S, dx2, fs2, rfl, j1, j2.m4, _, rfl, ?_⟩
        have sz := b.2.siz_le
        have sz2 : 2 ^ b.2.dep ≤ 256 := pow_le8 db
        refine ⟨s, m, ts ++ us, log', _, b.2, rfl, h2, q4, mok, ob, db, Nat.le_refl _, by rw [List.length_append]; omega, fun i H4 us2 log2 u1 hi st4 fr4 => ?_⟩
        refine ⟨by show 2 ≤ sizeLine; decide, fun p hp => ?_⟩
        have hDl4 := fr4 _ _ q1 nDl.t nDl.d nDl.n nDl.x
        have ep := Ex.new (o := .tup [.int (b.1 : Int), .int (i : Int)]) hp
        obtain ⟨il, ia⟩ := get_at0 hi
        have tk4 := q4.tk fr4
        have w1 := q7.app (us := us2)
        have wl := q7.len
        have accl : acc.length = wn.length := by rw [q2.len, List.length_map]
        have jl : (ws.take j).length ≤ 20 := by rw [List.length_take]; omega
        have Xl := TK.lst (K := K) (o := .lst (acc ++ [.ref p])) (ep _ _ hDl4)
        refine ⟨acc, ep _ _ hDl4, sz_lt (by omega), us ++ us2, log2, wn ++ [(b.1, i)], acc ++ [.ref p], upd_same, ?_, by rw [List.length_append]; omega, ?_, ?_, ?_, ?_⟩
        · rw [List.map_append]
          refine tmonoAll Xl _ _ ?_ ((dmonoAll ep _ _ (tmonoAll tk4 _ _ (wants_noL wn) q2)).app (.cons (.tup (st_of upd_same) (.cons (.int _) (.cons (.int _) .nil))) .nil))
          have := wants_noL (wn ++ [(b.1, i)])
          rw [List.map_append] at this
          exact this
        · rw [← List.append_assoc]
          exact (st4.mono ep).exB nDl (ne_of (ep _ _ hDl4) (ep _ _ (fr4 _ _ j1 q4.dist.st q4.dist.sd q4.dist.sn q4.dist.sx)) (fun z => nomatch z)) ExB.upd Xl
        · exact q5.trans ((FrD.m fr4).trans ((FrD.of ep).trans (FrD.b ExB.upd)))
        · exact q6.trans (tk4.trans ((TK.of ep).trans Xl))
        · rw [← List.append_assoc]
          refine ⟨fun x hx => ?_, ?_⟩
          · rcases List.mem_append.mp hx with hx | hx
            · exact w1.lt x hx
            · rw [List.mem_singleton.mp hx]
              exact il
          · rw [List.map_append, w1.eq, List.map_singleton, ia, List.take_succ, hb]
            rfl
  · obtain ⟨us, log', wn, acc, q1, q2, q3, q4, q5, q6, q7⟩ := q
    have lx : xs.length = ws.length := by rw [al.len, List.length_map]
    rw [lx, List.take_length] at q7
    rw [lx] at q3
    refine k Dl acc H' us log' wn q3 q4 (q5.toM st q4 hD) q1 q2 q7 nDl
end
end Lb

set_option Elab.async false
set_option linter.all false
set_option maxRecDepth 100000
set_option maxHeartbeats 4000000
namespace Lb
open PySem L2 Evl PyProof.Rows
/-- one turn of a comprehension, from which N is reached -/
def Stp (g : TG) (tt : TT) (te : TE) (vs : List Nat) (σ : L2.St) (Dl : Addr) (N : Hp → Prop) (x : V) (H : Hp) : Prop :=
  g x (wipe σ vs) H fun σ2 H2 => wipe σ2 vs = wipe σ vs ∧ tt σ2 H2 fun b H3 => if b = true then te σ2 H3 fun y H4 => ∃ acc, H4 Dl = some (.lst acc) ∧ acc.length < sizeLine ∧ N (upd H4 Dl (.lst (acc ++ [y]))) else N H3
/-- over the keys of a dict -/
theorem lc_kn {P : Program} {w : World} {sh : List Bool} {d Dl : Addr} {od : Obj} {xs : List (List NI × Addr × Value)} {g : TG} {tt : TT} {te : TE} {vs : List Nat} {σ : L2.St} {H1 : Hp} {Qd : Hp → Prop} (Pv : Nat → Hp → Prop) (h0 : Pv 0 (upd H1 Dl (.lst []))) (hG : ∀ i H, i ≤ xs.length → Pv i H → Lkd P w sh d od xs H)
    (hs : ∀ i k q u H, xs[i]? = some (k, q, u) → Pv i H → Stp g tt te vs σ Dl (Pv (i + 1)) (.ref q) H) (hd : ∀ H, Pv xs.length H → Qd H) :
    ∃ W : Nat → Nat → Hp → Prop, (∃ n, W 0 n (upd H1 Dl (.lst []))) ∧ ∀ i n H, W i n H →
      ((Ikn P w sh d od xs).stop i H ∧ Qd H) ∨ ((Ikn P w sh d od xs).go i H ∧ ∃ Nx : Hp → Prop, (∀ H', Nx H' → ∃ n', n' < n ∧ W (i + 1) n' H') ∧ ∀ x H', (Ikn P w sh d od xs).yld i H x H' → Stp g tt te vs σ Dl Nx x H') := by
  refine ⟨fun i n H => n = xs.length - i ∧ i ≤ xs.length ∧ Pv i H, ⟨xs.length, by simp, Nat.zero_le _, h0⟩, ?_⟩
  rintro i n H ⟨rfl, hi, p⟩
  have q := hG i H hi p
  rcases Nat.lt_or_ge i xs.length with hlt | hge
  · refine .inr ⟨⟨q, hlt⟩, Pv (i + 1), fun H' p' => ⟨xs.length - (i + 1), by omega, rfl, hlt, p'⟩, fun v H' y => ?_⟩
    obtain ⟨rfl, k, a, u, h1, rfl⟩ := y
    exact hs i k a u H' h1 p
  · have e : i = xs.length := by omega
    subst e
    exact .inl ⟨⟨q, Nat.le_refl _⟩, hd H p⟩
end Lb

set_option Elab.async false
set_option linter.all false
set_option maxRecDepth 100000
set_option maxHeartbeats 4000000
namespace Lb
open PySem L2 Evl PyProof.Rows
def fulfilled (ws : List (Nat × Tm)) (held : List Tm) : Bool := ws.all fun x => decide (at0 held x.1 = x.2)
theorem full_is {m : Mc} {ts : List Tm} {ws : List (Nat × Tm)} {wn : List (Nat × Nat)} {hs : List Nat} (nd : ts.Nodup) (W : Wants ts ws wn) (h : Hs m ts hs) (hc : ∀ x ∈ ws, x.1 < m.cells) : full hs wn = fulfilled ws (hs.map (at0 ts)) := by
  unfold full fulfilled
  rw [← W.eq, List.all_map, Bool.eq_iff_iff, List.all_eq_true, List.all_eq_true]
  have one : ∀ x ∈ wn, (hs.getD x.1 0 = x.2 ↔ at0 (hs.map (at0 ts)) x.1 = at0 ts x.2) := fun x hx => by
    have hx2 : x.1 < m.cells := hc (x.1, at0 ts x.2) (by rw [← W.eq]; exact List.mem_map.mpr ⟨x, hx, rfl⟩)
    have hl : x.1 < hs.length := by rw [h.len]; exact hx2
    rw [at0_hs hl]
    exact ⟨fun z => by rw [z], fun z => at0_inj nd (getD_lt hl h.lt) (W.lt x hx) z⟩
  constructor
  · intro z x hx
    have := z x hx
    simp only [decide_eq_true_eq] at this
    simpa using (one x hx).mp this
  · intro z x hx
    have := z x hx
    simp only [Function.comp, decide_eq_true_eq] at this
    simpa using (one x hx).mpr this
end Lb

set_option Elab.async false
set_option linter.all false
set_option maxRecDepth 100000
set_option maxHeartbeats 4000000
namespace Lb
open PySem L2 Evl PyProof.Rows
/-! ### no run of a short tame program makes terms too deep -/
/-- how many of the first i lines are not lost -/
def happened (ls : List Nat) : Nat → Nat
  | 0 => 0
  | i + 1 => if i ∈ ls then happened ls i else happened ls i + 1
theorem st_happened {m : Mc} {p : List Ln} {ls : List Nat} : ∀ i, md (st m p ls i) ≤ 1 + happened ls i
  | 0 => start_md _
  | i + 1 => by
    have ih := st_happened (m := m) (p := p) (ls := ls) i
    rw [st, happened]
    by_cases q : i ∈ ls
    · rw [if_pos q, if_pos q]
      exact ih
    · rw [if_neg q, if_neg q]
      cases e : p[i]? with
      | none => show md (st m p ls i) ≤ _; omega
      | some l =>
        have := did_dep (l := l) (B := 1 + happened ls i) (by omega) ih
        show md (did (st m p ls i) l) ≤ _
        omega
theorem happened_le (ls : List Nat) : ∀ i, happened ls i ≤ i
  | 0 => Nat.le_refl _
  | i + 1 => by
    have := happened_le ls i
    rw [happened]
    split <;> omega
/-- a line is lost -/
theorem happened_lt {ls : List Nat} {x : Nat} (hx : x ∈ ls) : ∀ i, x < i → happened ls i + 1 ≤ i
  | 0, h => absurd h (Nat.not_lt_zero _)
  | i + 1, h => by
    rw [happened]
    by_cases e : x = i
    · rw [if_pos (e ▸ hx)]
      have := happened_le ls i
      omega
    · have := happened_lt hx i (by omega)
      split <;> omega
/-- the whole run of a tame program stays flat -/
theorem tame_flat {m : Mc} (p : List Ln) (S : List Tm × List Ln) (h : ranG [] 0 (start0 m.cells) S.2 = some S.1 ∧ ∀ i, i ≤ S.2.length → md (st m S.2 [] i) ≤ 5) (hs : st m S.2 [] S.2.length = S.1) :
    (∀ i, i ≤ (p.foldl tameStep S).2.length → md (st m (p.foldl tameStep S).2 [] i) ≤ 5) ∧ st m (p.foldl tameStep S).2 [] (p.foldl tameStep S).2.length = (p.foldl tameStep S).1 := by
  induction p generalizing S with
  | nil => exact ⟨h.2, hs⟩
  | cons l p ih =>
    rw [List.foldl_cons]
    by_cases c : md (did S.1 l) < 6
    · have e : tameStep S l = (did S.1 l, S.2 ++ [l]) := by unfold tameStep; rw [if_pos c]
      have pre : ∀ i, i ≤ S.2.length → st m (S.2 ++ [l]) [] i = st m S.2 [] i := fun i => by
        induction i with
        | zero => exact fun _ => rfl
        | succ i ih2 =>
          intro hi
          rw [st, st, if_neg (by simp), if_neg (by simp), ih2 (by omega), List.getElem?_append_left (by omega)]
      have last : st m (S.2 ++ [l]) [] (S.2.length + 1) = did S.1 l := by
        rw [st, if_neg (by simp), List.getElem?_append_right (Nat.le_refl _), Nat.sub_self, pre _ (Nat.le_refl _), hs]
        rfl
      refine ih (tameStep S l) ⟨?_, fun i hi => ?_⟩ ?_
      · rw [e]
        show ranG [] 0 (start0 m.cells) (S.2 ++ [l]) = some (did S.1 l)
        rw [rgs_snoc, h.1]
        show (if 0 + S.2.length ∈ ([] : List Nat) then some S.1 else if 8 < md (did S.1 l) then none else some (did S.1 l)) = _
        rw [if_neg (by simp), if_neg (by omega)]
      · rw [e] at hi ⊢
        have hi' : i ≤ (S.2 ++ [l]).length := hi
        rw [List.length_append, List.length_singleton] at hi'
        show md (st m (S.2 ++ [l]) [] i) ≤ 5
        by_cases q : i ≤ S.2.length
        · rw [pre i q]
          exact h.2 i q
        · rw [show i = S.2.length + 1 by omega, last]
          omega
      · rw [e]
        show st m (S.2 ++ [l]) [] (S.2 ++ [l]).length = did S.1 l
        rw [List.length_append, List.length_singleton]
        exact last
    · have e : tameStep S l = S := by unfold tameStep; rw [if_neg c]
      rw [e]
      exact ih S h hs
theorem tame_deep {m : Mc} {p0 : List Ln} {many : Nat} (h8 : (tame m p0).length ≤ 8) {i : Nat} {l : Ln} (hl : (tame m p0)[i]? = some l) {x : List Tm} {t : Nat} (hr : Rr m (tame m p0) many i x t) : md (did x l) ≤ 8 := by
  have il := (List.getElem?_eq_some_iff.mp hl).1
  obtain ⟨ls, hls, _, rfl⟩ := (Rr_every i (by omega)).1 x t hr
  have lm := everyL_mem many hls
  by_cases e : ls = []
  · have f := (tame_flat (m := m) p0 (start0 m.cells, []) ⟨rfl, fun i hi => by
      have hi0 : i = 0 := Nat.le_zero.mp hi
      subst hi0
      exact Nat.le_trans (start_md _) (by decide)⟩ rfl).1 i (Nat.le_of_lt il)
    rw [e]
    exact Nat.le_trans (did_dep (l := l) (B := 5) (by decide) f) (by decide)
  · obtain ⟨y, hy⟩ := List.exists_mem_of_ne_nil ls e
    have h1 := happened_lt hy i (lm.2 y hy)
    have h2 := st_happened (m := m) (p := tame m p0) (ls := ls) i
    have h3 := did_dep (l := l) (B := 7) (by decide) (Nat.le_trans h2 (by omega))
    exact h3
end Lb

set_option Elab.async false
set_option linter.all false
set_option maxRecDepth 100000
set_option maxHeartbeats 4000000
namespace L2
open PySem PySem.Spec PyProof.Rows
theorem tuple_mul1 (l : Addr) (items : Array Value) (n : Nat) (dd : Option Addr) (sl : Array (Option Value)) (u : Tok) :
    Meets (Builtin.«tuple.__mul__» ⟨[.ref l, .int 1 u], []⟩) (fun _ R s => s.heap.get? l = some { cls := .type "tuple", dict := dd, data := .seq items n, slots := sl } ∧ R (.ok (.ret (Value.ref l))) s) :=
  .of_wp fun prog w A R s h => by
    obtain ⟨hp, g, d, tk, os⟩ := s
    obtain ⟨hl, h⟩ := h
    have f1 := AutoSeq1.idx_int
    have c0 : (decide ((1 : Int) < -(2 ^ 63)) || decide ((1 : Int) ≥ 2 ^ 63)) = false := by decide
    have c1 : (items.isEmpty || (1 : Int) == 1) = true := by simp
    wp_walk using wpAny_loadPart' hl
    repeat (first
      | (refine wpAny_ite_false (decide_eq_false (by rw [c0]; exact Bool.false_ne_true)) ?_; wp_walk using wpAny_loadPart' hl)
      | (refine wpAny_ite_true (decide_eq_true (by rw [c1])) ?_; wp_walk using wpAny_loadPart' hl))
    exact ⟨_, rfl, h⟩
def rRepTW (K : PySem.W.Frag) : R2 := fun x y H Q => ∃ l k xs, x = .ref l ∧ y = .int k ∧ SqT K H l xs ∧ xs ≠ [] ∧ 1 ≤ k ∧ k ≤ 1000 ∧ xs.length ≤ 1000 ∧ (k = 1 → Q (.ref l) H) ∧ (2 ≤ k → ∀ p, H p = none → Q (.ref p) (upd H p (.tup (List.replicate k.toNat xs).flatten)))
theorem op_repTW {X : Cx} : OpR X (binaryOp .Mult) (rRepTW X.K) := by
  intro pins s σ H x y v u Q I rx ry h
  obtain ⟨l, k, xs, rfl, rfl, hT, hne, h1, h2, hz, q1, q2⟩ := h
  by_cases k1 : k = 1
  · subst k1
    have q := q1 rfl
    cases rx
    obtain ⟨t, rfl⟩ := ry
    obtain ⟨its, r, ⟨⟨cls, dd, data, sl⟩, ho, hc, n, hd⟩, hs⟩ := I.tuple hT
    simp only at hc hd
    subst hc hd
    refine wpAny_binaryOp_repeat_ref (T := "tuple") (U := "int") (by decide) ⟨_, ho, rfl⟩ (fun s' => typeIs_int s' 1 t) noFill_tuple_mul F.fills_int_mul F.slot_int_rmul repeat_tuple F.slot_int_index.lookup
      (call_meets F.slot_int_rmul (typeIs_int s 1 t) F.entry_int_rmul (F.args_int_rmul_2 _ _) (int_rmul_tuple 1 t l its.toArray n dd sl)
        ⟨ho, rfl, ⟨_, ho, rfl⟩, call_meets F.slot_tuple_mul ⟨_, ho, rfl⟩ F.entry_tuple_mul (F.args_tuple_mul_2 _ _) (tuple_mul1 l its.toArray n dd sl t) ⟨ho, ?_⟩⟩)
    exact ⟨.ref l, H, I, rfl, q⟩
  · exact op_repT pins s σ H _ _ v u Q I rx ry ⟨l, k, xs, rfl, rfl, hT, hne, by omega, h2, hz, q2 (by omega)⟩
theorem Room.u65 {k : Nat} {A : Around} (r : Room k A) : A.units + 65 < cLine := by have := r.un; omega
theorem DpAll.rep {K : PySem.W.Frag} {H : Hp} {vs : List V} {ds : List PyData} (h : DpAll K H vs ds) : ∀ n : Nat, DpAll K H (List.replicate n vs).flatten (List.replicate n ds).flatten
  | 0 => .nil
  | n + 1 => by
    rw [List.replicate_succ, List.replicate_succ, List.flatten_cons, List.flatten_cons]
    exact DpAll.app h (DpAll.rep h n)
end L2
namespace Lb
open PySem L2 Evl PyProof.Rows
/-! ### data that may be compared -/
theorem lay_all : ∀ ds : List PyData, (∀ d ∈ ds, d.canLay0 = true) → PyData.canLayAll0 ds = true
  | [], _ => rfl
  | d :: ds, h => by rw [PyData.canLayAll0, lay_all ds fun d hd => h d (List.mem_cons_of_mem _ hd), h d List.mem_cons_self]; rfl
theorem depth_all {n : Nat} : ∀ ds : List PyData, (∀ d ∈ ds, d.depth ≤ n) → PyData.depthAll ds ≤ n
  | [], _ => by rw [PyData.depthAll]; exact Nat.zero_le _
  | d :: ds, h => by
    rw [PyData.depthAll]
    exact Nat.max_le.mpr ⟨h d List.mem_cons_self, depth_all ds fun d hd => h d (List.mem_cons_of_mem _ hd)⟩
def Lay (n : Nat) (d : PyData) : Prop := d.canLay0 = true ∧ d.depth ≤ n
theorem Lay.mono {n k : Nat} {d : PyData} (h : Lay n d) (e : n ≤ k) : Lay k d := ⟨h.1, Nat.le_trans h.2 e⟩
theorem Lay.shaped {n : Nat} {d : PyData} (h : Lay n d) (e : n ≤ 64) : SeqAt.shaped d = true := by
  unfold SeqAt.shaped
  rw [Bool.and_eq_true]
  exact ⟨h.1, decide_eq_true (Nat.le_trans h.2 e)⟩
theorem lay_lst {n : Nat} {ds : List PyData} (h : ∀ d ∈ ds, Lay n d) : Lay (n + 1) (.list ds) := by
  refine ⟨by rw [PyData.canLay0]; exact lay_all ds fun d hd => (h d hd).1, ?_⟩
  rw [PyData.depth]
  exact Nat.succ_le_succ (depth_all ds fun d hd => (h d hd).2)
theorem lay_tup {n : Nat} {ds : List PyData} (h : ∀ d ∈ ds, Lay n d) : Lay (n + 1) (.tuple ds) := by
  refine ⟨by rw [PyData.canLay0]; exact lay_all ds fun d hd => (h d hd).1, ?_⟩
  rw [PyData.depth]
  exact Nat.succ_le_succ (depth_all ds fun d hd => (h d hd).2)
theorem lay_int (i : Int) : Lay 0 (.int i) := ⟨rfl, by rw [PyData.depth]; exact Nat.le_refl _⟩
theorem lay_bool (i : Bool) : Lay 0 (.bool i) := ⟨rfl, by rw [PyData.depth]; exact Nat.le_refl _⟩
theorem lay_none : Lay 0 .none := ⟨rfl, by rw [PyData.depth]; exact Nat.le_refl _⟩
theorem lay_nats (ls : List Nat) : Lay 1 (natsD ls) := lay_tup fun d hd => by
  obtain ⟨n, _, rfl⟩ := List.mem_map.mp hd
  exact lay_int _
theorem lay_tm : ∀ t : Tm, Lay t.dep t.enc
  | .c n => (lay_int _).mono (Nat.zero_le _)
  | .f1 g a => lay_tup fun d hd => by
    rcases List.mem_cons.mp hd with rfl | hd
    · exact (lay_int _).mono (Nat.zero_le _)
    · rw [List.mem_singleton.mp hd]
      exact lay_tm a
  | .f2 g a b => lay_tup fun d hd => by
    rcases List.mem_cons.mp hd with rfl | hd
    · exact (lay_int _).mono (Nat.zero_le _)
    · rcases List.mem_cons.mp hd with rfl | hd
      · exact (lay_tm a).mono (Nat.le_max_left _ _)
      · rw [List.mem_singleton.mp hd]
        exact (lay_tm b).mono (Nat.le_max_right _ _)
theorem lay_encs {u : List Tm} {n : Nat} (h : md u ≤ n) : Lay (n + 1) (encs u) := lay_tup fun d hd => by
  obtain ⟨t, ht, rfl⟩ := List.mem_map.mp hd
  exact (lay_tm t).mono (Nat.le_trans (md_le ht) h)
theorem eqv_tm : ∀ a b : Tm, PyData.eqv a.enc b.enc = decide (a = b)
  | .c n, .c k => by
    simp only [Tm.enc, PyData.eqv]
    rw [Bool.eq_iff_iff, beq_iff_eq, decide_eq_true_iff]
    constructor
    · intro h; rw [show n = k by omega]
    · intro h; cases h; rfl
  | .c n, .f1 g a => by simp [Tm.enc, PyData.eqv]
  | .c n, .f2 g a b => by simp [Tm.enc, PyData.eqv]
  | .f1 g a, .c n => by simp [Tm.enc, PyData.eqv]
  | .f2 g a b, .c n => by simp [Tm.enc, PyData.eqv]
  | .f1 g a, .f2 h c d => by simp [Tm.enc, PyData.eqv, PyData.eqvAll]
  | .f2 g a b, .f1 h c => by simp [Tm.enc, PyData.eqv, PyData.eqvAll]
  | .f1 g a, .f1 h c => by
    simp only [Tm.enc, PyData.eqv, PyData.eqvAll, eqv_tm a c]
    rw [Bool.eq_iff_iff]
    simp [Int.natCast_inj]
  | .f2 g a b, .f2 h c d => by
    simp only [Tm.enc, PyData.eqv, PyData.eqvAll, eqv_tm a c, eqv_tm b d]
    rw [Bool.eq_iff_iff]
    simp [Int.natCast_inj]
theorem eqv_tms : ∀ a b : List Tm, PyData.eqvAll (a.map Tm.enc) (b.map Tm.enc) = decide (a = b)
  | [], [] => by simp [PyData.eqvAll]
  | [], _ :: _ => by simp [PyData.eqvAll]
  | _ :: _, [] => by simp [PyData.eqvAll]
  | x :: xs, y :: ys => by
    rw [List.map_cons, List.map_cons, PyData.eqvAll, eqv_tms xs ys, eqv_tm, Bool.eq_iff_iff]
    simp
theorem eqv_encs (a b : List Tm) : PyData.eqv (encs a) (encs b) = decide (a = b) := by
  unfold encs
  rw [PyData.eqv]
  exact eqv_tms a b
theorem eqv_nats (a b : List Nat) : PyData.eqv (natsD a) (natsD b) = decide (a = b) := by
  rw [natsD_intsD, natsD_intsD, intsD_eqv, Bool.eq_iff_iff, decide_eq_true_iff, decide_eq_true_iff]
  exact List.map_inj_right fun x y h => by omega
section
variable {P : Program} {w : World} {K : PySem.W.Frag} {mg : Str → Option Value} {base : Heap} {H H' : Hp} {m : Mc}
theorem ed_rep {σ : L2.St} {ta tb : TE} {ds : List PyData} {k : Int} (ha : EvD K ta σ H (.tuple ds)) (hb : EvD K tb σ H (.int k)) (h1 : 1 ≤ k) (h2 : k ≤ 1000) (h0 : ds ≠ []) (hz : ds.length ≤ 1000) : EvD K (tOp (rRepTW K) ta tb) σ H (.tuple (List.replicate k.toNat ds).flatten) := fun H1 e Q q =>
  ha H1 e _ fun v H2 e2 hv => hb H2 (e.trans e2) _ fun w H3 e3 hw => by
    obtain ⟨a, xs, rfl, s, al⟩ := Dp.tupD (dmono e3 _ _ hv)
    cases hw.intD
    refine ⟨a, k, xs, rfl, rfl, s, fun z => h0 ?_, h1, h2, by rw [al.len]; exact hz, fun z => ?_, fun z p hp => ?_⟩
    · subst z
      cases al
      rfl
    · subst z
      refine q _ H3 (e2.trans e3) (.tup s ?_)
      have : (List.replicate (1 : Int).toNat ds).flatten = ds := by simp
      rw [this]
      exact al
    · exact q _ _ ((e2.trans e3).trans (Ex.new hp)) (.tup (st_of upd_same) (dmonoAll (Ex.new hp) _ _ (al.rep _)))
/-! ### _law_times -/
def times (n : Nat) (p : List Ln) : List Ln := p.flatMap fun l => List.replicate n l
theorem times_len (n : Nat) : ∀ p : List Ln, (times n p).length = p.length * n
  | [] => by simp [times]
  | l :: p => by
    have := times_len n p
    unfold times at this ⊢
    rw [List.flatMap_cons, List.length_append, List.length_replicate, this, List.length_cons, Nat.succ_mul, Nat.add_comm]
theorem times_ok {n : Nat} {p : List Ln} (h : ∀ l ∈ p, Ln.Ok m l) : ∀ l ∈ times n p, Ln.Ok m l := fun l hl => by
  obtain ⟨k, hk, h2⟩ := List.mem_flatMap.mp hl
  rw [List.eq_of_mem_replicate h2]
  exact h k hk
theorem times_take {n i : Nat} {p : List Ln} {l : Ln} (h : p[i]? = some l) : times n (p.take (i + 1)) = times n (p.take i) ++ List.replicate n l := by
  unfold times
  rw [List.take_succ, h, List.flatMap_append]
  simp
def spTimes (K : PySem.W.Frag) : Sp := fun vs H Q _ => ∃ (pw : V) (p : List Ln) (n : Nat), vs = [pw, .int (n : Int)] ∧ Dp K H pw (progD p) ∧ 1 ≤ n ∧ n ≤ 4 ∧ p.length ≤ 60 ∧ ∀ v H', Ex H H' → Dp K H' v (progD (times n p)) → Q v H'
abbrev CTimes (P : Program) (w : World) (K : PySem.W.Frag) (mg : Str → Option Value) (base : Heap) := Cal P w K mg base 1 "_law_times" ["program", "many"] (spTimes K)
/-! ### _law_bad -/
/-- [1 for cell, term in wishes if held[cell] != term] != [] -/
theorem ev_bad {σ : L2.St} {i0 jh jc jt : Nat} {u : List Tm} {ws : List (Nat × Tm)} (hu : u.length = m.cells) (ud : md u ≤ 8) (wz : ws.length ≤ 20) (wok : WsOk m ws) (hw : EvD K (tVar i0) σ H (wishesD ws))
    (hh : ∀ (x y : V) H1, Ex H H1 → EvD K (tVar jh) (((wipe σ [jc, jt]).set jc (some x)).set jt (some y)) H1 (encs u)) (h1 : ∀ (x y : V), (((wipe σ [jc, jt]).set jc (some x)).set jt (some y))[jc]? = some (some x)) (h2 : ∀ (x y : V), (((wipe σ [jc, jt]).set jc (some x)).set jt (some y))[jt]? = some (some y))
    (h3 : ∀ (x y : V), wipe (((wipe σ [jc, jt]).set jc (some x)).set jt (some y)) [jc, jt] = wipe σ [jc, jt]) :
    Ev (tOp (rNeD K) (tLc (iTup K (tVar i0)) (gTup K 2 (gCons (gName jc) (gCons (gName jt) gNil))) (tTest (tOp (rNeD K) (tOp (rIxT K) (tVar jh) (tVar jc)) (tVar jt))) (tC (.int 1)) [jc, jt]) (tLst tNil)) σ H (.bl (!fulfilled ws u)) := by
  have wl := List.length_map (as := ws) wishD
  refine ev_is (ev_neD (e1 := .list (givenD (ws.map wishD).length (fun i => (ws[i]?.map fun x => !decide (at0 u x.1 = x.2)).getD false) (fun _ => .int 1))) (e2 := .list []) (ed_lcTg _ _ hw (by rw [wl]; omega) (fun _ _ => rfl) fun i d x H1 e hd hx Q q => ?_) (ed_lst ead_nil (by simp)) ((lay_lst (n := 0) fun d hd => ?_).shaped (by decide)) rfl) ?_
  · obtain ⟨b, hb, rfl⟩ : ∃ b, ws[i]? = some b ∧ d = wishD b := by
      rw [List.getElem?_map] at hd
      cases e : ws[i]? with
      | none => rw [e] at hd; cases hd
      | some b => rw [e] at hd; cases hd; exact ⟨b, rfl, rfl⟩
    have bm := List.mem_of_getElem? hb
    obtain ⟨a, ys, rfl, sq, al⟩ := Dp.tupD hx
    cases al with
    | cons a1 t1 => cases t1 with
      | cons a2 t2 =>
        cases t2
        cases a1.intD
        refine ⟨a, _, rfl, sq, rfl, _, _, rfl, _, _, rfl, rfl, ?_⟩
        have bc : b.1 < u.length := by rw [hu]; exact wok.cell b bm
        have ut : (at0 u b.1) ∈ u := by
          rw [show at0 u b.1 = u[b.1] by simp [at0, List.getD_eq_getElem?_getD, List.getElem?_eq_getElem bc]]
          exact List.getElem_mem bc
        refine q _ H1 (Ex.refl _) (h3 _ _) (et_test (ev_is (ev_neD (e1 := (at0 u b.1).enc) (e2 := b.2.enc) (ed_ix (hh _ _ H1 e) (ed_int (ev_var (h1 _ _))) (atD ?_)) (ed_var (h2 _ _) a2) ((lay_tm _).shaped (Nat.le_trans (Nat.le_trans (md_le ut) ud) (by decide))) ((lay_tm _).shaped (Nat.le_trans (wok.of b bm).2 (by decide)))) ?_)) fun _ => ed_int ev_c
        · rw [List.getElem?_map]
          rw [show u[b.1]? = some (at0 u b.1) by simp [at0, List.getD_eq_getElem?_getD, List.getElem?_eq_getElem bc]]
          rfl
        · rw [eqv_tm, hb]
          rfl
  · obtain ⟨i, _, rfl⟩ := List.mem_map.mp hd
    exact lay_int _
  · rw [eqv_nil]
    refine congrArg (fun b => V.bl (!b)) ?_
    unfold fulfilled givenD
    rw [Bool.eq_iff_iff, List.isEmpty_iff, List.map_eq_nil_iff, List.filter_eq_nil_iff, List.all_eq_true]
    constructor
    · intro h x hx
      obtain ⟨i, hi⟩ := List.getElem?_of_mem hx
      have := h i (List.mem_range.mpr (by rw [wl]; exact (List.getElem?_eq_some_iff.mp hi).1))
      rw [hi] at this
      simpa using this
    · intro h i hi
      have hi' := List.mem_range.mp hi
      rw [wl] at hi'
      rw [List.getElem?_eq_getElem hi']
      have := h _ (List.getElem_mem hi')
      simpa using this
/-- [1 for cell, term in wishes if held[cell] != term] == [] -/
theorem ev_badE {σ : L2.St} {i0 jh jc jt : Nat} {u : List Tm} {ws : List (Nat × Tm)} (hu : u.length = m.cells) (ud : md u ≤ 8) (wz : ws.length ≤ 20) (wok : WsOk m ws) (hw : EvD K (tVar i0) σ H (wishesD ws))
    (hh : ∀ (x y : V) H1, Ex H H1 → EvD K (tVar jh) (((wipe σ [jc, jt]).set jc (some x)).set jt (some y)) H1 (encs u)) (h1 : ∀ (x y : V), (((wipe σ [jc, jt]).set jc (some x)).set jt (some y))[jc]? = some (some x)) (h2 : ∀ (x y : V), (((wipe σ [jc, jt]).set jc (some x)).set jt (some y))[jt]? = some (some y))
    (h3 : ∀ (x y : V), wipe (((wipe σ [jc, jt]).set jc (some x)).set jt (some y)) [jc, jt] = wipe σ [jc, jt]) :
    Ev (tOp (rEqD K) (tLc (iTup K (tVar i0)) (gTup K 2 (gCons (gName jc) (gCons (gName jt) gNil))) (tTest (tOp (rNeD K) (tOp (rIxT K) (tVar jh) (tVar jc)) (tVar jt))) (tC (.int 1)) [jc, jt]) (tLst tNil)) σ H (.bl (fulfilled ws u)) := by
  have wl := List.length_map (as := ws) wishD
  refine ev_is (ev_eqD (e1 := .list (givenD (ws.map wishD).length (fun i => (ws[i]?.map fun x => !decide (at0 u x.1 = x.2)).getD false) (fun _ => .int 1))) (e2 := .list []) (ed_lcTg _ _ hw (by rw [wl]; omega) (fun _ _ => rfl) fun i d x H1 e hd hx Q q => ?_) (ed_lst ead_nil (by simp)) ((lay_lst (n := 0) fun d hd => ?_).shaped (by decide)) rfl) ?_
  · obtain ⟨b, hb, rfl⟩ : ∃ b, ws[i]? = some b ∧ d = wishD b := by
      rw [List.getElem?_map] at hd
      cases e : ws[i]? with
      | none => rw [e] at hd; cases hd
      | some b => rw [e] at hd; cases hd; exact ⟨b, rfl, rfl⟩
    have bm := List.mem_of_getElem? hb
    obtain ⟨a, ys, rfl, sq, al⟩ := Dp.tupD hx
    cases al with
    | cons a1 t1 => cases t1 with
      | cons a2 t2 =>
        cases t2
        cases a1.intD
        refine ⟨a, _, rfl, sq, rfl, _, _, rfl, _, _, rfl, rfl, ?_⟩
        have bc : b.1 < u.length := by rw [hu]; exact wok.cell b bm
        have ut : (at0 u b.1) ∈ u := by
          rw [show at0 u b.1 = u[b.1] by simp [at0, List.getD_eq_getElem?_getD, List.getElem?_eq_getElem bc]]
          exact List.getElem_mem bc
        refine q _ H1 (Ex.refl _) (h3 _ _) (et_test (ev_is (ev_neD (e1 := (at0 u b.1).enc) (e2 := b.2.enc) (ed_ix (hh _ _ H1 e) (ed_int (ev_var (h1 _ _))) (atD ?_)) (ed_var (h2 _ _) a2) ((lay_tm _).shaped (Nat.le_trans (Nat.le_trans (md_le ut) ud) (by decide))) ((lay_tm _).shaped (Nat.le_trans (wok.of b bm).2 (by decide)))) ?_)) fun _ => ed_int ev_c
        · rw [List.getElem?_map]
          rw [show u[b.1]? = some (at0 u b.1) by simp [at0, List.getD_eq_getElem?_getD, List.getElem?_eq_getElem bc]]
          rfl
        · rw [eqv_tm, hb]
          rfl
  · obtain ⟨i, _, rfl⟩ := List.mem_map.mp hd
    exact lay_int _
  · rw [eqv_nil]
    refine congrArg V.bl ?_
    unfold fulfilled givenD
    rw [Bool.eq_iff_iff, List.isEmpty_iff, List.map_eq_nil_iff, List.filter_eq_nil_iff, List.all_eq_true]
    constructor
    · intro h x hx
      obtain ⟨i, hi⟩ := List.getElem?_of_mem hx
      have := h i (List.mem_range.mpr (by rw [wl]; exact (List.getElem?_eq_some_iff.mp hi).1))
      rw [hi] at this
      simpa using this
    · intro h i hi
      have hi' := List.mem_range.mp hi
      rw [wl] at hi'
      rw [List.getElem?_eq_getElem hi']
      have := h _ (List.getElem_mem hi')
      simpa using this
def spBad (K : PySem.W.Frag) : Sp := fun vs H Q _ => ∃ (mv pw lv wv : V) (m : Mc) (p : List Ln) (ls : List Nat) (ws : List (Nat × Tm)), vs = [mv, pw, lv, wv] ∧ Dp K H mv m.enc ∧ Dp K H pw (progD p) ∧ Dp K H lv (natsD ls) ∧ Dp K H wv (wishesD ws) ∧ m.Ok ∧ (∀ l ∈ p, Ln.Ok m l) ∧ ran m p ls ≠ none ∧ WsOk m ws ∧ ws.length ≤ 4 ∧ ∀ H', Ex H H' → Q (.bl (!fulfilled ws (st m p ls p.length))) H'
abbrev CBad (P : Program) (w : World) (K : PySem.W.Frag) (mg : Str → Option Value) (base : Heap) := Cal P w K mg base 12 "_law_bad" ["machine", "program", "losses", "wishes"] (spBad K)
end
end Lb

set_option Elab.async false
set_option linter.all false
set_option maxRecDepth 100000
set_option maxHeartbeats 4000000
/-! the law's own runs -/
namespace Lb
open PySem L2 Evl PyProof.Rows
section
variable {P : Program} {w : World} {K : PySem.W.Frag} {mg : Str → Option Value} {base : Heap}
abbrev CDone (P : Program) (w : World) (K : PySem.W.Frag) (mg : Str → Option Value) (base : Heap) := Cal P w K mg base 1 "_law_done" ["held", "line"] (spDid K)
theorem ok_law_done (B : Bi mg) (D : Dfn K mg "_law_done" sLDone ["held", "line"]) : CDone P w K mg base := by
  refine D.ok scLDone (fun vs H Q E h => ?_) (fun f cdv A outer s H vs Q E hr h => ?_)
  · obtain ⟨hv, lv, m, held, l, rfl, _⟩ := h
    rfl
  obtain ⟨hv, lv, m, held, l, rfl, hh, hl, mok, hok, ok, k⟩ := h
  refine ⟨_, (pss_cons (ps_asg (pv 1) (pg_tup rfl (pgs_cons (pg_name (i := 2) scLDone.nd rfl (by first | exact Or.inl rfl | exact Or.inr rfl)) (pgs_cons (pg_name (i := 3) scLDone.nd rfl (by first | exact Or.inl rfl | exact Or.inr rfl)) (pgs_cons (pg_name (i := 4) scLDone.nd rfl (by first | exact Or.inl rfl | exact Or.inr rfl)) pgs_nil))))) (pss_cons (ps_set (i := 5) scLDone.nd rfl (by first | exact Or.inl rfl | exact Or.inr rfl) (pe_callTy call_tupq (by rfl) B.tuple (by decide +kernel) (pa_cons (pe_lc (own := [("source", 6)]) (g := (gName 6)) (tt := tYes) rfl scLDone.nd (pi_tup (pv 4)) (blkOk_by (N := NLDone) (sc := defScope sLDone) (by decide +kernel)) (fun _ _ _ _ _ => (pg_name (i := 6) scLDone.nd rfl (by first | exact Or.inl rfl | exact Or.inr rfl))) (fun _ _ _ _ _ => pts_nil) (fun _ _ _ _ _ => (pe_ix (show IxR _ (rIxT K) from ix_tup) (pv 0) (pv 6) (fun _ _ => rfl)))) pa_nil))) (pss_one (ps_ret (pe_op op_catA (pe_op op_catA (pe_slice sl_tupA (pv 0) po_none (po_some (pv 2))) (pe_tup (pa_cons (pe_ifExp (pt_cmpR op_isN (pv 3) pe_non (by first | exact nomark _ | rfl)) (pe_ix ix_tup (pv 5) pe_int (fun _ _ => rfl)) (pe_op op_catA (pe_tup (pa_cons (pv 3) pa_nil)) (pv 5))) pa_nil))) (pe_slice sl_tupA (pv 0) (po_some (pe_op op_add (pv 2) pe_int)) po_none)))))), ?_⟩
  have c4 := mok.c4
  have hlen := hok.len
  have hcl := ok.cell
  have sl2 : 1 ≤ l.src.length ∧ l.src.length ≤ 2 := by
    cases efn : l.fn with
    | none => obtain ⟨s, es, _⟩ := ok.cp efn; rw [es]; simp
    | some g => obtain ⟨g1, g2⟩ := ok.ap g efn; exact mok.rd _ (List.mem_of_getElem? g2)
  refine qd_un3 (ed_var rfl hl) fun a b c H1 e1 ha hb hc => ?_
  cases ha.intD
  have hh1 := dmono e1 _ _ hh
  refine qd_asg (K := K) (d := .tuple (l.src.map fun s => (at0 held s).enc)) (ed_tupL (ed_lcM (fun (n : Nat) => PyData.int (n : Int)) (fun s => (at0 held s).enc) (ed_var rfl hc) (by omega) (fun _ _ => Tm.noL _) fun s x H2 hs e2 hx => ed_ix (ed_var rfl (dmono e2 _ _ hh1)) (ed_var rfl hx) (held_at hok (ok.src s hs)))) fun t H2 e2 ht => ?_
  have hh2 := dmono e2 _ _ hh1
  have hb2 := dmono e2 _ _ hb
  refine sd_ret (K := K) (d := encs (did held l)) (ed_is (ed_cat (ed_cat (ed_sl (ed_var rfl hh2) eo_none (eo_some (ev_var rfl))) (ed_tup (ead_cons (d := (l.made held).enc) (ed_if (et_test (ev_isN (ed_var rfl hb2))) (fun z => ?_) (fun z => ?_)) ead_nil) (by simp)) ?_) (ed_sl (ed_var rfl hh2) (eo_some (ev_op (ev_var rfl) ev_c rv_I0)) eo_none) ?_) ?_) fun v H3 e3 hv => k v H3 (e1.trans (e2.trans e3)) hv
  · cases efn : l.fn with
    | some g => rw [efn] at z; cases z
    | none =>
      obtain ⟨s, es, _⟩ := ok.cp efn
      rw [es] at ht
      refine ed_is (ed_ix (ed_var rfl ht) (ed_int ev_c) (atD (n := 0) rfl)) ?_
      unfold Ln.made
      rw [efn, es]
      rfl
  · cases efn : l.fn with
    | none => rw [efn] at z; cases z
    | some g =>
      rw [efn] at hb2
      refine ed_is (ed_cat (ed_tup (ead_cons (ed_var rfl hb2) ead_nil) (by simp)) (ed_var rfl ht) (by simp; omega)) ?_
      unfold Ln.made
      rw [efn]
      dsimp only
      rw [mk_enc (by rw [List.length_map]; exact sl2), List.map_map]
      rfl
  · rw [sl_to (by rw [List.length_map]; omega), List.length_take, List.length_map]
    simp
    omega
  · rw [show (l.cell : Int) + 1 = ((l.cell + 1 : Nat) : Int) from rfl, sl_from (by rw [List.length_map]; omega), sl_to (by rw [List.length_map]; omega)]
    simp
    omega
  · rw [show (l.cell : Int) + 1 = ((l.cell + 1 : Nat) : Int) from rfl, sl_from (by rw [List.length_map]; omega), sl_to (by rw [List.length_map]; omega)]
    unfold did
    rw [encs_set (by omega)]
/-- what the cells hold behind a program -/
def runL (m : Mc) (p : List Ln) : List Tm := p.foldl did (start0 m.cells)
theorem runL_held {m : Mc} (mok : m.Ok) {p : List Ln} (ok : ∀ l ∈ p, Ln.Ok m l) : Held m (runL m p) := by
  unfold runL
  have gen : ∀ (p : List Ln) (h : List Tm), Held m h → (∀ l ∈ p, Ln.Ok m l) → Held m (p.foldl did h) := by
    intro p
    induction p with
    | nil => intro h hh _; exact hh
    | cons l p ih => intro h hh ok; exact ih _ (did_held mok hh (ok l List.mem_cons_self)) fun x hx => ok x (List.mem_cons_of_mem _ hx)
  exact gen p _ (start_held m) ok
theorem runL_take {m : Mc} {p : List Ln} {i : Nat} {l : Ln} (h : p[i]? = some l) : runL m (p.take (i + 1)) = did (runL m (p.take i)) l := by
  unfold runL
  rw [List.take_succ, h, List.foldl_append]
  rfl
def spLRun (K : PySem.W.Frag) : Sp := fun vs H Q _ => ∃ (mv pw : V) (m : Mc) (p : List Ln), vs = [mv, pw] ∧ Dp K H mv m.enc ∧ Dp K H pw (progD p) ∧ m.Ok ∧ (∀ l ∈ p, Ln.Ok m l) ∧ ∀ v H', Ex H H' → Dp K H' v (encs (runL m p)) → Q v H'
abbrev CLRun (P : Program) (w : World) (K : PySem.W.Frag) (mg : Str → Option Value) (base : Heap) := Cal P w K mg base 2 "_law_run" ["machine", "program"] (spLRun K)
theorem sp_lrun {m : Mc} {p : List Ln} (mok : m.Ok) (ok : ∀ l ∈ p, Ln.Ok m l) : SpD K (spLRun K) [m.enc, progD p] (encs (runL m p)) := fun H vs hvs Q E q => by
  cases hvs with
  | cons h0 t0 => cases t0 with
    | cons h1 t1 => cases t1; exact ⟨_, _, m, p, rfl, h0, h1, mok, ok, q⟩
theorem ok_law_run (B : Bi mg) (D : Dfn K mg "_law_run" sLRun ["machine", "program"]) (C__law_done : CDone P w K mg base) : CLRun P w K mg base := by
  refine D.ok scLRun (fun vs H Q E h => ?_) (fun f cdv A outer s H vs Q E hr h => ?_)
  · obtain ⟨mv, pw, m, p, rfl, _⟩ := h
    rfl
  obtain ⟨mv, pw, m, p, rfl, hm, hp, mok, ok, k⟩ := h
  refine ⟨_, (pss_cons (ps_set (i := 2) scLRun.nd rfl (by first | exact Or.inl rfl | exact Or.inr rfl) (pe_tupRg rfl rfl B.tuple (prg_1 rfl B.range (pe_ix ix_tup (pv 0) pe_int (fun _ _ => rfl))))) (pss_cons (ps_for PassesOwn.never rfl (pi_tup (pv 1)) (pg_name (i := 3) scLRun.nd rfl (by first | exact Or.inl rfl | exact Or.inr rfl)) (pss_one (ps_set (i := 2) scLRun.nd rfl (by first | exact Or.inl rfl | exact Or.inr rfl) (pe_cal C__law_done hr (by omega) rfl (pa_cons (pv 2) (pa_cons (pv 3) pa_nil)))))) (pss_one (ps_ret (pv 2))))), ?_⟩
  have c4 := mok.c4
  refine qd_asg (K := K) (d := encs (start0 m.cells)) (ed_is (ed_tupRg (ed_ix (ed_var rfl hm) (ed_int ev_c) (atD (n := 0) rfl)) (by omega)) (start_enc _).symm) fun hv H1 e1 h1 => ?_
  refine sd_forT (K := K) (D := { nx := _, rt := Q, bk := _, ct := _ }) (ds := p.map Ln.enc) (ed_var rfl (dmono e1 _ _ hp)) fun H2 a xs e2 sq al => ⟨fun i σ' H' => Ex H2 H' ∧ ∃ v x3, σ' = [some mv, some pw, some v, x3] ∧ Dp K H' v (encs (runL m (p.take i))), ?_, ?_, ?_, ?_⟩
  · exact ⟨Ex.refl _, hv, none, rfl, dmono e2 _ _ h1⟩
  · rintro i σ' H' ⟨e, _⟩
    exact TK.of e
  · rintro i x d σ' H' hxi hdi hxd ⟨e, v, x3, rfl, hv'⟩
    obtain ⟨l, hl, rfl⟩ : ∃ l, p[i]? = some l ∧ d = l.enc := by
      rw [List.getElem?_map] at hdi
      cases e : p[i]? with
      | none => rw [e] at hdi; cases hdi
      | some l => rw [e] at hdi; cases hdi; exact ⟨l, rfl, rfl⟩
    refine sd_asg (K := K) (ed_did mok (runL_held mok fun l hl => ok l (List.mem_of_mem_take hl)) (ok l (List.mem_of_getElem? hl)) (ed_var rfl hv') (ed_var rfl (dmono e _ _ hxd))) fun v2 H3 e3 hv2 => ⟨e.trans e3, v2, _, rfl, ?_⟩
    rw [runL_take hl]
    exact hv2
  · rintro σ' H' ⟨e, v, x3, rfl, hv'⟩
    rw [List.length_map, List.take_length] at hv'
    exact s_ret (ev_var rfl) fun H3 e3 => k v H3 (e1.trans (e2.trans (e.trans e3))) (dmono e3 _ _ hv')
end
end Lb

set_option Elab.async false
set_option linter.all false
set_option maxRecDepth 100000
set_option maxHeartbeats 4000000
/-! the law's subsets, its swapped programs, wishes fulfilled -/
namespace Lb
open PySem L2 Evl PyProof.Rows
def subsL : Nat → List (List Nat)
  | 0 => [[]]
  | n + 1 => subsL n ++ (subsL n).map (· ++ [n])
theorem subsL_len : ∀ n, (subsL n).length = 2 ^ n
  | 0 => rfl
  | n + 1 => by rw [subsL, List.length_append, List.length_map, subsL_len n, Nat.pow_succ]; omega
theorem natsD_app (a : List Nat) (i : Nat) : natsD (a ++ [i]) = .tuple (a.map (fun n : Nat => PyData.int (n : Int)) ++ [.int (i : Int)]) := by unfold natsD; rw [List.map_append]; rfl
theorem natss_noLs (l : List (List Nat)) : noLs (l.map natsD) = true := noLs_iff.mpr fun d hd => by
  obtain ⟨a, _, rfl⟩ := List.mem_map.mp hd
  exact natsD_noL a
theorem subsL_sz : ∀ n, ∀ a ∈ subsL n, a.length ≤ n
  | 0, a, h => by rw [List.mem_singleton.mp h]; exact Nat.le_refl _
  | n + 1, a, h => by
    rcases List.mem_append.mp h with h | h
    · exact Nat.le_succ_of_le (subsL_sz n a h)
    · obtain ⟨b, hb, rfl⟩ := List.mem_map.mp h
      have := subsL_sz n b hb
      simp
      omega
section
variable {K : PySem.W.Frag} {σ : L2.St} {H : Hp} {tl te : TE} {tt : TT} {g : TG} {vs : List Nat}
theorem li_lcMTf {α : Type} {as : List α} (en F : α → PyData) (f : α → Bool) (h : EvD K tl σ H (.tuple (as.map en))) (hz : as.length ≤ 40000) (hn : ∀ a ∈ as, noL (F a) = true)
    (he : ∀ a x H1, a ∈ as → Ex H H1 → Dp K H1 x (en a) → ∀ Q : L2.St → Hp → Prop, (∀ σ2 H2, Ex H1 H2 → wipe σ2 vs = wipe σ vs → EvT tt σ2 H2 (f a) → (f a = true → EvD K te σ2 H2 (F a)) → Q σ2 H2) → g x (wipe σ vs) H1 Q) :
    EvLi K (tLc (iTup K tl) g tt te vs) σ H ((as.filter f).map F) := by
  have q := li_lcTg (K := K) (σ := σ) (H := H) (tl := tl) (te := te) (tt := tt) (g := g) (ds := as.map en) (vs := vs) (fun i => (as[i]?.map f).getD false) (fun i => (as[i]?.map F).getD .none) h (by rw [List.length_map]; exact hz)
    (fun i hi => ?_) (fun i d x H1 e hd hx Q q => ?_)
  · refine li_is q ?_
    rw [List.length_map]
    unfold givenD
    have e : ∀ (l : List α), (∀ a ∈ l, True) → ((List.range l.length).filter fun i => (l[i]?.map f).getD false).map (fun i => (l[i]?.map F).getD .none) = (l.filter f).map F := by
      intro l _
      induction l with
      | nil => rfl
      | cons a l ih =>
        rw [List.length_cons, List.range_succ_eq_map, List.filter_cons, List.filter_map, List.filter_cons]
        have i2 := ih fun _ _ => trivial
        have e0 : ((fun i => (((a :: l)[i]?).map f).getD false) ∘ Nat.succ) = fun i => (l[i]?.map f).getD false := by funext i; simp
        rw [e0]
        have e1 : (((a :: l)[0]?).map f).getD false = f a := by simp
        rw [e1]
        have e2 : (List.map Nat.succ ((List.range l.length).filter fun i => (l[i]?.map f).getD false)).map (fun i => (((a :: l)[i]?).map F).getD .none) = (l.filter f).map F := by
          rw [List.map_map, ← i2]
          refine List.map_congr_left fun i _ => ?_
          simp
        cases f a with
        | true => rw [if_pos rfl, if_pos rfl, List.map_cons, e2, List.map_cons]; rfl
        | false => rw [if_neg (by decide), if_neg (by decide), e2]
    exact e as fun _ _ => trivial
  · rw [List.length_map] at hi
    rw [List.getElem?_eq_getElem hi]
    exact hn _ (List.getElem_mem hi)
  · rw [List.getElem?_map] at hd
    cases hi : as[i]? with
    | none => rw [hi] at hd; cases hd
    | some a =>
      rw [hi] at hd
      cases hd
      refine he a x H1 (List.mem_of_getElem? hi) e hx Q fun σ2 H2 e2 hw ht hte => q σ2 H2 e2 hw ?_ fun z => ?_
      · rw [hi]
        exact ht
      · rw [hi] at z ⊢
        exact hte z
theorem tsqS {a b : TS} {D : Ends} {σ : L2.St} {H : Hp} (h : a { D with nx := b D } σ H) : tSeq a b D σ H := h
end
section
variable {P : Program} {w : World} {K : PySem.W.Frag} {mg : Str → Option Value} {base : Heap}
def spSubs (K : PySem.W.Frag) : Sp := fun vs H Q _ => ∃ n : Nat, vs = [.int (n : Int)] ∧ n ≤ 8 ∧ ∀ l xs H', Ex H H' → H' l = some (.lst xs) → DpAll K H' xs ((subsL n).map natsD) → Q (.ref l) H'
abbrev CSubs (P : Program) (w : World) (K : PySem.W.Frag) (mg : Str → Option Value) (base : Heap) := Cal P w K mg base 1 "_law_subsets" ["many"] (spSubs K)
theorem ok_law_subsets (B : Bi mg) (D : Dfn K mg "_law_subsets" sLSubsets ["many"]) : CSubs P w K mg base := by
  refine D.ok scLSubsets (fun vs H Q E h => ?_) (fun f cdv A outer s H vs Q E hr h => ?_)
  · obtain ⟨n, rfl, _⟩ := h
    rfl
  obtain ⟨n, rfl, n8, k⟩ := h
  refine ⟨_, (pss_cons (ps_set (i := 1) scLSubsets.nd rfl (by first | exact Or.inl rfl | exact Or.inr rfl) (pe_lst (pa_cons (pe_tup pa_nil) pa_nil))) (pss_cons (ps_for PassesOwn.never rfl (pi_range1 rfl B.range (pa_cons (pv 0) pa_nil)) (pg_name (i := 2) scLSubsets.nd rfl (by first | exact Or.inl rfl | exact Or.inr rfl)) (pss_one (ps_set (i := 1) scLSubsets.nd rfl (by first | exact Or.inl rfl | exact Or.inr rfl) (pe_op op_cat (pv 1) (pe_lc (own := [("lot", 3)]) (g := (gName 3)) (tt := tYes) rfl scLSubsets.nd (pi_list (pv 1)) (blkOk_by (N := NLSubsets) (sc := defScope sLSubsets) (by decide +kernel)) (fun _ _ _ _ _ => (pg_name (i := 3) scLSubsets.nd rfl (by first | exact Or.inl rfl | exact Or.inr rfl))) (fun _ _ _ _ _ => pts_nil) (fun _ _ _ _ _ => (pe_op (show OpR _ _ (rCatA K) from op_catA) (pv 3) (pe_tup (pa_cons (pv 2) pa_nil))))))))) (pss_one (ps_ret (pv 1))))), ?_⟩
  refine qli_asg (K := K) (ds := [.tuple []]) (li_lst (ead_cons (ed_tup ead_nil (by simp)) ead_nil) (by simp)) fun l0 xs0 H1 e1 hl0 al0 => ?_
  refine tsqS (sd_forR (K := K) (n := n) (D := { nx := _, rt := Q, bk := _, ct := _ }) (ed_int (ev_var rfl)) (by omega) fun H2 e2 => ⟨fun i σ' H' => i ≤ n ∧ Ex H2 H' ∧ ∃ l xs x2 x3, σ' = [some (.int (n : Int)), some (.ref l), x2, x3] ∧ H' l = some (.lst xs) ∧ DpAll K H' xs ((subsL i).map natsD), ?_, ?_, ?_⟩)
  · exact ⟨Nat.zero_le _, Ex.refl _, l0, xs0, none, none, rfl, e2 _ _ hl0, dmonoAll e2 _ _ al0⟩
  · rintro i σ' H' hi ⟨_, e, l, xs, x2, x3, rfl, hl, al⟩
    have sz := subsL_len i
    have p2 : 2 ^ i ≤ 2 ^ 8 := Nat.pow_le_pow_right (by decide) (by omega)
    refine li_asg (K := K) (li_cat (li_var rfl hl al) (li_lcML (K := K) (as := subsL i) natsD (fun a => natsD (a ++ [i])) (ed_var rfl (.lst (sq_of hl) al)) (by omega) (fun _ _ => natsD_noL _) fun a x H3 ha e3 hx => ?_) (by rw [List.length_map, List.length_map]; omega)) fun l' xs' H4 e4 hl4 al4 => ⟨hi, e.trans e4, l', xs', _, _, rfl, hl4, ?_⟩
    · have := subsL_sz i a ha
      exact ed_is (ed_cat (ed_var rfl hx) (ed_tup (ead_cons (ed_int (ev_var rfl)) ead_nil) (by simp)) (by rw [List.length_map]; simp; omega)) (natsD_app a i).symm
    · rw [subsL, List.map_append, List.map_map]
      exact al4
  · rintro σ' H' ⟨_, e, l, xs, x2, x3, rfl, hl, al⟩
    exact s_ret (ev_var rfl) fun H3 e3 => k l xs H3 (e1.trans (e2.trans (e.trans e3))) (e3 _ _ hl) (dmonoAll e3 _ _ al)
def wrongB (held : List Tm) (x : Nat × Tm) : Bool := !decide (at0 held x.1 = x.2)
def spFulW (K : PySem.W.Frag) : Sp := fun vs H Q _ => ∃ (hv wv : V) (held : List Tm) (ws : List (Nat × Tm)), vs = [hv, wv] ∧ Dp K H hv (encs held) ∧ Dp K H wv (wishesD ws) ∧ ws.length ≤ 60 ∧ (∀ x ∈ ws, x.1 < held.length ∧ x.2.dep ≤ 20) ∧ (∀ t ∈ held, t.dep ≤ 20) ∧ ∀ H', Ex H H' → Q (.bl (fulfilled ws held)) H'
abbrev CFulW (P : Program) (w : World) (K : PySem.W.Frag) (mg : Str → Option Value) (base : Heap) := Cal P w K mg base 1 "_law_fulfilled" ["held", "wishes"] (spFulW K)
theorem eqv_nilL (ds : List PyData) : PyData.eqv (.list ds) (.list []) = ds.isEmpty := by
  rw [PyData.eqv]
  cases ds <;> simp [PyData.eqvAll]
theorem ok_law_fulfilled (B : Bi mg) (D : Dfn K mg "_law_fulfilled" sLFulfilled ["held", "wishes"]) : CFulW P w K mg base := by
  refine D.ok scLFulfilled (fun vs H Q E h => ?_) (fun f cdv A outer s H vs Q E hr h => ?_)
  · obtain ⟨hv, wv, held, ws, rfl, _⟩ := h
    rfl
  obtain ⟨hv, wv, held, ws, rfl, hh, hw, wz, wd, hd, k⟩ := h
  refine ⟨_, (pss_one (ps_ret (pe_cmpR (op_eqD (hr.units)) (pe_lc (own := [("wish", 2)]) (g := (gName 2)) rfl scLFulfilled.nd (pi_tup (pv 1)) (blkOk_by (N := NLFulfilled) (sc := defScope sLFulfilled) (by decide +kernel)) (fun _ _ _ _ _ => (pg_name (i := 2) scLFulfilled.nd rfl (by first | exact Or.inl rfl | exact Or.inr rfl))) (fun _ _ _ _ _ => (pts_one (pt_cmpR (show OpR _ _ (rNeD K) from (op_neD (hr.units))) (pe_ix (show IxR _ (rIxT K) from ix_tup) (pv 0) (pe_ix (show IxR _ (rIxT K) from ix_tup) (pv 2) pe_int (fun _ _ => rfl)) (fun _ _ => rfl)) (pe_ix (show IxR _ (rIxT K) from ix_tup) (pv 2) pe_int (fun _ _ => rfl)) (by first | exact nomark _ | rfl)))) (fun _ _ _ _ _ => (pv 2))) (pe_lst pa_nil) (by first | exact nomark _ | rfl)))), ?_⟩
  have at_ : ∀ x ∈ ws, (held.map Tm.enc)[x.1]? = some (at0 held x.1).enc := fun x hx => by
    have := (wd x hx).1
    rw [List.getElem?_map, List.getElem?_eq_getElem this]
    simp [at0, List.getD_eq_getElem?_getD, List.getElem?_eq_getElem this]
  have mem_ : ∀ x ∈ ws, at0 held x.1 ∈ held := fun x hx => by
    have := (wd x hx).1
    have e : at0 held x.1 = held[x.1] := by simp [at0, List.getD_eq_getElem?_getD, List.getElem?_eq_getElem this]
    rw [e]
    exact List.getElem_mem this
  have sh : ∀ t : Tm, t.dep ≤ 20 → SeqAt.shaped t.enc = true := fun t ht => (lay_tm t).shaped (by omega)
  have shw : ∀ l : List (Nat × Tm), (∀ x ∈ l, x ∈ ws) → SeqAt.shaped (.list (l.map wishD)) = true := fun l hl => (lay_lst (n := 21) fun d hd2 => by
    obtain ⟨x, hx, rfl⟩ := List.mem_map.mp hd2
    refine lay_tup (n := 20) fun e he => ?_
    rcases List.mem_cons.mp he with rfl | he
    · exact (lay_int _).mono (by omega)
    · rw [List.mem_singleton.mp he]
      exact (lay_tm _).mono (wd x (hl x hx)).2).shaped (by omega)
  refine s_ret (ev_is (ev_eqD (e1 := .list ((ws.filter (wrongB held)).map wishD)) (e2 := .list []) (EvLi.ed (li_lcMTf (K := K) (as := ws) wishD wishD (wrongB held) (ed_var rfl hw) (by omega) (fun _ _ => wishD_noL _) fun x y H1 hx e1 hy Q1 q1 => ?_)) (ed_lst ead_nil (by simp)) (shw _ fun x hx => (List.mem_filter.mp hx).1) rfl) ?_) fun H1 e1 => k H1 e1
  · have hx2 : EvD K (tOp (rIxT K) (tVar 2) (tC (.int 0))) ((wipe [some hv, some wv, none] [2]).set 2 (some y)) H1 (.int (x.1 : Int)) := ed_ix (ed_var rfl hy) (ed_int ev_c) (atD (n := 0) rfl)
    have hx3 : EvD K (tOp (rIxT K) (tVar 2) (tC (.int 1))) ((wipe [some hv, some wv, none] [2]).set 2 (some y)) H1 x.2.enc := ed_ix (ed_var rfl hy) (ed_int ev_c) (atD (n := 1) rfl)
    exact q1 _ H1 (Ex.refl _) (wipe1 y) (et_test (ev_is (ev_neD (ed_ix (ed_var rfl (dmono e1 _ _ hh)) hx2 (atD (at_ x hx))) hx3 (sh _ (hd _ (mem_ x hx))) (sh _ (wd x hx).2)) (by rw [eqv_tm]; rfl))) fun _ => ed_var rfl hy
  · rw [eqv_nilL, List.isEmpty_map]
    unfold fulfilled
    refine congrArg V.bl ?_
    clear shw at_ mem_ wd hw wz k
    induction ws with
    | nil => rfl
    | cons x ws ih =>
      rw [List.filter_cons, List.all_cons]
      unfold wrongB at ih ⊢
      by_cases h : at0 held x.1 = x.2
      · rw [decide_eq_true h, if_neg (by decide), Bool.true_and]
        exact ih
      · rw [decide_eq_false h, if_pos (by decide), Bool.false_and]
        rfl
end
end Lb

set_option Elab.async false
set_option linter.all false
set_option maxRecDepth 100000
set_option maxHeartbeats 4000000
/-! lines that change places -/
namespace Lb
open PySem L2 Evl PyProof.Rows
/-- a pair of neighbours changes places -/
def sw1 (p : List Ln) (k : Nat) : List Ln := match p[k]?, p[k + 1]? with
  | some a, some b => (p.set k b).set (k + 1) a
  | _, _ => p
def swL (p : List Ln) (ks : List Nat) : List Ln := ks.foldl sw1 p
theorem sw1_len (p : List Ln) (k : Nat) : (sw1 p k).length = p.length := by
  unfold sw1
  split <;> simp
theorem swL_len : ∀ (ks : List Nat) (p : List Ln), (swL p ks).length = p.length
  | [], p => rfl
  | k :: ks, p => by
    show (swL (sw1 p k) ks).length = _
    rw [swL_len ks, sw1_len]
theorem sw1_ok {m : Mc} {p : List Ln} {k : Nat} (ok : ∀ l ∈ p, Ln.Ok m l) : ∀ l ∈ sw1 p k, Ln.Ok m l := by
  unfold sw1
  split
  · rename_i a b ha hb
    intro l hl
    rcases List.mem_or_eq_of_mem_set hl with hl | rfl
    · rcases List.mem_or_eq_of_mem_set hl with hl | rfl
      · exact ok l hl
      · exact ok _ (List.mem_of_getElem? hb)
    · exact ok _ (List.mem_of_getElem? ha)
  · exact ok
theorem swL_ok {m : Mc} : ∀ (ks : List Nat) (p : List Ln), (∀ l ∈ p, Ln.Ok m l) → ∀ l ∈ swL p ks, Ln.Ok m l
  | [], p, h => h
  | k :: ks, p, h => swL_ok ks (sw1 p k) (sw1_ok h)
section
variable {P : Program} {w : World} {K : PySem.W.Frag} {mg : Str → Option Value} {base : Heap} {H H' : Hp}
theorem s_swap {σ : L2.St} {D : Ends} {l : Addr} {xs : List V} {k : Nat} {a b : V} (h2 : σ[2]? = some (some (.ref l))) (h3 : σ[3]? = some (some (.int (k : Int)))) (hl : H l = some (.lst xs)) (ha : xs[k]? = some a) (hb : xs[k + 1]? = some b)
    (q : ∀ H1 T, Ex H H1 → H1 T = none → D.nx σ (L2.upd (L2.upd (L2.upd H1 T (.tup [b, a])) l (.lst (xs.set k b))) l (.lst ((xs.set k b).set (k + 1) a)))) :
    tAsg (tTup (tCons (tOp (rIxL K) (tVar 2) (tOp (rI0 fun i j => .int (i + j)) (tVar 3) (tC (.int 1)))) (tCons (tOp (rIxL K) (tVar 2) (tVar 3)) tNil))) (gTup K 2 (gCons (gSub (tVar 2) (tVar 3) rSetL) (gCons (gSub (tVar 2) (tOp (rI0 fun i j => .int (i + j)) (tVar 3) (tC (.int 1))) rSetL) gNil))) D σ H := by
  have kl := (List.getElem?_eq_some_iff.mp hb).1
  have e1 : Ev (tOp (rIxL K) (tVar 2) (tOp (rI0 fun i j => .int (i + j)) (tVar 3) (tC (.int 1)))) σ H b := ev_op (ev_var h2) (ev_op (ev_var h3) ev_c rv_I0) (rv_ixL (sq_of hl) (atI_nat (j := k + 1) hb))
  have e2 : Ev (tOp (rIxL K) (tVar 2) (tVar 3)) σ H a := ev_op (ev_var h2) (ev_var h3) (rv_ixL (sq_of hl) (atI_nat ha))
  refine e1 H (Ex.refl _) _ fun H1 x1 => e2 H1 x1 _ fun H2 x2 => ⟨by show 2 ≤ sizeLine; decide, fun T hT => ?_⟩
  have hl2 := (x1.trans x2) _ _ hl
  have ne : l ≠ T := fun z => by rw [z, hT] at hl2; cases hl2
  refine ⟨T, _, rfl, st_of upd_same, rfl, _, _, rfl, ⟨_, h2, _, h3, l, xs, (k : Int), k, rfl, rfl, by rw [upd_ne ne]; exact hl2, ixN_nat (by omega), ?_⟩⟩
  exact ⟨_, _, rfl, ⟨_, h2, _, h3, _, _, rfl, rfl, l, _, ((k + 1 : Nat) : Int), k + 1, rfl, rfl, upd_same, by rw [List.length_set]; exact ixN_nat kl, ⟨rfl, q H2 T (x1.trans x2) hT⟩⟩⟩
theorem dp_set {xs : List V} {ds : List PyData} {v : V} {d : PyData} (h : DpAll K H xs ds) (hv : Dp K H v d) (i : Nat) : DpAll K H (xs.set i v) (ds.set i d) := by
  induction i generalizing xs ds with
  | zero => cases h with
    | nil => exact .nil
    | cons h0 t => exact .cons hv t
  | succ i ih => cases h with
    | nil => exact .nil
    | cons h0 t => exact .cons h0 (ih t)
/-- the lines of a list that is one's own, one pair swapped -/
theorem swap_turn {l T : Addr} {xs : List V} {p : List Ln} {k : Nat} {a b : V} (hl : H l = some (.lst xs)) (al : DpAll K H xs (p.map Ln.enc)) (ha : xs[k]? = some a) (hb : xs[k + 1]? = some b) (hT : H T = none) :
    DpAll K (L2.upd (L2.upd (L2.upd H T (.tup [b, a])) l (.lst (xs.set k b))) l (.lst ((xs.set k b).set (k + 1) a))) ((xs.set k b).set (k + 1) a) ((sw1 p k).map Ln.enc) := by
  have en := Ex.new (o := .tup [b, a]) hT
  have l1 := en _ _ hl
  obtain ⟨da, h1, h2⟩ := al.getV ha
  obtain ⟨db, h3, h4⟩ := al.getV hb
  rw [List.getElem?_map] at h1 h3
  cases e1 : p[k]? with
  | none => rw [e1] at h1; cases h1
  | some la =>
    cases e2 : p[k + 1]? with
    | none => rw [e2] at h3; cases h3
    | some lb =>
      rw [e1] at h1
      rw [e2] at h3
      cases h1
      cases h3
      have r : (sw1 p k).map Ln.enc = ((p.map Ln.enc).set k lb.enc).set (k + 1) la.enc := by
        unfold sw1
        rw [e1, e2]
        dsimp only
        rw [List.map_set, List.map_set]
      rw [r]
      have z := dp_set (dp_set (dmonoAll en _ _ al) (dmono en _ _ h4) k) (dmono en _ _ h2) (k + 1)
      refine tmonoAll ((TK.lst l1).trans (TK.lst upd_same)) _ _ ?_ z
      rw [← r]
      exact encL_noL (sw1 p k)
/-- swaps that may stand: ascending, no two next to each other, all but the last line -/
def SwOk (n : Nat) (ks : List Nat) : Prop := (∀ k ∈ ks, k + 1 < n) ∧ ∀ i a b, ks[i]? = some a → ks[i + 1]? = some b → a + 1 < b
def spSwd (K : PySem.W.Frag) : Sp := fun vs H Q _ => ∃ (pw kw : V) (p : List Ln) (ks : List Nat), vs = [pw, kw] ∧ Dp K H pw (progD p) ∧ Dp K H kw (natsD ks) ∧ p.length ≤ 60 ∧ (∀ k ∈ ks, k + 1 < p.length) ∧ ∀ l xs H', H l = none → Ex H H' → H' l = some (.lst xs) → DpAll K H' xs ((swL p ks).map Ln.enc) → Q (.ref l) H'
abbrev CSwd (P : Program) (w : World) (K : PySem.W.Frag) (mg : Str → Option Value) (base : Heap) := Cal P w K mg base 1 "swapped" ["program", "swaps"] (spSwd K)
theorem swd_loop {C : TS} {pw kw : V} {p : List Ln} {ks : List Nat} {D : Ends} (hp : Dp K H pw (progD p)) (hk : Dp K H kw (natsD ks)) (pz : p.length ≤ 60) (kz : ∀ k ∈ ks, k + 1 < p.length)
    (k : ∀ l xs H' x3, H l = none → Ex H H' → H' l = some (.lst xs) → DpAll K H' xs ((swL p ks).map Ln.enc) → C D [some pw, some kw, some (.ref l), x3] H') :
    tSeq (tAsg (tCB (fun xs H Q => ∃ p ys, xs = [V.ref p] ∧ (SqL K H p ys ∨ SqT K H p ys) ∧ ∀ l : Addr, H l = none → Q (V.ref l) (L2.upd H l (.lst ys))) (tCons (tVar 0) tNil)) (gName 2)) (tSeq (tFor (iTup K (tVar 1)) (gName 3) (tAsg (tTup (tCons (tOp (rIxL K) (tVar 2) (tOp (rI0 fun i j => .int (i + j)) (tVar 3) (tC (.int 1)))) (tCons (tOp (rIxL K) (tVar 2) (tVar 3)) tNil))) (gTup K 2 (gCons (gSub (tVar 2) (tVar 3) rSetL) (gCons (gSub (tVar 2) (tOp (rI0 fun i j => .int (i + j)) (tVar 3) (tC (.int 1))) rSetL) gNil))))) C) D [some pw, some kw, none, none] H := by
  obtain ⟨pa, ps, rfl, sq, al⟩ := Dp.tupD hp
  refine ⟨_, rfl, pa, ps, rfl, .inr sq, fun l hln => ?_⟩
  have en := Ex.new (o := .lst ps) hln
  refine sd_forT (K := K) (D := { D with nx := C D }) (ds := ks.map fun n : Nat => PyData.int (n : Int)) (ed_var (i := 1) rfl (dmono en _ _ hk)) fun H2 a xs e2 sq2 al2 => ⟨fun i σ' H' => ∃ ys x3, σ' = [some (.ref pa), some kw, some (.ref l), x3] ∧ ExB l H2 H' ∧ TK K H2 H' ∧ H' l = some (.lst ys) ∧ DpAll K H' ys ((swL p (ks.take i)).map Ln.enc), ?_, ?_, ?_, ?_⟩
  · exact ⟨ps, none, rfl, ExB.of (Ex.refl _), TK.refl _, e2 _ _ upd_same, dmonoAll (en.trans e2) _ _ al⟩
  · rintro i σ' H' ⟨ys, x3, _, _, tk, _⟩
    exact tk
  · rintro i x d σ' H' hxi hdi hxd ⟨ys, x3, rfl, e', tk, hl', al'⟩
    obtain ⟨kk, hkk, rfl⟩ : ∃ kk : Nat, ks[i]? = some kk ∧ d = .int (kk : Int) := by
      rw [List.getElem?_map] at hdi
      cases e : ks[i]? with
      | none => rw [e] at hdi; cases hdi
      | some l => rw [e] at hdi; cases hdi; exact ⟨l, rfl, rfl⟩
    cases hxd.intD
    have kl := kz kk (List.mem_of_getElem? hkk)
    have yl := al'.len
    rw [List.length_map, swL_len] at yl
    have ha : ys[kk]? = some ys[kk] := List.getElem?_eq_getElem (by omega)
    have hb : ys[kk + 1]? = some ys[kk + 1] := List.getElem?_eq_getElem (by omega)
    refine s_swap (K := K) (xs := ys) (k := kk) rfl rfl hl' ha hb fun H3 T e3 hT => ?_
    have nT : l ≠ T := fun z => by have := e3 _ _ hl'; rw [z, hT] at this; cases this
    refine ⟨_, _, rfl, ?_, ?_, upd_same, ?_⟩
    · exact ((e'.trans (ExB.of (e3.trans (Ex.new hT)))).trans ExB.upd).trans ExB.upd
    · have l3 := (e3.trans (Ex.new (o := .tup [ys[kk + 1], ys[kk]]) hT)) _ _ hl'
      exact (tk.trans (TK.of (e3.trans (Ex.new hT)))).trans ((TK.lst l3).trans (TK.lst upd_same))
    · have := swap_turn (K := K) (T := T) (p := swL p (ks.take i)) (k := kk) (e3 _ _ hl') (dmonoAll e3 _ _ al') ha hb hT
      have e9 : swL p (ks.take (i + 1)) = sw1 (swL p (ks.take i)) kk := by
        unfold swL
        rw [List.take_succ, hkk, List.foldl_append]
        rfl
      rw [e9]
      exact this
  · rintro σ' H' ⟨ys, x3, rfl, e', tk, hl', al'⟩
    rw [List.length_map, List.take_length] at al'
    exact k l ys H' x3 hln (Ex.but (en.trans e2) hln e') hl' al'
theorem ok_swapped (B : Bi mg) (D : Dfn K mg "swapped" sSwapped ["program", "swaps"]) : CSwd P w K mg base := by
  refine D.ok scSwapped (fun vs H Q E h => ?_) (fun f cdv A outer s H vs Q E hr h => ?_)
  · obtain ⟨pw, kw, p, ks, rfl, _⟩ := h
    rfl
  obtain ⟨pw, kw, p, ks, rfl, hp, hk, pz, kz, k⟩ := h
  refine ⟨_, (pss_cons (ps_set (i := 2) scSwapped.nd rfl (by first | exact Or.inl rfl | exact Or.inr rfl) (pe_callTy call_list_of (by rfl) B.list (by decide +kernel) (pa_cons (pv 0) pa_nil))) (pss_cons (ps_for PassesOwn.never rfl (pi_tup (pv 1)) (pg_name (i := 3) scSwapped.nd rfl (by first | exact Or.inl rfl | exact Or.inr rfl)) (pss_one (ps_asg (pe_tup (pa_cons (pe_ix ix_list (pv 2) (pe_op op_add (pv 3) pe_int) (fun _ _ => rfl)) (pa_cons (pe_ix ix_list (pv 2) (pv 3) (fun _ _ => rfl)) pa_nil))) (pg_tup rfl (pgs_cons (pg_sub (pv 2) (pv 3) set_list) (pgs_cons (pg_sub (pv 2) (pe_op op_add (pv 3) pe_int) set_list) pgs_nil)))))) (pss_one (ps_ret (pv 2))))), ?_⟩
  exact swd_loop hp hk pz kz fun l xs H' x3 hn e hl al => s_ret (ev_var rfl) fun H3 e3 => k l xs H3 hn (e.trans e3) (e3 _ _ hl) (dmonoAll e3 _ _ al)
def spLSwd (K : PySem.W.Frag) : Sp := fun vs H Q _ => ∃ (pw kw : V) (p : List Ln) (ks : List Nat), vs = [pw, kw] ∧ Dp K H pw (progD p) ∧ Dp K H kw (natsD ks) ∧ p.length ≤ 60 ∧ (∀ k ∈ ks, k + 1 < p.length) ∧ ∀ v H', Ex H H' → Dp K H' v (progD (swL p ks)) → Q v H'
abbrev CLSwd (P : Program) (w : World) (K : PySem.W.Frag) (mg : Str → Option Value) (base : Heap) := Cal P w K mg base 1 "_law_swapped" ["program", "swaps"] (spLSwd K)
theorem sp_lswd {p : List Ln} {ks : List Nat} (pz : p.length ≤ 60) (kz : ∀ k ∈ ks, k + 1 < p.length) : SpD K (spLSwd K) [progD p, natsD ks] (progD (swL p ks)) := fun H vs hvs Q E q => by
  cases hvs with
  | cons h0 t0 => cases t0 with
    | cons h1 t1 => cases t1; exact ⟨_, _, p, ks, rfl, h0, h1, pz, kz, q⟩
theorem ok_law_swapped (B : Bi mg) (D : Dfn K mg "_law_swapped" sLSwapped ["program", "swaps"]) : CLSwd P w K mg base := by
  refine D.ok scLSwapped (fun vs H Q E h => ?_) (fun f cdv A outer s H vs Q E hr h => ?_)
  · obtain ⟨pw, kw, p, ks, rfl, _⟩ := h
    rfl
  obtain ⟨pw, kw, p, ks, rfl, hp, hk, pz, kz, k⟩ := h
  refine ⟨_, (pss_cons (ps_set (i := 2) scLSwapped.nd rfl (by first | exact Or.inl rfl | exact Or.inr rfl) (pe_callTy call_list_of (by rfl) B.list (by decide +kernel) (pa_cons (pv 0) pa_nil))) (pss_cons (ps_for PassesOwn.never rfl (pi_tup (pv 1)) (pg_name (i := 3) scLSwapped.nd rfl (by first | exact Or.inl rfl | exact Or.inr rfl)) (pss_one (ps_asg (pe_tup (pa_cons (pe_ix ix_list (pv 2) (pe_op op_add (pv 3) pe_int) (fun _ _ => rfl)) (pa_cons (pe_ix ix_list (pv 2) (pv 3) (fun _ _ => rfl)) pa_nil))) (pg_tup rfl (pgs_cons (pg_sub (pv 2) (pv 3) set_list) (pgs_cons (pg_sub (pv 2) (pe_op op_add (pv 3) pe_int) set_list) pgs_nil)))))) (pss_one (ps_ret (pe_callTy call_tupq (by rfl) B.tuple (by decide +kernel) (pa_cons (pv 2) pa_nil)))))), ?_⟩
  exact swd_loop hp hk pz kz fun l xs H' x3 hn e hl al => sd_ret (K := K) (ed_tupL (ed_var rfl (.lst (sq_of hl) al))) fun v H3 e3 hv => k v H3 (e.trans e3) hv
end
end Lb

set_option Elab.async false
set_option linter.all false
set_option maxRecDepth 100000
set_option maxHeartbeats 4000000
/-! the law's own wishes -/
namespace Lb
open PySem L2 Evl PyProof.Rows
theorem none_ex' {H H1 : Hp} {a : Addr} (e : Ex H H1) (h : H1 a = none) : H a = none := by
  cases q : H a with
  | none => rfl
  | some o => rw [e _ _ q] at h; cases h
structure Drawn (n : Nat) (is : List Nat) : Prop where
  lt : ∀ x ∈ is, x < n
  asc : ∀ (j a b : Nat), is[j]? = some a → is[j + 1]? = some b → a < b
  len : is.length ≤ n
section
variable {P : Program} {w : World} {K : PySem.W.Frag} {mg : Str → Option Value} {base : Heap} {H H' : Hp}
theorem dr_list {σ : L2.St} {r sa : Addr} {ns : List Int} {ti te : TE} {n j jr : Nat} {kk : Int} (F : Nat → PyData) (hn : Ev ti σ H (.int (n : Int))) (nz : n ≤ 100) (k1 : 0 < kk) (k2 : kk < 1000000) (R : RowOk K H r sa ns) (hrow : ∀ x : V, ((wipe σ [j]).set j (some x))[jr]? = some (some (.ref r)))
    (hF : ∀ i, noL (F i) = true) (he : ∀ (i : Nat) H1, i < n → ExB r H H1 → EvD K te ((wipe σ [j]).set j (some (.int (i : Int)))) H1 (F i)) {Q : VK}
    (k : ∀ l xs H' is, H l = none → l ≠ r → ExB r H H' → RowOk K H' r sa ns → H' l = some (.lst xs) → Drawn n is → DpAll K H' xs (is.map F) → Q (.ref l) H') :
    tLc (iRng1 (tCons ti tNil)) (gName j) (tTest (tOp rEq (tCall (spTaken K) [] E0 (tCons (tVar jr) (tCons (tC (.int kk)) tNil))) (tC (.int 0)))) te [j] σ H Q := by
  refine hn H (Ex.refl _) _ fun H1 e1 => ?_
  refine ⟨_, rfl, by omega, by omega, fun Dl hD => ?_⟩
  have R1 := R.mono e1
  have hnr : Dl ≠ r := R1.some_ hD
  have noF : ∀ is : List Nat, noLs (is.map F) = true := fun is => noLs_iff.mpr fun d hd => by
    obtain ⟨i, _, rfl⟩ := List.mem_map.mp hd
    exact hF i
  rw [Int.toNat_natCast]
  refine lc_range (lo := 0) (n := n) (g := gName j) (vs := [j]) (fun i H' => ExB r H1 H' ∧ RowOk K H' r sa ns ∧ ∃ (is : List Nat) (vs : List V), Drawn i is ∧ H' Dl = some (.lst vs) ∧ DpAll K H' vs (is.map F))
    ⟨ExB.new (o := .lst []) hD, R1.mono (Ex.new hD), [], [], ⟨(fun _ h => by cases h), (fun _ _ _ h => by cases h), Nat.zero_le _⟩, upd_same, .nil⟩ (fun i H' hi p' => ?_) (fun H' p' => ?_)
  · obtain ⟨p1, p2, is, vs, p3, p6, p7⟩ := p'
    refine ⟨wipe1 _, ?_⟩
    refine ⟨_, hrow _, r, sa, ns, kk, rfl, k1, k2, p2, fun kk2 H11 e11 R11 k0 k3 => ⟨rfl, _, rfl, ?_⟩⟩
    have p16 := p1.trans e11
    have p67 := e11 _ _ p6 hnr
    have p7' := tmonoAll (e11.tk p2.noTup) _ _ (noF is) p7
    rw [Int.zero_add]
    dsimp only
    split
    · refine he i H11 hi ((ExB.of e1).trans p16) H11 (Ex.refl _) _ fun y H12 e12 hy => ?_
      have hD7 := e12 _ _ p67
      have X : ExB r H1 (L2.upd H12 Dl (.lst (vs ++ [y]))) := (p16.trans (ExB.of e12)).grow hD
      refine ⟨vs, hD7, by rw [p7.len, List.length_map]; have := p3.len; exact sz_lt (by omega), X, RowOk.grow R1 (R11.mono e12) X hnr, is ++ [i], vs ++ [y], ⟨fun x hx => ?_, fun jj a b ha hb => ?_, by rw [List.length_append]; have := p3.len; simp; omega⟩, upd_same, ?_⟩
      · rcases List.mem_append.mp hx with hx | hx
        · have := p3.lt x hx
          omega
        · rw [List.mem_singleton.mp hx]
          omega
      · rcases Nat.lt_or_ge (jj + 1) is.length with q | q
        · rw [List.getElem?_append_left (by omega)] at ha
          rw [List.getElem?_append_left q] at hb
          exact p3.asc jj a b ha hb
        · have jl : jj + 1 < (is ++ [i]).length := (List.getElem?_eq_some_iff.mp hb).1
          rw [List.length_append, List.length_singleton] at jl
          have e1 : jj + 1 = is.length := by omega
          rw [List.getElem?_append_left (by omega)] at ha
          rw [e1, List.getElem?_append_right (Nat.le_refl _), Nat.sub_self] at hb
          cases hb
          exact p3.lt a (List.mem_of_getElem? ha)
      · rw [List.map_append]
        refine tmonoAll (TK.lst hD7) _ _ ?_ ((dmonoAll e12 _ _ p7').app (.cons hy .nil))
        have := noF (is ++ [i])
        rw [List.map_append] at this
        exact this
    · exact ⟨p16, R11, is, vs, ⟨fun x hx => by have := p3.lt x hx; omega, p3.asc, by have := p3.len; omega⟩, p67, p7'⟩
  · obtain ⟨p1, p2, is, vs, p3, p6, p7⟩ := p'
    exact k Dl vs H' is (none_ex' e1 hD) hnr ((ExB.of e1).trans p1) p2 p6 p3 p7
theorem wishesL_noL (ws : List (Nat × Tm)) : noLs (ws.map wishD) = true := noLs_iff.mpr fun d hd => by
  obtain ⟨x, _, rfl⟩ := List.mem_map.mp hd
  exact wishD_noL x
theorem a_ed {te : TE} {tr : TA} {σ : L2.St} {d : PyData} {R : List V → Hp → Prop} (h : EvD K te σ H d) (k : ∀ v H1, Ex H H1 → Dp K H1 v d → tr σ H1 fun vs H2 => R (v :: vs) H2) : tCons te tr σ H R :=
  h H (Ex.refl _) _ fun v H1 e1 hv => k v H1 e1 hv
theorem a_lst0 {te : TE} {σ : L2.St} {Q : VK} (h : te σ H fun v H1 => 1 ≤ sizeLine ∧ ∀ p : Addr, H1 p = none → Q (.ref p) (L2.upd H1 p (.lst [v]))) : tLst (tCons te tNil) σ H Q := h
theorem runL_md {m : Mc} (mok : m.Ok) : ∀ {p : List Ln}, (∀ l ∈ p, Ln.Ok m l) → ∀ t ∈ runL m p, t.dep ≤ 1 + p.length := by
  intro p ok t ht
  have gen : ∀ (p : List Ln) (h : List Tm) (B : Nat), 1 ≤ B → md h ≤ B → md (p.foldl did h) ≤ B + p.length := by
    intro p
    induction p with
    | nil => intro h B _ hb; exact hb
    | cons l p ih =>
      intro h B b1 hb
      have := ih (did h l) (B + 1) (by omega) (did_dep b1 hb)
      rw [List.length_cons]
      show md (p.foldl did (did h l)) ≤ _
      omega
  exact Nat.le_trans (md_le ht) (gen p _ 1 (Nat.le_refl _) (start_md _))
def spWishesL (K : PySem.W.Frag) : Sp := fun vs H Q _ => ∃ (r sa : Addr) (sn : List Int) (mv pw : V) (m : Mc) (p : List Ln), vs = [.ref r, mv, pw] ∧ RowOk K H r sa sn ∧ Dp K H mv m.enc ∧ Dp K H pw (progD p) ∧ m.Ok ∧ (∀ l ∈ p, Ln.Ok m l) ∧ p.length ≤ 7 ∧ ∀ v ws H', ExB r H H' → RowOk K H' r sa sn → WsOk m ws → ws.length ≤ 4 → Dp K H' v (wishesD ws) → Q v H'
abbrev CWishesL (P : Program) (w : World) (K : PySem.W.Frag) (mg : Str → Option Value) (base : Heap) := Cal P w K mg base 3 "_law_wishes" ["row", "machine", "program"] (spWishesL K)
theorem ok_law_wishes (B : Bi mg) (D : Dfn K mg "_law_wishes" sLWishes ["row", "machine", "program"]) (C__law_taken : CTaken P w K mg base) (C__law_run : CLRun P w K mg base) : CWishesL P w K mg base := by
  refine D.ok scLWishes (fun vs H Q E h => ?_) (fun f cdv A outer s H vs Q E hr h => ?_)
  · obtain ⟨r, sa, sn, mv, pw, m, p, rfl, _⟩ := h
    rfl
  obtain ⟨r, sa, sn, mv, pw, m, p, rfl, R, hm, hp, mok, ok, p7, k⟩ := h
  refine ⟨_, (pss_cons (ps_set (i := 3) scLWishes.nd rfl (by first | exact Or.inl rfl | exact Or.inr rfl) (pe_cal C__law_run hr (by omega) rfl (pa_cons (pv 1) (pa_cons (pv 2) pa_nil)))) (pss_cons (ps_setLc (i := 4) (own := [("cell", 5)]) (g := (gName 5)) rfl scLWishes.nd rfl rfl (sw_true rfl rfl rfl (by decide +kernel)) (pi_range1 rfl B.range (pa_cons (pe_ix ix_tup (pv 1) pe_int (fun _ _ => rfl)) pa_nil)) (blkOk_by (N := NLWishes) (sc := defScope sLWishes) (by decide +kernel)) (fun _ _ _ _ _ => (pg_name (i := 5) scLWishes.nd rfl (by first | exact Or.inl rfl | exact Or.inr rfl))) (fun _ _ _ _ _ => (pts_one (pt_cmpR op_eq (pe_cal C__law_taken hr (by omega) rfl (pa_cons (pv 0) (pa_cons pe_int pa_nil))) pe_int (by first | exact nomark _ | rfl)))) (fun _ _ _ _ _ => (pv 5))) (pss_cons (ps_set (i := 4) scLWishes.nd rfl (by first | exact Or.inl rfl | exact Or.inr rfl) (pe_ifExp (pt_cmpR (op_neD (hr.units)) (pv 4) (pe_lst pa_nil) (by first | exact nomark _ | rfl)) (pv 4) (pe_lst (pa_cons (pe_cal C__law_taken hr (by omega) rfl (pa_cons (pv 0) (pa_cons (pe_ix ix_tup (pv 1) pe_int (fun _ _ => rfl)) pa_nil))) pa_nil)))) (pss_one (ps_ret (pe_callTy call_tupq (by rfl) B.tuple (by decide +kernel) (pa_cons (pe_lc (own := [("cell", 5)]) (g := (gName 5)) (tt := tYes) rfl scLWishes.nd (pi_list (pv 4)) (blkOk_by (N := NLWishes) (sc := defScope sLWishes) (by decide +kernel)) (fun _ _ _ _ _ => (pg_name (i := 5) scLWishes.nd rfl (by first | exact Or.inl rfl | exact Or.inr rfl))) (fun _ _ _ _ _ => pts_nil) (fun _ _ _ _ _ => (pe_tup (pa_cons (pv 5) (pa_cons (pe_ifExp (pt_cmpR op_gt (pe_cal C__law_taken hr (by omega) rfl (pa_cons (pv 0) (pa_cons pe_int pa_nil))) pe_int (by first | exact nomark _ | rfl)) (pe_ix (show IxR _ (rIxT K) from ix_tup) (pv 3) (pv 5) (fun _ _ => rfl)) (pe_cal C__law_taken hr (by omega) rfl (pa_cons (pv 0) (pa_cons (pe_ix (show IxR _ (rIxT K) from ix_tup) (pv 1) pe_int (fun _ _ => rfl)) pa_nil)))) pa_nil))))) pa_nil))))))), ?_⟩
  have c1 := mok.c1
  have c4 := mok.c4
  have held := runL_held mok ok
  have hlen := held.len
  refine qd_asg (K := K) (ed_call (ead_cons (ed_var rfl hm) (ead_cons (ed_var rfl hp) ead_nil)) (sp_lrun mok ok)) fun hv H1 e1 hh1 => ?_
  have R1 := R.mono e1
  have hm1 := dmono e1 _ _ hm
  refine tsqS (tas (dr_list (K := K) (n := m.cells) (kk := 2) (fun i => .int (i : Int)) (ev_int (ed_ix (ed_var rfl hm1) (ed_int ev_c) (atD (n := 0) rfl))) (by omega) (by decide) (by decide) R1 (fun x => by rfl) (fun _ => rfl) (fun i H' hi e => ed_int (ev_var rfl)) fun l xs H2 is hln hlr e2 R2 hl dr al => ?_))
  have hm2 := tmono (e2.tk R1.noTup) _ _ m.noL hm1
  have hh2 := tmono (e2.tk R1.noTup) _ _ (encs_noL _) hh1
  have isz := dr.len
  have fin : ∀ (l2 : Addr) (xs2 : List V) (is2 : List Nat) (H3 : Hp), l2 ≠ r → ExB r H2 H3 → RowOk K H3 r sa sn → H3 l2 = some (.lst xs2) → DpAll K H3 xs2 (is2.map fun i : Nat => PyData.int (i : Int)) → is2 ≠ [] → Drawn m.cells is2 →
      tRet (tCB (rTupA K) (tCons (tLc (iList K (tVar 4)) (gName 5) tYes (tTup (tCons (tVar 5) (tCons (tIf (tTest (tOp (rI0 fun i j => V.bl (decide (j < i))) (tCall (spTaken K) [] E0 (tCons (tVar 0) (tCons (tC (.int 8)) tNil))) (tC (.int 0)))) (tOp (rIxT K) (tVar 3) (tVar 5)) (tCall (spTaken K) [] E0 (tCons (tVar 0) (tCons (tOp (rIxT K) (tVar 1) (tC (.int 0))) tNil)))) tNil))) [5]) tNil)) { nx := fun _ H' => Q .non H', rt := Q } [some (.ref r), some mv, some pw, some hv, some (.ref l2), none] H3 := by
    intro l2 xs2 is2 H3 ne2 e3 R3 hl2 al2 nn dr2
    have hm3 := tmono (e3.tk R2.noTup) _ _ m.noL hm2
    have hh3 := tmono (e3.tk R2.noTup) _ _ (encs_noL _) hh2
    have xl : xs2.length = is2.length := by rw [al2.len, List.length_map]
    have isz2 := dr2.len
    refine tcb1 ⟨_, rfl, l2, rfl, ⟨xs2, sq_of hl2⟩, fun Dl hD => ?_⟩
    have hDr : Dl ≠ r := R3.some_ hD
    refine lc_list (xs := xs2) (fun i H' => ExB r H3 H' ∧ RowOk K H' r sa sn ∧ ∃ (ts : List Tm) (acc : List V), ts.length = i ∧ (∀ t ∈ ts, Tm.Of m t ∧ t.dep ≤ 8) ∧ H' Dl = some (.lst acc) ∧ DpAll K H' acc (((is2.take i).zip ts).map wishD)) ⟨ExB.new (o := .lst []) hD, R3.mono (Ex.new hD), [], [], rfl, (fun _ h => by cases h), upd_same, .nil⟩ (fun i H' _ p' => p'.1.sql ne2 (sq_of hl2)) (fun i x H' hi p' => ?_) (fun H' p' => ?_)
    · obtain ⟨p1, p2, ts, acc, p3, p4, p5, p6⟩ := p'
      have il := (List.getElem?_eq_some_iff.mp hi).1
      obtain ⟨d0, hd0, hx0⟩ := al2.getV hi
      obtain ⟨c, hc, rfl⟩ : ∃ c, is2[i]? = some c ∧ d0 = .int (c : Int) := by
        rw [List.getElem?_map] at hd0
        cases e : is2[i]? with
        | none => rw [e] at hd0; cases hd0
        | some c => rw [e] at hd0; cases hd0; exact ⟨c, rfl, rfl⟩
      cases hx0.intD
      have ccl := dr2.lt c (List.mem_of_getElem? hc)
      refine ⟨wipe1 _, ?_⟩
      unfold tYes
      dsimp only
      rw [if_pos rfl]
      have add : ∀ (t : Tm) (tv : V) (H4 : Hp), ExB r H' H4 → RowOk K H4 r sa sn → Tm.Of m t → t.dep ≤ 8 → Dp K H4 tv t.enc → ∀ T, H4 T = none → ∃ acc, (L2.upd H4 T (.tup [.int (c : Int), tv])) Dl = some (.lst acc) ∧ acc.length < sizeLine ∧ (ExB r H3 (L2.upd (L2.upd H4 T (.tup [.int (c : Int), tv])) Dl (.lst (acc ++ [V.ref T]))) ∧ RowOk K (L2.upd (L2.upd H4 T (.tup [.int (c : Int), tv])) Dl (.lst (acc ++ [V.ref T]))) r sa sn ∧ ∃ (ts : List Tm) (acc' : List V), ts.length = i + 1 ∧ (∀ t ∈ ts, Tm.Of m t ∧ t.dep ≤ 8) ∧ (L2.upd (L2.upd H4 T (.tup [.int (c : Int), tv])) Dl (.lst (acc ++ [V.ref T]))) Dl = some (.lst acc') ∧ DpAll K (L2.upd (L2.upd H4 T (.tup [.int (c : Int), tv])) Dl (.lst (acc ++ [V.ref T]))) acc' (((is2.take (i + 1)).zip ts).map wishD)) := by
        intro t tv H4 e4 R4 to td ht T hT
        have en := Ex.new (o := .tup [.int (c : Int), tv]) hT
        have hD4 := e4 _ _ p5 hDr
        have hD5 := en _ _ hD4
        have X : ExB r H3 (L2.upd (L2.upd H4 T (.tup [.int (c : Int), tv])) Dl (.lst (acc ++ [V.ref T]))) := ((p1.trans e4).trans (ExB.of en)).grow hD
        refine ⟨acc, hD5, by rw [p6.len, List.length_map, List.length_zip, List.length_take]; exact sz_lt (by omega), X, RowOk.grow R3 (R4.mono en) X hDr, ts ++ [t], acc ++ [.ref T], by rw [List.length_append, p3]; rfl, fun t' ht' => ?_, upd_same, ?_⟩
        · rcases List.mem_append.mp ht' with h | h
          · exact p4 t' h
          · rw [List.mem_singleton.mp h]; exact ⟨to, td⟩
        · have tk : (is2.take (i + 1)).zip (ts ++ [t]) = (is2.take i).zip ts ++ [(c, t)] := by
            rw [List.take_succ, hc, List.zip_append (by rw [List.length_take, p3]; omega)]
            rfl
          rw [tk, List.map_append]
          refine tmonoAll (TK.lst hD5) _ _ ?_ ((dmonoAll en _ _ (tmonoAll (e4.tk p2.noTup) _ _ (wishesL_noL _) p6)).app (.cons (.tup (st_of upd_same) (.cons (.int _) (.cons (dmono en _ _ ht) .nil))) .nil))
          have := wishesL_noL ((is2.take i).zip ts ++ [(c, t)])
          rw [List.map_append] at this
          exact this
      refine ⟨_, rfl, ?_⟩
      dsimp only
      refine tcons1 ?_
      refine ⟨_, rfl, r, sa, sn, 8, rfl, by decide, by decide, p2, fun d H4 e4 R4 d0 d1 => ⟨_, _, rfl, rfl, _, rfl, ?_⟩⟩
      have hh4 := tmono ((p1.trans e4).tk R3.noTup) _ _ (encs_noL _) hh3
      have hm4 := tmono ((p1.trans e4).tk R3.noTup) _ _ m.noL hm3
      dsimp only
      split
      · have a := held.at ccl
        refine (ed_ix (K := K) (ta := tVar 3) (tb := tVar 5) (ed_var rfl hh4) (ed_int (ev_var rfl)) (held_at held ccl)) H4 (Ex.refl _) _ fun tv H5 e5 ht => ?_
        refine ⟨by show 2 ≤ sizeLine; decide, fun T hT => ?_⟩
        exact add (at0 (runL m p) c) tv H5 (e4.trans (ExB.of e5)) (R4.mono e5) a.2 (Nat.le_trans (runL_md mok ok _ (List.mem_of_getElem? a.1)) (by omega)) ht T hT
      · refine ⟨_, rfl, ?_⟩
        refine a_ed (K := K) (ed_ix (d := .int (m.cells : Int)) (ed_var rfl hm4) (ed_int ev_c) (atD (n := 0) rfl)) fun cv H5 e5 hcv => ?_
        cases hcv.intD
        refine ⟨r, sa, sn, _, rfl, by omega, by omega, R4.mono e5, fun g H6 e6 R6 g0 g1 => ?_⟩
        obtain ⟨q, rfl⟩ : ∃ q : Nat, g = (q : Int) := ⟨g.toNat, by omega⟩
        refine ⟨by show 2 ≤ sizeLine; decide, fun T hT => ?_⟩
        exact add (.c q) _ H6 ((e4.trans (ExB.of e5)).trans e6) R6 (.c (by omega)) (by show 1 ≤ 8; decide) (.int _) T hT
    · obtain ⟨p1, p2, ts, acc, p3, p4, p5, p6⟩ := p'
      rw [xl, List.take_length] at p6
      refine ⟨Dl, acc, rfl, .inl ⟨sq_of p5, fun T hT => ?_⟩⟩
      have en := Ex.new (o := .tup acc) hT
      have tl : ts.length = is2.length := by rw [p3, xl]
      refine k _ (is2.zip ts) _ (((ExB.of e1).trans (e2.trans (e3.trans p1))).trans (ExB.of en)) (p2.mono en) ⟨?_, fun x hx => ?_, fun x hx => ?_, fun i a b ha hb => ?_⟩ (by rw [List.length_zip]; omega) (.tup (st_of upd_same) (dmonoAll en _ _ p6))
      · cases is2 with
        | nil => exact absurd rfl nn
        | cons c cs => cases ts with
          | nil => cases tl
          | cons t ts => exact fun z => by cases z
      · exact dr2.lt x.1 (List.of_mem_zip hx).1
      · exact p4 x.2 (List.of_mem_zip hx).2
      · rw [List.getElem?_zip_eq_some] at ha hb
        exact dr2.asc i _ _ ha.1 hb.1
  dsimp only
  refine tsqS (tas ?_)
  refine et_test (ev_neD (K := K) (e1 := .list (is.map fun i : Nat => PyData.int (i : Int))) (e2 := .list []) (ed_var (i := 4) rfl (.lst (sq_of hl) al)) (ed_lst ead_nil (by simp)) ?_ rfl) H2 (Ex.refl _) _ fun H3 e3 => ?_
  · exact (lay_lst (n := 0) fun d hd => by
      obtain ⟨i, _, rfl⟩ := List.mem_map.mp hd
      exact lay_int _).shaped (by decide)
  dsimp only
  rw [eqv_nilL, List.isEmpty_map]
  have R3 := R2.mono e3
  cases is with
  | nil =>
    rw [if_neg (by decide)]
    refine a_lst0 ⟨_, rfl, ?_⟩
    refine a_ed (K := K) (ed_ix (d := .int (m.cells : Int)) (ed_var rfl (dmono e3 _ _ hm2)) (ed_int ev_c) (atD (n := 0) rfl)) fun cv H5 e5 hcv => ?_
    cases hcv.intD
    refine ⟨r, sa, sn, _, rfl, by omega, by omega, R3.mono e5, fun g H6 e6 R6 g0 g1 => ?_⟩
    obtain ⟨q, rfl⟩ : ∃ q : Nat, g = (q : Int) := ⟨g.toNat, by omega⟩
    refine ⟨by show 1 ≤ sizeLine; decide, fun T hT => ?_⟩
    have en := Ex.new (o := .lst [V.int (q : Int)]) hT
    exact fin T _ [q] _ (R6.some_ hT) (((ExB.of (e3.trans e5)).trans e6).trans (ExB.of en)) (R6.mono en) upd_same (.cons (.int _) .nil) (by simp) ⟨fun x hx => by rw [List.mem_singleton.mp hx]; omega, fun j a b ha hb => by simp at hb, by simp; omega⟩
  | cons i is =>
    rw [if_pos (by rfl)]
    exact ⟨_, rfl, fin l xs (i :: is) H3 hlr (ExB.of e3) R3 (e3 _ _ hl) (dmonoAll e3 _ _ al) (by simp) dr⟩
end
end Lb

set_option Elab.async false
set_option linter.all false
set_option maxRecDepth 100000
set_option maxHeartbeats 4000000
/-! numbers, swaps checked -/
namespace Lb
open PySem L2 Evl PyProof.Rows
def AnyV (K : PySem.W.Frag) (H : Hp) (v : V) : Option PyData → Prop
  | some d => Dp K H v d
  | none => ∃ a, v = .ref a ∧ H a = some (.dK [])
theorem AnyV.mono {K : PySem.W.Frag} {H H' : Hp} {v : V} (e : Ex H H') : ∀ {o : Option PyData}, AnyV K H v o → AnyV K H' v o
  | some d, h => dmono e d v h
  | none, h => by
    obtain ⟨a, h1, h2⟩ := h
    exact ⟨a, h1, e _ _ h2⟩
def isTo : Option PyData → Bool
  | some d => isT d
  | none => false
def isNo : Option PyData → Bool
  | some d => isNon d
  | none => false
def getI (ds : List PyData) (i : Nat) : Int := match ds.getD i .none with
  | .int z => z
  | _ => 0
theorem nats_of : ∀ {ds : List PyData} {hi : Int}, ds.all (btw 0 hi) = true → ∃ ls : List Nat, ds = ls.map fun (n : Nat) => PyData.int (n : Int)
  | [], _, _ => ⟨[], rfl⟩
  | d :: ds, hi, h => by
    rw [List.all_cons, Bool.and_eq_true] at h
    obtain ⟨ls, rfl⟩ := nats_of h.2
    cases d with
    | int i =>
      have h1 := h.1
      unfold btw at h1
      rw [Bool.and_eq_true, decide_eq_true_iff] at h1
      exact ⟨i.toNat :: ls, by rw [List.map_cons, Int.toNat_of_nonneg h1.1]⟩
    | none | bool b | str x | list l | tuple l | dict l =>
      have h1 := h.1
      simp [btw] at h1
theorem natsD_inj {a b : List Nat} (h : natsD a = natsD b) : a = b := by
  unfold natsD at h
  have h' : (a.map fun (n : Nat) => PyData.int (n : Int)) = b.map fun (n : Nat) => PyData.int (n : Int) := by injection h
  refine (List.map_inj_right fun x y z => ?_).mp h'
  have z' : (x : Int) = (y : Int) := by injection z
  omega
def numB (n : Nat) (ds : List PyData) : Bool := ds.all (btw 0 ((n : Int) - 1)) && (List.range (ds.length - 1)).all fun i => decide (getI ds i < getI ds (i + 1))
def isNumB (n : Nat) : Option PyData → Bool
  | some (.tuple ds) => numB n ds
  | _ => false
theorem numB_nat {n : Nat} {ls : List Nat} : numB n (ls.map fun (n : Nat) => PyData.int (n : Int)) = true ↔ (∀ l ∈ ls, l < n) ∧ ∀ (i a b : Nat), ls[i]? = some a → ls[i + 1]? = some b → a < b := by
  have ix : ∀ {i a : Nat}, ls[i]? = some a → getI (ls.map fun (n : Nat) => PyData.int (n : Int)) i = (a : Int) := fun {i a} h => by
    unfold getI
    rw [List.getD_eq_getElem?_getD, List.getElem?_map, h]
    rfl
  have el : ∀ {i : Nat}, i < ls.length → ∃ a, ls[i]? = some a := fun {i} h => ⟨ls[i], List.getElem?_eq_getElem h⟩
  unfold numB
  rw [Bool.and_eq_true, List.all_eq_true, List.all_eq_true, List.length_map]
  constructor
  · rintro ⟨h1, h2⟩
    refine ⟨fun l hl => ?_, fun i a b ha hb => ?_⟩
    · have := h1 _ (List.mem_map.mpr ⟨l, hl, rfl⟩)
      unfold btw at this
      rw [Bool.and_eq_true, decide_eq_true_iff, decide_eq_true_iff] at this
      omega
    · have hi := (List.getElem?_eq_some_iff.mp hb).1
      have := of_decide_eq_true (h2 i (List.mem_range.mpr (by omega)))
      rw [ix ha, ix hb] at this
      omega
  · rintro ⟨h1, h2⟩
    refine ⟨fun d hd => ?_, fun i hi => ?_⟩
    · obtain ⟨l, hl, rfl⟩ := List.mem_map.mp hd
      have := h1 l hl
      exact btw_nat (by omega) (by omega)
    · have hi' := List.mem_range.mp hi
      obtain ⟨a, ha⟩ := el (i := i) (by omega)
      obtain ⟨b, hb⟩ := el (i := i + 1) (by omega)
      rw [ix ha, ix hb]
      have := h2 i a b ha hb
      exact decide_eq_true (by omega)
/-- a limit, one below nought told as none -/
def ZN (z : Int) (n : Nat) : Prop := z = (n : Int) ∨ (z = -1 ∧ n = 0)
theorem ZN.btw {z : Int} {n : Nat} (h : ZN z n) : btw 0 (z - 1) = btw 0 ((n : Int) - 1) := by
  rcases h with rfl | ⟨rfl, rfl⟩
  · rfl
  · funext d
    cases d <;> first | rfl | (simp only [Lb.btw]; rw [Bool.eq_iff_iff]; simp; omega)
/-- what the head says of an own exception without an __init__ of its own -/
structure OwX (K : PySem.W.Frag) (mg : Str → Option Value) (nm : Str) (E : Addr) : Prop where
  xc : PySem.W.excIn K E He.veBase "ValueError.__new__" = true
  kp : PySem.W.keepIn K (.ref E) = true
  sb : PySem.W.subIn K (.ref E) (.type "BaseException") = some true
  ty : PySem.W.typeIn K (.ref E) = some (.type "type")
  mgE : mg nm = some (.ref E)
  te : PySem.W.exmOne K (.ref E) (.ref E) = some true
/-! ### defs that may raise -/
def CalX (P : Program) (w : World) (K : PySem.W.Frag) (mg : Str → Option Value) (base : Heap) (k : Nat) (x : Str) (ps : List Str) (sp : Sp) : Prop :=
  ∃ f fd, FnOk P w K mg base (L2.CX P w) k f fd ps sp ∧ mg x = some (.ref f) ∧ PySem.W.keepIn K (.ref f) = true ∧ Binds K fd ps []
theorem Dfn.okX {P : Program} {w : World} {K : PySem.W.Frag} {mg : Str → Option Value} {base : Heap} {x : Str} {st : Stmt} {N ps : List Str} {k : Nat} {sp : Sp} (D : Dfn K mg x st ps) (S : FnScope N ps (defScope st)) (len : ∀ vs H Q E, sp vs H Q E → vs.length = ps.length)
    (hb : ∀ (f : Addr) (cdv : Value) (A : Around) (outer : List Env) (s : Shared) (H : Hp) (vs : List V) (Q : VK) (E : XK), Room k (A.deeper (envOfC x (defScope st) s.heap.objs.size f cdv)) → sp vs H Q E →
      ∃ t, PSs (cxOf (L2.CX P w) P w K mg base N x (defScope st) f cdv A outer s H E) (defBody st) t ∧ t { nx := fun _ H' => Q .non H', rt := Q } (start N vs) H) : CalX P w K mg base (k + 1) x ps sp := by
  obtain ⟨f, fd, F, m, b⟩ := D
  exact ⟨f, fd, F.okX S len (fun cdv A outer s H vs Q E hr h => hb f cdv A outer s H vs Q E hr h), m, F.kp, b⟩
theorem pe_calX {X : Cx} {k j : Nat} {x : Str} {ps : List Str} {sp : Sp} {E : XK} {p pos : Pos} {e : Expr} {es : List Expr} {t : TA} (C : CalX X.prog X.w X.K X.mg X.base k x ps sp) (tk : Takes X (fun cls d _ H => E cls d H)) (hr : Room j X.A) (hk : k ≤ j) (hg : Gl X x) (ha : PA X (e :: es) t)
    (hd : (x == ("__debug__" : Str)) = false := by decide) (h1 : starEach (e :: es) X.env = (false, eval e X.env) :: starEach es X.env := by rfl) (h2 : (backTo pos (starEach es X.env)).any (·.1) = false := by rfl) :
    PE X (.Call (.Name x p) (e :: es) [] pos) (tCall sp [] E t) := by
  obtain ⟨f, fd, F, m, kp, b⟩ := C
  exact pe_call F (hr.mono hk) hg m kp b .nil (passes_call tk fun _ _ _ _ h => h) ha hd h1 h2
section
variable {P : Program} {w : World} {K : PySem.W.Frag} {mg : Str → Option Value} {base : Heap} {H H' : Hp} {Ebs : Addr}
theorem ty_any {v : V} {o : Option PyData} (h : AnyV K H v o) : ∃ T : String, TyX K H v (.type T) ∧ kitB T "tuple" = some (isTo o) := by
  cases o with
  | some d => exact ⟨tyD d, ty_of h, kT d⟩
  | none =>
    obtain ⟨a, rfl, h2⟩ := h
    exact ⟨"dict", .base (.dK h2), by decide +kernel⟩
theorem ev_isT_any {σ : L2.St} {i : Nat} {v : V} {o : Option PyData} (hi : σ[i]? = some (some v)) (h : AnyV K H v o) : Ev (tCB (rIsi K) (tCons (tVar i) (tCons (tC (.ty "tuple")) tNil))) σ H (.bl (isTo o)) := fun H1 e Q q =>
  ev_var hi H1 (Ex.refl _) _ fun H2 e2 => by
    obtain ⟨T, h1, h2⟩ := ty_any (h.mono (e.trans e2))
    exact ⟨v, .ty "tuple", _, _, isTo o, rfl, .ty "tuple", h1, kit_ty h2, q H2 e2⟩
theorem ev_isN_any {σ : L2.St} {i : Nat} {v : V} {o : Option PyData} (hi : σ[i]? = some (some v)) (h : AnyV K H v o) : Ev (tOp (fun x y H Q => y = V.non ∧ Q (.bl (decide (x = V.non))) H) (tVar i) (tC .non)) σ H (.bl (isNo o)) := by
  cases o with
  | some d => exact ev_isN (ed_var hi h)
  | none =>
    obtain ⟨a, rfl, h2⟩ := h
    intro H1 e Q q
    exact ev_var hi H1 (Ex.refl _) _ fun H2 e2 => ⟨rfl, q H2 e2⟩
theorem ev_allTB {σ : L2.St} {te tl : TE} {ds : List PyData} {j : Nat} (F : PyData → Bool) (hx : EvD K tl σ H (.tuple ds)) (hz : ds.length ≤ 40000) (h : ∀ d x H2, d ∈ ds → Ex H H2 → Dp K H2 x d → Ev te ((wipe σ [j]).set j (some x)) H2 (.bl (F d))) :
    Ev (tCB (rAll K) (tCons (tLc (iTup K tl) (gName j) tYes te [j]) tNil)) σ H (.bl (ds.all F)) := by
  refine ev_is (ev_all (bs := ds.map F) (ed_is (ed_lcT (fun d => .bool (F d)) hx hz (fun _ _ => rfl) fun d x H2 hd e hx => ed_bl (h d x H2 hd e hx)) ?_)) (by rw [List.all_map]; rfl)
  rw [List.map_map]
  rfl
theorem ev_allRB {σ : L2.St} {te ti : TE} {z : Int} {n j : Nat} (F : Nat → Bool) (hx : EvD K ti σ H (.int z)) (hn : z.toNat = n) (hz0 : -40000 ≤ z) (hz : n ≤ 40000) (h : ∀ (i : Nat) H2, Ex H H2 → i < n → Ev te ((wipe σ [j]).set j (some (.int (i : Int)))) H2 (.bl (F i))) :
    Ev (tCB (rAll K) (tCons (tLc (iRng1 (tCons ti tNil)) (gName j) tYes te [j]) tNil)) σ H (.bl ((List.range n).all F)) := by
  refine ev_is (ev_all (bs := (List.range n).map F) (ed_is (ed_lcRz (fun _ => true) (fun i => .bool (F i)) hx hn hz0 hz (fun _ _ => rfl) fun i H2 e hi => ⟨et_yes, fun _ => ed_bl (h i H2 e hi)⟩) ?_)) (by rw [List.all_map]; rfl)
  rw [givenD_all, List.map_map]
  rfl
def spNum (K : PySem.W.Frag) : Sp := fun vs H Q _ => ∃ (v : V) (z : Int) (n : Nat) (o : Option PyData), vs = [v, .int z] ∧ ZN z n ∧ AnyV K H v o ∧ n ≤ 100 ∧ (∀ ds, o = some (.tuple ds) → ds.length ≤ 60) ∧ ∀ H', Ex H H' → Q (.bl (isNumB n o)) H'
abbrev CNum (P : Program) (w : World) (K : PySem.W.Frag) (mg : Str → Option Value) (base : Heap) := Cal P w K mg base 3 "are_numbers" ["value", "limit"] (spNum K)
theorem ok_are_numbers (B : Bi mg) (D : Dfn K mg "are_numbers" sAreNumbers ["value", "limit"]) (C_is_number_below : CBelow P w K mg base) : CNum P w K mg base := by
  refine D.ok scAreNumbers (fun vs H Q E h => ?_) (fun f cdv A outer sh H vs Q E hr h => ?_)
  · obtain ⟨v, z, n, o, rfl, _⟩ := h
    rfl
  obtain ⟨lv, z, n, o, rfl, zn, hv, n60, hds, k⟩ := h
  have hb' := zn.btw
  refine ⟨_, (pss_cons (ps_if (PW.pt (pw_or (pt_not (pt_val (pe_callB call_isi (by rfl) B.isinstance (by decide +kernel) (pa_cons (pv 0) (pa_cons (pe_bltn (v := .ty "tuple") (by rfl) B.tuple (by decide +kernel) rfl) pa_nil))))) (pw_or1 (pt_not (pt_val (pe_callB (cr_all rfl) (by rfl) B.all (by decide +kernel) (pa_cons (pe_lc (own := [("number", 2)]) (g := (gName 2)) (tt := tYes) rfl scAreNumbers.nd (pi_tup (pv 0)) (blkOk_by (N := NAreNumbers) (sc := defScope sAreNumbers) (by decide +kernel)) (fun _ _ _ _ _ => (pg_name (i := 2) scAreNumbers.nd rfl (by first | exact Or.inl rfl | exact Or.inr rfl))) (fun _ _ _ _ _ => pts_nil) (fun _ _ _ _ _ => (pe_cal C_is_number_below hr (by omega) rfl (pa_cons (pv 2) (pa_cons (pv 1) pa_nil))))) pa_nil))))))) (pss_one (ps_ret pe_bl)) pss_nil) (pss_one (ps_ret (pe_callB (cr_all rfl) (by rfl) B.all (by decide +kernel) (pa_cons (pe_lc (own := [("at", 3)]) (g := (gName 3)) (tt := tYes) rfl scAreNumbers.nd (pi_range1 rfl B.range (pa_cons (pe_op op_sub (pe_callB call_lenq (by rfl) B.len PySem.boot_len (pa_cons (pv 0) pa_nil)) pe_int) pa_nil)) (blkOk_by (N := NAreNumbers) (sc := defScope sAreNumbers) (by decide +kernel)) (fun _ _ _ _ _ => (pg_name (i := 3) scAreNumbers.nd rfl (by first | exact Or.inl rfl | exact Or.inr rfl))) (fun _ _ _ _ _ => pts_nil) (fun _ _ _ _ _ => (pe_cmpR op_lt (pe_ix (show IxR _ (rIxT K) from ix_tup) (pv 0) (pv 3) (fun _ _ => rfl)) (pe_ix (show IxR _ (rIxT K) from ix_tup) (pv 0) (pe_op op_add (pv 3) pe_int) (fun _ _ => rfl)) (by first | exact nomark _ | rfl)))) pa_nil))))), ?_⟩
  have ev1 := ev_isT_any (K := K) (i := 0) (σ := [some lv, some (.int z), none, none]) rfl hv
  by_cases c0 : ∃ ds, o = some (.tuple ds)
  · obtain ⟨ds, rfl⟩ := c0
    have hl : Dp K H lv (.tuple ds) := hv
    have hx : EvD K (tVar 0) [some lv, some (.int z), none, none] H (.tuple ds) := ed_var rfl hl
    have dz := hds ds rfl
    have ev2 := ev_allTB (K := K) (btw 0 ((n : Int) - 1)) (j := 2) hx (by omega) fun d x H2 hd e2 hxd => by rw [← hb']; exact sp_below (E := E0) (tb := tVar 1) (ta := tVar 2) (ed_var rfl hxd) (ev_var rfl)
    cases c : ds.all (btw 0 ((n : Int) - 1)) with
    | false =>
      rw [c] at ev2
      refine q_when (et_or (et_not (et_B ev1)) fun _ => et_not (et_B ev2)) (fun _ H2 e2 => ?_) (fun z => by cases z)
      refine s_ret ev_c fun H3 e3 => ?_
      have q : Q (.bl (numB n ds)) H3 := k H3 (e2.trans e3)
      unfold numB at q
      rw [c] at q
      exact q
    | true =>
      rw [c] at ev2
      refine q_when (et_or (et_not (et_B ev1)) fun _ => et_not (et_B ev2)) (fun z => by cases z) (fun _ H2 e2 => ?_)
      obtain ⟨ls, rfl⟩ := nats_of c
      have hl' := List.length_map (as := ls) fun (n : Nat) => PyData.int (n : Int)
      rw [hl'] at dz
      have ix : ∀ {i a : Nat}, ls[i]? = some a → getI (ls.map fun (n : Nat) => PyData.int (n : Int)) i = (a : Int) := fun {i a} h => by
        unfold getI
        rw [List.getD_eq_getElem?_getD, List.getElem?_map, h]
        rfl
      refine s_ret (ev_allRB (K := K) (fun i => decide (getI (ls.map fun (n : Nat) => PyData.int (n : Int)) i < getI (ls.map fun (n : Nat) => PyData.int (n : Int)) (i + 1))) (z := (ls.length : Int) - 1) (n := ls.length - 1) (ed_int (ev_op (ev_is (ev_lenT (hx.mono e2)) (by rw [hl'])) ev_c rv_I0)) (by omega) (by omega) (by omega) fun i H3 e3 hi => ?_) fun H3 e3 => ?_
      · have h3 : Dp K H3 lv (natsD ls) := dmono (e2.trans e3) _ _ hl
        have g1 : ls[i]? = some ls[i] := List.getElem?_eq_getElem (by omega)
        have g2 : ls[i + 1]? = some ls[i + 1] := List.getElem?_eq_getElem (by omega)
        rw [ix g1, ix g2]
        exact ev_op (ev_int (ed_ix (ed_var rfl h3) (ed_int (ev_var rfl)) (nat_at g1))) (ev_int (ed_ix (ed_var rfl h3) (ed_int (ev_is (ev_op (ev_var rfl) ev_c rv_I0) (congrArg V.int (show (i : Int) + 1 = ((i + 1 : Nat) : Int) by omega)))) (nat_at g2))) rv_I0
      · have q : Q (.bl (numB n (ls.map fun (n : Nat) => PyData.int (n : Int)))) H3 := k H3 (e2.trans e3)
        unfold numB at q
        rw [c, Bool.true_and, hl'] at q
        exact q
  · have ef : isTo o = false := by
      cases o with
      | none => rfl
      | some d => cases d with
        | tuple ds => exact absurd ⟨ds, rfl⟩ c0
        | none | bool b | int i | str x | list l | dict l => rfl
    have en : isNumB n o = false := by
      cases o with
      | none => rfl
      | some d => cases d with
        | tuple ds => exact absurd ⟨ds, rfl⟩ c0
        | none | bool b | int i | str x | list l | dict l => rfl
    rw [ef] at ev1
    rw [en] at k
    refine q_when (et_or (b := false) (et_not (et_B ev1)) fun z => by cases z) (fun _ H2 e2 => ?_) (fun z => by cases z)
    exact s_ret ev_c fun H3 e3 => k H3 (e2.trans e3)
theorem sp_num {σ : L2.St} {ta tb : TE} {E : XK} {z : Int} {n : Nat} {d : PyData} (zn : ZN z n) (n100 : n ≤ 100) (hz : ∀ ds, d = .tuple ds → ds.length ≤ 60) (ha : EvD K ta σ H d) (hb : Ev tb σ H (.int z)) : Ev (tCall (spNum K) [] E (tCons ta (tCons tb tNil))) σ H (.bl (isNumB n (some d))) :=
  ev_sp (ead_cons ha (ead_cons (ed_int hb) ead_nil)) fun H1 vs e hvs Q q => by
    cases hvs with
    | cons h0 t0 => cases t0 with
      | cons h1 t1 => cases t1; cases h1.intD; exact ⟨_, z, n, some d, rfl, zn, h0, n100, fun ds hd => hz ds (Option.some.inj hd), q⟩
end
end Lb

set_option Elab.async false
set_option linter.all false
set_option maxRecDepth 100000
set_option maxHeartbeats 4000000
/-! is_swaps, check_swaps -/
namespace Lb
open PySem L2 Evl PyProof.Rows
/-- whether a value is swaps of so many lines -/
def isSwB (n : Nat) : Option PyData → Bool
  | some (.tuple ds) => numB (n - 1) ds && (List.range (ds.length - 1)).all fun i => decide (getI ds i + 1 < getI ds (i + 1))
  | _ => false
theorem getI_at {ls : List Nat} {i a : Nat} (h : ls[i]? = some a) : getI (ls.map fun (n : Nat) => PyData.int (n : Int)) i = (a : Int) := by
  unfold getI
  rw [List.getD_eq_getElem?_getD, List.getElem?_map, h]
  rfl
/-- exactly the rising tuples of numbers of all but the last line, no two next to each other -/
theorem isSwB_iff {n : Nat} {o : Option PyData} : isSwB n o = true ↔ ∃ ks, o = some (natsD ks) ∧ SwOk n ks := by
  constructor
  · intro h
    cases o with
    | none => cases h
    | some d =>
      cases d with
      | tuple ds =>
        rw [isSwB, Bool.and_eq_true] at h
        obtain ⟨h1, h2⟩ := h
        have h1' := h1
        unfold numB at h1
        rw [Bool.and_eq_true] at h1
        obtain ⟨ks, rfl⟩ := nats_of h1.1
        obtain ⟨a, b⟩ := numB_nat.mp h1'
        rw [List.length_map, List.all_eq_true] at h2
        refine ⟨ks, rfl, fun k hk => by have := a k hk; omega, fun i x y hx hy => ?_⟩
        have il := (List.getElem?_eq_some_iff.mp hy).1
        have := of_decide_eq_true (h2 i (List.mem_range.mpr (by omega)))
        rw [getI_at hx, getI_at hy] at this
        omega
      | _ => cases h
  · rintro ⟨ks, rfl, s1, s2⟩
    show (numB (n - 1) (ks.map fun (n : Nat) => PyData.int (n : Int)) && _) = true
    rw [Bool.and_eq_true]
    refine ⟨numB_nat.mpr ⟨fun k hk => by have := s1 k hk; omega, fun i a b ha hb => by have := s2 i a b ha hb; omega⟩, ?_⟩
    rw [List.length_map, List.all_eq_true]
    intro i hi
    have hi' := List.mem_range.mp hi
    have ha : ks[i]? = some ks[i] := List.getElem?_eq_getElem (by omega)
    have hb : ks[i + 1]? = some ks[i + 1] := List.getElem?_eq_getElem (by omega)
    rw [getI_at ha, getI_at hb]
    have := s2 i _ _ ha hb
    exact decide_eq_true (by omega)
section
variable {P : Program} {w : World} {K : PySem.W.Frag} {mg : Str → Option Value} {base : Heap} {H H' : Hp} {Ebs : Addr}
def spIsSw (K : PySem.W.Frag) : Sp := fun vs H Q _ => ∃ (pw v : V) (pd : List PyData) (o : Option PyData), vs = [pw, v] ∧ Dp K H pw (.tuple pd) ∧ AnyV K H v o ∧ pd.length ≤ 60 ∧ (∀ ds, o = some (.tuple ds) → ds.length ≤ 60) ∧ ∀ H', Ex H H' → Q (.bl (isSwB pd.length o)) H'
abbrev CIsSw (P : Program) (w : World) (K : PySem.W.Frag) (mg : Str → Option Value) (base : Heap) := Cal P w K mg base 4 "is_swaps" ["program", "value"] (spIsSw K)
theorem ok_is_swaps (B : Bi mg) (D : Dfn K mg "is_swaps" sIsSwaps ["program", "value"]) (C_are_numbers : CNum P w K mg base) : CIsSw P w K mg base := by
  refine D.ok scIsSwaps (fun vs H Q E h => ?_) (fun f cdv A outer s H vs Q E hr h => ?_)
  · obtain ⟨pw, v, pd, o, rfl, _⟩ := h
    rfl
  obtain ⟨pw, v, pd, o, rfl, hp, hv, p60, z60, k⟩ := h
  refine ⟨_, (pss_cons (ps_if (pt_not (pt_val (pe_cal C_are_numbers hr (by omega) rfl (pa_cons (pv 1) (pa_cons (pe_op op_sub (pe_callB call_lenq (by rfl) B.len PySem.boot_len (pa_cons (pv 0) pa_nil)) pe_int) pa_nil))))) (pss_one (ps_ret pe_bl)) pss_nil) (pss_one (ps_ret (pe_callB (cr_all rfl) (by rfl) B.all (by decide +kernel) (pa_cons (pe_lc (own := [("at", 2)]) (g := (gName 2)) (tt := tYes) rfl scIsSwaps.nd (pi_range1 rfl B.range (pa_cons (pe_op op_sub (pe_callB call_lenq (by rfl) B.len PySem.boot_len (pa_cons (pv 1) pa_nil)) pe_int) pa_nil)) (blkOk_by (N := NIsSwaps) (sc := defScope sIsSwaps) (by decide +kernel)) (fun _ _ _ _ _ => (pg_name (i := 2) scIsSwaps.nd rfl (by first | exact Or.inl rfl | exact Or.inr rfl))) (fun _ _ _ _ _ => pts_nil) (fun _ _ _ _ _ => (pe_cmpR op_lt (pe_op op_add (pe_ix (show IxR _ (rIxT K) from ix_tup) (pv 1) (pv 2) (fun _ _ => rfl)) pe_int) (pe_ix (show IxR _ (rIxT K) from ix_tup) (pv 1) (pe_op op_add (pv 2) pe_int) (fun _ _ => rfl)) (by first | exact nomark _ | rfl)))) pa_nil))))), ?_⟩
  have zn : ZN ((pd.length : Int) - 1) (pd.length - 1) := by
    unfold ZN
    omega
  have num : Ev (tCall (spNum K) [] E0 (tCons (tVar 1) (tCons (tOp (rI0 fun i j => .int (i - j)) (tCB (rLenA K) (tCons (tVar 0) tNil)) (tC (.int 1))) tNil))) [some pw, some v, none] H (.bl (isNumB (pd.length - 1) o)) := fun H1 e1 Q1 q1 =>
    ⟨_, rfl, ev_lenT (K := K) (ed_var rfl (dmono e1 _ _ hp)) H1 (Ex.refl _) _ fun H2 e2 => ⟨_, _, rfl, rfl, v, _, _, o, rfl, zn, (hv.mono e1).mono e2, by omega, z60, fun H3 e3 => q1 H3 (e2.trans e3)⟩⟩
  cases hn : isNumB (pd.length - 1) o with
  | false =>
    rw [hn] at num
    refine q_when (et_not (et_B num)) (fun _ H2 e2 => ?_) (fun z => by cases z)
    refine s_ret ev_c fun H3 e3 => ?_
    have e0 : isSwB pd.length o = false := by
      cases o with
      | none => rfl
      | some d =>
        cases d with
        | tuple ds => rw [isSwB]; rw [show numB (pd.length - 1) ds = false from hn]; rfl
        | _ => rfl
    have q := k H3 (e2.trans e3)
    rw [e0] at q
    exact q
  | true =>
    rw [hn] at num
    refine q_when (et_not (et_B num)) (fun z => by cases z) (fun _ H2 e2 => ?_)
    obtain ⟨ls, rfl, lz⟩ : ∃ ls : List Nat, o = some (natsD ls) ∧ ls.length ≤ 60 := by
      cases o with
      | none => cases hn
      | some d =>
        cases d with
        | tuple ds =>
          have h1 : numB (pd.length - 1) ds = true := hn
          unfold numB at h1
          rw [Bool.and_eq_true] at h1
          obtain ⟨ls, rfl⟩ := nats_of h1.1
          have := z60 _ rfl
          rw [List.length_map] at this
          exact ⟨ls, rfl, this⟩
        | _ => cases hn
    have hl' := List.length_map (as := ls) fun (n : Nat) => PyData.int (n : Int)
    have hx : EvD K (tVar 1) [some pw, some v, none] H2 (natsD ls) := ed_var rfl (hv.mono e2)
    refine s_ret (ev_is (ev_allRB (K := K) (fun i => decide (getI (ls.map fun (n : Nat) => PyData.int (n : Int)) i + 1 < getI (ls.map fun (n : Nat) => PyData.int (n : Int)) (i + 1))) (z := (ls.length : Int) - 1) (n := ls.length - 1) (ed_int (ev_op (ev_is (ev_lenT hx) (by rw [hl'])) ev_c rv_I0)) (by omega) (by omega) (by omega) fun i H3 e3 hi => ?_) ?_) fun H3 e3 => k H3 (e2.trans e3)
    · have h3 : Dp K H3 v (natsD ls) := (hv.mono e2).mono e3
      have g1 : ls[i]? = some ls[i] := List.getElem?_eq_getElem (by omega)
      have g2 : ls[i + 1]? = some ls[i + 1] := List.getElem?_eq_getElem (by omega)
      rw [getI_at g1, getI_at g2]
      exact ev_op (ev_op (ev_int (ed_ix (ed_var rfl h3) (ed_int (ev_var rfl)) (atD (by rw [List.getElem?_map, g1]; rfl)))) ev_c rv_I0) (ev_int (ed_ix (ed_var rfl h3) (ed_int (ev_op (ev_var rfl) ev_c rv_I0)) (atD (n := i + 1) (by rw [List.getElem?_map, g2]; rfl)))) rv_I0
    · show V.bl _ = V.bl (numB (pd.length - 1) (ls.map fun (n : Nat) => PyData.int (n : Int)) && _)
      rw [show numB (pd.length - 1) (ls.map fun (n : Nat) => PyData.int (n : Int)) = true from hn, hl', Bool.true_and]
theorem sp_isw {σ : L2.St} {ta tb : TE} {E : XK} {pd : List PyData} {d : PyData} (p60 : pd.length ≤ 60) (hz : ∀ ds, d = .tuple ds → ds.length ≤ 60) (ha : EvD K ta σ H (.tuple pd)) (hb : EvD K tb σ H d) : Ev (tCall (spIsSw K) [] E (tCons ta (tCons tb tNil))) σ H (.bl (isSwB pd.length (some d))) :=
  ev_sp (ead_cons ha (ead_cons hb ead_nil)) fun H1 vs e hvs Q q => by
    cases hvs with
    | cons h0 t0 => cases t0 with
      | cons h1 t1 => cases t1; exact ⟨_, _, pd, some d, rfl, h0, h1, p60, fun ds hd => hz ds (Option.some.inj hd), q⟩
def spChkSw (K : PySem.W.Frag) : Sp := fun vs H Q _ => ∃ (pw kw : V) (pd : List PyData) (d : PyData), vs = [pw, kw] ∧ Dp K H pw (.tuple pd) ∧ Dp K H kw d ∧ pd.length ≤ 60 ∧ (∀ ds, d = .tuple ds → ds.length ≤ 60) ∧ isSwB pd.length (some d) = true ∧ ∀ H', Ex H H' → Q .non H'
abbrev CChkSw (P : Program) (w : World) (K : PySem.W.Frag) (mg : Str → Option Value) (base : Heap) := Cal P w K mg base 5 "check_swaps" ["program", "swaps"] (spChkSw K)
theorem ok_check_swaps (D : Dfn K mg "check_swaps" sCheckSwaps ["program", "swaps"]) (C_is_swaps : CIsSw P w K mg base) : CChkSw P w K mg base := by
  refine D.ok scCheckSwaps (fun vs H Q E h => ?_) (fun f cdv A outer s H vs Q E hr h => ?_)
  · obtain ⟨pw, kw, pd, d, rfl, _⟩ := h
    rfl
  obtain ⟨pw, kw, pd, d, rfl, hp, hk, p60, z60, yes, k⟩ := h
  refine ⟨_, (pss_one (ps_if (pt_not (pt_val (pe_cal C_is_swaps hr (by omega) rfl (pa_cons (pv 0) (pa_cons (pv 1) pa_nil))))) (pss_one ps_never) pss_nil)), ?_⟩
  exact sd_pass (et_not (et_B (sp_isw p60 z60 (ed_var rfl hp) (ed_var rfl hk)))) (by rw [yes]; rfl) fun H1 e1 => k H1 e1
def spChkSwR (K : PySem.W.Frag) (Ebs : Addr) : Sp := fun vs H _ E => ∃ (pw kw : V) (pd : List PyData) (d : PyData), vs = [pw, kw] ∧ Dp K H pw (.tuple pd) ∧ Dp K H kw d ∧ pd.length ≤ 60 ∧ (∀ ds, d = .tuple ds → ds.length ≤ 60) ∧ isSwB pd.length (some d) = false ∧ ∀ H', Ex H H' → E (.ref Ebs) none H'
theorem ok_check_swapsR (T : OwX K mg "BadSwaps" Ebs) (D : Dfn K mg "check_swaps" sCheckSwaps ["program", "swaps"]) (C_is_swaps : CIsSw P w K mg base) : CalX P w K mg base 5 "check_swaps" ["program", "swaps"] (spChkSwR K Ebs) := by
  refine D.okX scCheckSwaps (fun vs H Q E h => ?_) (fun f cdv A outer s H vs Q E hr h => ?_)
  · obtain ⟨pw, kw, pd, d, rfl, _⟩ := h
    rfl
  obtain ⟨pw, kw, pd, d, rfl, hp, hk, p60, z60, no, k⟩ := h
  refine ⟨_, (pss_one (ps_if (pt_not (pt_val (pe_cal C_is_swaps hr (by omega) rfl (pa_cons (pv 0) (pa_cons (pv 1) pa_nil))))) (pss_one (ps_raise rfl (takes_of rfl rfl rfl rfl) (pmk_own PySem.F.excBase_ValueError T.xc T.mgE T.kp (raises_own T.sb T.ty) (by exact rfl)))) pss_nil)), ?_⟩
  refine et_not (et_B (sp_isw p60 z60 (ed_var rfl hp) (ed_var rfl hk))) H (Ex.refl _) _ fun H1 e1 => ?_
  rw [no]
  exact k H1 e1
end
end Lb

set_option Elab.async false
set_option linter.all false
set_option maxRecDepth 100000
set_option maxHeartbeats 4000000
/-! behind_losses of a list of lines, run_swapped -/
namespace Lb
open PySem L2 Evl PyProof.Rows
section
variable {K : PySem.W.Frag} {σ : L2.St} {H : Hp} {tl : TE} {ds : List PyData} {D : Ends} {tu : TS} {g : TG} {a : Addr} {xs : List V}
theorem for_enL (Pv : Nat → L2.St → Hp → Prop) (h0 : Pv 0 σ H) (hG : ∀ i σ H, i ≤ xs.length → Pv i σ H → SqL K H a xs)
    (hs : ∀ i x T σ H, xs[i]? = some x → Pv i σ H → H T = none → g (.ref T) σ (L2.upd H T (.tup [.int (i : Nat), x])) fun σ2 H2 => tu { D with nx := Pv (i + 1), ct := Pv (i + 1), bk := D.nx } σ2 H2) (hd : ∀ σ H, Pv xs.length σ H → D.nx σ H) :
    ∃ W : Nat → Nat → L2.St → Hp → Prop, (∃ m, W 0 m σ H) ∧ ∀ i m σ H, W i m σ H →
      ((Ite K a).stop i H ∧ D.nx σ H) ∨ ((Ite K a).go i H ∧ ∃ N : L2.St → Hp → Prop, (∀ σ' H', N σ' H' → ∃ m', m' < m ∧ W (i + 1) m' σ' H') ∧ ∀ x H', (Ite K a).yld i H x H' → g x σ H' fun σ2 H2 => tu { D with nx := N, ct := N, bk := D.nx } σ2 H2) := by
  refine ⟨fun i m σ H => m = xs.length - i ∧ i ≤ xs.length ∧ Pv i σ H, ⟨xs.length, by simp, Nat.zero_le _, h0⟩, ?_⟩
  rintro i m σ H ⟨rfl, hi, p⟩
  have q := hG i σ H hi p
  rcases Nat.lt_or_ge i xs.length with hlt | hge
  · refine .inr ⟨⟨xs, xs[i], q, by simp [hlt]⟩, Pv (i + 1), fun σ' H' p' => ⟨xs.length - (i + 1), by omega, rfl, hlt, p'⟩, fun v H' y => ?_⟩
    obtain ⟨T, x, rfl, h2, rfl, h4⟩ := y
    exact hs i x T σ H (h4 xs q) p h2
  · have e : i = xs.length := by omega
    subst e
    exact .inl ⟨⟨xs, q, Nat.le_refl _⟩, hd σ H p⟩
theorem sd_forEL {j l : Nat} {b : Addr} (hb : Ev tl σ H (.ref b)) (hl : H b = some (.lst xs)) (al : DpAll K H xs ds)
    (k : ∀ H1, Ex H H1 → ∃ Pv : Nat → L2.St → Hp → Prop, Pv 0 σ H1 ∧ (∀ i σ' H', Pv i σ' H' → H' b = some (.lst xs)) ∧
      (∀ (i : Nat) x d T σ' H', xs[i]? = some x → ds[i]? = some d → Dp K H1 x d → Pv i σ' H' → H' T = none → tu { D with nx := Pv (i + 1), ct := Pv (i + 1), bk := D.nx } ((σ'.set j (some (.int (i : Nat)))).set l (some x)) (L2.upd H' T (.tup [.int (i : Nat), x]))) ∧
      ∀ σ' H', Pv ds.length σ' H' → D.nx σ' H') : tFor (iEnum K (tCons tl tNil)) (gTup K 2 (gCons (gName j) (gCons (gName l) gNil))) tu D σ H := hb H (Ex.refl H) _ fun H1 e => by
  obtain ⟨Pv, h0, hk, hs, hd⟩ := k H1 e
  refine ⟨b, xs, rfl, sq_of (e _ _ hl), for_enL (xs := xs) Pv h0 (fun i σ' H' _ p => sq_of (hk i σ' H' p)) (fun i x T σ' H' hi p hT => ?_) (fun σ' H' p => hd σ' H' (al.len ▸ p))⟩
  obtain ⟨d, hdi, hx⟩ := al.getV hi
  exact ⟨T, _, rfl, st_of upd_same, rfl, _, _, rfl, _, _, rfl, rfl, hs i x d T σ' H' hi hdi (dmono e _ _ hx) p hT⟩
end
section
variable {P : Program} {w : World} {K : PySem.W.Frag} {mg : Str → Option Value} {base : Heap} {C : Addr} {H H' : Hp} {s : SA} {m : Mc} {ts : List Tm} {log : List (Nat × List Nat)} {Ebs : Addr}
/-- a program without a loss, the lines in a list -/
def spBLL (P : Program) (w : World) (K : PySem.W.Frag) (C : Addr) : Sp := fun vs H Q _ => ∃ (s : SA) (m : Mc) (p : List Ln) (l : Addr) (xs : List V) (lv : V), vs = [.ref s.S, .ref l, lv] ∧ H l = some (.lst xs) ∧ NotS s l ∧ DpAll K H xs (p.map Ln.enc) ∧ Dp K H lv (natsD []) ∧ StoreAt P w K C H s m (start0 m.cells) [] ∧ m.Ok ∧ (∀ l ∈ p, Ln.Ok m l) ∧ p.length ≤ 7 ∧
  ∀ v H' ts log' hs, StoreAt P w K C H' s m ts log' → FrM s H H' → Dp K H' v (natsD hs) → Hs m ts hs → hs.map (at0 ts) = runL m p → ts.length ≤ 60 → Q v H'
abbrev CBLL (P : Program) (w : World) (K : PySem.W.Frag) (mg : Str → Option Value) (base : Heap) (C : Addr) := Cal P w K mg base 4 "behind_losses" ["store", "program", "losses"] (spBLL P w K C)
theorem ok_behind_lossesL (B : Bi mg) (T : StC K mg C) (D : Dfn K mg "behind_losses" sBehindLosses ["store", "program", "losses"]) (C_behind_line : CBLine P w K mg base C) : CBLL P w K mg base C := by
  refine D.ok scBehindLosses (fun vs H Q E h => ?_) (fun f cdv A outer sh0 H vs Q E hr h => ?_)
  · obtain ⟨s, m, p, l, xs, lv, rfl, _⟩ := h
    rfl
  obtain ⟨s, m, p, l, xs, lv, rfl, hl, nS, al, hlv, st0, mok, ok, p7, k⟩ := h
  refine ⟨_, (pss_cons (ps_set (i := 3) scBehindLosses.nd rfl (by first | exact Or.inl rfl | exact Or.inr rfl) (pe_fldK (K := K) (pv 0))) (pss_cons (ps_for PassesOwn.never rfl (pi_enum rfl B.enumerate (pa_cons (pv 1) pa_nil)) (pg_tup rfl (pgs_cons (pg_name (i := 4) scBehindLosses.nd rfl (by first | exact Or.inl rfl | exact Or.inr rfl)) (pgs_cons (pg_name (i := 5) scBehindLosses.nd rfl (by first | exact Or.inl rfl | exact Or.inr rfl)) pgs_nil))) (pss_one (ps_if (pt_cmpR op_notIn_seq (pv 4) (pv 2) (by first | exact nomark _ | rfl)) (pss_one (ps_set (i := 3) scBehindLosses.nd rfl (by first | exact Or.inl rfl | exact Or.inr rfl) (pe_cal C_behind_line hr (by omega) rfl (pa_cons (pv 0) (pa_cons (pv 3) (pa_cons (pv 5) pa_nil)))))) pss_nil))) (pss_one (ps_ret (pv 3))))), ?_⟩
  have c4 := mok.c4
  have sl : (start0 m.cells).length = m.cells := by simp [start0]
  obtain ⟨dx, fs, af, i1, i2, i3⟩ := st0.ins
  refine qd_asg (K := K) (d := natsD (List.range m.cells)) (ed_ev (ev_fldS i1 T.cl T.nA i2.a (ev_var rfl)) i3) fun hv H1 e1 hh => ?_
  refine tsqS (sd_forEL (K := K) (b := l) (xs := xs) (ds := p.map Ln.enc) (D := { nx := _, rt := _, bk := _, ct := _ }) (ev_var rfl) (e1 _ _ hl) (dmonoAll e1 _ _ al) fun H2 e2 => ⟨fun i σ' H' => ∃ hv ts log hs x4 x5, σ' = [some (.ref s.S), some (.ref l), some lv, some hv, x4, x5] ∧ StoreAt P w K C H' s m ts log ∧ ts.length ≤ m.cells + i ∧ FrM s H2 H' ∧ Dp K H' hv (natsD hs) ∧ Hs m ts hs ∧ hs.map (at0 ts) = runL m (p.take i), ?_, ?_, ?_, ?_⟩)
  · exact ⟨hv, start0 m.cells, [], List.range m.cells, none, none, rfl, st0.mono (e1.trans e2), by rw [sl]; exact Nat.le_refl _, FrM.of (Ex.refl _), dmono e2 _ _ hh, range_Hs m, range_at0 _⟩
  · rintro i σ' H' ⟨_, _, _, _, _, _, _, _, _, fr, _⟩
    exact fr _ _ ((e1.trans e2) _ _ hl) nS.t nS.d nS.n nS.x
  · rintro i x d0 T σ' H' hxi hdi hxd ⟨hv, ts, log, hs, x4, x5, rfl, st', tl, fr, hh', ho, he⟩ hT
    obtain ⟨ln, hpi, rfl⟩ : ∃ l, p[i]? = some l ∧ d0 = l.enc := by
      rw [List.getElem?_map] at hdi
      cases e : p[i]? with
      | none => rw [e] at hdi; cases hdi
      | some l => rw [e] at hdi; cases hdi; exact ⟨l, rfl, rfl⟩
    have il := (List.getElem?_eq_some_iff.mp hpi).1
    have eT := Ex.new (o := .tup [.int (i : Nat), x]) hT
    have tk : TK K H2 H' := (st0.mono (e1.trans e2)).tk fr
    have hl2 := dmono eT _ _ (tmono tk _ _ (natsD_noL _) (dmono (e1.trans e2) _ _ hlv))
    refine s_when (et_test (ev_is (ev_inT (neg := true) (i := (i : Int)) (ns := []) (ed_int (ev_var rfl)) (ed_var rfl hl2)) rfl)) (fun c H3 e3 => ?_) (fun c => nomatch c)
    have e23 := eT.trans e3
    have okt : ∀ l ∈ p.take i, Ln.Ok m l := fun l hl => ok l (List.mem_of_mem_take hl)
    refine ⟨_, rfl, _, rfl, _, rfl, s, m, ts, log, hv, x, hs, ln, rfl, dmono e23 _ _ hh', dmono e23 _ _ (tmono tk _ _ (Ln.noL ln) hxd), st'.mono e23, mok, ok ln (List.mem_of_getElem? hpi), ho, ?_, by omega, fun v H4 us log' hs' u1 st4 fr4 hv4 ho4 he4 => ?_⟩
    · rw [he]
      refine Nat.le_trans (did_dep (B := 1 + i) (by omega) (md_bound fun t ht => Nat.le_trans (runL_md mok okt t ht) (by rw [List.length_take]; omega))) (by omega)
    · refine ⟨v, ts ++ us, log', hs', _, _, rfl, st4, by rw [List.length_append]; omega, fr.trans ((FrM.of e23).trans fr4), hv4, ho4, ?_⟩
      rw [he4, he, runL_take hpi]
  · rintro σ' H' ⟨hv, ts, log, hs, x4, x5, rfl, st', tl, fr, hh', ho, he⟩
    rw [List.length_map] at he tl
    rw [List.take_length] at he
    exact sd_ret (ed_var (K := K) rfl hh') fun v H3 e3 hv3 => k v H3 ts log hs (st'.mono e3) ((FrM.of (e1.trans e2)).trans (fr.trans (FrM.of e3))) hv3 ho he (by omega)
end
end Lb

set_option Elab.async false
set_option linter.all false
set_option maxRecDepth 100000
set_option maxHeartbeats 4000000
/-! run_swapped -/
namespace Lb
open PySem L2 Evl PyProof.Rows
section
variable {P : Program} {w : World} {K : PySem.W.Frag} {mg : Str → Option Value} {base : Heap} {C : Addr} {H H' : Hp} {m : Mc} {Ebs : Addr}
def spRunSw (K : PySem.W.Frag) : Sp := fun vs H Q _ => ∃ (mv pw kw : V) (m : Mc) (p : List Ln) (ks : List Nat), vs = [mv, pw, kw] ∧ Dp K H mv m.enc ∧ Dp K H pw (progD p) ∧ Dp K H kw (natsD ks) ∧ m.Ok ∧ (∀ l ∈ p, Ln.Ok m l) ∧ p.length ≤ 7 ∧ SwOk p.length ks ∧ ks.length ≤ 60 ∧ ∀ v H', Ex H H' → Dp K H' v (encs (runL m (swL p ks))) → Q v H'
abbrev CRunSw (P : Program) (w : World) (K : PySem.W.Frag) (mg : Str → Option Value) (base : Heap) := Cal P w K mg base 6 "run_swapped" ["machine", "program", "swaps"] (spRunSw K)
theorem ed_chkSw {σ : L2.St} {ta tb : TE} {E : XK} {p : List Ln} {ks : List Nat} (p60 : p.length ≤ 60) (k60 : ks.length ≤ 60) (ok : SwOk p.length ks) (ha : EvD K ta σ H (progD p)) (hb : EvD K tb σ H (natsD ks)) : EvD K (tCall (spChkSw K) [] E (tCons ta (tCons tb tNil))) σ H .none :=
  ed_non (ev_sp (ead_cons ha (ead_cons hb ead_nil)) fun H1 vs e hvs Q q => by
    cases hvs with
    | cons h0 t0 => cases t0 with
      | cons h1 t1 => cases t1; exact ⟨_, _, p.map Ln.enc, natsD ks, rfl, h0, h1, by rw [List.length_map]; exact p60, fun ds hd => by cases hd; rw [List.length_map]; exact k60, by rw [List.length_map]; exact isSwB_iff.mpr ⟨ks, rfl, ok⟩, q⟩)
theorem ok_run_swapped (T : StC K mg C) (D : Dfn K mg "run_swapped" sRunSwapped ["machine", "program", "swaps"]) (C_check_machine : CChkM P w K mg base) (C_check_program : CChkP P w K mg base) (C_check_swaps : CChkSw P w K mg base) (M_Store : KStore P w K mg base C) (C_swapped : CSwd P w K mg base) (C_behind_losses : CBLL P w K mg base C) (M_terms : MTerms P w K mg base C) : CRunSw P w K mg base := by
  refine D.ok scRunSwapped (fun vs H Q E h => ?_) (fun f cdv A outer sh0 H vs Q E hr h => ?_)
  · obtain ⟨mv, pw, kw, m, p, ks, rfl, _⟩ := h
    rfl
  obtain ⟨mv, pw, kw, m, p, ks, rfl, hm, hp, hk, mok, ok, p7, swok, k60, k⟩ := h
  refine ⟨_, (pss_cons (ps_expr (pe_calD C_check_machine hr (by omega) rfl (pa_cons (pv 0) pa_nil))) (pss_cons (ps_expr (pe_cal C_check_program hr (by omega) rfl (pa_cons (pv 0) (pa_cons (pv 1) pa_nil)))) (pss_cons (ps_expr (pe_cal C_check_swaps hr (by omega) rfl (pa_cons (pv 1) (pa_cons (pv 2) pa_nil)))) (pss_cons (ps_set (i := 3) scRunSwapped.nd rfl (by first | exact Or.inl rfl | exact Or.inr rfl) (pe_mkC M_Store hr (by omega) rfl (pa_cons (pe_ix ix_tup (pv 0) pe_int (fun _ _ => rfl)) pa_nil))) (pss_one (ps_ret (pe_mtC M_terms hr (by omega) (pv 3) (pa_cons (pe_cal C_behind_losses hr (by omega) rfl (pa_cons (pv 3) (pa_cons (pe_cal C_swapped hr (by omega) rfl (pa_cons (pv 1) (pa_cons (pv 2) pa_nil))) (pa_cons (pe_tup pa_nil) pa_nil)))) pa_nil)))))))), ?_⟩
  have c4 := mok.c4
  refine qd_drop (K := K) (ed_chkM mok (ed_var rfl hm)) fun H1 e1 => ?_
  refine qd_drop (K := K) (ed_chkP mok ok (by omega) (ed_var rfl (dmono e1 _ _ hm)) (ed_var rfl (dmono e1 _ _ hp))) fun H2 e2 => ?_
  have e12 := e1.trans e2
  refine qd_drop (K := K) (ed_chkSw (by omega) k60 swok (ed_var rfl (dmono e12 _ _ hp)) (ed_var rfl (dmono e12 _ _ hk))) fun H3 e3 => ?_
  have e13 := e12.trans e3
  refine q_store mok.c4 (ev_cells (ed_var rfl (dmono e13 _ _ hm))) fun s H4 st4 new e4 => ?_
  have e14 := e13.trans e4
  obtain ⟨dx, fs, af, i1, i2, _⟩ := st4.ins
  refine ⟨_, rfl, s.S, dx, fs, rfl, i1, i2.m2, _, rfl, _, rfl, _, rfl, pw, kw, p, ks, rfl, dmono e14 _ _ hp, dmono e14 _ _ hk, by omega, swok.1, fun l xs H5 hln e5 hl al => ?_⟩
  have nS := st4.notS hln
  refine ⟨by show 0 ≤ sizeLine; exact Nat.zero_le _, fun q hq => ?_⟩
  have en := Ex.new (o := .tup []) hq
  have e45 := e5.trans en
  refine ⟨s, m, swL p ks, l, xs, .ref q, rfl, en _ _ hl, nS, dmonoAll en _ _ al, .tup (st_of upd_same) .nil, st4.mono e45, mok, swL_ok ks p ok, by rw [swL_len]; exact p7, fun v H6 ts log' hs st6 fr6 hv ho he tz => ?_⟩
  obtain ⟨dx2, fs2, af2, j1, j2, _⟩ := st6.ins
  obtain ⟨ys, t1, t2⟩ := st6.tms
  refine ⟨s.S, dx2, s.tl, v, fs2, ys, ts, hs, rfl, j1, j2.t, t1, t2, .inl hv, ho.lt, by rw [ho.len]; omega, fun v' H7 e7 hv' => k v' H7 ?_ ?_⟩
  · exact e13.trans ((FrM.ex new (e4.trans e45) fr6).trans e7)
  · rw [← he]
    exact hv'
def spRunSwR (K : PySem.W.Frag) (Ebs : Addr) : Sp := fun vs H _ E => ∃ (mv pw kw : V) (m : Mc) (p : List Ln) (d : PyData), vs = [mv, pw, kw] ∧ Dp K H mv m.enc ∧ Dp K H pw (progD p) ∧ Dp K H kw d ∧ m.Ok ∧ (∀ l ∈ p, Ln.Ok m l) ∧ p.length ≤ 7 ∧ isSwB p.length (some d) = false ∧ (∀ ds, d = .tuple ds → ds.length ≤ 60) ∧ ∀ H', Ex H H' → E (.ref Ebs) none H'
theorem ok_run_swappedR (T : StC K mg C) (D : Dfn K mg "run_swapped" sRunSwapped ["machine", "program", "swaps"]) (C_check_machine : CChkM P w K mg base) (C_check_program : CChkP P w K mg base) (C_check_swaps : CalX P w K mg base 5 "check_swaps" ["program", "swaps"] (spChkSwR K Ebs)) (M_Store : KStore P w K mg base C) (C_swapped : CSwd P w K mg base) (C_behind_losses : CBLL P w K mg base C) (M_terms : MTerms P w K mg base C) : CalX P w K mg base 6 "run_swapped" ["machine", "program", "swaps"] (spRunSwR K Ebs) := by
  refine D.okX scRunSwapped (fun vs H Q E h => ?_) (fun f cdv A outer sh0 H vs Q E hr h => ?_)
  · obtain ⟨mv, pw, kw, m, p, d, rfl, _⟩ := h
    rfl
  obtain ⟨mv, pw, kw, m, p, d, rfl, hm, hp, hk, mok, ok, p7, no, z60, k⟩ := h
  refine ⟨_, (pss_cons (ps_expr (pe_calD C_check_machine hr (by omega) rfl (pa_cons (pv 0) pa_nil))) (pss_cons (ps_expr (pe_cal C_check_program hr (by omega) rfl (pa_cons (pv 0) (pa_cons (pv 1) pa_nil)))) (pss_cons (ps_expr (pe_calX C_check_swaps (takes_of rfl rfl rfl rfl) hr (by omega) rfl (pa_cons (pv 1) (pa_cons (pv 2) pa_nil)))) (pss_cons (ps_set (i := 3) scRunSwapped.nd rfl (by first | exact Or.inl rfl | exact Or.inr rfl) (pe_mkC M_Store hr (by omega) rfl (pa_cons (pe_ix ix_tup (pv 0) pe_int (fun _ _ => rfl)) pa_nil))) (pss_one (ps_ret (pe_mtC M_terms hr (by omega) (pv 3) (pa_cons (pe_cal C_behind_losses hr (by omega) rfl (pa_cons (pv 3) (pa_cons (pe_cal C_swapped hr (by omega) rfl (pa_cons (pv 1) (pa_cons (pv 2) pa_nil))) (pa_cons (pe_tup pa_nil) pa_nil)))) pa_nil)))))))), ?_⟩
  refine qd_drop (K := K) (ed_chkM mok (ed_var rfl hm)) fun H1 e1 => ?_
  refine qd_drop (K := K) (ed_chkP mok ok (by omega) (ed_var rfl (dmono e1 _ _ hm)) (ed_var rfl (dmono e1 _ _ hp))) fun H2 e2 => ?_
  have e12 := e1.trans e2
  exact ⟨_, rfl, _, rfl, pw, kw, p.map Ln.enc, d, rfl, dmono e12 _ _ hp, dmono e12 _ _ hk, by rw [List.length_map]; omega, z60, by rw [List.length_map]; exact no, fun H3 e3 => k H3 (e12.trans e3)⟩
end
end Lb

set_option Elab.async false
set_option linter.all false
set_option maxRecDepth 100000
set_option maxHeartbeats 4000000
namespace Lb
open PySem L2 Evl PyProof.Rows
/-! ### pairs with losses: what is held, how many lines were lost last, the losses kept for it -/
structure P3 where
  hs : List Tm
  t : Nat
  ls : List Nat
def P3.same (x y : P3) : Prop := x.hs = y.hs ∧ x.t = y.t
instance (x y : P3) : Decidable (P3.same x y) := inferInstanceAs (Decidable (_ ∧ _))
theorem P3.same_symm {x y : P3} (h : x.same y) : y.same x := ⟨h.1.symm, h.2.symm⟩
theorem P3.same_trans {x y z : P3} (h : x.same y) (k : y.same z) : x.same z := ⟨h.1.trans k.1, h.2.trans k.2⟩
/-- the first for a key -/
def find3 (pm : List P3) (x : P3) : Option P3 := pm.find? fun y => decide (y.same x)
/-- what keep_shorter leaves -/
def keep3 (pm : List P3) (x : P3) : List P3 := match find3 pm x with
  | none => pm ++ [x]
  | some y => if x.ls.length < y.ls.length then pm.map (fun z => if z.same x then ⟨z.hs, z.t, x.ls⟩ else z) else pm
/-- the shortest of all that may be -/
structure Best (pm : List P3) (Cd : P3 → Prop) : Prop where
  is : ∀ x ∈ pm, Cd x ∧ ∀ y, Cd y → y.same x → x.ls.length ≤ y.ls.length
  all : ∀ y, Cd y → ∃ x ∈ pm, x.same y
theorem Best.iff {pm : List P3} {Cd Cd' : P3 → Prop} (h : Best pm Cd) (e : ∀ x, Cd x ↔ Cd' x) : Best pm Cd' :=
  ⟨fun x hx => ⟨(e x).mp (h.is x hx).1, fun y hy s => (h.is x hx).2 y ((e y).mpr hy) s⟩, fun y hy => h.all y ((e y).mpr hy)⟩
theorem find3_some {pm : List P3} {x y : P3} (h : find3 pm x = some y) : y ∈ pm ∧ y.same x := by
  unfold find3 at h
  have := List.find?_some h
  exact ⟨List.mem_of_find?_eq_some h, by simpa using this⟩
theorem find3_none {pm : List P3} {x : P3} (h : find3 pm x = none) : ∀ y ∈ pm, ¬ y.same x := fun y hy => by
  have := List.find?_eq_none.mp h y hy
  simpa using this
theorem Best.keep {pm : List P3} {Cd : P3 → Prop} (h : Best pm Cd) (x : P3) : Best (keep3 pm x) fun y => Cd y ∨ y = x := by
  unfold keep3
  cases e : find3 pm x with
  | none =>
    have no := find3_none e
    refine ⟨fun z hz => ?_, fun y hy => ?_⟩
    · rcases List.mem_append.mp hz with hz2 | hz2
      · obtain ⟨h1, h2⟩ := h.is z hz2
        refine ⟨.inl h1, fun y hy s => ?_⟩
        rcases hy with hy | rfl
        · exact h2 y hy s
        · exact absurd (P3.same_symm s) (no z hz2)
      · rw [List.mem_singleton.mp hz2]
        refine ⟨.inr rfl, fun y hy s => ?_⟩
        rcases hy with hy | rfl
        · obtain ⟨w, hw, sw⟩ := h.all y hy
          exact absurd (P3.same_trans sw s) (no w hw)
        · exact Nat.le_refl _
    · rcases hy with hy | rfl
      · obtain ⟨w, hw, sw⟩ := h.all y hy
        exact ⟨w, List.mem_append_left _ hw, sw⟩
      · exact ⟨_, List.mem_append_right _ (List.mem_singleton_self _), rfl, rfl⟩
  | some v =>
    obtain ⟨vm, vs⟩ := find3_some e
    obtain ⟨v1, v2⟩ := h.is v vm
    dsimp only
    by_cases c : x.ls.length < v.ls.length
    · rw [if_pos c]
      refine ⟨fun z hz => ?_, fun y hy => ?_⟩
      · obtain ⟨w, hw, rfl⟩ := List.mem_map.mp hz
        by_cases s : w.same x
        · rw [if_pos s]
          refine ⟨.inr (by obtain ⟨a, b, d⟩ := x; obtain ⟨s1, s2⟩ := s; cases s1; cases s2; rfl), fun y hy sy => ?_⟩
          show x.ls.length ≤ y.ls.length
          rcases hy with hy | rfl
          · have := v2 y hy (P3.same_trans (⟨sy.1, sy.2⟩ : y.same w) (P3.same_trans s (P3.same_symm vs)))
            omega
          · exact Nat.le_refl _
        · rw [if_neg s]
          obtain ⟨h1, h2⟩ := h.is w hw
          refine ⟨.inl h1, fun y hy sy => ?_⟩
          rcases hy with hy | rfl
          · exact h2 y hy sy
          · exact absurd (P3.same_symm sy) s
      · have key : ∃ w ∈ pm, w.same y := by
          rcases hy with hy | rfl
          · exact h.all y hy
          · exact ⟨v, vm, vs⟩
        obtain ⟨w, hw, sw⟩ := key
        refine ⟨_, List.mem_map.mpr ⟨w, hw, rfl⟩, ?_⟩
        split
        · exact sw
        · exact sw
    · rw [if_neg c]
      refine ⟨fun z hz => ?_, fun y hy => ?_⟩
      · obtain ⟨h1, h2⟩ := h.is z hz
        refine ⟨.inl h1, fun y hy s => ?_⟩
        rcases hy with hy | rfl
        · exact h2 y hy s
        · have := h2 v v1 (P3.same_trans vs s)
          omega
      · rcases hy with hy | rfl
        · exact h.all y hy
        · exact ⟨v, vm, vs⟩
/-- one line: each pair goes on twice -/
def turn3 (many i : Nat) (go : List Tm → List Tm) (acc : List P3) (x : P3) : List P3 :=
  let acc := keep3 acc ⟨go x.hs, 0, x.ls⟩
  if x.t < many then keep3 acc ⟨x.hs, x.t + 1, x.ls ++ [i]⟩ else acc
def line3 (many i : Nat) (go : List Tm → List Tm) (pm : List P3) : List P3 := pm.foldl (turn3 many i go) []
def from3 (many i : Nat) (go : List Tm → List Tm) (x y : P3) : Prop := y = ⟨go x.hs, 0, x.ls⟩ ∨ (x.t < many ∧ y = ⟨x.hs, x.t + 1, x.ls ++ [i]⟩)
theorem turn3_best {many i : Nat} {go : List Tm → List Tm} {acc : List P3} {Cd : P3 → Prop} (h : Best acc Cd) (x : P3) : Best (turn3 many i go acc x) fun y => Cd y ∨ from3 many i go x y := by
  unfold turn3
  have h1 := h.keep ⟨go x.hs, 0, x.ls⟩
  by_cases c : x.t < many
  · simp only [if_pos c]
    refine (h1.keep ⟨x.hs, x.t + 1, x.ls ++ [i]⟩).iff fun y => ?_
    unfold from3
    constructor
    · rintro ((a | a) | a)
      · exact .inl a
      · exact .inr (.inl a)
      · exact .inr (.inr ⟨c, a⟩)
    · rintro (a | a | ⟨_, a⟩)
      · exact .inl (.inl a)
      · exact .inl (.inr a)
      · exact .inr a
  · simp only [if_neg c]
    refine h1.iff fun y => ?_
    unfold from3
    constructor
    · rintro (a | a)
      · exact .inl a
      · exact .inr (.inl a)
    · rintro (a | a | ⟨c2, a⟩)
      · exact .inl a
      · exact .inr a
      · exact absurd c2 c
theorem line3_best {many i : Nat} {go : List Tm → List Tm} : ∀ (pm acc : List P3) (Cd : P3 → Prop), Best acc Cd → Best (pm.foldl (turn3 many i go) acc) fun y => Cd y ∨ ∃ x ∈ pm, from3 many i go x y
  | [], acc, Cd, h => h.iff fun y => ⟨fun a => .inl a, fun a => a.elim id fun ⟨_, hx, _⟩ => by cases hx⟩
  | x :: pm, acc, Cd, h => by
    rw [List.foldl_cons]
    refine (line3_best pm _ _ (turn3_best h x)).iff fun y => ?_
    constructor
    · rintro ((a | a) | ⟨z, hz, a⟩)
      · exact .inl a
      · exact .inr ⟨x, List.mem_cons_self, a⟩
      · exact .inr ⟨z, List.mem_cons_of_mem _ hz, a⟩
    · rintro (a | ⟨z, hz, a⟩)
      · exact .inl (.inl a)
      · rcases List.mem_cons.mp hz with rfl | hz
        · exact .inl (.inr a)
        · exact .inr ⟨z, hz, a⟩
/-- the shortest of the shortest -/
theorem line3_all {many i : Nat} {go : List Tm → List Tm} {pm : List P3} {Cd : P3 → Prop} (h : Best pm Cd) : Best (line3 many i go pm) fun y => ∃ x, Cd x ∧ from3 many i go x y := by
  have b := line3_best (many := many) (i := i) (go := go) pm [] (fun _ => False) ⟨fun x hx => (by cases hx), fun y hy => hy.elim⟩
  -- a candidate of any is matched by one of the kept
  have lift : ∀ y, (∃ x, Cd x ∧ from3 many i go x y) → ∃ z, (∃ x ∈ pm, from3 many i go x z) ∧ z.same y ∧ z.ls.length ≤ y.ls.length := by
    rintro y ⟨x, hx, f⟩
    obtain ⟨k, hk, s⟩ := h.all x hx
    have le := (h.is k hk).2 x hx (P3.same_symm s)
    rcases f with rfl | ⟨c, rfl⟩
    · exact ⟨_, ⟨k, hk, .inl rfl⟩, ⟨by show go k.hs = go x.hs; rw [s.1], rfl⟩, le⟩
    · exact ⟨_, ⟨k, hk, .inr ⟨by rw [s.2]; exact c, rfl⟩⟩, ⟨s.1, by show k.t + 1 = x.t + 1; rw [s.2]⟩, by simp; exact le⟩
  refine ⟨fun x hx => ?_, fun y hy => ?_⟩
  · obtain ⟨h1, h2⟩ := b.is x hx
    rcases h1 with h1 | ⟨k, hk, f⟩
    · exact h1.elim
    · refine ⟨⟨k, (h.is k hk).1, f⟩, fun y hy s => ?_⟩
      obtain ⟨z, hz, sz, lz⟩ := lift y hy
      have := h2 z (.inr hz) (P3.same_trans sz s)
      omega
  · obtain ⟨z, hz, sz, _⟩ := lift y hy
    obtain ⟨w, hw, sw⟩ := b.all z (.inr hz)
    exact ⟨w, hw, P3.same_trans sw sz⟩
end Lb

set_option Elab.async false
set_option linter.all false
set_option maxRecDepth 100000
set_option maxHeartbeats 4000000
/-! fewer numbers kept: a dict from what the cells hold -/
namespace Lb
open PySem L2 Evl PyProof.Rows
def kW (hs : List Nat) : List NI := hs.map fun n : Nat => .inl (.inl (n : Int))
def shW (m : Mc) : List Bool := List.replicate m.cells true
theorem kW_D (hs : List Nat) : keyD (kW hs) = natsD hs := by
  unfold keyD kW natsD
  rw [List.map_map]
  rfl
theorem kW_sh {m : Mc} {hs : List Nat} (h : hs.length = m.cells) : (kW hs).map isKey = shW m := by
  unfold kW shW
  rw [List.map_map, ← h]
  exact List.map_eq_replicate_iff.mpr fun x _ => rfl
theorem kW_inj : ∀ {a b : List Nat}, kW a = kW b → a = b
  | [], [], _ => rfl
  | [], _ :: _, e => by simp [kW] at e
  | _ :: _, [], e => by simp [kW] at e
  | x :: a, y :: b, e => by
    unfold kW at e
    rw [List.map_cons, List.map_cons, List.cons.injEq] at e
    have e1 : (x : Int) = (y : Int) := Sum.inl.inj (Sum.inl.inj e.1)
    rw [kW_inj (a := a) (b := b) e.2, show x = y by omega]
section
variable {P : Program} {w : World} {K : PySem.W.Frag} {mg : Str → Option Value} {base : Heap} {C : Addr} {H H' : Hp} {s : SA} {m : Mc} {ts : List Tm} {log : List (Nat × List Nat)}
def M5 (K : PySem.W.Frag) (m : Mc) (ts : List Tm) (H : Hp) (e : List NI × V) (x : P3) : Prop := ∃ hs, e.1 = kW hs ∧ Hs m ts hs ∧ hs.map (at0 ts) = x.hs ∧ x.t = 0 ∧ Dp K H e.2 (natsD x.ls)
abbrev Pr5 (K : PySem.W.Frag) (m : Mc) (ts : List Tm) (H : Hp) (kvs : List (List NI × V)) (pm : List P3) : Prop := Paired (M5 K m ts H) kvs pm
theorem Pr5.tk {kvs : List (List NI × V)} {pm : List P3} (h : Pr5 K m ts H kvs pm) (e : TK K H H') (us : List Tm) : Pr5 K m (ts ++ us) H' kvs pm := Paired.mapP h fun a b ⟨hs, h1, h2, h3, h0, h4⟩ => ⟨hs, h1, h2.app, by rw [at0_map h2.lt]; exact h3, h0, tmono e _ _ (natsD_noL _) h4⟩
theorem Pr5.tk0 {kvs : List (List NI × V)} {pm : List P3} (h : Pr5 K m ts H kvs pm) (e : TK K H H') : Pr5 K m ts H' kvs pm := by
  have := h.tk e []
  rw [List.append_nil] at this
  exact this
theorem kW_same {x y : P3} {hx hy : List Nat} (nd : ts.Nodup) (x1 : Hs m ts hx) (x2 : hx.map (at0 ts) = x.hs) (y1 : Hs m ts hy) (y2 : hy.map (at0 ts) = y.hs) (xt : x.t = 0) (yt : y.t = 0) : kW hy = kW hx ↔ y.same x :=
  ⟨fun h => ⟨by rw [← x2, ← y2, kW_inj h], by rw [xt, yt]⟩, fun h => by rw [at0_maps_inj nd y1.lt x1.lt (by rw [x2, y2]; exact h.1)]⟩
theorem pr5_find (x : P3) {hx : List Nat} (nd : ts.Nodup) (x1 : Hs m ts hx) (x2 : hx.map (at0 ts) = x.hs) (xt : x.t = 0) : ∀ {kvs : List (List NI × V)} {pm : List P3}, Pr5 K m ts H kvs pm → (find3 pm x = none ∧ valV kvs (kW hx) = none) ∨ ∃ y v, find3 pm x = some y ∧ valV kvs (kW hx) = some v ∧ Dp K H v (natsD y.ls)
  | _, _, .nil => .inl ⟨rfl, rfl⟩
  | e :: kvs, z :: pm, .cons h t => by
    obtain ⟨hz, z1, z2, z3, z0, z4⟩ := h
    have sm := kW_same nd x1 x2 z2 z3 xt z0
    by_cases q : z.same x
    · refine .inr ⟨z, e.2, ?_, valV_pos (z1.trans (sm.mpr q)), z4⟩
      unfold find3
      rw [List.find?_cons, decide_eq_true q]
    · have q2 : ¬ e.1 = kW hx := fun a => q (sm.mp (z1.symm.trans a))
      have e3 : find3 (z :: pm) x = find3 pm x := by
        unfold find3
        rw [List.find?_cons, decide_eq_false q]
      rw [e3, valV_neg q2]
      exact pr5_find x nd x1 x2 xt t
theorem pr5_map (x : P3) {hx : List Nat} (nd : ts.Nodup) (x1 : Hs m ts hx) (x2 : hx.map (at0 ts) = x.hs) (xt : x.t = 0) {lv : V} (hl : Dp K H lv (natsD x.ls)) : ∀ {kvs : List (List NI × V)} {pm : List P3}, Pr5 K m ts H kvs pm → Pr5 K m ts H (kvs.map fun kv => if kv.1 = kW hx then (kv.1, lv) else kv) (pm.map fun z => if z.same x then ⟨z.hs, z.t, x.ls⟩ else z)
  | _, _, .nil => .nil
  | e :: kvs, z :: pm, .cons h t => by
    rw [List.map_cons, List.map_cons]
    refine .cons ?_ (pr5_map x nd x1 x2 xt hl t)
    obtain ⟨hz, z1, z2, z3, z0, z4⟩ := h
    have sm := kW_same nd x1 x2 z2 z3 xt z0
    by_cases q : z.same x
    · rw [if_pos q, if_pos (z1.trans (sm.mpr q))]
      exact ⟨hz, z1, z2, z3, z0, hl⟩
    · rw [if_neg q, if_neg fun a => q (sm.mp (z1.symm.trans a))]
      exact ⟨hz, z1, z2, z3, z0, z4⟩
def spKeep5 (P : Program) (w : World) (K : PySem.W.Frag) : Sp := fun vs H Q _ => ∃ (d : Addr) (kvs : List (List NI × V)) (pv lv : V) (x : P3) (pm : List P3) (m : Mc) (ts : List Tm) (hx : List Nat), ts.Nodup ∧ Hs m ts hx ∧ hx.map (at0 ts) = x.hs ∧ x.t = 0 ∧ vs = [.ref d, pv, lv] ∧ NDictW P w K (shW m) H d kvs ∧ Dp K H pv (keyD (kW hx)) ∧ Dp K H lv (natsD x.ls) ∧ kvs.length < 50000 ∧ Pr5 K m ts H kvs pm ∧
  ∀ H' kvs', ExB d H H' → NDictW P w K (shW m) H' d kvs' → Pr5 K m ts H' kvs' (keep3 pm x) → Q .non H'
abbrev CKeep5 (P : Program) (w : World) (K : PySem.W.Frag) (mg : Str → Option Value) (base : Heap) := Cal P w K mg base 1 "keep_fewer" ["found", "key", "numbers"] (spKeep5 P w K)
theorem ok_keep5 (B : Bi mg) (D : Dfn K mg "keep_fewer" sKeepFewer ["found", "key", "numbers"]) : CKeep5 P w K mg base := by
  refine D.ok scKeepFewer (fun vs H Q E h => ?_) (fun f cdv A outer sh0 H vs Q E hr h => ?_)
  · obtain ⟨d, kvs, pv, lv, x, pm, m, ts, hx, _, _, _, _, rfl, _⟩ := h
    rfl
  obtain ⟨d, kvs, pw, lv, x, pm, m, ts, hx, nod, x1, x2, xt, rfl, hd, hp, hl, hz, hpr, k⟩ := h
  have hu := (show (A.deeper (envOfC "keep_fewer" (defScope sKeepFewer) sh0.heap.objs.size f cdv)).units + 4 < cLine by have := hr.un; omega)
  refine ⟨_, (pss_one (ps_if (PW.pt (pw_or (pt_cmp (pc_dnotinN hu (pv 1) (pv 0))) (pw_or1 (pt_cmpR op_lt (pe_callB call_lenq (by rfl) B.len PySem.boot_len (pa_cons (pv 2) pa_nil)) (pe_callB call_lenq (by rfl) B.len PySem.boot_len (pa_cons (pe_dgetN hu (pv 0) (pv 1) (fun _ _ => rfl)) pa_nil)) (by first | exact nomark _ | rfl))))) (pss_one (ps_dputN hu (pv 0) (pv 1) (pv 2) rfl)) pss_nil)), ?_⟩
  have hs : (kW hx).map isKey = shW m := kW_sh x1.len
  have put : ∀ {H1 : Hp}, Ex H H1 → (∀ H2, TK K H H2 → Pr5 K m ts H2 (putK kvs (kW hx) lv) (keep3 pm x)) → sNPut P w K (tVar 0) (tVar 1) (tVar 2) { nx := fun _ H' => Q .non H', rt := Q } [some (.ref d), some pw, some lv] H1 := fun {H1} e1 hq =>
    s_nput (hd.mono e1) hs (ev_var rfl) (ev_var rfl) (ed_var rfl (dmono e1 _ _ hp)) (by omega) fun H2 e2 n2 => k H2 _ ((ExB.of e1).trans e2) n2 (hq H2 (((ExB.of e1).trans e2).tk hd.noTup))
  rcases pr5_find x nod x1 x2 xt hpr with ⟨f1, f2⟩ | ⟨y, v, f1, f2, f3⟩
  · have hq : ∀ H2, TK K H H2 → Pr5 K m ts H2 (putK kvs (kW hx) lv) (keep3 pm x) := fun H2 tk => by
      unfold putK keep3
      rw [f1, valV_any, f2]
      exact Paired.snoc (hpr.tk0 tk) ⟨hx, rfl, x1, x2, xt, tmono tk _ _ (natsD_noL _) hl⟩
    refine s_when (et_or (b := false) (et_test (ev_nin hd hs (ed_var rfl hp) (ev_var rfl))) fun z => by rw [f2] at z; cases z) (fun _ H1 e1 => put e1 hq) (fun z => by rw [f2] at z; cases z)
  · refine s_when (et_or (et_test (ev_nin hd hs (ed_var rfl hp) (ev_var rfl))) fun _ => et_test (ev_op (ev_lenT (ed_var rfl hl)) (ev_lenT (ed_ev (ev_nget hd hs (ed_var rfl hp) (ev_var rfl) f2) f3)) rv_I0)) (fun c H1 e1 => ?_) (fun c H1 e1 => ?_)
    · have lt : x.ls.length < y.ls.length := by
        rw [f2] at c
        rw [List.length_map, List.length_map] at c
        simpa using c
      refine put e1 fun H2 tk => ?_
      unfold putK keep3
      rw [f1, valV_any, f2]
      dsimp only
      rw [if_pos lt]
      exact pr5_map x nod x1 x2 xt (tmono tk _ _ (natsD_noL _) hl) (hpr.tk0 tk)
    · have nlt : ¬ x.ls.length < y.ls.length := by
        rw [f2] at c
        rw [List.length_map, List.length_map] at c
        simpa using c
      refine k H1 kvs (ExB.of e1) (hd.mono e1) ?_
      unfold keep3
      rw [f1]
      dsimp only
      rw [if_neg nlt]
      exact hpr.tk0 (TK.of e1)
end
end Lb

set_option Elab.async false
set_option linter.all false
set_option maxRecDepth 100000
set_option maxHeartbeats 4000000
/-! what can come if lines change places: the mathematics -/
namespace Lb
open PySem L2 Evl PyProof.Rows
/-- kept in turn -/
theorem Best.fold {Cd0 : P3 → Prop} (f : P3 → P3) : ∀ (L : List P3) {acc : List P3}, Best acc Cd0 → Best (L.foldl (fun acc x => keep3 acc (f x)) acc) fun y => Cd0 y ∨ ∃ x ∈ L, y = f x
  | [], acc, h => h.iff fun y => ⟨.inl, fun z => by
      rcases z with z | ⟨x, hx, _⟩
      · exact z
      · cases hx⟩
  | x :: L, acc, h => (Best.fold f L (h.keep (f x))).iff fun y => by
      constructor
      · rintro ((h | rfl) | ⟨z, hz, rfl⟩)
        · exact .inl h
        · exact .inr ⟨x, List.mem_cons_self, rfl⟩
        · exact .inr ⟨z, List.mem_cons_of_mem _ hz, rfl⟩
      · rintro (h | ⟨z, hz, rfl⟩)
        · exact .inl (.inl h)
        · rcases List.mem_cons.mp hz with rfl | hz
          · exact .inl (.inr rfl)
          · exact .inr ⟨z, hz, rfl⟩
/-- the best of the best are the best of all -/
theorem Best.lift {Cd0 Cd : P3 → Prop} {L acc : List P3} {f : P3 → P3} (hL : Best L Cd) (fs : ∀ x y, x.same y → (f x).same (f y)) (fl : ∀ x y, x.ls.length ≤ y.ls.length → (f x).ls.length ≤ (f y).ls.length) (h : Best acc fun y => Cd0 y ∨ ∃ x ∈ L, y = f x) : Best acc fun y => Cd0 y ∨ ∃ x, Cd x ∧ y = f x := by
  refine ⟨fun z hz => ?_, fun y hy => ?_⟩
  · obtain ⟨h1, h2⟩ := h.is z hz
    refine ⟨?_, fun y hy s => ?_⟩
    · rcases h1 with h1 | ⟨x, hx, e⟩
      · exact .inl h1
      · exact .inr ⟨x, (hL.is x hx).1, e⟩
    · rcases hy with hy | ⟨x, hx, rfl⟩
      · exact h2 y (.inl hy) s
      · obtain ⟨x', m', s'⟩ := hL.all x hx
        have a := h2 (f x') (.inr ⟨x', m', rfl⟩) (P3.same_trans (fs _ _ s') s)
        exact Nat.le_trans a (fl _ _ ((hL.is x' m').2 x hx (P3.same_symm s')))
  · rcases hy with hy | ⟨x, hx, rfl⟩
    · exact h.all y (.inl hy)
    · obtain ⟨x', m', s'⟩ := hL.all x hx
      obtain ⟨w, hw, sw⟩ := h.all (f x') (.inr ⟨x', m', rfl⟩)
      exact ⟨w, hw, P3.same_trans sw (fs _ _ s')⟩
def goA (l : Ln) (x : P3) : P3 := ⟨did x.hs l, 0, x.ls⟩
def goB (l l' : Ln) (i : Nat) (x : P3) : P3 := ⟨did (did x.hs l) l', 0, x.ls ++ [i]⟩
def lnAt (p : List Ln) (i : Nat) : Ln := p.getD i ⟨0, none, []⟩
/-- behind so many lines, and behind one line less -/
def pm5 (m : Mc) (p : List Ln) : Nat → List P3 × List P3
  | 0 => ([], [⟨start0 m.cells, 0, []⟩])
  | i + 1 => ((pm5 m p i).2, (pm5 m p i).1.foldl (fun acc x => keep3 acc (goB (lnAt p i) (lnAt p (i - 1)) (i - 1) x)) ((pm5 m p i).2.foldl (fun acc x => keep3 acc (goA (lnAt p i) x)) []))
/-- all that can come, with its swaps -/
def Cd5 (m : Mc) (p : List Ln) (i : Nat) (y : P3) : Prop := y.t = 0 ∧ SwOk i y.ls ∧ y.hs = runL m (swL (p.take i) y.ls)
theorem sw1_app {p q : List Ln} {k : Nat} (h : k + 1 < p.length) : sw1 (p ++ q) k = sw1 p k ++ q := by
  have h1 : p[k]? = some p[k] := List.getElem?_eq_getElem (by omega)
  have h2 : p[k + 1]? = some p[k + 1] := List.getElem?_eq_getElem h
  unfold sw1
  rw [List.getElem?_append_left (by omega), List.getElem?_append_left h, h1, h2]
  dsimp only
  rw [List.set_append_left _ _ (by omega), List.set_append_left _ _ (by rw [List.length_set]; exact h)]
theorem swL_app {q : List Ln} : ∀ {ks : List Nat} {p : List Ln}, (∀ k ∈ ks, k + 1 < p.length) → swL (p ++ q) ks = swL p ks ++ q
  | [], p, _ => rfl
  | k :: ks, p, h => by
    show swL (sw1 (p ++ q) k) ks = swL (sw1 p k) ks ++ q
    rw [sw1_app (h k List.mem_cons_self)]
    exact swL_app fun x hx => by rw [sw1_len]; exact h x (List.mem_cons_of_mem _ hx)
theorem swL_snoc (p : List Ln) (ks : List Nat) (k : Nat) : swL p (ks ++ [k]) = sw1 (swL p ks) k := by
  unfold swL
  rw [List.foldl_append]
  rfl
theorem sw1_last (q : List Ln) (a b : Ln) : sw1 (q ++ [a, b]) q.length = q ++ [b, a] := by
  have h1 : (q ++ [a, b])[q.length]? = some a := by simp
  have h2 : (q ++ [a, b])[q.length + 1]? = some b := by
    rw [List.getElem?_append_right (by omega), show q.length + 1 - q.length = 1 by omega]
    rfl
  unfold sw1
  rw [h1, h2]
  dsimp only
  rw [List.set_append_right _ _ (Nat.le_refl _), Nat.sub_self]
  show (q ++ [b, b]).set (q.length + 1) a = _
  rw [List.set_append_right _ _ (by omega), show q.length + 1 - q.length = 1 by omega]
  rfl
theorem runL_snoc (m : Mc) (p : List Ln) (l : Ln) : runL m (p ++ [l]) = did (runL m p) l := by
  unfold runL
  rw [List.foldl_append]
  rfl
theorem take_at {p : List Ln} {i : Nat} (h : i < p.length) : p.take (i + 1) = p.take i ++ [lnAt p i] := by
  rw [List.take_succ, List.getElem?_eq_getElem h]
  unfold lnAt
  rw [List.getD_eq_getElem?_getD, List.getElem?_eq_getElem h]
  rfl
/-- the last line stays, or the last two change places -/
theorem swok_succ {i : Nat} {ks : List Nat} : SwOk (i + 1) ks ↔ SwOk i ks ∨ ∃ ks', ks = ks' ++ [i - 1] ∧ 1 ≤ i ∧ SwOk (i - 1) ks' := by
  constructor
  · rintro ⟨h1, h2⟩
    by_cases c : ∃ ks', ks = ks' ++ [i - 1] ∧ 1 ≤ i
    · obtain ⟨ks', rfl, hi⟩ := c
      refine .inr ⟨ks', rfl, hi, fun k hk => ?_, fun j a b ha hb => h2 j a b ?_ ?_⟩
      · obtain ⟨j, hj, e⟩ := List.mem_iff_getElem.mp hk
        -- the gap to the last one
        have gap : ∀ d j, j + d + 1 = ks'.length → ∀ a, ks'[j]? = some a → a + 1 < i - 1 := by
          intro d
          induction d with
          | zero =>
            intro j hj a ha
            exact h2 j a (i - 1) (by rw [List.getElem?_append_left (by omega)]; exact ha) (by rw [List.getElem?_append_right (by omega), show j + 1 - ks'.length = 0 by omega]; rfl)
          | succ d ih =>
            intro j hj a ha
            have hb : ks'[j + 1]? = some (ks'[j + 1]'(by omega)) := List.getElem?_eq_getElem (by omega)
            have x1 := ih (j + 1) (by omega) _ hb
            have x2 := h2 j a _ (by rw [List.getElem?_append_left (by omega)]; exact ha) (by rw [List.getElem?_append_left (by omega)]; exact hb)
            omega
        exact gap (ks'.length - 1 - j) j (by omega) k (by rw [List.getElem?_eq_getElem hj, e])
      · rw [List.getElem?_append_left (List.getElem?_eq_some_iff.mp ha).1]
        exact ha
      · rw [List.getElem?_append_left (List.getElem?_eq_some_iff.mp hb).1]
        exact hb
    · refine .inl ⟨fun k hk => ?_, h2⟩
      have hk1 := h1 k hk
      -- were one k + 1 = i, it would be the last
      by_cases e : k + 1 < i
      · exact e
      · exfalso
        have ke : k = i - 1 := by omega
        have i1 : 1 ≤ i := by omega
        obtain ⟨j, hj, ej⟩ := List.mem_iff_getElem.mp hk
        have last : j + 1 = ks.length := by
          by_cases q : j + 1 < ks.length
          · have x1 := h2 j k (ks[j + 1]) (by rw [List.getElem?_eq_getElem hj, ej]) (List.getElem?_eq_getElem q)
            have x2 := h1 _ (List.getElem_mem q)
            omega
          · omega
        refine c ⟨ks.dropLast, ?_, i1⟩
        have ne : ks ≠ [] := fun z => by rw [z] at hk; cases hk
        have d := List.dropLast_concat_getLast ne
        have gl : ks.getLast ne = i - 1 := by
          rw [List.getLast_eq_getElem, ← ke, ← ej]
          congr 1
          omega
        rw [gl] at d
        exact d.symm
  · rintro (⟨h1, h2⟩ | ⟨ks', rfl, hi, h1, h2⟩)
    · exact ⟨fun k hk => by have := h1 k hk; omega, h2⟩
    · refine ⟨fun k hk => ?_, fun j a b ha hb => ?_⟩
      · rcases List.mem_append.mp hk with h | h
        · have := h1 k h
          omega
        · rw [List.mem_singleton.mp h]
          omega
      · have jl := (List.getElem?_eq_some_iff.mp hb).1
        rw [List.length_append, List.length_singleton] at jl
        have ha' : ks'[j]? = some a := by rw [← ha, List.getElem?_append_left (by omega)]
        rcases Nat.lt_or_ge (j + 1) ks'.length with q | q
        · exact h2 j a b ha' (by rw [← hb, List.getElem?_append_left q])
        · have e1 : j + 1 = ks'.length := by omega
          rw [List.getElem?_append_right (by omega), show j + 1 - ks'.length = 0 by omega] at hb
          cases hb
          have := h1 a (List.mem_of_getElem? ha')
          omega
theorem cd5_succ {m : Mc} {p : List Ln} {i : Nat} (hi : i < p.length) {y : P3} : Cd5 m p (i + 1) y ↔ (∃ x, Cd5 m p i x ∧ y = goA (lnAt p i) x) ∨ 1 ≤ i ∧ ∃ x, Cd5 m p (i - 1) x ∧ y = goB (lnAt p i) (lnAt p (i - 1)) (i - 1) x := by
  have tl : ∀ n, n ≤ p.length → (p.take n).length = n := fun n hn => by rw [List.length_take]; omega
  unfold Cd5
  rw [swok_succ, take_at hi]
  have A : ∀ ks, SwOk i ks → runL m (swL (p.take i ++ [lnAt p i]) ks) = did (runL m (swL (p.take i) ks)) (lnAt p i) := fun ks h => by
    rw [swL_app (fun k hk => by rw [tl i (by omega)]; exact h.1 k hk), runL_snoc]
  have B : ∀ ks, 1 ≤ i → SwOk (i - 1) ks → runL m (swL (p.take i ++ [lnAt p i]) (ks ++ [i - 1])) = did (did (runL m (swL (p.take (i - 1)) ks)) (lnAt p i)) (lnAt p (i - 1)) := fun ks i1 h => by
    obtain ⟨j, rfl⟩ : ∃ j, i = j + 1 := ⟨i - 1, by omega⟩
    rw [show j + 1 - 1 = j from rfl] at h ⊢
    rw [take_at (i := j) (by omega), swL_snoc, List.append_assoc, swL_app (fun k hk => by rw [tl j (by omega)]; exact h.1 k hk)]
    have ln : (swL (p.take j) ks).length = j := by rw [swL_len, tl j (by omega)]
    have e : sw1 (swL (p.take j) ks ++ ([lnAt p j] ++ [lnAt p (j + 1)])) j = swL (p.take j) ks ++ [lnAt p (j + 1)] ++ [lnAt p j] := by
      have q := sw1_last (swL (p.take j) ks) (lnAt p j) (lnAt p (j + 1))
      rw [ln] at q
      rw [List.append_assoc]
      exact q
    rw [e, runL_snoc, runL_snoc]
  obtain ⟨yh, yt, yl⟩ := y
  dsimp only
  constructor
  · rintro ⟨h1, h | ⟨ks', h2, i1, h⟩, h3⟩
    · subst h1
      exact .inl ⟨⟨runL m (swL (p.take i) yl), 0, yl⟩, ⟨rfl, h, rfl⟩, by rw [h3, A yl h]; rfl⟩
    · subst h1
      subst h2
      exact .inr ⟨i1, ⟨runL m (swL (p.take (i - 1)) ks'), 0, ks'⟩, ⟨rfl, h, rfl⟩, by rw [h3, B ks' i1 h]; rfl⟩
  · rintro (⟨x, ⟨h1, h, h3⟩, e⟩ | ⟨i1, x, ⟨h1, h, h3⟩, e⟩)
    · unfold goA at e
      cases e
      exact ⟨rfl, .inl h, by rw [A _ h, h3]⟩
    · unfold goB at e
      cases e
      exact ⟨rfl, .inr ⟨_, rfl, i1, h⟩, by rw [B _ i1 h, h3]⟩
theorem pm5_best {m : Mc} {p : List Ln} : ∀ i, i ≤ p.length → Best (pm5 m p i).2 (Cd5 m p i) ∧ ((1 ≤ i → Best (pm5 m p i).1 (Cd5 m p (i - 1))) ∧ (i = 0 → (pm5 m p i).1 = []))
  | 0, _ => by
    refine ⟨⟨fun x hx => ?_, fun y hy => ⟨_, List.mem_singleton_self _, ?_⟩⟩, fun h => by omega, fun _ => rfl⟩
    · rw [List.mem_singleton.mp hx]
      exact ⟨⟨rfl, ⟨(fun k hk => by cases hk), (fun j a b ha _ => by cases ha)⟩, rfl⟩, fun y hy _ => Nat.zero_le _⟩
    · obtain ⟨h1, h2, h3⟩ := hy
      have e : y.ls = [] := by
        cases q : y.ls with
        | nil => rfl
        | cons k ks => have := h2.1 k (by rw [q]; exact List.mem_cons_self); omega
      rw [e] at h3
      exact ⟨h3.symm, h1.symm⟩
  | i + 1, hi => by
    obtain ⟨a, b1, b0⟩ := pm5_best (m := m) (p := p) i (by omega)
    refine ⟨?_, fun _ => a, fun z => by cases z⟩
    have s1 : ∀ (l : Ln) (x y : P3), x.same y → (goA l x).same (goA l y) := fun l x y h => ⟨by show did x.hs l = did y.hs l; rw [h.1], rfl⟩
    have s2 : ∀ (l l' : Ln) (n : Nat) (x y : P3), x.same y → (goB l l' n x).same (goB l l' n y) := fun l l' n x y h => ⟨by show did (did x.hs l) l' = did (did y.hs l) l'; rw [h.1], rfl⟩
    have l2 : ∀ (l l' : Ln) (n : Nat) (x y : P3), x.ls.length ≤ y.ls.length → (goB l l' n x).ls.length ≤ (goB l l' n y).ls.length := fun l l' n x y h => by
      show (x.ls ++ [n]).length ≤ (y.ls ++ [n]).length
      rw [List.length_append, List.length_append]
      exact Nat.add_le_add_right h _
    have e0 : Best ([] : List P3) fun _ => False := ⟨(fun x hx => by cases hx), (fun y hy => False.elim hy)⟩
    have stA := (Best.fold (goA (lnAt p i)) (pm5 m p i).2 e0)
    have stA' := Best.lift (Cd0 := fun _ => False) a (s1 (lnAt p i)) (fun x y h => h) stA
    rcases Nat.eq_zero_or_pos i with z | i1
    · subst z
      have n0 := b0 rfl
      refine Best.iff (Cd := fun y => False ∨ ∃ x, Cd5 m p 0 x ∧ y = goA (lnAt p 0) x) ?_ fun y => ?_
      · exact stA'
      · rw [cd5_succ (by omega)]
        constructor
        · rintro (h | h)
          · exact h.elim
          · exact .inl h
        · rintro (h | ⟨h, _⟩)
          · exact .inr h
          · omega
    · have stB := Best.fold (goB (lnAt p i) (lnAt p (i - 1)) (i - 1)) (pm5 m p i).1 stA'
      have stB' := Best.lift (b1 i1) (s2 _ _ _) (l2 _ _ _) stB
      refine stB'.iff fun y => ?_
      rw [cd5_succ (by omega)]
      constructor
      · rintro ((h | h) | h)
        · exact h.elim
        · exact .inl h
        · exact .inr ⟨i1, h⟩
      · rintro (h | ⟨_, h⟩)
        · exact .inl (.inr h)
        · exact .inr h
end Lb

set_option Elab.async false
set_option linter.all false
set_option maxRecDepth 100000
set_option maxHeartbeats 4000000
/-! swapped_rows -/
namespace Lb
open PySem L2 Evl PyProof.Rows
theorem keep3_len (pm : List P3) (x : P3) : (keep3 pm x).length ≤ pm.length + 1 := by
  unfold keep3
  split
  · simp
  · split <;> simp
theorem swok_len {n : Nat} {ks : List Nat} (h : SwOk n ks) : ks.length ≤ n := by
  have ge : ∀ (j a : Nat), ks[j]? = some a → j ≤ a := by
    intro j
    induction j with
    | zero => intro a _; exact Nat.zero_le _
    | succ j ih =>
      intro a ha
      have jl := (List.getElem?_eq_some_iff.mp ha).1
      have hb : ks[j]? = some ks[j] := List.getElem?_eq_getElem (by omega)
      have := ih _ hb
      have := h.2 j _ _ hb ha
      omega
  rcases Nat.eq_zero_or_pos ks.length with z | z
  · omega
  · have hb : ks[ks.length - 1]? = some (ks[ks.length - 1]'(by omega)) := List.getElem?_eq_getElem (by omega)
    have := ge _ _ hb
    have := h.1 _ (List.getElem_mem (by omega : ks.length - 1 < ks.length))
    omega
theorem fold3_len (f : P3 → P3) : ∀ (L acc : List P3), (L.foldl (fun acc x => keep3 acc (f x)) acc).length ≤ acc.length + L.length
  | [], acc => Nat.le_refl _
  | x :: L, acc => by
    have a := fold3_len f L (keep3 acc (f x))
    have b := keep3_len acc (f x)
    rw [List.length_cons]
    exact Nat.le_trans a (by omega)
theorem pm5_len (m : Mc) (p : List Ln) : ∀ i, (pm5 m p i).2.length ≤ 2 ^ i ∧ (pm5 m p i).1.length ≤ 2 ^ i
  | 0 => ⟨Nat.le_refl _, Nat.zero_le _⟩
  | i + 1 => by
    obtain ⟨a, b⟩ := pm5_len m p i
    refine ⟨?_, Nat.le_trans a (Nat.pow_le_pow_right (by decide) (by omega))⟩
    have c := fold3_len (goB (lnAt p i) (lnAt p (i - 1)) (i - 1)) (pm5 m p i).1 ((pm5 m p i).2.foldl (fun acc x => keep3 acc (goA (lnAt p i) x)) [])
    have d := fold3_len (goA (lnAt p i)) (pm5 m p i).2 []
    rw [Nat.pow_succ]
    rw [List.length_nil] at d
    exact Nat.le_trans c (by omega)
section
variable {P : Program} {w : World} {K : PySem.W.Frag} {mg : Str → Option Value} {base : Heap} {C : Addr} {H H' : Hp} {s : SA} {m : Mc} {ts : List Tm} {log : List (Nat × List Nat)}
theorem take_foldl5 {α β : Type} (f : β → α → β) (b : β) {l : List α} {j : Nat} {x : α} (h : l[j]? = some x) : (l.take (j + 1)).foldl f b = f ((l.take j).foldl f b) x := by
  rw [List.take_succ, h, List.foldl_append]
  rfl
/-- a walk over what has come: each kept, one's own way, in what is found -/
theorem walk5 {f : P3 → P3} {jd : Nat} {d fa : Addr} {kvs kf : List (List NI × V)} {L acc : List P3} {body : TS} {D : Ends} {σ : Option V → Option V → Option V → L2.St}
    (hset : ∀ a b c x y, ((σ a b c).set 7 (some x)).set 8 (some y) = σ (some x) (some y) c) (hj : ∀ a b c, (σ a b c)[jd]? = some (some (.ref d)))
    (st : StoreAt P w K C H s m ts log) (hd : NDict P w K (shW m) H d kvs) (po : Pr5 K m ts H kvs L) (nS : NotS s d) (dS : d ≠ s.S) (hf : NDictW P w K (shW m) H fa kf) (pf : Pr5 K m ts H kf acc) (fS : NotS s fa) (fnS : fa ≠ s.S) (fd : fa ≠ d)
    (hb : ∀ (x : P3) (hs : List Nat) (v7 v8 : V) (c : Option V) (us : List Tm) (log' : List (Nat × List Nat)) (kf' : List (List NI × V)) (acc' : List P3) (H1 : Hp) (j : Nat), L[j]? = some x → us.length ≤ 2 * j → TK K H H1 → StoreAt P w K C H1 s m (ts ++ us) log' → NDictW P w K (shW m) H1 fa kf' → Pr5 K m (ts ++ us) H1 kf' acc' → kf'.length ≤ kf.length + j → Hs m (ts ++ us) hs → hs.map (at0 (ts ++ us)) = x.hs → x.t = 0 → Dp K H1 v7 (natsD hs) → Dp K H1 v8 (natsD x.ls) →
      ∀ Dn : L2.St → Hp → Prop, (∀ us2 log2 kf2 c' H2, us2.length ≤ 2 → StoreAt P w K C H2 s m (ts ++ us ++ us2) log2 → FrD s fa H1 H2 → TK K H1 H2 → NDictW P w K (shW m) H2 fa kf2 → Pr5 K m (ts ++ us ++ us2) H2 kf2 (keep3 acc' (f x)) → Dn (σ (some v7) (some v8) c') H2) → body { nx := Dn, rt := D.rt, bk := D.nx, ct := Dn } (σ (some v7) (some v8) c) H1)
    {a b c : Option V} (k : ∀ us log' kf' a b c H1 H2, ExB d H H1 → us.length ≤ 2 * kvs.length → StoreAt P w K C H2 s m (ts ++ us) log' → FrD s fa H1 H2 → TK K H1 H2 → NDict P w K (shW m) H2 d kvs → NDictW P w K (shW m) H2 fa kf' → Pr5 K m (ts ++ us) H2 kf' (L.foldl (fun acc x => keep3 acc (f x)) acc) → D.nx (σ a b c) H2) :
    tFor (iNI P w K (tVar jd)) (gTup K 2 (gCons (gName 7) (gCons (gName 8) gNil))) body D (σ a b c) H := by
  have kpl : kvs.length = L.length := Paired.length po
  refine sd_forIN (K := K) (kvs := kvs) (d := d) (ev_var (hj _ _ _)) hd fun H2 od xs e2 nd2 lk => ⟨fun j σ' H' => ∃ us log' kf' a b c, σ' = σ a b c ∧ us.length ≤ 2 * j ∧ StoreAt P w K C H' s m (ts ++ us) log' ∧ FrD s fa H2 H' ∧ TK K H2 H' ∧ NDictW P w K (shW m) H' fa kf' ∧ kf'.length ≤ kf.length + j ∧ Pr5 K m (ts ++ us) H' kf' ((L.take j).foldl (fun acc x => keep3 acc (f x)) acc), ?_, ?_, ?_, ?_⟩
  · have tk2 : TK K H H2 := e2.tk hd.noTup
    exact ⟨[], log, kf, a, b, c, rfl, Nat.zero_le _, by rw [List.append_nil]; exact st.exB nS dS e2 tk2, fun b o h _ _ => h, TK.refl _, hf.keep tk2 fun o ho => e2 _ _ ho fd, Nat.le_refl _, by rw [List.append_nil]; exact pf.tk0 tk2⟩
  · rintro j σ' H' ⟨us, log', kf', a, b, c, _, _, _, fr, tk, _⟩
    exact ⟨fr _ _ lk nS (Ne.symm fd), tk⟩
  · rintro j kv y T σ' H' hkv hy ⟨us, log', kf', a, b, c, rfl, hus, st', fr, tk, nf', hkf, po'⟩ hT
    have tk2 : TK K H H2 := e2.tk hd.noTup
    have hjl := (List.getElem?_eq_some_iff.mp hkv).1
    have hx : L[j]? = some (L[j]'(by omega)) := List.getElem?_eq_getElem (by omega)
    obtain ⟨hs, k1, k2, k3, k0, k4⟩ := paired_at po hkv hx
    have fold := take_foldl5 (fun acc x => keep3 acc (f x)) acc hx
    revert k1 k3 k0 k4 hx fold
    generalize L[j]'(by omega) = x
    intro hx k1 k3 k0 k4 fold
    have en := Ex.new (o := .tup [y, kv.2]) hT
    have tkT : TK K H (L2.upd H' T (.tup [y, kv.2])) := (tk2.trans tk).trans (TK.of en)
    rw [k1, kW_D] at hy
    refine ⟨T, _, rfl, st_of upd_same, rfl, _, _, rfl, _, _, rfl, rfl, ?_⟩
    rw [hset]
    refine hb x hs y kv.2 c us log' kf' _ _ j hx hus tkT (st'.mono en) (nf'.mono en) (po'.tk0 (TK.of en)) hkf k2.app (by rw [at0_map k2.lt, k3]) k0 (dmono en _ _ hy) (tmono tkT _ _ (natsD_noL _) k4) _ fun us2 log2 kf2 c' H3 u2 st3 fr3 tk3 nf3 po3 => ?_
    refine ⟨us ++ us2, log2, kf2, _, _, c', rfl, by rw [List.length_append]; omega, by rw [← List.append_assoc]; exact st3, (fr.trans (FrD.of en)).trans fr3, (tk.trans (TK.of en)).trans tk3, nf3, ?_, ?_⟩
    · rw [Paired.length po3]
      have := keep3_len ((L.take j).foldl (fun acc x => keep3 acc (f x)) acc) (f x)
      rw [← Paired.length po'] at this
      omega
    · rw [← List.append_assoc, fold]
      exact po3
  · rintro σ' H' ⟨us, log', kf', a, b, c, rfl, hus, st', fr, tk, nf', hkf, po'⟩
    rw [kpl, List.take_length] at po'
    refine k us log' kf' a b c H2 H' e2 hus st' fr tk (nd2.keep tk fun o ho => ?_) nf' po'
    rw [show H2 d = _ from lk] at ho
    cases ho
    exact fr _ _ lk nS (Ne.symm fd)
def spWithin (P : Program) (w : World) (K : PySem.W.Frag) : Sp := fun vs H Q _ => ∃ (d : Addr) (sh : List Bool) (kvs : List (List NI × V)), vs = [.ref d] ∧ NDictW P w K sh H d kvs ∧ kvs.length ≤ 3000 ∧ ∀ H', Ex H H' → Q (.ref d) H'
abbrev CWithin (P : Program) (w : World) (K : PySem.W.Frag) (mg : Str → Option Value) (base : Heap) := Cal P w K mg base 1 "within_most_pairs" ["found"] (spWithin P w K)
theorem ok_within_most_pairs (B : Bi mg) (G : Gs mg) (D : Dfn K mg "within_most_pairs" sWithinMostPairs ["found"]) : CWithin P w K mg base := by
  refine D.ok scWithinMostPairs (fun vs H Q E h => ?_) (fun f cdv A outer sh0 H vs Q E hr h => ?_)
  · obtain ⟨d, sh, kvs, rfl, _⟩ := h
    rfl
  obtain ⟨d, sh, kvs, rfl, nd, hz, k⟩ := h
  refine ⟨_, (pss_cons (ps_if (pt_cmpR op_gt (pe_callB call_lenN (by rfl) B.len PySem.boot_len (pa_cons (pv 0) pa_nil)) (pe_gi G.MOST_PAIRS) (by first | exact nomark _ | rfl)) (pss_one ps_never) pss_nil) (pss_one (ps_ret (pv 0)))), ?_⟩
  refine qd_pass (et_test (ev_op (ev_lenN nd (ev_var rfl)) ev_c rv_I0)) (decide_eq_false (by omega)) fun H1 e1 => ?_
  exact s_ret (ev_var rfl) fun H2 e2 => k H2 (e1.trans e2)
def spRowsS (P : Program) (w : World) (K : PySem.W.Frag) (C : Addr) : Sp := fun vs H Q _ => ∃ (s : SA) (m : Mc) (p : List Ln) (pw : V), vs = [.ref s.S, pw] ∧ Dp K H pw (progD p) ∧ StoreAt P w K C H s m (start0 m.cells) [] ∧ m.Ok ∧ (∀ l ∈ p, Ln.Ok m l) ∧ p.length ≤ 7 ∧
  ∀ d H' ts log kvs rm, StoreAt P w K C H' s m ts log → ts.length ≤ 1100 → FrM s H H' → NDict P w K (shW m) H' d kvs → NotS s d → d ≠ s.S → H d = none → Pr5 K m ts H' kvs rm → Best rm (Cd5 m p p.length) → kvs.length ≤ 128 → Q (.ref d) H'
abbrev CRowsS (P : Program) (w : World) (K : PySem.W.Frag) (mg : Str → Option Value) (base : Heap) (C : Addr) := Cal P w K mg base 4 "swapped_rows" ["store", "program"] (spRowsS P w K C)
theorem ok_swapped_rows (B : Bi mg) (T : StC K mg C) (D : Dfn K mg "swapped_rows" sSwappedRows ["store", "program"]) (C_keep_fewer : CKeep5 P w K mg base) (C_within_most_pairs : CWithin P w K mg base) (C_behind_line : CBLine P w K mg base C) : CRowsS P w K mg base C := by
  refine D.ok scSwappedRows (fun vs H Q E h => ?_) (fun f cdv A outer sh0 H vs Q E hr h => ?_)
  · obtain ⟨s, m, p, pw, rfl, _⟩ := h
    rfl
  obtain ⟨s, m, p, pw, rfl, hp, st0, mok, ok, p7, k⟩ := h
  have hu := (show (A.deeper (envOfC "swapped_rows" (defScope sSwappedRows) sh0.heap.objs.size f cdv)).units + 4 < cLine by have := hr.un; omega)
  refine ⟨_, (pss_cons (ps_set (i := 2) scSwappedRows.nd rfl (by first | exact Or.inl rfl | exact Or.inr rfl) (pe_dnewN (shW m))) (pss_cons (ps_set (i := 3) scSwappedRows.nd rfl (by first | exact Or.inl rfl | exact Or.inr rfl) (pe_disp1N (shW m) hu (pe_fldK (K := K) (pv 0)) (pe_tup pa_nil))) (pss_cons (ps_for PassesOwn.never rfl (pi_enumT rfl B.enumerate (pa_cons (pv 1) pa_nil)) (pg_tup rfl (pgs_cons (pg_name (i := 4) scSwappedRows.nd rfl (by first | exact Or.inl rfl | exact Or.inr rfl)) (pgs_cons (pg_name (i := 5) scSwappedRows.nd rfl (by first | exact Or.inl rfl | exact Or.inr rfl)) pgs_nil))) (pss_cons (ps_set (i := 6) scSwappedRows.nd rfl (by first | exact Or.inl rfl | exact Or.inr rfl) (pe_dnewN (shW m))) (pss_cons (ps_for PassesOwn.never rfl (pi_itemsN (pv 3)) (pg_tup rfl (pgs_cons (pg_name (i := 7) scSwappedRows.nd rfl (by first | exact Or.inl rfl | exact Or.inr rfl)) (pgs_cons (pg_name (i := 8) scSwappedRows.nd rfl (by first | exact Or.inl rfl | exact Or.inr rfl)) pgs_nil))) (pss_one (ps_expr (pe_cal C_keep_fewer hr (by omega) rfl (pa_cons (pv 6) (pa_cons (pe_cal C_behind_line hr (by omega) rfl (pa_cons (pv 0) (pa_cons (pv 7) (pa_cons (pv 5) pa_nil)))) (pa_cons (pv 8) pa_nil))))))) (pss_cons (ps_for PassesOwn.never rfl (pi_itemsN (pv 2)) (pg_tup rfl (pgs_cons (pg_name (i := 7) scSwappedRows.nd rfl (by first | exact Or.inl rfl | exact Or.inr rfl)) (pgs_cons (pg_name (i := 8) scSwappedRows.nd rfl (by first | exact Or.inl rfl | exact Or.inr rfl)) pgs_nil))) (pss_cons (ps_set (i := 9) scSwappedRows.nd rfl (by first | exact Or.inl rfl | exact Or.inr rfl) (pe_cal C_behind_line hr (by omega) rfl (pa_cons (pv 0) (pa_cons (pe_cal C_behind_line hr (by omega) rfl (pa_cons (pv 0) (pa_cons (pv 7) (pa_cons (pv 5) pa_nil)))) (pa_cons (pe_ix ix_tup (pv 1) (pe_op op_sub (pv 4) pe_int) (fun _ _ => rfl)) pa_nil))))) (pss_one (ps_expr (pe_cal C_keep_fewer hr (by omega) rfl (pa_cons (pv 6) (pa_cons (pv 9) (pa_cons (pe_op op_catA (pv 8) (pe_tup (pa_cons (pe_op op_sub (pv 4) pe_int) pa_nil))) pa_nil)))))))) (pss_cons (ps_set (i := 2) scSwappedRows.nd rfl (by first | exact Or.inl rfl | exact Or.inr rfl) (pv 3)) (pss_one (ps_set (i := 3) scSwappedRows.nd rfl (by first | exact Or.inl rfl | exact Or.inr rfl) (pe_cal C_within_most_pairs hr (by omega) rfl (pa_cons (pv 6) pa_nil))))))))) (pss_one (ps_ret (pv 3)))))), ?_⟩
  have c4 := mok.c4
  have sl : (start0 m.cells).length = m.cells := by simp [start0]
  refine fun db H1 fb e1 nb => ?_
  have st1 := st0.mono e1
  obtain ⟨dx0, fs0, af0, iS0, _, _⟩ := st0.ins
  refine fun dr H2 fr2 e2 nr => ?_
  have st2 := st1.mono e2
  obtain ⟨dx, fs, af, i1, i2, i3⟩ := st2.ins
  refine ev_fldS i1 T.cl T.nA i2.a (ev_var rfl) H2 (Ex.refl _) _ fun H3 e3 => ⟨by show 0 ≤ sizeLine; exact Nat.zero_le _, fun q hq => ?_⟩
  have en := Ex.new (o := .tup []) hq
  have e34 := e3.trans en
  have frr : H dr = none := none_ex' e1 fr2
  have nbd : db ≠ dr := by
    obtain ⟨_, xs, h1, _⟩ := nb
    intro z
    rw [← z, h1] at fr2
    cases fr2
  have nSb : NotS s db := st0.notS fb
  have nSr : NotS s dr := st0.notS frr
  have bS : db ≠ s.S := ne_of_none' fb iS0
  have rS : dr ≠ s.S := ne_of_none' frr iS0
  refine ⟨nr.mono e34, kW (List.range m.cells), ?_, kW_sh (by simp), fun H5 e5 n5 => ?_⟩
  · rw [kW_D]
    exact dmono e34 _ _ i3
  have n4 := nr.mono e34
  have tk5 : TK K H H5 := (TK.of (e1.trans (e2.trans e34))).trans (e5.tk n4.noTup)
  have st5 : StoreAt P w K C H5 s m (start0 m.cells) [] := (st2.mono e34).exB nSr rS e5 (e5.tk n4.noTup)
  have nb5 : NDict P w K (shW m) H5 db [] := ((nb.mono e2).mono e34).rd.keep (e5.tk n4.noTup) fun o ho => e5 _ _ ho nbd
  have N5 : ∀ b o, H b = some o → NotS s b → H5 b = some o := fun b o hb _ => e5 _ _ (e34 _ _ (e2 _ _ (e1 _ _ hb))) (ne_of_none hb frr)
  have p5 : Pr5 K m (start0 m.cells) H5 [(kW (List.range m.cells), .ref q)] (pm5 m p 0).2 := .cons ⟨List.range m.cells, rfl, range_Hs m, range_at0 _, rfl, by
    have q5 := e5 _ _ (show (L2.upd H3 q (.tup [])) q = _ from upd_same) (fun z => by
      obtain ⟨_, xs, h1, _⟩ := nr.mono e3
      rw [← z, hq] at h1
      cases h1)
    exact .tup (st_of q5) .nil⟩ .nil
  dsimp only
  have hp5 := tmono tk5 _ _ (progD_noL p) hp
  refine tsqS (sd_forE (K := K) (ds := p.map Ln.enc) (D := { nx := _, rt := _, bk := _, ct := _ }) (ed_var rfl hp5) fun H6 a xs e6 sq al => ⟨fun i σ' H' => ∃ ts log db dr kb kr x4 x5 x6 x7 x8 x9, σ' = [some (.ref s.S), some pw, some (.ref db), some (.ref dr), x4, x5, x6, x7, x8, x9] ∧ StoreAt P w K C H' s m ts log ∧ ts.length ≤ 4 + 4 * 2 ^ i ∧ i ≤ p.length ∧ TK K H6 H' ∧ (∀ b o, H b = some o → NotS s b → H' b = some o) ∧ H db = none ∧ H dr = none ∧ NotS s db ∧ NotS s dr ∧ db ≠ s.S ∧ dr ≠ s.S ∧ db ≠ dr ∧ NDict P w K (shW m) H' db kb ∧ NDict P w K (shW m) H' dr kr ∧ Pr5 K m ts H' kb (pm5 m p i).1 ∧ Pr5 K m ts H' kr (pm5 m p i).2, ?_, ?_, ?_, ?_⟩)
  · exact ⟨start0 m.cells, [], db, dr, [], _, none, none, none, none, none, none, rfl, st5.mono e6, by rw [sl]; omega, Nat.zero_le _, TK.refl _, fun b o hb hn => e6 _ _ (N5 b o hb hn), fb, frr, nSb, nSr, bS, rS, nbd, nb5.mono e6, n5.rd.mono e6, .nil, p5.tk0 (TK.of e6)⟩
  · rintro i σ' H' ⟨ts, log, db, dr, kb, kr, x4, x5, x6, x7, x8, x9, _, _, _, _, tk, _⟩
    exact tk
  · rintro i x d0 T σ' H' hxi hdi hxd ⟨ts, log, db, dr, kb, kr, x4, x5, x6, x7, x8, x9, rfl, st', tl, ip, tk, N, hdb, hdr, nSb, nSr, bS, rS, nbd, hb', hr', pb, pr⟩ hT
    obtain ⟨l, hpi, rfl⟩ : ∃ l, p[i]? = some l ∧ d0 = l.enc := by
      rw [List.getElem?_map] at hdi
      cases e : p[i]? with
      | none => rw [e] at hdi; cases hdi
      | some l => rw [e] at hdi; cases hdi; exact ⟨l, rfl, rfl⟩
    have il := (List.getElem?_eq_some_iff.mp hpi).1
    have lE : lnAt p i = l := by unfold lnAt; rw [List.getD_eq_getElem?_getD, hpi]; rfl
    have lok := ok l (List.mem_of_getElem? hpi)
    obtain ⟨bestR, best1, best0⟩ := pm5_best (m := m) (p := p) i (by omega)
    obtain ⟨lenR, lenB⟩ := pm5_len m p i
    have pw2 : 2 ^ i ≤ 2 ^ 6 := Nat.pow_le_pow_right (by decide) (by omega)
    have krl : kr.length = (pm5 m p i).2.length := Paired.length pr
    have kbl : kb.length = (pm5 m p i).1.length := Paired.length pb
    have mdR : ∀ n x, n ≤ p.length → Cd5 m p n x → md x.hs ≤ 1 + n ∧ x.ls.length ≤ 60 ∧ x.t = 0 := fun n x hn h => by
      obtain ⟨h1, h2, h3⟩ := h
      rw [h3]
      refine ⟨md_bound fun t ht => Nat.le_trans (runL_md mok (swL_ok _ _ fun l hl => ok l (List.mem_of_mem_take hl)) t ht) (by rw [swL_len, List.length_take]; omega), Nat.le_trans (swok_len h2) (by omega), h1⟩
    have eT := Ex.new (o := .tup [.int (i : Nat), x]) hT
    refine fun fa H7 ff e7 nf => ?_
    have eT7 := eT.trans e7
    have fH : H fa = none := by
      cases h0 : H fa with
      | none => rfl
      | some o =>
        by_cases hn : NotS s fa
        · have := eT7.trans (Ex.refl _) |> fun _ => eT _ _ (N _ _ h0 hn)
          rw [ff] at this
          cases this
        · exact absurd (st'.mono eT |>.notS ff) hn
    have fS : NotS s fa := (st'.mono eT).notS ff
    have fnS : fa ≠ s.S := by
      obtain ⟨_, _, _, iS, _, _⟩ := (st'.mono eT).ins
      exact ne_of_none' ff iS
    have fr_ : fa ≠ dr := by
      obtain ⟨_, xs, h1, _⟩ := hr'.mono eT
      rcases h1 with h1 | ⟨o, h1⟩ <;> exact ne_of_none' ff h1
    have fb_ : fa ≠ db := by
      obtain ⟨_, xs, h1, _⟩ := hb'.mono eT
      rcases h1 with h1 | ⟨o, h1⟩ <;> exact ne_of_none' ff h1
    have hl7 : Dp K H7 x l.enc := dmono eT7 _ _ (tmono tk _ _ (Ln.noL l) hxd)
    have hp7 : Dp K H7 pw (progD p) := dmono eT7 _ _ (tmono tk _ _ (progD_noL p) (dmono e6 _ _ hp5))
    dsimp only
    refine tsqS (walk5 (K := K) (jd := 3) (f := goA (lnAt p i)) (L := (pm5 m p i).2) (acc := []) (σ := fun a b c => [some (.ref s.S), some pw, some (.ref db), some (.ref dr), some (.int (i : Nat)), some x, some (.ref fa), a, b, c]) (fun _ _ _ _ _ => rfl) (fun _ _ _ => rfl) (st'.mono eT7) (hr'.mono eT7) (pr.tk0 (TK.of eT7)) nSr rS nf .nil fS fnS fr_ ?_ ?_)
    · intro y hs v7 v8 c us log' kf' acc' H8 j hy u2 tk8 st8 nf8 po8 kl8 ho he yt hv7 hv8 Dn kn
      obtain ⟨c1, _⟩ := bestR.is y (List.mem_of_getElem? hy)
      obtain ⟨m1, m2, m3⟩ := mdR i y (by omega) c1
      have jl := (List.getElem?_eq_some_iff.mp hy).1
      refine ⟨_, rfl, _, rfl, _, rfl, _, rfl, s, m, ts ++ us, log', v7, x, hs, l, rfl, hv7, tmono tk8 _ _ (Ln.noL l) hl7, st8, mok, lok, ho, by rw [he]; exact Nat.le_trans (did_dep (by omega) m1) (by omega), by rw [List.length_append]; omega, fun v H9 us2 log2 hs' u1 st9 fr9 hv9 ho9 he9 => ?_⟩
      have tk9 := st8.tk fr9
      refine ⟨_, rfl, fa, kf', v, v8, goA (lnAt p i) y, acc', m, ts ++ us ++ us2, hs', st9.inv.nod, ho9, by rw [he9, he, lE]; rfl, rfl, rfl, nf8.keep tk9 fun o hoo => fr9 _ _ hoo fS.t fS.d fS.n fS.x, by rw [kW_D]; exact hv9, tmono tk9 _ _ (natsD_noL _) hv8, by have : kf'.length ≤ 0 + j := kl8; omega, po8.tk tk9 us2, fun H10 kf2 e10 n10 po10 => ?_⟩
      have tk10 : TK K H9 H10 := e10.tk (nf8.keep tk9 fun o hoo => fr9 _ _ hoo fS.t fS.d fS.n fS.x).noTup
      exact kn us2 log2 kf2 c H10 (by omega) (st9.exB fS fnS e10 tk10) ((FrD.m fr9).trans (FrD.b e10)) (tk9.trans tk10) n10 po10
    · intro us log' kf' a b c H8 H9 e8 ul st9 fr9 tk9 hr9 nf9 po9
      dsimp only
      have tk8 : TK K H7 H8 := e8.tk (hr'.mono eT7).noTup
      have tk79 := tk8.trans tk9
      have hb9 : NDict P w K (shW m) H9 db kb := (hb'.mono eT7).keep tk79 fun o ho => fr9 _ _ (e8 _ _ ho nbd) nSb (Ne.symm fb_)
      refine tsqS (walk5 (K := K) (jd := 2) (f := goB (lnAt p i) (lnAt p (i - 1)) (i - 1)) (L := (pm5 m p i).1) (acc := _) (σ := fun a b c => [some (.ref s.S), some pw, some (.ref db), some (.ref dr), some (.int (i : Nat)), some x, some (.ref fa), a, b, c]) (fun _ _ _ _ _ => rfl) (fun _ _ _ => rfl) st9 hb9 (pb.tk ((TK.of eT7).trans tk79) us) nSb bS nf9 po9 fS fnS fb_ ?_ ?_)
      · intro y hs v7 v8 c us3 log3 kf3 acc' H10 j hy u2 tk10 st10 nf10 po10 kl10 ho he yt hv7 hv8 Dn kn
        have jl := (List.getElem?_eq_some_iff.mp hy).1
        have i1 : 1 ≤ i := by
          rcases Nat.eq_zero_or_pos i with z | z
          · rw [best0 z] at hy
            cases hy
          · exact z
        obtain ⟨c1, _⟩ := (best1 i1).is y (List.mem_of_getElem? hy)
        obtain ⟨m1, m2, m3⟩ := mdR (i - 1) y (by omega) c1
        have tkA := tk79.trans tk10
        have md1 : md (did y.hs l) ≤ 1 + i := Nat.le_trans (did_dep (by omega) m1) (by omega)
        have hi1 : p[i - 1]? = some (p[i - 1]'(by omega)) := List.getElem?_eq_getElem (by omega)
        have lE1 : lnAt p (i - 1) = p[i - 1]'(by omega) := by unfold lnAt; rw [List.getD_eq_getElem?_getD, hi1]; rfl
        have sub1 : ((i : Nat) : Int) - 1 = ((i - 1 : Nat) : Int) := by omega
        have kf9 : kf'.length ≤ kr.length := by
          rw [Paired.length po9, krl]
          have := fold3_len (goA (lnAt p i)) (pm5 m p i).2 []
          rw [List.length_nil] at this
          omega
        refine qan ⟨_, rfl, _, rfl, _, rfl, _, rfl, s, m, ts ++ us ++ us3, log3, v7, x, hs, l, rfl, hv7, tmono tkA _ _ (Ln.noL l) hl7, st10, mok, lok, ho, by rw [he]; omega, by rw [List.length_append, List.length_append]; omega, fun v H11 us4 log4 hs4 u4 st11 fr11 hv11 ho11 he11 => ?_⟩
        have tk11 := st10.tk fr11
        have hp11 := tmono (tkA.trans tk11) _ _ (progD_noL p) hp7
        refine a_ed (K := K) (d := (p[i - 1]'(by omega)).enc) (ed_ix (ed_var (i := 1) rfl hp11) (ed_int (ev_is (ev_op (ev_var rfl) ev_c rv_I0) (congrArg V.int sub1))) (atD (by rw [List.getElem?_map, hi1]; rfl))) fun lv H12 e12 hlv => ?_
        refine ⟨s, m, ts ++ us ++ us3 ++ us4, log4, v, lv, hs4, p[i - 1]'(by omega), rfl, dmono e12 _ _ hv11, hlv, st11.mono e12, mok, ok _ (List.getElem_mem _), ho11, ?_, by rw [List.length_append, List.length_append, List.length_append]; omega, fun v2 H13 us5 log5 hs5 u5 st13 fr13 hv13 ho13 he13 => ?_⟩
        · rw [he11, he]
          exact Nat.le_trans (did_dep (by omega) md1) (by omega)
        have tk13 := (st11.mono e12).tk fr13
        have tkB := tk11.trans ((TK.of e12).trans tk13)
        have frB : FrM s H10 H13 := fr11.trans ((FrM.of e12).trans fr13)
        have nf13 : NDictW P w K (shW m) H13 fa kf3 := nf10.keep tkB fun o hoo => frB _ _ hoo fS.t fS.d fS.n fS.x
        refine ⟨_, rfl, _, rfl, ?_⟩
        refine a_ed (K := K) (d := natsD (y.ls ++ [i - 1])) (ed_is (ed_cat (ed_var (i := 8) rfl (tmono tkB _ _ (natsD_noL _) hv8)) (ed_tup (ead_cons (d := .int ((i - 1 : Nat) : Int)) (ed_int (ev_is (ev_op (ev_var rfl) ev_c rv_I0) (congrArg V.int sub1))) ead_nil) (by simp)) (by rw [List.length_map]; simp; omega)) (natsD_app _ _).symm) fun sv H14 e14 hsv => ?_
        refine ⟨fa, kf3, v2, sv, goB (lnAt p i) (lnAt p (i - 1)) (i - 1) y, acc', m, ts ++ us ++ us3 ++ us4 ++ us5, hs5, st13.inv.nod, ho13, by rw [he13, he11, he, lE, lE1]; rfl, rfl, rfl, nf13.mono e14, by rw [kW_D]; exact dmono e14 _ _ hv13, hsv, by omega, ?_, fun H15 kf4 e15 n15 po15 => ?_⟩
        · have := po10.tk (tkB.trans (TK.of e14)) (us4 ++ us5)
          rw [← List.append_assoc] at this
          exact this
        have tk15 : TK K H14 H15 := e15.tk (nf13.mono e14).noTup
        refine kn (us4 ++ us5) log5 kf4 _ H15 (by rw [List.length_append]; omega) (by rw [← List.append_assoc]; exact (st13.mono e14).exB fS fnS e15 tk15) (((FrD.m frB).trans (FrD.of e14)).trans (FrD.b e15)) (tkB.trans ((TK.of e14).trans tk15)) n15 (by rw [← List.append_assoc]; exact po15)
      · intro us3 log3 kf3 a2 b2 c2 H10 H11 e10 ul3 st11 fr11 tk11 hb11 nf11 po11
        dsimp only
        have tkb : TK K H9 H10 := e10.tk hb9.noTup
        have hr11 : NDict P w K (shW m) H11 dr kr := hr9.keep (tkb.trans tk11) fun o ho => fr11 _ _ (e10 _ _ ho (Ne.symm nbd)) nSr (Ne.symm fr_)
        have pr11 : Pr5 K m (ts ++ us ++ us3) H11 kr (pm5 m p i).2 := by
          have := pr.tk ((TK.of eT7).trans (tk79.trans (tkb.trans tk11))) (us ++ us3)
          rw [← List.append_assoc] at this
          exact this
        refine qan ⟨_, rfl, ?_⟩
        have kf3l : kf3.length ≤ 3000 := by
          rw [Paired.length po11]
          have := (pm5_len m p (i + 1)).1
          rw [show (pm5 m p (i + 1)).2 = _ from rfl] at this
          have p7' : 2 ^ (i + 1) ≤ 2 ^ 7 := Nat.pow_le_pow_right (by decide) (by omega)
          exact Nat.le_trans this (by omega)
        refine tas ⟨_, rfl, fa, _, _, rfl, nf11, kf3l, fun H12 e12 => ?_⟩
        refine ⟨ts ++ us ++ us3, log3, dr, fa, kr, kf3, _, _, _, _, _, _, rfl, st11.mono e12, ?_, by omega, ((tk.trans (TK.of eT7)).trans tk79).trans ((tkb.trans tk11).trans (TK.of e12)), fun b o hb hn => ?_, hdr, fH, nSr, fS, rS, fnS, Ne.symm fr_, hr11.mono e12, nf11.rd.mono e12, pr11.tk0 (TK.of e12), po11.tk0 (TK.of e12)⟩
        · rw [List.length_append, List.length_append, Nat.pow_succ]
          omega
        · have h1 := eT7 _ _ (N b o hb hn)
          have h2 := fr9 _ _ (e8 _ _ h1 (ne_of_none hb hdr)) hn (ne_of_none hb fH)
          exact e12 _ _ (fr11 _ _ (e10 _ _ h2 (ne_of_none hb hdb)) hn (ne_of_none hb fH))
  · rintro σ' H' ⟨ts, log, db, dr, kb, kr, x4, x5, x6, x7, x8, x9, rfl, st', tl, ip, tk, N, hdb, hdr, nSb, nSr, bS, rS, nbd, hb', hr', pb, pr⟩
    rw [List.length_map] at tl pr
    have pz : 2 ^ p.length ≤ 2 ^ 7 := Nat.pow_le_pow_right (by decide) p7
    refine s_ret (ev_var rfl) fun H8 e8 => k dr H8 ts log kr _ (st'.mono e8) (by omega) ?_ (hr'.mono e8) nSr rS hdr (pr.tk0 (TK.of e8)) (pm5_best (m := m) (p := p) p.length (Nat.le_refl _)).1 (by rw [Paired.length pr]; have := (pm5_len m p p.length).1; omega)
    exact FrD.toM (d := dr) (fun b o hb hn _ => e8 _ _ (N b o hb hn)) st0 (st'.mono e8) hdr
end
end Lb

set_option Elab.async false
set_option linter.all false
set_option maxRecDepth 100000
set_option maxHeartbeats 4000000
namespace Lb
open PySem L2 Evl PyProof.Rows
/-- over a list that the block leaves as it is -/
theorem dcT_list {K : PySem.W.Frag} {a : Addr} {xs : List V} {g : TG} {tk tv : TE} {vs : List Nat} {σ : L2.St} {H1 : Hp} {D : Addr} {Qd : Hp → Prop} (Pv : Nat → Hp → Prop) (h0 : Pv 0 (upd H1 D (.dT []))) (hl : ∀ i H, i ≤ xs.length → Pv i H → SqL K H a xs)
    (hs : ∀ i x H, xs[i]? = some x → Pv i H → g x (wipe σ vs) H fun σ2 H2 => wipe σ2 vs = wipe σ vs ∧ tk σ2 H2 fun y H4 => tv σ2 H4 fun z H5 => ∃ rows ks b, y = .ref b ∧ H5 b = some (.tup (ks.map kV)) ∧ H5 D = some (.dT rows) ∧ rows.length < sizeLine ∧ Pv (i + 1) (upd H5 D (.dT (putK rows ks z))))
    (hd : ∀ H, Pv xs.length H → Qd H) :
    ∃ W : Nat → Nat → Hp → Prop, (∃ m, W 0 m (upd H1 D (.dT []))) ∧ ∀ i m H, W i m H →
      ((Itl K a).stop i H ∧ Qd H) ∨ ((Itl K a).go i H ∧ ∃ Nx : Hp → Prop, (∀ H', Nx H' → ∃ m', m' < m ∧ W (i + 1) m' H') ∧ ∀ x H', (Itl K a).yld i H x H' → g x (wipe σ vs) H' fun σ2 H2 => wipe σ2 vs = wipe σ vs ∧
        tk σ2 H2 fun y H4 => tv σ2 H4 fun z H5 => ∃ rows ks b, y = .ref b ∧ H5 b = some (.tup (ks.map kV)) ∧ H5 D = some (.dT rows) ∧ rows.length < sizeLine ∧ Nx (upd H5 D (.dT (putK rows ks z)))) := by
  refine ⟨fun i m H => m + i = xs.length ∧ Pv i H, ⟨xs.length, rfl, h0⟩, ?_⟩
  rintro i m H ⟨mi, p⟩
  have q := hl i H (by omega) p
  cases m with
  | zero =>
    have e : i = xs.length := by omega
    subst e
    exact .inl ⟨⟨xs, q, Nat.le_refl _⟩, hd H p⟩
  | succ m =>
    have lt : i < xs.length := by omega
    refine .inr ⟨⟨xs, xs[i], q, List.getElem?_eq_getElem lt⟩, Pv (i + 1), fun H' p' => ⟨m, Nat.lt_succ_self m, by omega, p'⟩, fun x H' y => ?_⟩
    obtain ⟨rfl, y⟩ := y
    exact hs i x _ (y xs q) p
structure ByT (m : Mc) (ts : List Tm) (rows : List (List Nat)) (out : List (List Tm)) : Prop where
  nd : out.Nodup
  ok : ∀ u ∈ out, Held m u
  asc : out.Pairwise fun a b => ltS (txs b) (txs a) = false
  mem : ∀ u, u ∈ out ↔ ∃ hs ∈ rows, hs.map (at0 ts) = u
section
variable {P : Program} {w : World} {K : PySem.W.Frag} {mg : Str → Option Value} {base : Heap} {C : Addr} {H H' : Hp} {s : SA} {m : Mc} {ts : List Tm} {log : List (Nat × List Nat)}
def spByT (P : Program) (w : World) (K : PySem.W.Frag) (C : Addr) : Sp := fun vs H Q _ => ∃ (s : SA) (m : Mc) (ts : List Tm) (log : List (Nat × List Nat)) (ra : Addr) (xs : List V) (rows : List (List Nat)), vs = [.ref s.S, .ref ra] ∧ StoreAt P w K C H s m ts log ∧ m.Ok ∧ H ra = some (.lst xs) ∧ NotS s ra ∧ DpAll K H xs (rows.map natsD) ∧ (∀ hs ∈ rows, Hs m ts hs) ∧ rows.length ≤ 300 ∧ ts.length ≤ 20000 ∧
  ∀ v H' out, FrM s H H' → StoreAt P w K C H' s m ts log → ByT m ts rows out → Dp K H' v (.tuple (out.map encs)) → Q v H'
abbrev CByT (P : Program) (w : World) (K : PySem.W.Frag) (mg : Str → Option Value) (base : Heap) (C : Addr) := Cal P w K mg base 11 "by_texts" ["store", "rows"] (spByT P w K C)
theorem ok_by_texts (B : Bi mg) (T : StC K mg C) (D : Dfn K mg "by_texts" sByTexts ["store", "rows"]) (M_texts : MTexts P w K mg base C) (M_terms : MTerms P w K mg base C) : CByT P w K mg base C := by
  refine D.ok scByTexts (fun vs H Q E h => ?_) (fun f cdv A outer sh0 H vs Q E hr h => ?_)
  · obtain ⟨s, m, ts, log, ra, xs, rows, rfl, _⟩ := h
    rfl
  obtain ⟨s, m, ts, log, ra, xs, rows, rfl, st0, mok, hra, nra, hal, hHs, rz, tz, k⟩ := h
  have hu1 := (show (A.deeper (envOfC "by_texts" (defScope sByTexts) sh0.heap.objs.size f cdv)).units + 1 < cLine by have := hr.un; omega)
  refine ⟨_, (pss_cons (ps_set (i := 2) scByTexts.nd rfl (by first | exact Or.inl rfl | exact Or.inr rfl) (pe_dcT (own := [("row", 3)]) (g := (gName 3)) hu1 rfl scByTexts.nd (pi_list (pv 1)) (blkOk_by (N := NByTexts) (sc := defScope sByTexts) (by decide +kernel)) (fun _ _ _ _ _ => (pg_name (i := 3) scByTexts.nd rfl (by first | exact Or.inl rfl | exact Or.inr rfl))) (fun _ _ _ _ _ => (pe_mtC M_texts hr (by omega) (pv 0) (pa_cons (pv 3) pa_nil))) (fun _ _ _ _ _ => (pe_mtC M_terms hr (by omega) (pv 0) (pa_cons (pv 3) pa_nil))))) (pss_one (ps_ret (pe_callTy call_tupq (by rfl) B.tuple (by decide +kernel) (pa_cons (pe_lc (own := [("texts", 4)]) (g := (gName 4)) (tt := tYes) rfl scByTexts.nd (pi_list (pe_callB (call_sortedD rfl) (by rfl) B.sorted (by decide +kernel) (pa_cons (pv 2) pa_nil))) (blkOk_by (N := NByTexts) (sc := defScope sByTexts) (by decide +kernel)) (fun _ _ _ _ _ => (pg_name (i := 4) scByTexts.nd rfl (by first | exact Or.inl rfl | exact Or.inr rfl))) (fun _ _ _ _ _ => pts_nil) (fun _ _ _ _ _ => (pe_dget hu1 (pv 2) (pv 4) (fun _ _ => rfl)))) pa_nil))))), ?_⟩
  have c4 := mok.c4
  have xl : xs.length = rows.length := by rw [hal.len, List.length_map]
  refine ⟨_, rfl, ra, rfl, ⟨_, sq_of hra⟩, fun D hD => ?_⟩
  have nD : D ≠ ra := ne_of_none' hD hra
  have fS := st0.notS hD
  have e1 := Ex.new (o := .dT []) hD
  have st1 := st0.mono e1
  have tk0 : TK K H (L2.upd H D (.dT [])) := TK.of e1
  refine dcT_list (xs := xs) (fun i H' => ∃ kf us, StoreAt P w K C H' s m ts log ∧ FrD s D H H' ∧ TK K H H' ∧ H' D = some (.dT kf) ∧ kf.length ≤ i ∧ TD K H' m kf us ∧ ∀ u, u ∈ us ↔ ∃ hs ∈ rows.take i, hs.map (at0 ts) = u) ?_ ?_ ?_ ?_
  · exact ⟨[], [], st1, FrD.of e1, tk0, upd_same, Nat.le_refl _, ⟨.nil, List.nodup_nil, fun u h => (by cases h)⟩, fun u => ⟨fun h => (by cases h), fun ⟨e, he, _⟩ => by simp at he⟩⟩
  · rintro i H' hi ⟨kf, us, st', fr, _⟩
    exact sq_of (fr _ _ hra nra (Ne.symm nD))
  · rintro i x H' hx ⟨kf, us, st', fr, tk, ff, kfl, td, mem⟩
    have il := (List.getElem?_eq_some_iff.mp hx).1
    have hrow : rows[i]? = some (rows[i]'(by omega)) := List.getElem?_eq_getElem (by omega)
    obtain ⟨d, hd, hxd⟩ := hal.getV hx
    rw [List.getElem?_map, hrow] at hd
    cases hd
    generalize hge : rows[i]'(by omega) = hs at hrow hxd
    have k2 := hHs hs (List.mem_of_getElem? hrow)
    have hx' := tmono tk _ _ (natsD_noL _) hxd
    obtain ⟨dx, fs, af, i1, i2, _⟩ := st'.ins
    refine ⟨wipe1 _, ?_⟩
    refine ⟨_, rfl, s.S, dx, fs, rfl, i1, i2.m3, _, rfl, ?_⟩
    refine ⟨s, m, ts, log, _, hs, rfl, hx', st', mok, k2.lt, by rw [k2.len]; omega, by omega, fun b H7 hb hb7 st7 fr7 => ?_⟩
    have tk7 : TK K H' H7 := st'.tk fr7
    have ff7 := fr7 _ _ ff fS.t fS.d fS.n fS.x
    have hu : Held m (hs.map (at0 ts)) := ⟨by rw [List.length_map]; exact k2.len, fun t ht => by
      obtain ⟨n, hn, rfl⟩ := List.mem_map.mp ht
      exact (st'.inv.of _ (List.mem_of_getElem? (at0_get (k2.lt n hn)))).1⟩
    obtain ⟨dx7, fs7, af7, j1, j2, _⟩ := st7.ins
    obtain ⟨ys, t1, t2⟩ := st7.tms
    refine ⟨_, rfl, s.S, dx7, fs7, rfl, j1, j2.m2, _, rfl, ?_⟩
    refine ⟨s.S, dx7, s.tl, _, fs7, ys, ts, hs, rfl, j1, j2.t, t1, t2, .inl (tmono tk7 _ _ (natsD_noL _) hx'), k2.lt, by rw [k2.len]; omega, fun v H8 e8 hv => ?_⟩
    refine ⟨kf, kTx (hs.map (at0 ts)), b, rfl, ?_, e8 _ _ ff7, sz_lt (by omega), ?_⟩
    · rw [e8 _ _ hb7]
      unfold kTx txs
      rw [kV_strs, List.map_map, List.map_map, List.map_map]
      rfl
    · have ff8 := e8 _ _ ff7
      have hno := no_rd ff8 (fun _ z => nomatch z) (fun _ _ z => nomatch z)
      have tk8 : TK K H8 (L2.upd H8 D (.dT (putK kf (kTx (hs.map (at0 ts))) v))) := TK.put hno
      have st8 := st7.mono e8
      obtain ⟨_, _, _, j1, _, _⟩ := st8.ins
      refine ⟨_, addU us (hs.map (at0 ts)), st8.exB fS (ne_of ff8 j1 (fun z => nomatch z)) ExB.upd tk8, fr.trans ((FrD.m fr7).trans ((FrD.of e8).trans (FrD.b ExB.upd))), tk.trans (tk7.trans ((TK.of e8).trans tk8)), upd_same, ?_, ?_, fun u => ?_⟩
      · unfold putK
        split
        · rw [List.length_map]; omega
        · rw [List.length_append]; simp; omega
      · exact ((td.tk (tk7.trans (TK.of e8))).put mok hu hv).tk tk8
      · have tkk : rows.take (i + 1) = rows.take i ++ [hs] := by rw [List.take_succ, hrow]; rfl
        rw [addU_mem, mem u, tkk]
        constructor
        · rintro (⟨e, he, q⟩ | rfl)
          · exact ⟨e, List.mem_append_left _ he, q⟩
          · exact ⟨hs, List.mem_append_right _ (List.mem_singleton_self _), rfl⟩
        · rintro ⟨e, he, q1⟩
          rcases List.mem_append.mp he with he | he
          · exact .inl ⟨e, he, q1⟩
          · rw [List.mem_singleton.mp he] at q1
            exact .inr q1.symm
  · rintro H' ⟨kf, us, st', fr, tk, ff, kfl, td, mem⟩
    rw [xl, List.take_length] at mem
    have ull : us.length ≤ 300 := by
      have := Paired.length td.pr
      omega
    have key := lc_sorted (K := K) (us := us) (fa := D) (i := 2) (j := 4) (σ := [some (.ref s.S), some (.ref ra), some (.ref D), none, none]) (tl := tCB (rSortD K) (tCons (tVar 2) tNil)) mok ff td ull (fun _ => rfl) (fun _ => rfl) (fun R hR => ⟨_, rfl, D, kf, rfl, ff, td_ne mok td, fun q bs out hq ik pm as => by
      obtain ⟨us', u1, u2, u3⟩ := sorted_us td ik pm as
      have eq := Ex.new (o := .lst (out.map V.ref)) hq
      exact hR q out us' _ eq upd_same u1 (Paired.mapP u2 fun b u h => eq _ _ h) u3⟩)
    refine ret_tup (K := K) (key _ fun v H8 us' e8 u1 u3 hv => ?_)
    obtain ⟨a, ys, rfl, sq, al⟩ := Dp.lstD hv
    refine ⟨a, _, rfl, .inl ⟨sq, fun l hl => ?_⟩⟩
    have e9 := Ex.new (o := .tup ys) hl
    have frM : FrM s H H' := fr.toM st0 st' hD
    exact k (.ref l) _ us' (frM.trans (FrM.of (e8.trans e9))) (st'.mono (e8.trans e9)) ⟨u1.nodup_iff.mpr td.nd, fun u hu => td.ok u (u1.mem_iff.mp hu), u3, fun u => by rw [u1.mem_iff, mem u]⟩ (.tup (st_of upd_same) (dmonoAll e9 _ _ al))
end
end Lb

set_option Elab.async false
set_option linter.all false
set_option maxRecDepth 100000
set_option maxHeartbeats 4000000
/-! outcomes_swapped -/
namespace Lb
open PySem L2 Evl PyProof.Rows
/-- all that comes by lines that change places, by texts -/
structure OutSw (m : Mc) (p : List Ln) (out : List (List Tm)) : Prop where
  nd : out.Nodup
  ok : ∀ u ∈ out, Held m u
  asc : out.Pairwise fun a b => ltS (txs b) (txs a) = false
  mem : ∀ u, u ∈ out ↔ ∃ ks, SwOk p.length ks ∧ runL m (swL p ks) = u
theorem OutSw.uniq {m : Mc} (mok : m.Ok) {p : List Ln} {o1 o2 : List (List Tm)} (h1 : OutSw m p o1) (h2 : OutSw m p o2) : o1 = o2 := by
  have pm : o1.Perm o2 := (List.perm_ext_iff_of_nodup h1.nd h2.nd).mpr fun u => (h1.mem u).trans (h2.mem u).symm
  have e := sort_uniq (pm.map txs) (List.pairwise_map.mpr h1.asc) (List.pairwise_map.mpr h2.asc)
  exact map_inj_on (fun x hx y hy z => txs_inj' mok (h1.ok x hx) (h2.ok y hy) z) e
section
variable {P : Program} {w : World} {K : PySem.W.Frag} {mg : Str → Option Value} {base : Heap} {C : Addr} {H H' : Hp} {s : SA} {m : Mc} {ts : List Tm} {log : List (Nat × List Nat)}
/-- the keys, as numbers of terms -/
theorem pr5_rows {kvs : List (List NI × V)} {rm : List P3} (h : Pr5 K m ts H kvs rm) : ∃ rows : List (List Nat), kvs.map (fun kv => keyD kv.1) = rows.map natsD ∧ (∀ hs ∈ rows, Hs m ts hs) ∧ rows.map (fun hs => hs.map (at0 ts)) = rm.map (fun x => x.hs) := by
  induction h with
  | nil => exact ⟨[], rfl, (fun _ h => by cases h), rfl⟩
  | cons h t ih =>
    obtain ⟨hs, k1, k2, k3, k0, k4⟩ := h
    obtain ⟨rows, r1, r2, r3⟩ := ih
    refine ⟨hs :: rows, ?_, fun x hx => ?_, ?_⟩
    · rw [List.map_cons, List.map_cons, r1, k1, kW_D]
    · rcases List.mem_cons.mp hx with rfl | hx
      · exact k2
      · exact r2 x hx
    · rw [List.map_cons, List.map_cons, r3, k3]
def spOutSw (K : PySem.W.Frag) : Sp := fun vs H Q _ => ∃ (mv pw : V) (m : Mc) (p : List Ln), vs = [mv, pw] ∧ Dp K H mv m.enc ∧ Dp K H pw (progD p) ∧ m.Ok ∧ (∀ l ∈ p, Ln.Ok m l) ∧ p.length ≤ 7 ∧ ∀ v H' out, Ex H H' → OutSw m p out → Dp K H' v (.tuple (out.map encs)) → Q v H'
abbrev COutSw (P : Program) (w : World) (K : PySem.W.Frag) (mg : Str → Option Value) (base : Heap) := Cal P w K mg base 12 "outcomes_swapped" ["machine", "program"] (spOutSw K)
theorem ok_outcomes_swapped (B : Bi mg) (D : Dfn K mg "outcomes_swapped" sOutcomesSwapped ["machine", "program"]) (C_check_machine : CChkM P w K mg base) (C_check_program : CChkP P w K mg base) (M_Store : KStore P w K mg base C) (C_swapped_rows : CRowsS P w K mg base C) (C_by_texts : CByT P w K mg base C) : COutSw P w K mg base := by
  refine D.ok scOutcomesSwapped (fun vs H Q E h => ?_) (fun f cdv A outer sh0 H vs Q E hr h => ?_)
  · obtain ⟨mv, pw, m, p, rfl, _⟩ := h
    rfl
  obtain ⟨mv, pw, m, p, rfl, hm, hp, mok, ok, p7, k⟩ := h
  refine ⟨_, (pss_cons (ps_expr (pe_calD C_check_machine hr (by omega) rfl (pa_cons (pv 0) pa_nil))) (pss_cons (ps_expr (pe_cal C_check_program hr (by omega) rfl (pa_cons (pv 0) (pa_cons (pv 1) pa_nil)))) (pss_cons (ps_set (i := 2) scOutcomesSwapped.nd rfl (by first | exact Or.inl rfl | exact Or.inr rfl) (pe_mkC M_Store hr (by omega) rfl (pa_cons (pe_ix ix_tup (pv 0) pe_int (fun _ _ => rfl)) pa_nil))) (pss_one (ps_ret (pe_cal C_by_texts hr (by omega) rfl (pa_cons (pv 2) (pa_cons (pe_callTy (call_list_dN rfl) (by rfl) B.list (by decide +kernel) (pa_cons (pe_cal C_swapped_rows hr (by omega) rfl (pa_cons (pv 2) (pa_cons (pv 1) pa_nil))) pa_nil)) pa_nil)))))))), ?_⟩
  have c4 := mok.c4
  refine qd_drop (K := K) (ed_chkM mok (ed_var rfl hm)) fun H1 e1 => ?_
  refine qd_drop (K := K) (ed_chkP mok ok (by omega) (ed_var rfl (dmono e1 _ _ hm)) (ed_var rfl (dmono e1 _ _ hp))) fun H2 e2 => ?_
  have e12 := e1.trans e2
  refine q_store mok.c4 (ev_cells (ed_var rfl (dmono e12 _ _ hm))) fun s H3 st3 new e3 => ?_
  have e13 := e12.trans e3
  refine ⟨_, rfl, _, rfl, _, rfl, s, m, p, pw, rfl, dmono e13 _ _ hp, st3, mok, ok, p7, fun d H4 ts log kvs rm st4 tl fr4 nd nS dS hd po best kl => ?_⟩
  refine ⟨d, shW m, kvs, rfl, nd, fun ra xs hra al => ?_⟩
  obtain ⟨rows, r1, r2, r3⟩ := pr5_rows po
  have en := Ex.new (o := .lst xs) hra
  have rl : rows.length = kvs.length := by
    have := congrArg List.length r1
    rw [List.length_map, List.length_map] at this
    exact this.symm
  rw [r1] at al
  refine ⟨s, m, ts, log, ra, xs, rows, rfl, st4.mono en, mok, upd_same, st4.notS hra, dmonoAll en _ _ al, r2, by omega, by omega, fun v H5 out fr5 st5 bt hv => ?_⟩
  refine k v H5 out (e12.trans (FrM.ex new e3 (fr4.trans ((FrM.of en).trans fr5)))) ⟨bt.nd, bt.ok, bt.asc, fun u => ?_⟩ hv
  rw [bt.mem u]
  have mm : (∃ hs ∈ rows, hs.map (at0 ts) = u) ↔ ∃ x ∈ rm, x.hs = u := by
    have a : u ∈ rows.map (fun hs => hs.map (at0 ts)) ↔ u ∈ rm.map (fun x => x.hs) := by rw [r3]
    rw [List.mem_map, List.mem_map] at a
    exact a
  rw [mm]
  constructor
  · rintro ⟨x, hx, rfl⟩
    obtain ⟨⟨_, h2, h3⟩, _⟩ := best.is x hx
    rw [List.take_length] at h3
    exact ⟨x.ls, h2, h3.symm⟩
  · rintro ⟨ks, h1, h2⟩
    obtain ⟨x, hx, sx⟩ := best.all ⟨u, 0, ks⟩ ⟨rfl, h1, by rw [List.take_length]; exact h2.symm⟩
    exact ⟨x, hx, sx.1⟩
end
end Lb

set_option Elab.async false
set_option linter.all false
set_option maxRecDepth 100000
set_option maxHeartbeats 4000000
/-! fewest_harmful, as few swaps as can be -/
namespace Lb
open PySem L2 Evl PyProof.Rows
def optL : Option (List Nat) → PyData
  | none => .none
  | some ls => natsD ls
/-- the fewest of the first ones -/
def few3 (ws : List (Nat × Tm)) (r : Option (List Nat)) (x : P3) : Option (List Nat) := if fulfilled ws x.hs then r else match r with
  | none => some x.ls
  | some k => if x.ls.length < k.length then some x.ls else r
theorem few3_fold (ws : List (Nat × Tm)) : ∀ (pm : List P3) (r : Option (List Nat)),
    (pm.foldl (few3 ws) r = none → r = none ∧ ∀ x ∈ pm, fulfilled ws x.hs = true) ∧
    ∀ ls, pm.foldl (few3 ws) r = some ls → (r = some ls ∨ ∃ x ∈ pm, fulfilled ws x.hs = false ∧ x.ls = ls) ∧ (∀ k, r = some k → ls.length ≤ k.length) ∧ ∀ x ∈ pm, fulfilled ws x.hs = false → ls.length ≤ x.ls.length
  | [], r => ⟨fun h => ⟨h, fun x hx => by cases hx⟩, fun ls h => ⟨.inl h, fun k hk => by rw [List.foldl_nil] at h; rw [h] at hk; cases hk; exact Nat.le_refl _, fun x hx => by cases hx⟩⟩
  | x :: pm, r => by
    obtain ⟨h1, h2⟩ := few3_fold ws pm (few3 ws r x)
    rw [List.foldl_cons]
    unfold few3 at h1 h2 ⊢
    cases f : fulfilled ws x.hs with
    | true =>
      rw [f] at h1 h2
      simp only [if_true] at h1 h2 ⊢
      refine ⟨fun e => ⟨(h1 e).1, fun y hy => ?_⟩, fun ls e => ?_⟩
      · rcases List.mem_cons.mp hy with rfl | hy
        · exact f
        · exact (h1 e).2 y hy
      · obtain ⟨a, b, c⟩ := h2 ls e
        refine ⟨a.imp id fun ⟨y, hy, q⟩ => ⟨y, List.mem_cons_of_mem _ hy, q⟩, b, fun y hy q => ?_⟩
        rcases List.mem_cons.mp hy with rfl | hy
        · rw [f] at q; cases q
        · exact c y hy q
    | false =>
      rw [f] at h1 h2
      cases r with
      | none =>
        simp only [Bool.false_eq_true, if_false] at h1 h2 ⊢
        refine ⟨fun e => absurd (h1 e).1 (by simp), fun ls e => ?_⟩
        obtain ⟨a, b, c⟩ := h2 ls e
        refine ⟨.inr ?_, fun k hk => (by cases hk), fun y hy q => ?_⟩
        · rcases a with a | ⟨y, hy, q⟩
          · exact ⟨x, List.mem_cons_self, f, Option.some.inj a⟩
          · exact ⟨y, List.mem_cons_of_mem _ hy, q⟩
        · rcases List.mem_cons.mp hy with rfl | hy
          · exact b _ rfl
          · exact c y hy q
      | some k =>
        simp only [Bool.false_eq_true, if_false] at h1 h2 ⊢
        by_cases q0 : x.ls.length < k.length
        · simp only [if_pos q0] at h1 h2 ⊢
          refine ⟨fun e => absurd (h1 e).1 (by simp), fun ls e => ?_⟩
          obtain ⟨a, b, c⟩ := h2 ls e
          have bx := b _ rfl
          refine ⟨.inr ?_, fun k' hk => (by cases hk; omega), fun y hy q => ?_⟩
          · rcases a with a | ⟨y, hy, q⟩
            · exact ⟨x, List.mem_cons_self, f, Option.some.inj a⟩
            · exact ⟨y, List.mem_cons_of_mem _ hy, q⟩
          · rcases List.mem_cons.mp hy with rfl | hy
            · exact bx
            · exact c y hy q
        · simp only [if_neg q0] at h1 h2 ⊢
          refine ⟨fun e => absurd (h1 e).1 (by simp), fun ls e => ?_⟩
          obtain ⟨a, b, c⟩ := h2 ls e
          have bx := b _ rfl
          refine ⟨a.imp id fun ⟨y, hy, q⟩ => ⟨y, List.mem_cons_of_mem _ hy, q⟩, b, fun y hy q => ?_⟩
          rcases List.mem_cons.mp hy with rfl | hy
          · omega
          · exact c y hy q
/-! ### fewest_harmful -/
def wayD (x : List Nat × List Nat) : PyData := .tuple [natsD x.1, natsD x.2]
theorem ways_noL (ws : List (List Nat × List Nat)) : noLs (ws.map wayD) = true := noLs_iff.mpr fun d hd => by
  obtain ⟨x, _, rfl⟩ := List.mem_map.mp hd
  show noL (.tuple [natsD x.1, natsD x.2]) = true
  rw [noL_tup, noLs, noLs, noLs, natsD_noL, natsD_noL]
  rfl
def fewN (wn : List (Nat × Nat)) (r : Option (List Nat)) (x : List Nat × List Nat) : Option (List Nat) := if full x.1 wn then r else match r with
  | none => some x.2
  | some k => if x.2.length < k.length then some x.2 else r
theorem fewN_few3 {ts : List Tm} {wn : List (Nat × Nat)} {ws : List (Nat × Tm)} : ∀ {ways : List (List Nat × List Nat)} {pm : List P3} (r : Option (List Nat)), ways.map (fun y => (y.1.map (at0 ts), y.2)) = pm.map (fun x => (x.hs, x.ls)) → (∀ y ∈ ways, full y.1 wn = fulfilled ws (y.1.map (at0 ts))) → ways.foldl (fewN wn) r = pm.foldl (few3 ws) r
  | [], [], r, _, _ => rfl
  | [], _ :: _, _, e, _ => by simp at e
  | _ :: _, [], _, e, _ => by simp at e
  | y :: ways, x :: pm, r, e, h => by
    rw [List.map_cons, List.map_cons, List.cons.injEq, Prod.mk.injEq] at e
    rw [List.foldl_cons, List.foldl_cons]
    have hy := h y List.mem_cons_self
    rw [e.1.1] at hy
    have s1 : fewN wn r y = few3 ws r x := by
      unfold fewN few3
      rw [hy, e.1.2]
    rw [s1]
    exact fewN_few3 _ e.2 fun z hz => h z (List.mem_cons_of_mem _ hz)
section
variable {P : Program} {w : World} {K : PySem.W.Frag} {mg : Str → Option Value} {base : Heap} {C : Addr} {H H' : Hp} {s : SA} {m : Mc} {ts : List Tm} {log : List (Nat × List Nat)}
theorem ev_full {σ : L2.St} {ta tb : TE} {E : XK} {hs : List Nat} {wn : List (Nat × Nat)} (h : ∀ x ∈ wn, x.1 < hs.length) (hz : wn.length ≤ 60) (ha : EvD K ta σ H (natsD hs)) (hb : EvD K tb σ H (.list (wn.map wantD))) : Ev (tCall (spFull K) [] E (tCons ta (tCons tb tNil))) σ H (.bl (full hs wn)) :=
  ev_sp (ead_cons ha (ead_cons hb ead_nil)) fun H1 vs e hvs Q q => by
    cases hvs with
    | cons h0 t0 => cases t0 with
      | cons h1 t1 => cases t1; exact ⟨_, _, hs, wn, rfl, h0, h1, h, hz, q⟩
theorem sd_forLE {σ : L2.St} {D : Ends} {tl : TE} {g : TG} {tu : TS} {ds : List PyData} (h : EvD K tl σ H (.list ds))
    (k : ∀ H1 xs, Ex H H1 → DpAll K H1 xs ds → ∃ Pv : Nat → L2.St → Hp → Prop, Pv 0 σ H1 ∧ (∀ i σ' H', Pv i σ' H' → Ex H1 H') ∧
      (∀ i x d σ' H', xs[i]? = some x → ds[i]? = some d → Dp K H' x d → Pv i σ' H' → g x σ' H' fun σ2 H2 => tu { D with nx := Pv (i + 1), ct := Pv (i + 1), bk := D.nx } σ2 H2) ∧ ∀ σ' H', Pv ds.length σ' H' → D.nx σ' H') : tFor (iList K tl) g tu D σ H := h H (Ex.refl H) _ fun v H1 e hv => by
  obtain ⟨l, xs, rfl, sq, al⟩ := Dp.lstD hv
  obtain ⟨Pv, h0, hk, hs, hd⟩ := k H1 xs e al
  refine ⟨l, rfl, ⟨xs, sq⟩, for_list (xs := xs) Pv h0 (fun i σ' H' _ p => ex_l (hk i σ' H' p) sq) (fun i x σ' H' hi p => ?_) fun σ' H' p => hd σ' H' (al.len ▸ p)⟩
  obtain ⟨d, h1, h2⟩ := al.getV hi
  exact hs i x d σ' H' hi h1 (dmono (hk i σ' H' p) _ _ h2) p
def spFH (K : PySem.W.Frag) : Sp := fun vs H Q _ => ∃ (wv nv : V) (ways : List (List Nat × List Nat)) (wn : List (Nat × Nat)), vs = [wv, nv] ∧ Dp K H wv (.list (ways.map wayD)) ∧ Dp K H nv (.list (wn.map wantD)) ∧ (∀ x ∈ ways, ∀ z ∈ wn, z.1 < x.1.length) ∧ wn.length ≤ 60 ∧ ∀ v H', Ex H H' → Dp K H' v (optL (ways.foldl (fewN wn) none)) → Q v H'
abbrev CFH (P : Program) (w : World) (K : PySem.W.Frag) (mg : Str → Option Value) (base : Heap) := Cal P w K mg base 2 "fewest_harmful" ["ways", "wanted"] (spFH K)
theorem ok_fewest_harmful (B : Bi mg) (D : Dfn K mg "fewest_harmful" sFewestHarmful ["ways", "wanted"]) (C_are_fulfilled : CFull P w K mg base) : CFH P w K mg base := by
  refine D.ok scFewestHarmful (fun vs H Q E h => ?_) (fun f cdv A outer sh0 H vs Q E hr h => ?_)
  · obtain ⟨wv, nv, ways, wn, rfl, _⟩ := h
    rfl
  obtain ⟨wv, nv, ways, wn, rfl, hw, hn, cells, wl, k⟩ := h
  refine ⟨_, (pss_cons (ps_set (i := 2) scFewestHarmful.nd rfl (by first | exact Or.inl rfl | exact Or.inr rfl) pe_non) (pss_cons (ps_for PassesOwn.never rfl (pi_list (pv 0)) (pg_tup rfl (pgs_cons (pg_name (i := 3) scFewestHarmful.nd rfl (by first | exact Or.inl rfl | exact Or.inr rfl)) (pgs_cons (pg_name (i := 4) scFewestHarmful.nd rfl (by first | exact Or.inl rfl | exact Or.inr rfl)) pgs_nil))) (pss_one (ps_if (PW.pt (pw_and (pt_not (pt_val (pe_cal C_are_fulfilled hr (by omega) rfl (pa_cons (pv 3) (pa_cons (pv 1) pa_nil))))) (pw_and1 (PW.pt (pw_or (pt_cmpR op_isN (pv 2) pe_non (by first | exact nomark _ | rfl)) (pw_or1 (pt_cmpR op_lt (pe_callB call_lenq (by rfl) B.len PySem.boot_len (pa_cons (pv 4) pa_nil)) (pe_callB call_lenq (by rfl) B.len PySem.boot_len (pa_cons (pv 2) pa_nil)) (by first | exact nomark _ | rfl)))))))) (pss_one (ps_set (i := 2) scFewestHarmful.nd rfl (by first | exact Or.inl rfl | exact Or.inr rfl) (pv 4))) pss_nil))) (pss_one (ps_ret (pv 2))))), ?_⟩
  refine q_asg ev_c fun H5 e5 => ?_
  refine sd_forLE (K := K) (ds := ways.map wayD) (D := { nx := _, rt := _, bk := _, ct := _ }) (ed_var rfl (dmono e5 _ _ hw)) fun H6 xs e6 al => ⟨fun j σ' H' => Ex H6 H' ∧ ∃ v2 x3 x4, σ' = [some wv, some nv, some v2, x3, x4] ∧ Dp K H' v2 (optL ((ways.take j).foldl (fewN wn) none)), ⟨Ex.refl _, _, _, _, rfl, .non⟩, fun j σ' H' q => q.1, ?_, ?_⟩
  · rintro j x d σ' H' hxj hdj hxd ⟨q, v2, x3, x4, rfl, h2⟩
    obtain ⟨y, hy, rfl⟩ : ∃ y, ways[j]? = some y ∧ d = wayD y := by
      rw [List.getElem?_map] at hdj
      cases e : ways[j]? with
      | none => rw [e] at hdj; cases hdj
      | some y => rw [e] at hdj; cases hdj; exact ⟨y, rfl, rfl⟩
    have fold := take_foldl (fewN wn) none hy
    have cy := cells y (List.mem_of_getElem? hy)
    obtain ⟨a, ys, rfl, sq, al⟩ := Dp.tupD hxd
    cases al with
    | cons hv3 al2 => cases al2 with
      | cons hv4 al3 =>
        cases al3
        refine ⟨a, _, rfl, sq, rfl, _, _, rfl, _, _, rfl, rfl, ?_⟩
        have hn' := dmono ((e5.trans e6).trans q) _ _ hn
        dsimp only
        rw [fold]
        revert h2
        generalize (ways.take j).foldl (fewN wn) none = r
        intro h2
        have hf := fun (x3 x4 : V) (h3 : Dp K H' x3 (natsD y.1)) => ev_full (K := K) (E := E0) cy wl (ta := tVar 3) (tb := tVar 1) (σ := [some wv, some nv, some v2, some x3, some x4]) (ed_var rfl h3) (ed_var rfl hn')
        cases r with
        | none =>
          refine s_when (et_and (et_not (et_B (hf _ _ hv3))) fun _ => et_or (b := false) (et_test (ev_isN (ed_var rfl h2))) fun z => by cases z) (fun c H8 e8 => ?_) (fun c H8 e8 => ?_)
          · have c' : full y.1 wn = false := by cases h : full y.1 wn <;> simp [h] at c ⊢
            refine sd_asg (ed_var (K := K) rfl (dmono e8 _ _ hv4)) fun v H9 e9 hv => ⟨q.trans (e8.trans e9), _, _, _, rfl, ?_⟩
            unfold fewN
            rw [c']
            exact hv
          · have c' : full y.1 wn = true := by
              cases h : full y.1 wn with
              | true => rfl
              | false => rw [h] at c; simp [isNon, optL] at c
            refine ⟨q.trans e8, _, _, _, rfl, ?_⟩
            unfold fewN
            rw [c']
            exact dmono e8 _ _ h2
        | some ks =>
          refine s_when (et_and (et_not (et_B (hf _ _ hv3))) fun _ => et_or (et_test (ev_isN (ed_var rfl h2))) fun _ => et_test (ev_op (ev_lenT (ed_var rfl hv4)) (ev_lenT (ed_var rfl h2)) rv_I0)) (fun c H8 e8 => ?_) (fun c H8 e8 => ?_)
          · have c' : full y.1 wn = false ∧ y.2.length < ks.length := by
              cases h : full y.1 wn with
              | true => rw [h] at c; simp at c
              | false =>
                rw [h] at c
                refine ⟨rfl, ?_⟩
                simpa [isNon, optL, natsD] using c
            refine sd_asg (ed_var (K := K) rfl (dmono e8 _ _ hv4)) fun v H9 e9 hv => ⟨q.trans (e8.trans e9), _, _, _, rfl, ?_⟩
            unfold fewN
            rw [c'.1]
            simp only [Bool.false_eq_true, if_false, if_pos c'.2]
            exact hv
          · refine ⟨q.trans e8, _, _, _, rfl, ?_⟩
            have c' : full y.1 wn = false → ¬ y.2.length < ks.length := fun h => by
              rw [h] at c
              simpa [isNon, optL, natsD] using c
            unfold fewN
            cases h : full y.1 wn with
            | true => exact dmono e8 _ _ h2
            | false =>
              simp only [Bool.false_eq_true, if_false, if_neg (c' h)]
              exact dmono e8 _ _ h2
  · rintro σ' H' ⟨q, v2, x3, x4, rfl, h2⟩
    rw [List.length_map, List.take_length] at h2
    exact sd_ret (ed_var (K := K) rfl h2) fun v H9 e9 hv => k v H9 (((e5.trans e6).trans q).trans e9) hv
end

/-- as few swaps as can be that leave a wish -/
def SwH (m : Mc) (p : List Ln) (ws : List (Nat × Tm)) : Option (List Nat) → Prop
  | none => ∀ ks, SwOk p.length ks → fulfilled ws (runL m (swL p ks)) = true
  | some ks => SwOk p.length ks ∧ fulfilled ws (runL m (swL p ks)) = false ∧ ∀ js, SwOk p.length js → fulfilled ws (runL m (swL p js)) = false → ks.length ≤ js.length
theorem swh_is {m : Mc} {p : List Ln} {ws : List (Nat × Tm)} {rm : List P3} (b : Best rm (Cd5 m p p.length)) : SwH m p ws (rm.foldl (few3 ws) none) := by
  obtain ⟨f1, f2⟩ := few3_fold ws rm none
  have key : ∀ ks, SwOk p.length ks → ∃ x ∈ rm, x.hs = runL m (swL p ks) ∧ x.ls.length ≤ ks.length := fun ks hk => by
    have hc : Cd5 m p p.length ⟨runL m (swL p ks), 0, ks⟩ := ⟨rfl, hk, by rw [List.take_length]⟩
    obtain ⟨x, hx, s⟩ := b.all _ hc
    exact ⟨x, hx, s.1, (b.is x hx).2 _ hc (P3.same_symm s)⟩
  cases e : rm.foldl (few3 ws) none with
  | none =>
    intro ks hk
    obtain ⟨x, hx, h1, _⟩ := key ks hk
    rw [← h1]
    exact (f1 e).2 x hx
  | some ls =>
    obtain ⟨a, _, c⟩ := f2 ls e
    rcases a with a | ⟨x, hx, q1, q2⟩
    · cases a
    · obtain ⟨⟨_, z2, z3⟩, _⟩ := b.is x hx
      rw [List.take_length] at z3
      refine ⟨q2 ▸ z2, by rw [← q2, ← z3]; exact q1, fun k hk hf => ?_⟩
      obtain ⟨y, hy, y1, y2⟩ := key k hk
      have := c y hy (by rw [y1]; exact hf)
      omega
section
variable {P : Program} {w : World} {K : PySem.W.Frag} {mg : Str → Option Value} {base : Heap} {C : Addr} {H H' : Hp} {s : SA} {m : Mc} {ts : List Tm} {log : List (Nat × List Nat)}
/-- the items of a dict of ways, as a list of data -/
theorem items_ways {kvs : List (List NI × V)} {rm : List P3} {as : List Addr} (po : Pr5 K m ts H kvs rm) : Paired (fun (t : Addr) (q : List NI × V) => ∃ b, Dp K H (.ref b) (keyD q.1) ∧ H t = some (.tup [.ref b, q.2])) as kvs →
    ∃ ways : List (List Nat × List Nat), DpAll K H (as.map V.ref) (ways.map wayD) ∧ ways.map (fun y => (y.1.map (at0 ts), y.2)) = rm.map (fun x => (x.hs, x.ls)) ∧ ∀ y ∈ ways, Hs m ts y.1 := by
  induction po generalizing as with
  | nil =>
    intro h
    cases h
    exact ⟨[], .nil, rfl, fun y hy => by cases hy⟩
  | cons h t ih =>
    intro hh
    cases hh with
    | cons a b =>
      obtain ⟨hs, k1, k2, k3, _, k4⟩ := h
      obtain ⟨q, q1, q2⟩ := a
      obtain ⟨ways, w1, w2, w3⟩ := ih b
      rw [k1, kW_D] at q1
      refine ⟨(hs, _) :: ways, .cons (.tup (st_of q2) (.cons q1 (.cons k4 .nil))) w1, ?_, fun y hy => ?_⟩
      · rw [List.map_cons, List.map_cons, w2, k3]
      · rcases List.mem_cons.mp hy with rfl | hy
        · exact k2
        · exact w3 y hy
def spSwH (K : PySem.W.Frag) (out : Option (List Nat) → PyData) : Sp := fun vs H Q _ => ∃ (mv pw wv : V) (m : Mc) (p : List Ln) (ws : List (Nat × Tm)), vs = [mv, pw, wv] ∧ Dp K H mv m.enc ∧ Dp K H pw (progD p) ∧ Dp K H wv (wishesD ws) ∧ m.Ok ∧ (∀ l ∈ p, Ln.Ok m l) ∧ p.length ≤ 7 ∧ WsOk m ws ∧ ws.length ≤ 20 ∧ ∀ v H' r, Ex H H' → SwH m p ws r → Dp K H' v (out r) → Q v H'
abbrev CSwH (P : Program) (w : World) (K : PySem.W.Frag) (mg : Str → Option Value) (base : Heap) := Cal P w K mg base 14 "swap_harm" ["machine", "program", "wishes"] (spSwH K optL)
theorem ok_swap_harm (B : Bi mg) (D : Dfn K mg "swap_harm" sSwapHarm ["machine", "program", "wishes"]) (C_check_machine : CChkM P w K mg base) (C_check_program : CChkP P w K mg base) (C_check_wishes : CChkW P w K mg base) (M_Store : KStore P w K mg base C) (C_swapped_rows : CRowsS P w K mg base C) (C_wanted_numbers : CWanted P w K mg base C) (C_fewest_harmful : CFH P w K mg base) : CSwH P w K mg base := by
  refine D.ok scSwapHarm (fun vs H Q E h => ?_) (fun f cdv A outer sh0 H vs Q E hr h => ?_)
  · obtain ⟨mv, pw, wv, m, p, ws, rfl, _⟩ := h
    rfl
  obtain ⟨mv, pw, wv, m, p, ws, rfl, hm, hp, hw, mok, ok, p7, wok, wz, k⟩ := h
  refine ⟨_, (pss_cons (ps_expr (pe_calD C_check_machine hr (by omega) rfl (pa_cons (pv 0) pa_nil))) (pss_cons (ps_expr (pe_cal C_check_program hr (by omega) rfl (pa_cons (pv 0) (pa_cons (pv 1) pa_nil)))) (pss_cons (ps_expr (pe_cal C_check_wishes hr (by omega) rfl (pa_cons (pv 0) (pa_cons (pv 2) pa_nil)))) (pss_cons (ps_set (i := 3) scSwapHarm.nd rfl (by first | exact Or.inl rfl | exact Or.inr rfl) (pe_mkC M_Store hr (by omega) rfl (pa_cons (pe_ix ix_tup (pv 0) pe_int (fun _ _ => rfl)) pa_nil))) (pss_cons (ps_set (i := 4) scSwapHarm.nd rfl (by first | exact Or.inl rfl | exact Or.inr rfl) (pe_cal C_swapped_rows hr (by omega) rfl (pa_cons (pv 3) (pa_cons (pv 1) pa_nil)))) (pss_one (ps_ret (pe_cal C_fewest_harmful hr (by omega) rfl (pa_cons (pe_listItemsN rfl (pv 4) rfl B.list (by decide +kernel)) (pa_cons (pe_cal C_wanted_numbers hr (by omega) rfl (pa_cons (pv 3) (pa_cons (pv 2) pa_nil))) pa_nil)))))))))), ?_⟩
  have c4 := mok.c4
  refine qd_drop (K := K) (ed_chkM mok (ed_var rfl hm)) fun H1 e1 => ?_
  refine qd_drop (K := K) (ed_chkP mok ok (by omega) (ed_var rfl (dmono e1 _ _ hm)) (ed_var rfl (dmono e1 _ _ hp))) fun H2 e2 => ?_
  have e12 := e1.trans e2
  refine qd_drop (K := K) (ed_chkW mok wok (by omega) (ed_var rfl (dmono e12 _ _ hm)) (ed_var rfl (dmono e12 _ _ hw))) fun H3 e3 => ?_
  have e13 := e12.trans e3
  refine q_store mok.c4 (ev_cells (ed_var rfl (dmono e13 _ _ hm))) fun s H4 st4 new e4 => ?_
  have e14 := e13.trans e4
  refine ⟨_, rfl, _, rfl, s, m, p, pw, rfl, dmono e14 _ _ hp, st4, mok, ok, p7, fun d H5 ts log kvs rm st5 tl fr5 nd nS dS hd po best kl => ?_⟩
  have old5 : Ex H3 H5 := FrM.ex new e4 fr5
  refine ⟨_, rfl, d, shW m, kvs, rfl, nd, fun H6 ra as ex6 hra hla pa => ?_⟩
  obtain ⟨ways, w1, w2, w3⟩ := items_ways (po.tk0 (TK.of ex6)) pa
  have st6 := st5.mono ex6
  have nSr : NotS s ra := st5.notS hra
  refine ⟨_, rfl, _, rfl, s, m, ts, log, wv, ws, rfl, dmono (e13.trans (old5.trans ex6)) _ _ hw, st6, mok, wok, by omega, by omega, fun aw ac H7 us7 log7 wn ul st7 fr7 haw alw W nSw => ?_⟩
  have tk7 : TK K H6 H7 := st6.tk fr7
  have hra7 := fr7 _ _ hla nSr.t nSr.d nSr.n nSr.x
  have w17 := tmonoAll tk7 _ _ (ways_noL ways) w1
  have oldF : Ex H3 H7 := FrM.ex new e4 (fr5.trans ((FrM.of ex6).trans fr7))
  have cells : ∀ x ∈ ways, ∀ z ∈ wn, z.1 < x.1.length := fun x hx z hz => by
    rw [(w3 x hx).len]
    exact wok.cell (z.1, at0 (ts ++ us7) z.2) (by rw [← W.eq]; exact List.mem_map.mpr ⟨z, hz, rfl⟩)
  refine ⟨_, _, ways, wn, rfl, .lst (sq_of hra7) w17, .lst (sq_of haw) alw, cells, by have := W.len; omega, fun v H8 e8 hv => k v H8 _ ((e13.trans oldF).trans e8) (swh_is best) ?_⟩
  rw [← fewN_few3 (ts := ts) (wn := wn) (ways := ways) none w2 fun y hy => ?_]
  · exact hv
  · rw [full_is st7.inv.nod W (w3 y hy).app wok.cell, at0_map (w3 y hy).lt]
theorem ok_is_swap_proof (D : Dfn K mg "is_swap_proof" sIsSwapProof ["machine", "program", "wishes"]) (C_swap_harm : CSwH P w K mg base) : Cal P w K mg base 15 "is_swap_proof" ["machine", "program", "wishes"] (spSwH K fun r => .bool r.isNone) := by
  refine D.ok scIsSwapProof (fun vs H Q E h => ?_) (fun f cdv A outer sh0 H vs Q E hr h => ?_)
  · obtain ⟨mv, pw, wv, m, p, ws, rfl, _⟩ := h
    rfl
  obtain ⟨mv, pw, wv, m, p, ws, rfl, hm, hp, hw, mok, ok, p7, wok, wz, k⟩ := h
  refine ⟨_, (pss_one (ps_ret (pe_cmpR op_isN (pe_cal C_swap_harm hr (by omega) rfl (pa_cons (pv 0) (pa_cons (pv 1) (pa_cons (pv 2) pa_nil)))) pe_non (by first | exact nomark _ | rfl)))), ?_⟩
  refine ⟨_, rfl, _, rfl, _, rfl, mv, pw, wv, m, p, ws, rfl, hm, hp, hw, mok, ok, p7, wok, wz, fun v H3 r e3 hr hv => ⟨rfl, ?_⟩⟩
  have hn : decide (v = V.non) = r.isNone := by
    rw [non_is hv]
    cases r <;> rfl
  rw [hn]
  exact k _ H3 r e3 hr (.bl _)
end
end Lb

set_option Elab.async false
set_option linter.all false
set_option maxRecDepth 100000
set_option maxHeartbeats 4000000
/-! shows_swap_harm -/
namespace Lb
open PySem L2 Evl PyProof.Rows
/-- what swap_harm may return -/
def ShowS (m : Mc) (p : List Ln) (ws : List (Nat × Tm)) (o : Option PyData) : Prop := ∃ r, SwH m p ws r ∧ o = some (optL r)
section
variable {P : Program} {w : World} {K : PySem.W.Frag} {mg : Str → Option Value} {base : Heap} {C : Addr} {H H' : Hp} {s : SA} {m : Mc} {ts : List Tm} {log : List (Nat × List Nat)}
def spShSw (K : PySem.W.Frag) : Sp := fun vs H Q _ => ∃ (mv pw wv v : V) (m : Mc) (p : List Ln) (ws : List (Nat × Tm)) (o : Option PyData), vs = [mv, pw, wv, v] ∧ Dp K H mv m.enc ∧ Dp K H pw (progD p) ∧ Dp K H wv (wishesD ws) ∧ AnyV K H v o ∧ m.Ok ∧ (∀ l ∈ p, Ln.Ok m l) ∧ p.length ≤ 7 ∧ WsOk m ws ∧ ws.length ≤ 20 ∧
  (∀ ds, o = some (.tuple ds) → ds.length ≤ 60) ∧ ∀ b H', Ex H H' → (b = true ↔ ShowS m p ws o) → Q (.bl b) H'
abbrev CShSw (P : Program) (w : World) (K : PySem.W.Frag) (mg : Str → Option Value) (base : Heap) := Cal P w K mg base 15 "shows_swap_harm" ["machine", "program", "wishes", "value"] (spShSw K)
theorem ok_shows_swap_harm (B : Bi mg) (D : Dfn K mg "shows_swap_harm" sShowsSwapHarm ["machine", "program", "wishes", "value"]) (C_swap_harm : CSwH P w K mg base) (C_is_swaps : CIsSw P w K mg base) (M_Store : KStore P w K mg base C) (C_swapped : CSwd P w K mg base) (C_behind_losses : CBLL P w K mg base C) (C_are_fulfilled : CFull P w K mg base) (C_wanted_numbers : CWanted P w K mg base C) : CShSw P w K mg base := by
  refine D.ok scShowsSwapHarm (fun vs H Q E h => ?_) (fun f cdv A outer sh0 H vs Q E hr h => ?_)
  · obtain ⟨mv, pw, wv, v, m, p, ws, o, rfl, _⟩ := h
    rfl
  obtain ⟨mv, pw, wv, v, m, p, ws, o, rfl, hm, hp, hw, ha, mok, ok, p7, wok, wz, hds, k⟩ := h
  refine ⟨_, (pss_cons (ps_set (i := 4) scShowsSwapHarm.nd rfl (by first | exact Or.inl rfl | exact Or.inr rfl) (pe_cal C_swap_harm hr (by omega) rfl (pa_cons (pv 0) (pa_cons (pv 1) (pa_cons (pv 2) pa_nil))))) (pss_cons (ps_if (pt_cmpR op_isN (pv 4) pe_non (by first | exact nomark _ | rfl)) (pss_one (ps_ret (pe_cmpR op_isN (pv 3) pe_non (by first | exact nomark _ | rfl)))) pss_nil) (pss_cons (ps_if (PW.pt (pw_or (pt_not (pt_val (pe_cal C_is_swaps hr (by omega) rfl (pa_cons (pv 1) (pa_cons (pv 3) pa_nil))))) (pw_or1 (pt_cmpR op_ne (pe_callB call_lenq (by rfl) B.len PySem.boot_len (pa_cons (pv 3) pa_nil)) (pe_callB call_lenq (by rfl) B.len PySem.boot_len (pa_cons (pv 4) pa_nil)) (by first | exact nomark _ | rfl))))) (pss_one (ps_ret pe_bl)) pss_nil) (pss_cons (ps_set (i := 5) scShowsSwapHarm.nd rfl (by first | exact Or.inl rfl | exact Or.inr rfl) (pe_mkC M_Store hr (by omega) rfl (pa_cons (pe_ix ix_tup (pv 0) pe_int (fun _ _ => rfl)) pa_nil))) (pss_cons (ps_set (i := 6) scShowsSwapHarm.nd rfl (by first | exact Or.inl rfl | exact Or.inr rfl) (pe_cal C_behind_losses hr (by omega) rfl (pa_cons (pv 5) (pa_cons (pe_cal C_swapped hr (by omega) rfl (pa_cons (pv 1) (pa_cons (pv 3) pa_nil))) (pa_cons (pe_tup pa_nil) pa_nil))))) (pss_one (ps_ret (pe_not (pe_cal C_are_fulfilled hr (by omega) rfl (pa_cons (pv 6) (pa_cons (pe_cal C_wanted_numbers hr (by omega) rfl (pa_cons (pv 5) (pa_cons (pv 2) pa_nil))) pa_nil))))))))))), ?_⟩
  refine ⟨_, rfl, _, rfl, _, rfl, mv, pw, wv, m, p, ws, rfl, hm, hp, hw, mok, ok, p7, wok, wz, fun fv H3 r e03 hr3 hfv => ?_⟩
  have ha3 := ha.mono e03
  have hp3 := dmono e03 _ _ hp
  cases r with
  | none =>
    refine q_when (et_test (ev_isN (ed_var rfl hfv))) (fun _ H4 e4 => ?_) (fun z => by cases z)
    refine s_ret (ev_isN_any rfl (ha3.mono e4)) fun H5 e5 => k _ H5 ((e03.trans e4).trans e5) ?_
    constructor
    · intro z
      refine ⟨none, hr3, ?_⟩
      cases o with
      | none => cases z
      | some d => cases d with
        | none => rfl
        | bool b | int i | str x | list l | tuple l | dict l => cases z
    · rintro ⟨r, hr4, rfl⟩
      cases r with
      | none => rfl
      | some ls =>
        have := hr3 ls hr4.1
        rw [hr4.2.1] at this
        cases this
  | some ks =>
    refine q_when (et_test (ev_isN (ed_var rfl hfv))) (fun z => by cases z) (fun _ H4 e4 => ?_)
    have ev1 : Ev (tCall (spIsSw K) [] E0 (tCons (tVar 1) (tCons (tVar 3) tNil))) [some mv, some pw, some wv, some v, some fv, none, none] H4 (.bl (isSwB p.length o)) := fun H5 e5 Q1 q1 =>
      ⟨_, rfl, _, rfl, pw, v, p.map Ln.enc, o, rfl, dmono (e4.trans e5) _ _ hp3, ha3.mono (e4.trans e5), by rw [List.length_map]; omega, hds, fun H6 e6 => by rw [List.length_map]; exact q1 H6 e6⟩
    cases hb : isSwB p.length o with
    | false =>
      rw [hb] at ev1
      refine q_when (et_or (b := false) (et_not (et_B ev1)) (fun z => by cases z)) (fun _ H5 e5 => ?_) (fun z => by cases z)
      refine s_ret ev_c fun H6 e6 => k false H6 (((e03.trans e4).trans e5).trans e6) ⟨fun z => (by cases z), ?_⟩
      rintro ⟨r, hr4, rfl⟩
      exfalso
      cases r with
      | none =>
        have := hr4 ks hr3.1
        rw [hr3.2.1] at this
        cases this
      | some ls =>
        have := isSwB_iff.mpr ⟨ls, rfl, hr4.1⟩
        rw [show some (optL (some ls)) = some (natsD ls) from rfl] at hb
        rw [hb] at this
        cases this
    | true =>
      rw [hb] at ev1
      obtain ⟨ls, rfl, lok⟩ := isSwB_iff.mp hb
      have ha4 : Dp K H4 v (natsD ls) := ha3.mono e4
      have l1 := List.length_map (as := ls) fun (n : Nat) => PyData.int (n : Int)
      have l2 := List.length_map (as := ks) fun (n : Nat) => PyData.int (n : Int)
      refine q_when (et_or (et_not (et_B ev1)) (fun _ => et_test (ev_op (ev_is (ev_lenT (ed_var rfl ha4)) (by rw [l1])) (ev_is (ev_lenT (ed_var rfl (dmono e4 _ _ hfv))) (by rw [l2])) (rv_ne rfl)))) (fun c H5 e5 => ?_) (fun c H5 e5 => ?_)
      · have c' : ls.length ≠ ks.length := fun z => by rw [z] at c; simp at c
        refine s_ret ev_c fun H6 e6 => k false H6 (((e03.trans e4).trans e5).trans e6) ⟨fun z => (by cases z), ?_⟩
        rintro ⟨r, hr4, he⟩
        exfalso
        cases r with
        | none => cases he
        | some ls' =>
          have := natsD_inj (Option.some.inj he)
          subst this
          have a1 := hr3.2.2 ls hr4.1 hr4.2.1
          have a2 := hr4.2.2 ks hr3.1 hr3.2.1
          omega
      · have c' : ls.length = ks.length := Classical.byContradiction fun z => by
          have : ¬ V.int (ls.length : Int) = V.int (ks.length : Int) := fun y => z (by injection y with y; omega)
          simp [this] at c
        have e05 := (e03.trans e4).trans e5
        refine q_store mok.c4 (ev_cells (ed_var rfl (dmono e05 _ _ hm))) fun s H6 st6 new e6 => ?_
        have e06 := e05.trans e6
        refine ⟨_, rfl, _, rfl, _, rfl, pw, v, p, ls, rfl, dmono e06 _ _ hp, dmono (e5.trans e6) _ _ ha4, by omega, lok.1, fun l xs H7 hln e7 hl al => ?_⟩
        have nS := st6.notS hln
        refine ⟨by show 0 ≤ sizeLine; exact Nat.zero_le _, fun q hq => ?_⟩
        have en := Ex.new (o := .tup []) hq
        have e67 := e7.trans en
        refine ⟨s, m, swL p ls, l, xs, .ref q, rfl, en _ _ hl, nS, dmonoAll en _ _ al, .tup (st_of upd_same) .nil, st6.mono e67, mok, swL_ok ls p ok, by rw [swL_len]; exact p7, fun hv H8 ts8 log8 hs st8 fr8 hhv ho he tz => ?_⟩
        refine ⟨_, rfl, _, rfl, _, rfl, s, m, ts8, log8, wv, ws, rfl, tmono ((TK.of e67).trans ((st6.mono e67).tk fr8)) _ _ (wishesD_noL _) (dmono e06 _ _ hw), st8, mok, wok, by omega, by omega, fun aw acc H9 us9 log9 wn ul st9 fr9 haw alw W nSw => ?_⟩
        have tk9 : TK K H8 H9 := st8.tk fr9
        have ho9 := ho.app (us := us9)
        have fis : full hs wn = fulfilled ws (runL m (swL p ls)) := by rw [full_is st9.inv.nod W ho9 wok.cell, at0_map ho.lt, he]
        have cells : ∀ z ∈ wn, z.1 < hs.length := fun z hz => by
          rw [ho.len]
          exact wok.cell (z.1, at0 (ts8 ++ us9) z.2) (by rw [← W.eq]; exact List.mem_map.mpr ⟨z, hz, rfl⟩)
        refine ⟨hv, .ref aw, hs, wn, rfl, tmono tk9 _ _ (natsD_noL _) hhv, .lst (sq_of haw) alw, cells, by have := W.len; omega, fun H10 e10 => ⟨_, rfl, k _ H10 ?_ ?_⟩⟩
        · exact e05.trans ((FrM.ex new (e6.trans e67) (fr8.trans fr9)).trans e10)
        · rw [fis]
          constructor
          · intro z
            have z' : fulfilled ws (runL m (swL p ls)) = false := by simpa using z
            exact ⟨some ls, ⟨lok, z', fun k hk hf => by rw [c']; exact hr3.2.2 k hk hf⟩, rfl⟩
          · rintro ⟨r, hr4, he2⟩
            cases r with
            | none => cases he2
            | some ls' =>
              have := natsD_inj (Option.some.inj he2)
              subst this
              rw [hr4.2.1]
              rfl
end
end Lb

set_option Elab.async false
set_option linter.all false
set_option maxRecDepth 100000
set_option maxHeartbeats 4000000
/-! the law's term, with its lambda -/
namespace Lb
open PySem L2 Evl PyProof.Rows LamX
/-- _law_word, given a lambda -/
theorem gives__law_word {X : Cx} {cdw : Value} {g Ebs : Addr} {q : Str} (mBad : X.mg "BadSwaps" = some (.ref Ebs)) : GivesTo X ["work"] "_law_word" (defScope sLWord) g cdw (defBody sLWord) "work" q (TTword X.K Ebs "swaps" "none") :=
  word_gives (e := "BadSwaps") (by rfl) mBad (by decide) (fun _ => rfl)
end Lb

set_option Elab.async false
set_option linter.all false
set_option maxRecDepth 100000
set_option maxHeartbeats 4000000
/-! the law's lots of swaps, those that harm, what shows -/
namespace Lb
open PySem L2 Evl PyProof.Rows
/-- two swaps next to each other, at a place -/
def gapB (ls : List Nat) (i : Nat) : Bool := decide (((ls.getD (i + 1) 0 : Nat) : Int) - ((ls.getD i 0 : Nat) : Int) < 2)
def okSB (ls : List Nat) : Bool := ((List.range (ls.length - 1)).filter (gapB ls)).isEmpty
def lotsOf (n : Nat) : List (List Nat) := (subsL (n - 1)).filter okSB
theorem subsL_lt : ∀ n, ∀ a ∈ subsL n, ∀ x ∈ a, x < n
  | 0, a, h, x, hx => by rw [List.mem_singleton.mp h] at hx; cases hx
  | n + 1, a, h, x, hx => by
    rcases List.mem_append.mp h with h | h
    · exact Nat.lt_succ_of_lt (subsL_lt n a h x hx)
    · obtain ⟨b, hb, rfl⟩ := List.mem_map.mp h
      rcases List.mem_append.mp hx with hx | hx
      · exact Nat.lt_succ_of_lt (subsL_lt n b hb x hx)
      · rw [List.mem_singleton.mp hx]
        exact Nat.lt_succ_self _
theorem subsL_le {a : List Nat} {n k : Nat} (h : n ≤ k) (ha : a ∈ subsL n) : a ∈ subsL k := by
  induction h with
  | refl => exact ha
  | step _ ih => exact List.mem_append_left _ ih
theorem swok_subs : ∀ n ks, SwOk n ks → ks ∈ subsL (n - 1) := by
  intro n
  induction n using Nat.strongRecOn with
  | _ n ih =>
    intro ks h
    cases n with
    | zero =>
      cases ks with
      | nil => exact List.mem_singleton_self _
      | cons k ks =>
        have := h.1 k List.mem_cons_self
        omega
    | succ i =>
      rcases swok_succ.mp h with h | ⟨ks', rfl, h1, h2⟩
      · exact subsL_le (by omega) (ih i (Nat.lt_succ_self _) ks h)
      · have q := subsL_le (k := i - 1) (by omega) (ih (i - 1) (by omega) ks' h2)
        have e : i + 1 - 1 = (i - 1) + 1 := by omega
        rw [e]
        exact List.mem_append_right _ (List.mem_map.mpr ⟨ks', q, rfl⟩)
theorem getD_at {ls : List Nat} {i a : Nat} (h : ls[i]? = some a) : ls.getD i 0 = a := by rw [List.getD_eq_getElem?_getD, h]; rfl
theorem okSB_iff {ls : List Nat} : okSB ls = true ↔ ∀ i a b, ls[i]? = some a → ls[i + 1]? = some b → a + 1 < b := by
  unfold okSB
  rw [List.isEmpty_iff, List.filter_eq_nil_iff]
  constructor
  · intro h i a b ha hb
    have bl := (List.getElem?_eq_some_iff.mp hb).1
    have := h i (List.mem_range.mpr (by omega))
    unfold gapB at this
    rw [getD_at ha, getD_at hb, decide_eq_true_iff] at this
    omega
  · intro h i hi
    have il := List.mem_range.mp hi
    have ha : ls[i]? = some ls[i] := List.getElem?_eq_getElem (by omega)
    have hb : ls[i + 1]? = some ls[i + 1] := List.getElem?_eq_getElem (by omega)
    have := h i _ _ ha hb
    unfold gapB
    rw [getD_at ha, getD_at hb, decide_eq_true_iff]
    omega
theorem lots_mem {n : Nat} {ls : List Nat} : ls ∈ lotsOf n ↔ SwOk n ls := by
  unfold lotsOf
  rw [List.mem_filter]
  constructor
  · rintro ⟨h1, h2⟩
    exact ⟨fun k hk => by have := subsL_lt _ _ h1 k hk; omega, okSB_iff.mp h2⟩
  · intro h
    exact ⟨swok_subs _ _ h, okSB_iff.mpr h.2⟩
theorem lots_len {n : Nat} (h : n ≤ 7) : (lotsOf n).length ≤ 64 := by
  have h1 : (lotsOf n).length ≤ _ := List.length_filter_le _ _
  rw [subsL_len] at h1
  have h2 : 2 ^ (n - 1) ≤ 2 ^ 6 := Nat.pow_le_pow_right (by decide) (by omega)
  omega
theorem lots_sz {n : Nat} {ls : List Nat} (h : ls ∈ lotsOf n) : ls.length ≤ n := by
  have := subsL_sz _ _ (List.mem_filter.mp h).1
  omega
theorem lots_nil (n : Nat) : [] ∈ lotsOf n := lots_mem.mpr ⟨fun _ h => (by cases h), fun _ _ _ h => (by cases h)⟩
def badSw (m : Mc) (p : List Ln) (ws : List (Nat × Tm)) (ls : List Nat) : Bool := !fulfilled ws (runL m (swL p ls))
def harmsOf (m : Mc) (p : List Ln) (ws : List (Nat × Tm)) : List (List Nat) := (lotsOf p.length).filter (badSw m p ws)
theorem harms_mem {m : Mc} {p : List Ln} {ws : List (Nat × Tm)} {ls : List Nat} : ls ∈ harmsOf m p ws ↔ SwOk p.length ls ∧ fulfilled ws (runL m (swL p ls)) = false := by
  unfold harmsOf badSw
  rw [List.mem_filter, lots_mem]
  simp
def leastS (bs : List (List Nat)) : Nat := (bs.map List.length).foldr min 99
theorem leastS_le : ∀ {bs : List (List Nat)} {l : List Nat}, l ∈ bs → leastS bs ≤ l.length
  | b :: bs, l, h => by
    have e : leastS (b :: bs) = min b.length (leastS bs) := rfl
    rw [e]
    rcases List.mem_cons.mp h with rfl | h
    · exact Nat.min_le_left _ _
    · exact Nat.le_trans (Nat.min_le_right _ _) (leastS_le h)
theorem leastS_mem : ∀ bs : List (List Nat), leastS bs = 99 ∨ ∃ l ∈ bs, l.length = leastS bs
  | [] => .inl rfl
  | b :: bs => by
    have e : leastS (b :: bs) = min b.length (leastS bs) := rfl
    rw [e]
    rcases Nat.le_total b.length (leastS bs) with h | h
    · exact .inr ⟨b, List.mem_cons_self, (Nat.min_eq_left h).symm⟩
    · rw [Nat.min_eq_right h]
      rcases leastS_mem bs with q | ⟨l, h1, h2⟩
      · exact .inl q
      · exact .inr ⟨l, List.mem_cons_of_mem _ h1, h2⟩
/-- one of the harms is as short as can be -/
theorem leastS_some {m : Mc} {p : List Ln} {ws : List (Nat × Tm)} (p7 : p.length ≤ 7) (ne : harmsOf m p ws ≠ []) : ∃ l ∈ harmsOf m p ws, l.length = leastS (harmsOf m p ws) := by
  rcases leastS_mem (harmsOf m p ws) with h | h
  · obtain ⟨l, hl⟩ := List.exists_mem_of_ne_nil _ ne
    have h1 := leastS_le hl
    have h2 := lots_sz (List.mem_filter.mp hl).1
    omega
  · exact h
theorem swh_iff {m : Mc} {p : List Ln} {ws : List (Nat × Tm)} (p7 : p.length ≤ 7) {r : Option (List Nat)} : SwH m p ws r ↔ match r with
    | none => harmsOf m p ws = []
    | some ks => ks ∈ harmsOf m p ws ∧ ks.length = leastS (harmsOf m p ws) := by
  cases r with
  | none =>
    constructor
    · intro h
      refine List.eq_nil_iff_forall_not_mem.mpr fun l hl => ?_
      obtain ⟨h1, h2⟩ := harms_mem.mp hl
      rw [h l h1] at h2
      cases h2
    · intro h ks hk
      cases e : fulfilled ws (runL m (swL p ks)) with
      | true => rfl
      | false =>
        have := harms_mem.mpr ⟨hk, e⟩
        rw [h] at this
        cases this
  | some ks =>
    constructor
    · rintro ⟨h1, h2, h3⟩
      have hm := harms_mem.mpr ⟨h1, h2⟩
      refine ⟨hm, Nat.le_antisymm ?_ (leastS_le hm)⟩
      obtain ⟨l, hl, e⟩ := leastS_some p7 (List.ne_nil_of_mem hm)
      obtain ⟨a, b⟩ := harms_mem.mp hl
      have := h3 l a b
      omega
    · rintro ⟨h1, h2⟩
      obtain ⟨a, b⟩ := harms_mem.mp h1
      refine ⟨a, b, fun js hj hf => ?_⟩
      have := leastS_le (harms_mem.mpr ⟨hj, hf⟩)
      omega
theorem eqvAll_nats : ∀ (l : List Nat) (ds : List PyData), PyData.eqvAll (l.map fun (n : Nat) => PyData.int (n : Int)) ds = true → (∀ d ∈ ds, ∃ i, d = .int i) → ds = l.map fun (n : Nat) => PyData.int (n : Int)
  | [], [], _, _ => rfl
  | [], d :: ds, h, _ => by simp [PyData.eqvAll] at h
  | n :: l, [], h, _ => by simp [PyData.eqvAll] at h
  | n :: l, d :: ds, h, hb => by
    obtain ⟨i, rfl⟩ := hb d List.mem_cons_self
    rw [List.map_cons, PyData.eqvAll, Bool.and_eq_true] at h
    rw [List.map_cons, ← eqvAll_nats l ds h.2 fun d hd => hb d (List.mem_cons_of_mem _ hd)]
    have h1 := h.1
    have e : ((n : Int) = i) := by simpa [PyData.eqv] using h1
    rw [e]
/-- the values that the law shows -/
inductive VD : PyData → Prop
  | non : VD .none
  | lst (ls : List Nat) : ls.length ≤ 60 → VD (.list (ls.map fun n : Nat => PyData.int (n : Int)))
  | tup (ds : List PyData) : ds.length ≤ 60 → (∀ d ∈ ds, ∃ i, d = .int i) → VD (.tuple ds)
theorem VD.nats {ls : List Nat} (h : ls.length ≤ 60) : VD (natsD ls) := .tup _ (by rw [List.length_map]; exact h) fun d hd => by
  obtain ⟨x, _, rfl⟩ := List.mem_map.mp hd
  exact ⟨_, rfl⟩
theorem VD.shaped {d : PyData} (h : VD d) : SeqAt.shaped d = true := by
  have li : ∀ ds : List PyData, (∀ d ∈ ds, ∃ i, d = .int i) → ∀ d ∈ ds, Lay 0 d := fun ds h d hd => by
    obtain ⟨i, rfl⟩ := h d hd
    exact lay_int i
  cases h with
  | non => exact lay_none.shaped (by decide)
  | lst ls _ => exact (lay_lst (n := 0) (li _ fun d hd => by
      obtain ⟨x, _, rfl⟩ := List.mem_map.mp hd
      exact ⟨_, rfl⟩)).shaped (by decide)
  | tup ds _ h => exact (lay_tup (n := 0) (li _ h)).shaped (by decide)
def inB (bs : List (List Nat)) (d : PyData) : Bool := (bs.map natsD).any fun z => PyData.eqv z d
theorem inB_iff {bs : List (List Nat)} {d : PyData} (h : VD d) : inB bs d = true ↔ ∃ ks ∈ bs, d = natsD ks := by
  unfold inB
  rw [List.any_map, List.any_eq_true]
  constructor
  · rintro ⟨x, hx, e⟩
    have e' : PyData.eqv (natsD x) d = true := e
    refine ⟨x, hx, ?_⟩
    cases h with
    | non => simp [natsD, PyData.eqv] at e'
    | lst ls _ => simp [natsD, PyData.eqv] at e'
    | tup ds _ h =>
      have e2 : PyData.eqvAll (x.map fun (n : Nat) => PyData.int (n : Int)) ds = true := by
        unfold natsD at e'
        rw [PyData.eqv] at e'
        exact e'
      rw [eqvAll_nats x ds e2 h]
      rfl
  · rintro ⟨ks, hk, rfl⟩
    refine ⟨ks, hk, ?_⟩
    show PyData.eqv (natsD ks) (natsD ks) = true
    rw [eqv_nats]
    exact decide_eq_true rfl
/-- as many as the least -/
def lenB (n : Nat) : PyData → Bool
  | .tuple ds => decide ((ds.length : Int) = (n : Int))
  | _ => false
def goodB (bs : List (List Nat)) (d : PyData) : Bool := if bs.isEmpty then isNon d else inB bs d && lenB (leastS bs) d
theorem good_iff {m : Mc} {p : List Ln} {ws : List (Nat × Tm)} (p7 : p.length ≤ 7) {d : PyData} (h : VD d) : goodB (harmsOf m p ws) d = true ↔ ShowS m p ws (some d) := by
  unfold goodB ShowS
  constructor
  · split
    · rename_i c
      intro z
      have e := List.isEmpty_iff.mp c
      refine ⟨none, (swh_iff p7).mpr e, ?_⟩
      cases d <;> first | rfl | cases z
    · intro z
      obtain ⟨z1, z2⟩ := Bool.and_eq_true_iff.mp z
      obtain ⟨ks, hk, rfl⟩ := (inB_iff h).mp z1
      refine ⟨some ks, (swh_iff p7).mpr ⟨hk, ?_⟩, rfl⟩
      unfold natsD lenB at z2
      have := of_decide_eq_true z2
      rw [List.length_map] at this
      omega
  · rintro ⟨r, hr, e⟩
    cases e
    have q := (swh_iff p7).mp hr
    cases r with
    | none =>
      have q' : harmsOf m p ws = [] := q
      rw [q']
      rfl
    | some ks =>
      obtain ⟨q1, q2⟩ := q
      have ne : (harmsOf m p ws).isEmpty = false := by
        cases e : harmsOf m p ws with
        | nil => rw [e] at q1; cases q1
        | cons a b => rfl
      rw [ne, if_neg (by decide), Bool.and_eq_true]
      refine ⟨(inB_iff h).mpr ⟨ks, q1, rfl⟩, ?_⟩
      show decide (((ks.map fun n : Nat => PyData.int (n : Int)).length : Int) = _) = true
      rw [List.length_map, q2]
      exact decide_eq_true rfl
/-- what is no swaps -/
theorem badsw_int {n : Nat} {z : Int} (h : ¬ (0 ≤ z ∧ z + 1 < n)) : isSwB n (some (.tuple [.int z])) = false := by
  cases e : isSwB n (some (.tuple [.int z])) with
  | false => rfl
  | true =>
    obtain ⟨ks, h1, h2⟩ := isSwB_iff.mp e
    exfalso
    have h3 : PyData.tuple [.int z] = natsD ks := Option.some.inj h1
    unfold natsD at h3
    have h4 : [PyData.int z] = ks.map fun n : Nat => PyData.int (n : Int) := by injection h3
    cases ks with
    | nil => cases h4
    | cons k ks =>
      rw [List.map_cons] at h4
      have h5 : z = (k : Int) := by
        have := (List.cons.inj h4).1
        injection this
      have := h2.1 k List.mem_cons_self
      exact h ⟨by omega, by omega⟩
theorem badsw_two {n : Nat} {a b : Nat} (h : b ≤ a + 1) : isSwB n (some (natsD [a, b])) = false := by
  cases e : isSwB n (some (natsD [a, b])) with
  | false => rfl
  | true =>
    obtain ⟨ks, h1, h2⟩ := isSwB_iff.mp e
    have h3 : [a, b] = ks := natsD_inj (Option.some.inj h1)
    have := h2.2 0 a b (by rw [← h3]; rfl) (by rw [← h3]; rfl)
    omega
theorem badsw_bl {n : Nat} : isSwB n (some (.tuple [.bool true])) = false := by
  cases e : isSwB n (some (.tuple [.bool true])) with
  | false => rfl
  | true =>
    obtain ⟨ks, h1, _⟩ := isSwB_iff.mp e
    have h3 : PyData.tuple [.bool true] = natsD ks := Option.some.inj h1
    unfold natsD at h3
    have h4 : [PyData.bool true] = ks.map fun n : Nat => PyData.int (n : Int) := by injection h3
    cases ks with
    | nil => cases h4
    | cons k ks =>
      rw [List.map_cons] at h4
      have := (List.cons.inj h4).1
      cases this
/-- the values that are no swaps -/
def badsD (n : Nat) : List PyData := [.none, .list [.int 0], .tuple [.int ((n : Int) - 1)], natsD [0, 1], natsD [1, 0], .tuple [.bool true], .tuple [.int (-1)]]
theorem bads_no {n : Nat} : ∀ d ∈ badsD n, isSwB n (some d) = false ∧ ∀ ds, d = .tuple ds → ds.length ≤ 60 := fun d hd => by
  have c : d = .none ∨ d = .list [.int 0] ∨ d = .tuple [.int ((n : Int) - 1)] ∨ d = natsD [0, 1] ∨ d = natsD [1, 0] ∨ d = .tuple [.bool true] ∨ d = .tuple [.int (-1)] := by simpa [badsD] using hd
  rcases c with rfl | rfl | rfl | rfl | rfl | rfl | rfl
  · exact ⟨rfl, fun ds z => by cases z⟩
  · exact ⟨rfl, fun ds z => by cases z⟩
  · exact ⟨badsw_int (by omega), fun ds z => by cases z; simp⟩
  · exact ⟨badsw_two (by decide), fun ds z => by cases z; decide⟩
  · exact ⟨badsw_two (by decide), fun ds z => by cases z; decide⟩
  · exact ⟨badsw_bl, fun ds z => by cases z; decide⟩
  · exact ⟨badsw_int (by omega), fun ds z => by cases z; simp⟩
end Lb

set_option Elab.async false
set_option linter.all false
set_option maxRecDepth 100000
set_option maxHeartbeats 4000000
/-! the law -/
namespace Lb
open PySem L2 Evl PyProof.Rows LamX
/-! ### data stay where all but the tables stay -/
theorem rdN {H H' : Hp} {a : Addr} {u : HO} (e : ExtN H H') (hu : ∀ ps, u ≠ .tbl ps) (h : Rd H a u) : Rd H' a u :=
  h.elim (fun h => .inl (e _ _ h hu)) fun ⟨o, h⟩ => .inr ⟨o, e _ _ h fun _ z => nomatch z⟩
theorem sqlN {K : PySem.W.Frag} {H H' : Hp} {a : Addr} {xs : List V} (e : ExtN H H') (h : SqL K H a xs) : SqL K H' a xs := h.elim (fun h => .inl (rdN e (fun _ z => nomatch z) h)) .inr
theorem sqtN {K : PySem.W.Frag} {H H' : Hp} {a : Addr} {xs : List V} (e : ExtN H H') (h : SqT K H a xs) : SqT K H' a xs := h.elim (fun h => .inl (rdN e (fun _ z => nomatch z) h)) .inr
mutual
theorem dmonoN {K : PySem.W.Frag} {H H' : Hp} (e : ExtN H H') : ∀ (d : PyData) (v : V), Dp K H v d → Dp K H' v d
  | .none, _, h => by cases h; exact .non
  | .bool b, _, h => by cases h; exact .bl b
  | .int i, _, h => by cases h; exact .int i
  | .str x, _, h => by cases h; exact .str x
  | .list ds, _, h => by
    cases h with
    | lst s a => exact .lst (sqlN e s) (dmonoNAll e ds _ a)
  | .tuple ds, _, h => by
    cases h with
    | tup s a => exact .tup (sqtN e s) (dmonoNAll e ds _ a)
  | .dict _, _, h => by cases h
theorem dmonoNAll {K : PySem.W.Frag} {H H' : Hp} (e : ExtN H H') : ∀ (ds : List PyData) (vs : List V), DpAll K H vs ds → DpAll K H' vs ds
  | [], _, h => by cases h; exact .nil
  | d :: ds, _, h => by
    cases h with
    | cons a b => exact .cons (dmonoN e d _ a) (dmonoNAll e ds _ b)
end
theorem q_viaS {a b : TS} {D : Ends} {σ : L2.St} {H : Hp} (R : L2.St → Hp → Prop) (h : ∀ Z : L2.St → Hp → Prop, (∀ σ' H', R σ' H' → Z σ' H') → a { D with nx := Z } σ H) (hz : ∀ σ' H', R σ' H' → b D σ' H') : tSeq a b D σ H := h (b D) hz
section
variable {K : PySem.W.Frag} {H H' : Hp} {σ : L2.St} {m : Mc} {p : List Ln}
theorem ev_max2 {ta tb : TE} {i j : Int} (ha : Ev ta σ H (.int i)) (hb : Ev tb σ H (.int j)) : Ev (tCB (fun xs H Q => ∃ i j, xs = [V.int i, V.int j] ∧ Q (.int (if j > i then j else i)) H) (tCons ta (tCons tb tNil))) σ H (.int (if j > i then j else i)) := fun H1 e Q q =>
  ha H1 e _ fun H2 e2 => hb H2 (e.trans e2) _ fun H3 e3 => ⟨i, j, rfl, q H3 (e2.trans e3)⟩
theorem ed_subs {ta : TE} {E : XK} {n : Nat} (n8 : n ≤ 8) (h : Ev ta σ H (.int (n : Int))) : EvD K (tCall (spSubs K) [] E (tCons ta tNil)) σ H (.list ((subsL n).map natsD)) := fun H1 e Q q =>
  h H1 e _ fun H2 e2 => ⟨n, rfl, n8, fun l xs H3 e3 hl al => q _ H3 (e2.trans e3) (.lst (sq_of hl) al)⟩
theorem sp_runsw {ks : List Nat} (mok : m.Ok) (ok : ∀ l ∈ p, Ln.Ok m l) (p7 : p.length ≤ 7) (s : SwOk p.length ks) (kz : ks.length ≤ 60) : SpD K (spRunSw K) [m.enc, progD p, natsD ks] (encs (runL m (swL p ks))) := fun H vs hvs Q E q => by
  cases hvs with
  | cons h0 t0 => cases t0 with
    | cons h1 t1 => cases t1 with
      | cons h2 t2 => cases t2; exact ⟨_, _, _, m, p, ks, rfl, h0, h1, h2, mok, ok, p7, s, kz, q⟩
theorem ed_isswp {ta tb tc : TE} {E : XK} {ws : List (Nat × Tm)} (mok : m.Ok) (ok : ∀ l ∈ p, Ln.Ok m l) (p7 : p.length ≤ 7) (wok : WsOk m ws) (wz : ws.length ≤ 4) (ha : EvD K ta σ H m.enc) (hb : EvD K tb σ H (progD p)) (hc : EvD K tc σ H (wishesD ws)) :
    EvD K (tCall (spSwH K fun r => .bool r.isNone) [] E (tCons ta (tCons tb (tCons tc tNil)))) σ H (.bool (harmsOf m p ws).isEmpty) := fun H1 e Q q =>
  ha H1 e _ fun v0 H2 e2 h0 => hb H2 (e.trans e2) _ fun v1 H3 e3 h1 => hc H3 ((e.trans e2).trans e3) _ fun v2 H4 e4 h2 => by
    refine ⟨v0, v1, v2, m, p, ws, rfl, dmono (e3.trans e4) _ _ h0, dmono e4 _ _ h1, h2, mok, ok, p7, wok, by omega, fun v H5 r e5 hr hv => q v H5 (((e2.trans e3).trans e4).trans e5) ?_⟩
    have s := (swh_iff p7).mp hr
    cases r with
    | none =>
      have s' : harmsOf m p ws = [] := s
      rw [s']
      exact hv
    | some ks =>
      have ne : (harmsOf m p ws).isEmpty = false := by
        cases e : harmsOf m p ws with
        | nil =>
          have s1 := s.1
          rw [e] at s1
          cases s1
        | cons a b => rfl
      rw [ne]
      exact hv
theorem ed_showsw {ta tb tc td : TE} {E : XK} {ws : List (Nat × Tm)} {d : PyData} (mok : m.Ok) (ok : ∀ l ∈ p, Ln.Ok m l) (p7 : p.length ≤ 7) (wok : WsOk m ws) (wz : ws.length ≤ 4) (vd : VD d) (ha : EvD K ta σ H m.enc) (hb : EvD K tb σ H (progD p)) (hc : EvD K tc σ H (wishesD ws)) (hd : EvD K td σ H d) :
    EvD K (tCall (spShSw K) [] E (tCons ta (tCons tb (tCons tc (tCons td tNil))))) σ H (.bool (goodB (harmsOf m p ws) d)) := fun H1 e Q q =>
  ha H1 e _ fun v0 H2 e2 h0 => hb H2 (e.trans e2) _ fun v1 H3 e3 h1 => hc H3 ((e.trans e2).trans e3) _ fun v2 H4 e4 h2 => hd H4 (((e.trans e2).trans e3).trans e4) _ fun v3 H5 e5 h3 => by
    refine ⟨v0, v1, v2, v3, m, p, ws, some d, rfl, dmono ((e3.trans e4).trans e5) _ _ h0, dmono (e4.trans e5) _ _ h1, dmono e5 _ _ h2, h3, mok, ok, p7, wok, by omega, fun ds z => ?_, fun b H6 e6 hb => q _ H6 ((((e2.trans e3).trans e4).trans e5).trans e6) ?_⟩
    · cases Option.some.inj z
      cases vd with
      | tup _ h _ => exact h
    · have : goodB (harmsOf m p ws) d = b := by
        rw [Bool.eq_iff_iff, good_iff p7 vd]
        exact hb.symm
      rw [this]
      exact .bl b
theorem ev_minS {ta : TE} {ns : List Int} {m : Int} (h : EvD K ta σ H (.list (ns.map PyData.int))) (hm : m ∈ ns) (hb : ∀ y ∈ ns, m ≤ y) : Ev (tCB (rMin K) (tCons ta tNil)) σ H (.int m) := fun H1 e Q q => h H1 e _ fun v H2 e2 hv => by
  obtain ⟨a, xs, rfl, s, al⟩ := Dp.lstD hv
  rw [D_ints al] at s
  refine ⟨a, ns, rfl, s, List.length_pos_of_mem hm, fun z hz hzb => ?_⟩
  rw [show z = m from Int.le_antisymm (hzb m hm) (hb z hz)]
  exact q H2 e2
theorem ev_inDS {ta tb : TE} {d : PyData} {ds : List PyData} (ha : EvD K ta σ H d) (hb : EvD K tb σ H (.list ds)) (s1 : SeqAt.shaped d = true) (s2 : SeqAt.shaped (.list ds) = true) : Ev (tOp (rInD K) ta tb) σ H (.bl (ds.any fun z => PyData.eqv z d)) := fun H1 e Q q =>
  ha H1 e _ fun v H2 x2 hv => hb H2 (e.trans x2) _ fun w H3 x3 hw => ⟨d, ds, dmono x3 _ _ hv, hw, s1, s2, q H3 (x2.trans x3)⟩
theorem ev_ninDS {ta tb : TE} {d : PyData} {ds : List PyData} (ha : EvD K ta σ H d) (hb : EvD K tb σ H (.list ds)) (s1 : SeqAt.shaped d = true) (s2 : SeqAt.shaped (.list ds) = true) : Ev (tOp (rNotInD K) ta tb) σ H (.bl (!ds.any fun z => PyData.eqv z d)) := fun H1 e Q q =>
  ha H1 e _ fun v H2 x2 hv => hb H2 (e.trans x2) _ fun w H3 x3 hw => ⟨d, ds, dmono x3 _ _ hv, hw, s1, s2, q H3 (x2.trans x3)⟩
theorem ev_ifVS {t : TT} {ta tb : TE} {b : Bool} {v : V} (h : EvT t σ H b) (h1 : b = true → Ev ta σ H v) (h2 : b = false → Ev tb σ H v) : Ev (tIf t ta tb) σ H v := fun H1 e Q q => h H1 e _ fun H2 e2 => by
  cases b with
  | true =>
    show ta σ H2 Q
    exact h1 rfl H2 (e.trans e2) Q fun H3 e3 => q H3 (e2.trans e3)
  | false =>
    show tb σ H2 Q
    exact h2 rfl H2 (e.trans e2) Q fun H3 e3 => q H3 (e2.trans e3)
theorem md_of : ∀ {u : List Tm} {n : Nat}, (∀ t ∈ u, t.dep ≤ n) → md u ≤ n
  | [], n, _ => Nat.zero_le _
  | t :: u, n, h => by
    have h1 := h t List.mem_cons_self
    have h2 := md_of (u := u) fun x hx => h x (List.mem_cons_of_mem _ hx)
    exact Nat.max_le.mpr ⟨h1, h2⟩
theorem ev_fulW {ta tb : TE} {E : XK} {held : List Tm} {ws : List (Nat × Tm)} (hh : Held m held) (hd : ∀ t ∈ held, t.dep ≤ 8) (wok : WsOk m ws) (wz : ws.length ≤ 4) (ha : EvD K ta σ H (encs held)) (hb : EvD K tb σ H (wishesD ws)) : Ev (tCall (spFulW K) [] E (tCons ta (tCons tb tNil))) σ H (.bl (fulfilled ws held)) := fun H1 e Q q =>
  ha H1 e _ fun v0 H2 e2 h0 => hb H2 (e.trans e2) _ fun v1 H3 e3 h1 => ⟨v0, v1, held, ws, rfl, dmono e3 _ _ h0, h1, by omega, fun x hx => ⟨by rw [hh.len]; exact wok.cell x hx, Nat.le_trans (wok.of x hx).2 (by decide)⟩, fun t ht => Nat.le_trans (hd t ht) (by decide), fun H4 e4 => q H4 ((e2.trans e3).trans e4)⟩
theorem lay_natssS (us : List (List Nat)) : SeqAt.shaped (.list (us.map natsD)) = true := (lay_lst (n := 1) fun d hd => by
  obtain ⟨u, _, rfl⟩ := List.mem_map.mp hd
  exact lay_nats u).shaped (by decide)
end
section
variable {P : Program} {w : World} {K : PySem.W.Frag} {mg : Str → Option Value} {base : Heap} {C : Addr} {Ebs : Addr}
theorem row_neS {K : PySem.W.Frag} {H : Hp} {l r sa : Addr} {ns : List Int} {xs : List V} {ds : List PyData} (R : RowOk K H r sa ns) (hl : H l = some (.lst xs)) (al : DpAll K H xs ds) (hd : ∀ d ∈ ds, ∀ i, d ≠ .int i) : l ≠ r := fun z => by
  obtain ⟨i, x, y, R⟩ := R
  rw [z, R.at_] at hl
  cases hl
  cases al with
  | cons a1 t1 => cases t1 with
    | cons a2 t2 =>
      have : ∀ {d : PyData}, Dp K H (V.int i) d → d = .int i := fun {d} h => by cases h; rfl
      exact hd _ (List.mem_cons_of_mem _ List.mem_cons_self) i (this a2)
/-- the rule for a def, its own code told -/
theorem fun_okC {x qual : Str} {st : Stmt} {f : Addr} {fd : FuncData} {N ps : List Str} {k : Nat} {sp : Sp} (F : L2.Fun K x qual st f fd) (S : FnScope N ps (defScope st)) (len : ∀ vs H Q E, sp vs H Q E → vs.length = ps.length)
    (hbody : ∀ (A : Around) (outer : List Env) (s : Shared) (H : Hp) (vs : List V) (Q : VK) (E : XK), Room k (A.deeper (envOfC qual (defScope st) s.heap.objs.size f fd.code)) → sp vs H Q E →
      ∃ t, PSs (cxOf CX0 P w K mg base N qual (defScope st) f fd.code A outer s H E).nox (defBody st) t ∧ t { nx := fun _ H' => Q .non H', rt := Q } (start N vs) H) : FnOk P w K mg base CX0 (k + 1) f fd ps sp := by
  obtain ⟨oc, od, kV, doc, pm, an, cdv, ct, osl, rfl, lk, hcd⟩ := F.ex
  refine fn_of lk hcd S len fun A outer s H vs Q E hr hsp => ?_
  obtain ⟨t, h, q⟩ := hbody A outer s H vs Q E hr hsp
  exact ⟨t, h.nox, q⟩
def spLaw (K : PySem.W.Frag) (tA : Addr) : Sp := fun vs H Q _ => ∃ (sa : Addr) (ns : List Int), vs = [.ref sa] ∧ SqL K H sa (ns.map V.int) ∧ H tA = some (.tbl #[]) ∧ ∀ H', Q (.bl true) H'
theorem ok_law {f : Addr} {fd : FuncData} {cA tA : Addr} (B : Bi mg) (bmin : mg "min" = none) (F : Fun K "law" "law" sLaw f fd) (hcd : fd.code = .ref cA) (TBl : TabB base mg cA tA) (D_word : Dfn K mg "_law_word" sLWord ["work"]) (OW : OwX K mg "BadSwaps" Ebs)
    (C__law_machine : CMach P w K mg base) (C__law_program : CProg P w K mg base) (C__law_subsets : CSubs P w K mg base) (C__law_wishes : CWishesL P w K mg base) (C__law_run : CLRun P w K mg base) (C__law_swapped : CLSwd P w K mg base) (C__law_text : CLText P w K mg base 8) (C__law_alike : CAlike P w K mg base 10) (C__law_pick : CPick P w K mg base) (C__law_fulfilled : CFulW P w K mg base)
    (C_outcomes_swapped : COutSw P w K mg base) (C_run_swapped : CRunSw P w K mg base) (CX_run_swapped : CalX P w K mg base 6 "run_swapped" ["machine", "program", "swaps"] (spRunSwR K Ebs)) (C_is_swap_proof : Cal P w K mg base 15 "is_swap_proof" ["machine", "program", "wishes"] (spSwH K fun r => .bool r.isNone)) (C_swap_harm : CSwH P w K mg base) (C_shows_swap_harm : CShSw P w K mg base) : FnOk P w K mg base CX0 18 f fd ["script"] (spLaw K tA) := by
  refine fun_okC F scLaw (fun vs H Q E h => ?_) (fun A outer sh0 H vs Q E hr h => ?_)
  · obtain ⟨sa, ns, rfl, _⟩ := h
    rfl
  obtain ⟨sa, ns, rfl, hS, hT, k⟩ := h
  have mBad : mg "BadSwaps" = some (.ref Ebs) := OW.mgE
  have hcode : (cxOf CX0 P w K mg base NLaw "law" (defScope sLaw) f fd.code A outer sh0 H E).nox.env.code = .ref cA := hcd
  have hu1 := (show (A.deeper (envOfC "law" (defScope sLaw) sh0.heap.objs.size f fd.code)).units + 1 < cLine by have := hr.un; omega)
  obtain ⟨TL, hTL⟩ : ∃ TL : List (Addr × Str), TL = [(tA, ("law.<locals>." : Str) ++ "<lambda>")] := ⟨_, rfl⟩
  have hmT : (tA, ("law.<locals>." : Str) ++ "<lambda>") ∈ TL := by rw [hTL]; exact List.mem_singleton_self _
  have hul : ∀ p ∈ TL, p.1 = tA → p.2 = ("law.<locals>." : Str) ++ "<lambda>" := fun p hp _ => by
    rw [hTL] at hp
    rw [List.mem_singleton.mp hp]
  obtain ⟨g, gd, G, m__law_word, b__law_word⟩ := D_word
  have k__law_word := G.kp
  obtain ⟨oc, od, kV, doc, pm, an, cdw, ct, osl, rfl, lk__law_word, hc__law_word⟩ := G.ex
  have S__law_word : FnScope ["work"] ["work"] (defScope sLWord) := scLWord
  refine ⟨_, (pss_cons (ps_set (i := 1) scLaw.nd rfl (by first | exact Or.inl rfl | exact Or.inr rfl) (pe_lst (pa_cons (pv 0) (pa_cons pe_int (pa_cons pe_int (pa_cons pe_int pa_nil)))))) (pss_cons (ps_set (i := 2) scLaw.nd rfl (by first | exact Or.inl rfl | exact Or.inr rfl) (pe_cal C__law_machine hr (by omega) rfl (pa_cons (pv 1) pa_nil))) (pss_cons (ps_set (i := 3) scLaw.nd rfl (by first | exact Or.inl rfl | exact Or.inr rfl) (pe_cal C__law_program hr (by omega) rfl (pa_cons (pv 1) (pa_cons (pv 2) (pa_cons pe_int pa_nil))))) (pss_cons (ps_set (i := 4) scLaw.nd rfl (by first | exact Or.inl rfl | exact Or.inr rfl) (pe_callB call_lenq (by rfl) B.len PySem.boot_len (pa_cons (pv 3) pa_nil))) (pss_cons (ps_setLc (i := 5) (own := [("lot", 8)]) (g := (gName 8)) rfl scLaw.nd rfl rfl (sw_true rfl rfl rfl (by decide +kernel)) (pi_list (pe_cal C__law_subsets hr (by omega) rfl (pa_cons (pe_callB (call_max2 rfl) (by rfl) B.max (by decide +kernel) (pa_cons pe_int (pa_cons (pe_op op_sub (pv 4) pe_int) pa_nil))) pa_nil))) (blkOk_by (N := NLaw) (sc := defScope sLaw) (by decide +kernel)) (fun _ _ _ _ _ => (pg_name (i := 8) scLaw.nd rfl (by first | exact Or.inl rfl | exact Or.inr rfl))) (fun _ _ _ _ _ => (pts_one (pt_cmpR (show OpR _ _ (rEqD K) from (op_eqD (hr.units))) (pe_lc (own := [("k", 16)]) (g := (gName 16)) rfl scLaw.nd (pi_range1 rfl B.range (pa_cons (pe_op op_sub (pe_callB (show CallR _ _ (rLenA K) from call_lenq) (by rfl) B.len PySem.boot_len (pa_cons (pv 8) pa_nil)) pe_int) pa_nil)) (blkOk_by (N := NLaw) (by rfl)) (fun _ _ _ _ _ => (pg_name (i := 16) scLaw.nd rfl (by first | exact Or.inl rfl | exact Or.inr rfl))) (fun _ _ _ _ _ => (pts_one (pt_cmpR op_lt (pe_op op_sub (pe_ix (show IxR _ (rIxT K) from ix_tup) (pv 8) (pe_op op_add (pv 16) pe_int) (fun _ _ => rfl)) (pe_ix (show IxR _ (rIxT K) from ix_tup) (pv 8) (pv 16) (fun _ _ => rfl))) pe_int (by first | exact nomark _ | rfl)))) (fun _ _ _ _ _ => (pv 16))) (pe_lst pa_nil) (by first | exact nomark _ | rfl)))) (fun _ _ _ _ _ => (pv 8))) (pss_cons (ps_asg (pe_tup (pa_cons (pe_cal C__law_wishes hr (by omega) rfl (pa_cons (pv 1) (pa_cons (pv 2) (pa_cons (pv 3) pa_nil)))) (pa_cons pe_dnewT pa_nil))) (pg_tup rfl (pgs_cons (pg_name (i := 6) scLaw.nd rfl (by first | exact Or.inl rfl | exact Or.inr rfl)) (pgs_cons (pg_name (i := 7) scLaw.nd rfl (by first | exact Or.inl rfl | exact Or.inr rfl)) pgs_nil)))) (pss_cons (ps_for PassesOwn.never rfl (pi_list (pv 5)) (pg_name (i := 8) scLaw.nd rfl (by first | exact Or.inl rfl | exact Or.inr rfl)) (pss_cons (ps_set (i := 9) scLaw.nd rfl (by first | exact Or.inl rfl | exact Or.inr rfl) (pe_cal C__law_run hr (by omega) rfl (pa_cons (pv 2) (pa_cons (pe_cal C__law_swapped hr (by omega) rfl (pa_cons (pv 3) (pa_cons (pv 8) pa_nil))) pa_nil)))) (pss_one (ps_dput hu1 (pv 7) (pe_callTy call_tupq (by rfl) B.tuple (by decide +kernel) (pa_cons (pe_lc (own := [("term", 17)]) (g := (gName 17)) (tt := tYes) rfl scLaw.nd (pi_tup (pv 9)) (blkOk_by (N := NLaw) (sc := defScope sLaw) (by decide +kernel)) (fun _ _ _ _ _ => (pg_name (i := 17) scLaw.nd rfl (by first | exact Or.inl rfl | exact Or.inr rfl))) (fun _ _ _ _ _ => pts_nil) (fun _ _ _ _ _ => (pe_cal C__law_text hr (by omega) rfl (pa_cons (pv 17) pa_nil)))) pa_nil)) (pv 9) rfl)))) (pss_cons (ps_if (pt_not (pt_val (pe_cal C__law_alike hr (by omega) rfl (pa_cons (pe_cal C_outcomes_swapped hr (by omega) rfl (pa_cons (pv 2) (pa_cons (pv 3) pa_nil))) (pa_cons (pe_callTy call_tupq (by rfl) B.tuple (by decide +kernel) (pa_cons (pe_lc (own := [("key", 18)]) (g := (gName 18)) (tt := tYes) rfl scLaw.nd (pi_list (pe_callB call_sortedL (by rfl) B.sorted (by decide +kernel) (pa_cons (pe_callTy (call_list_dT rfl) (by rfl) B.list (by decide +kernel) (pa_cons (pv 7) pa_nil)) pa_nil))) (blkOk_by (N := NLaw) (sc := defScope sLaw) (by decide +kernel)) (fun _ _ _ _ _ => (pg_name (i := 18) scLaw.nd rfl (by first | exact Or.inl rfl | exact Or.inr rfl))) (fun _ _ _ _ _ => pts_nil) (fun _ _ _ _ _ => (pe_dget hu1 (pv 7) (pv 18) (fun _ _ => rfl)))) pa_nil)) pa_nil))))) (pss_one (ps_ret pe_bl)) pss_nil) (pss_cons (ps_set (i := 8) scLaw.nd rfl (by first | exact Or.inl rfl | exact Or.inr rfl) (pe_cal C__law_pick hr (by omega) rfl (pa_cons (pv 1) (pa_cons (pv 5) pa_nil)))) (pss_cons (ps_if (pt_not (pt_val (pe_cal C__law_alike hr (by omega) rfl (pa_cons (pe_cal C_run_swapped hr (by omega) rfl (pa_cons (pv 2) (pa_cons (pv 3) (pa_cons (pv 8) pa_nil)))) (pa_cons (pe_cal C__law_run hr (by omega) rfl (pa_cons (pv 2) (pa_cons (pe_cal C__law_swapped hr (by omega) rfl (pa_cons (pv 3) (pa_cons (pv 8) pa_nil))) pa_nil))) pa_nil))))) (pss_one (ps_ret pe_bl)) pss_nil) (pss_cons (ps_setLc (i := 10) (own := [("lot", 8)]) (g := (gName 8)) rfl scLaw.nd rfl rfl (sw_true rfl rfl rfl (by decide +kernel)) (pi_list (pv 5)) (blkOk_by (N := NLaw) (sc := defScope sLaw) (by decide +kernel)) (fun _ _ _ _ _ => (pg_name (i := 8) scLaw.nd rfl (by first | exact Or.inl rfl | exact Or.inr rfl))) (fun _ _ _ _ _ => (pts_one (pt_not (pt_val (pe_cal C__law_fulfilled hr (by omega) rfl (pa_cons (pe_cal C__law_run hr (by omega) rfl (pa_cons (pv 2) (pa_cons (pe_cal C__law_swapped hr (by omega) rfl (pa_cons (pv 3) (pa_cons (pv 8) pa_nil))) pa_nil))) (pa_cons (pv 6) pa_nil))))))) (fun _ _ _ _ _ => (pv 8))) (pss_cons (ps_par (i := 11) (j := 12) rfl scLaw.nd rfl rfl (by decide) rfl rfl (pa_cons (pe_ifExp (pt_cmpR (op_neD (hr.units)) (pv 10) (pe_lst pa_nil) (by first | exact nomark _ | rfl)) (pe_callB (cr_min rfl) (by rfl) bmin (by decide +kernel) (pa_cons (pe_lc (own := [("lot", 8)]) (g := (gName 8)) (tt := tYes) rfl scLaw.nd (pi_list (pv 10)) (blkOk_by (N := NLaw) (sc := defScope sLaw) (by decide +kernel)) (fun _ _ _ _ _ => (pg_name (i := 8) scLaw.nd rfl (by first | exact Or.inl rfl | exact Or.inr rfl))) (fun _ _ _ _ _ => pts_nil) (fun _ _ _ _ _ => (pe_callB (show CallR _ _ (rLenA K) from call_lenq) (by rfl) B.len PySem.boot_len (pa_cons (pv 8) pa_nil)))) pa_nil)) pe_int) (pa_cons (pe_cal C_swap_harm hr (by omega) rfl (pa_cons (pv 2) (pa_cons (pv 3) (pa_cons (pv 6) pa_nil)))) pa_nil)) (by rfl)) (pss_cons (ps_if (PW.pt (pw_or (pt_not (pt_val (pe_cal C__law_alike hr (by omega) rfl (pa_cons (pe_cal C_is_swap_proof hr (by omega) rfl (pa_cons (pv 2) (pa_cons (pv 3) (pa_cons (pv 6) pa_nil)))) (pa_cons (pe_cmpR (op_eqD (hr.units)) (pv 10) (pe_lst pa_nil) (by first | exact nomark _ | rfl)) pa_nil))))) (pw_or1 (pt_cmpR op_ne (pe_cmpR op_isN (pv 12) pe_non (by first | exact nomark _ | rfl)) (pe_cmpR (op_eqD (hr.units)) (pv 10) (pe_lst pa_nil) (by first | exact nomark _ | rfl)) (by first | exact nomark _ | rfl))))) (pss_one (ps_ret pe_bl)) pss_nil) (pss_cons (ps_if (PW.pt (pw_and (pt_cmpR op_notN (pv 12) pe_non (by first | exact nomark _ | rfl)) (pw_and1 (PW.pt (pw_or (pt_cmpR (op_notInD (hr.u65)) (pv 12) (pv 10) (by first | exact nomark _ | rfl)) (pw_or1 (pt_cmpR op_ne (pe_callB call_lenq (by rfl) B.len PySem.boot_len (pa_cons (pv 12) pa_nil)) (pv 11) (by first | exact nomark _ | rfl)))))))) (pss_one (ps_ret pe_bl)) pss_nil) (pss_cons (ps_for PassesOwn.never rfl (pi_list (pe_lst (pa_cons (pv 12) (pa_cons pe_non (pa_cons (pe_tup pa_nil) (pa_cons (pe_cal C__law_pick hr (by omega) rfl (pa_cons (pv 1) (pa_cons (pv 5) pa_nil))) (pa_cons (pe_callTy call_list_of (by rfl) B.list (by decide +kernel) (pa_cons (pv 8) pa_nil)) (pa_cons (pe_tup (pa_cons pe_int (pa_cons pe_int pa_nil))) (pa_cons (pe_tup (pa_cons (pv 4) pa_nil)) (pa_cons (pe_tup (pa_cons (pe_op op_sub (pv 4) pe_int) pa_nil)) (pa_cons (pe_cal C__law_pick hr (by omega) rfl (pa_cons (pv 1) (pa_cons (pv 5) pa_nil))) pa_nil))))))))))) (pg_name (i := 13) scLaw.nd rfl (by first | exact Or.inl rfl | exact Or.inr rfl)) (pss_cons (ps_set (i := 14) scLaw.nd rfl (by first | exact Or.inl rfl | exact Or.inr rfl) (pe_ifExp (pt_cmpR (op_neD (hr.units)) (pv 10) (pe_lst pa_nil) (by first | exact nomark _ | rfl)) (pe_and (pe_cmpR (op_inD (hr.u65)) (pv 13) (pv 10) (by first | exact nomark _ | rfl)) (pe_one (pe_cmpR op_eq (pe_callB call_lenq (by rfl) B.len PySem.boot_len (pa_cons (pv 13) pa_nil)) (pv 11) (by first | exact nomark _ | rfl)))) (pe_cmpR op_isN (pv 13) pe_non (by first | exact nomark _ | rfl)))) (pss_one (ps_if (pt_not (pt_val (pe_cal C__law_alike hr (by omega) rfl (pa_cons (pe_cal C_shows_swap_harm hr (by omega) rfl (pa_cons (pv 2) (pa_cons (pv 3) (pa_cons (pv 6) (pa_cons (pv 13) pa_nil))))) (pa_cons (pv 14) pa_nil))))) (pss_one (ps_ret pe_bl)) pss_nil)))) (pss_cons (ps_set (i := 15) scLaw.nd rfl (by first | exact Or.inl rfl | exact Or.inr rfl) (pe_lst (pa_cons pe_non (pa_cons (pe_lst (pa_cons pe_int pa_nil)) (pa_cons (pe_tup (pa_cons (pe_op op_sub (pv 4) pe_int) pa_nil)) (pa_cons (pe_tup (pa_cons pe_int (pa_cons pe_int pa_nil))) (pa_cons (pe_tup (pa_cons pe_int (pa_cons pe_int pa_nil))) (pa_cons (pe_tup (pa_cons pe_bl pa_nil)) (pa_cons (pe_tup (pa_cons (pe_op op_sub pe_int pe_int) pa_nil)) pa_nil))))))))) (pss_one (ps_ret (pe_cmpR (op_eqD (hr.units)) (pe_lc (own := [("value", 13)]) (g := (gName 13)) rfl scLaw.nd (pi_list (pv 15)) (blkOk_by (N := NLaw) (sc := defScope sLaw) (by decide +kernel)) (fun _ _ _ _ _ => (pg_name (i := 13) scLaw.nd rfl (by first | exact Or.inl rfl | exact Or.inr rfl))) (fun _ _ _ _ _ => (pts_one (pt_cmpR op_ne (LamX.pe_lamcall (k := 15) (TT := TTword K Ebs "swaps" "none") (T := TL) (c := cA) (P := tA) rfl m__law_word k__law_word lk__law_word hc__law_word b__law_word S__law_word rfl (by first | exact Or.inl rfl | exact Or.inr rfl) (gives__law_word mBad) TBl hcode (by first | exact hmT | rfl) hul (hr.mono (by omega)) (LamX.lamS_by rfl) rfl (fun _ _ _ _ _ => rfl) (fun _ _ _ _ _ _ _ hrl => (pe_calX CX_run_swapped (takes_of rfl rfl rfl rfl) hrl (by omega) rfl (pa_cons (pv 2) (pa_cons (pv 3) (pa_cons (pv 13) pa_nil)))))) pe_str (by first | exact nomark _ | rfl)))) (fun _ _ _ _ _ => (pv 13))) (pe_lst pa_nil) (by first | exact nomark _ | rfl)))))))))))))))))))), ?_⟩
  -- row
  refine ⟨_, rfl, by show 4 ≤ sizeLine; decide, fun r hrn => ?_⟩
  have R0 : RowOk K (L2.upd H r (.lst [.ref sa, .int 0, .int 25062, .int 0])) r sa ns := by
    refine ⟨0, 25062, 0, upd_same, ex_l (Ex.new hrn) hS, ?_, Int.le_refl _⟩
    rcases hS with h | h
    · refine .inl fun z => ?_
      rw [z] at h
      rcases h with h | ⟨o, h⟩ <;> (rw [hrn] at h; cases h)
    · exact .inr fun G => .inr h
  have rT : tA ≠ r := fun z => by rw [z, hrn] at hT; cases hT
  have hT0 : (L2.upd H r (.lst [.ref sa, .int 0, .int 25062, .int 0])) tA = some (.tbl #[]) := by rw [upd_ne rT]; exact hT
  revert R0 hT0
  generalize (L2.upd H r (.lst [.ref sa, .int 0, .int 25062, .int 0])) = G0
  intro R0 hT0
  -- machine
  refine ⟨_, rfl, r, sa, ns, rfl, R0, fun mv m H1 e1 R1 mok c3 hm => ?_⟩
  have hT1 := e1 _ _ hT0 rT
  -- program
  refine ⟨_, rfl, _, rfl, r, sa, ns, mv, m, 7, rfl, R1, hm, mok, by decide, fun pw p H2 e2 R2 ok p7 hp => ?_⟩
  have hT2 := e2 _ _ hT1 rT
  have hm2 := tmono (e2.tk R1.noTup) _ _ m.noL hm
  have c4 := mok.c4
  -- size
  have len2 : ∀ {σ : L2.St} {G : Hp}, Ex H2 G → σ[3]? = some (some pw) → Ev (tCB (rLenA K) (tCons (tVar 3) tNil)) σ G (.int (p.length : Int)) := fun {σ G} e h => by
    have q := ev_lenT (K := K) (ta := tVar 3) (σ := σ) (ed_var h (dmono e _ _ hp))
    rw [List.length_map] at q
    exact q
  refine q_asg (v := .int (p.length : Int)) (len2 (Ex.refl _) rfl) fun H3 e3 => ?_
  -- lots
  refine qli_asg (K := K) (li_lcMLf (K := K) (as := subsL (p.length - 1)) natsD natsD okSB (ed_subs (n := p.length - 1) (by omega) (ev_is (ev_max2 ev_c (ev_op (ev_var rfl) ev_c rv_I0)) ?_)) ?_ (fun _ _ => natsD_noL _) fun a x H4 ha e4 hx Q1 q1 => ?_) fun el exs H5 e5 hel ael => ?_
  · congr 1
    split <;> omega
  · rw [subsL_len]
    exact Nat.le_trans (Nat.pow_le_pow_right (by decide) (show p.length - 1 ≤ 6 by omega)) (by decide)
  · have az := subsL_sz _ a ha
    refine q1 _ H4 (Ex.refl _) (wipe1 x) (et_test (ev_is (ev_eqD (EvLi.ed (li_lcRz (K := K) (z := (a.length : Int) - 1) (n := a.length - 1) (gapB a) (fun i => .int (i : Int)) (ed_int (ev_op (ev_is (ev_lenT (K := K) (ed_var rfl hx)) (by rw [List.length_map])) ev_c rv_I0)) (by omega) (by omega) (by omega) (fun _ _ => rfl) fun i H9 e9 hi => ⟨et_test ?_, fun _ => ed_int (ev_var rfl)⟩)) (ed_lst ead_nil (by simp)) ((lay_lst (n := 0) fun d hd => ?_).shaped (by decide)) rfl) ?_)) fun _ => ed_var rfl hx
    · have ai : a[i]? = some (a.getD i 0) := by
        rw [List.getD_eq_getElem?_getD, List.getElem?_eq_getElem (show i < a.length by omega)]
        rfl
      have aj : a[i + 1]? = some (a.getD (i + 1) 0) := by
        rw [List.getD_eq_getElem?_getD, List.getElem?_eq_getElem (show i + 1 < a.length by omega)]
        rfl
      exact ev_op (ev_op (ev_int (ed_ix (ed_var rfl (dmono e9 _ _ hx)) (ed_int (ev_is (ev_op (ev_var rfl) ev_c rv_I0) (show _ = V.int ((i + 1 : Nat) : Int) from rfl))) (atD (d := .int ((a.getD (i + 1) 0 : Nat) : Int)) (by rw [List.getElem?_map, aj]; rfl)))) (ev_int (ed_ix (ed_var rfl (dmono e9 _ _ hx)) (ed_int (ev_var rfl)) (atD (d := .int ((a.getD i 0 : Nat) : Int)) (by rw [List.getElem?_map, ai]; rfl)))) rv_I0) ev_c rv_I0
    · obtain ⟨j, _, rfl⟩ := List.mem_map.mp hd
      exact lay_int _
    · rw [eqv_nilL]
      unfold givenD okSB
      rw [List.isEmpty_map]
  have e25 := e3.trans e5
  have R5 := R2.mono e25
  have hT5 := e25 _ _ hT2
  have hm5 := dmono e25 _ _ hm2
  have hp5 := dmono e25 _ _ hp
  have lz : (lotsOf p.length).length ≤ 64 := lots_len p7
  have noI : ∀ (us : List (List Nat)), ∀ d ∈ us.map natsD, ∀ i, d ≠ .int i := fun us d hd i z => by
    obtain ⟨l, _, rfl⟩ := List.mem_map.mp hd
    cases z
  have elr : el ≠ r := row_neS R5 hel ael (noI _)
  change DpAll K H5 exs ((lotsOf p.length).map natsD) at ael
  -- wishes, ends
  refine ⟨_, rfl, _, rfl, _, rfl, r, sa, ns, mv, pw, m, p, rfl, R5, hm5, hp5, mok, ok, p7, fun wv ws H6 e6 R6 wok wz hw => ?_⟩
  refine fun fa hfa => ⟨by show 2 ≤ sizeLine; decide, fun tt htt => ⟨tt, _, rfl, st_of upd_same, rfl, _, _, rfl, _, _, rfl, rfl, ?_⟩⟩
  have tk6 : TK K H5 H6 := e6.tk R5.noTup
  have hT6 := e6 _ _ hT5 rT
  have hm6 := tmono tk6 _ _ m.noL hm5
  have hp6 := tmono tk6 _ _ (progD_noL _) hp5
  have hel6 := e6 _ _ hel elr
  have ael6 := tmonoAll tk6 _ _ (natss_noLs _) ael
  have ef := Ex.new (o := .dT []) hfa
  have et := Ex.new (o := .tup [wv, .ref fa]) htt
  have ffa : (L2.upd (L2.upd H6 fa (.dT [])) tt (.tup [wv, .ref fa])) fa = some (.dT []) := et _ _ upd_same
  have eX : Ex H6 (L2.upd (L2.upd H6 fa (.dT [])) tt (.tup [wv, .ref fa])) := ef.trans et
  revert ffa eX
  dsimp only
  generalize (L2.upd (L2.upd H6 fa (.dT [])) tt (.tup [wv, .ref fa])) = H7
  intro ffa eX
  have lsz : ∀ ls ∈ lotsOf p.length, SwOk p.length ls ∧ ls.length ≤ 7 := fun ls hl => ⟨lots_mem.mp hl, Nat.le_trans (lots_sz hl) p7⟩
  have okS : ∀ ls, ∀ l ∈ swL p ls, Ln.Ok m l := fun ls => swL_ok ls p ok
  have edR : ∀ {σ : L2.St} {G : Hp} {tl : TE} {ls : List Nat}, Ex H6 G → σ[2]? = some (some mv) → σ[3]? = some (some pw) → SwOk p.length ls → EvD K tl σ G (natsD ls) → EvD K (tCall (spLRun K) [] E0 (tCons (tVar 2) (tCons (tCall (spLSwd K) [] E0 (tCons (tVar 3) (tCons tl tNil))) tNil))) σ G (encs (runL m (swL p ls))) := fun {σ G tl ls} e h2 h3 s h =>
    ed_call (ead_cons (ed_var h2 (dmono e _ _ hm6)) (ead_cons (ed_call (ead_cons (ed_var h3 (dmono e _ _ hp6)) (ead_cons h ead_nil)) (sp_lswd (by omega) s.1)) ead_nil)) (sp_lrun mok (okS ls))
  have heldS : ∀ ls, Held m (runL m (swL p ls)) := fun ls => runL_held mok (okS ls)
  have depS : ∀ ls, ∀ t ∈ runL m (swL p ls), t.dep ≤ 8 := fun ls t ht => by
    have := runL_md mok (okS ls) t ht
    rw [swL_len] at this
    omega
  refine q_viaS (fun σ' H' => ∃ kf us x8 x9, σ' = [some (.ref sa), some (.ref r), some mv, some pw, some (.int (p.length : Int)), some (.ref el), some wv, some (.ref fa), x8, x9, none, none, none, none, none, none, none, none, none] ∧ Ex H6 H' ∧ H' fa = some (.dT kf) ∧ kf.length ≤ 64 ∧ TD K H' m kf us ∧
    (∀ u, u ∈ us ↔ ∃ ls ∈ lotsOf p.length, runL m (swL p ls) = u)) (fun Z hZ => ?_) ?_
  · refine sd_forG (K := K) (D := { nx := _, rt := _, bk := _, ct := _ }) (xs := exs) (l := el) (ev_var rfl) (eX _ _ hel6) fun H13 e13 => ⟨fun j σ' H' => ∃ kf us x8 x9, σ' = [some (.ref sa), some (.ref r), some mv, some pw, some (.int (p.length : Int)), some (.ref el), some wv, some (.ref fa), x8, x9, none, none, none, none, none, none, none, none, none] ∧ Ex H6 H' ∧ H' fa = some (.dT kf) ∧ kf.length ≤ j ∧ TD K H' m kf us ∧
      (∀ u, u ∈ us ↔ ∃ ls ∈ (lotsOf p.length).take j, runL m (swL p ls) = u), ?_, ?_, ?_, ?_⟩
    · exact ⟨[], [], _, _, rfl, eX.trans e13, e13 _ _ ffa, Nat.le_refl _, ⟨.nil, List.nodup_nil, fun u h => (by cases h)⟩, fun u => ⟨fun h => (by cases h), fun ⟨ls, h, _⟩ => by simp at h⟩⟩
    · rintro j σ' H' ⟨_, _, _, _, _, q, _⟩
      exact q _ _ hel6
    · rintro j x σ' H' hx ⟨kf, us, x8, x9, rfl, q, ff, kl, td, mem⟩
      obtain ⟨d, hd, hxd⟩ := ael6.getV hx
      obtain ⟨ls, hls, rfl⟩ : ∃ ls, (lotsOf p.length)[j]? = some ls ∧ d = natsD ls := by
        rw [List.getElem?_map] at hd
        cases e : (lotsOf p.length)[j]? with
        | none => rw [e] at hd; cases hd
        | some ls => rw [e] at hd; cases hd; exact ⟨ls, rfl, rfl⟩
      have jl := (List.getElem?_eq_some_iff.mp hls).1
      have tkk : (lotsOf p.length).take (j + 1) = (lotsOf p.length).take j ++ [ls] := by rw [List.take_succ, hls]; rfl
      have sok := (lsz ls (List.mem_of_getElem? hls)).1
      refine qd_asg (K := K) (edR q rfl rfl sok (ed_var rfl (dmono q _ _ hxd))) fun hv2 H14 e14 hh2 => ?_
      have hu := heldS ls
      refine ⟨_, rfl, _, rfl, ?_⟩
      refine eu_tupS (K := K) (xs := txs (runL m (swL p ls))) (ed_is (ed_lcM (as := runL m (swL p ls)) Tm.enc (fun t => .str t.txt) (ed_var rfl hh2) (by rw [hu.len]; omega) (fun _ _ => rfl) fun t x H16 ht e16 hx => ed_str (ev_text mok (hu.of t ht) (depS ls t ht) (Nat.le_refl _) (ed_var rfl hx))) (by unfold txs; rw [List.map_map]; rfl)) H14 (Ex.refl _) _ fun b H16 hb e16 hbt => ?_
      have e46 := e14.trans e16
      refine ⟨fa, _, rfl, DPut.t (k := kTx (runL m (swL p ls))) (e46 _ _ ff) (by unfold kTx; rw [kV_strs]; exact hbt) (sz_lt (by omega)), ?_⟩
      have hno := no_rd (e46 _ _ ff) (fun _ z => nomatch z) (fun _ _ z => nomatch z)
      have tk8 : TK K H16 (L2.upd H16 fa (.dT (putK kf (kTx (runL m (swL p ls))) hv2))) := TK.put hno
      refine ⟨_, addU us (runL m (swL p ls)), _, _, rfl, Ex.mut (q.trans e46) hfa, upd_same, ?_, ?_, fun u => ?_⟩
      · unfold putK
        split
        · rw [List.length_map]; omega
        · rw [List.length_append]; simp; omega
      · exact ((td.tk (TK.of e46)).put mok hu (dmono e16 _ _ hh2)).tk tk8
      · rw [addU_mem, mem u, tkk]
        constructor
        · rintro (⟨ls', h, q⟩ | rfl)
          · exact ⟨ls', List.mem_append_left _ h, q⟩
          · exact ⟨ls, List.mem_append_right _ (List.mem_singleton_self _), rfl⟩
        · rintro ⟨ls', h, q⟩
          rcases List.mem_append.mp h with h | h
          · exact .inl ⟨ls', h, q⟩
          · rw [List.mem_singleton.mp h] at q
            exact .inr q.symm
    rintro σ' H14 ⟨kf, us, x8, x9, rfl, q14, ff, kl, td, mem⟩
    rw [ael6.len, List.length_map, List.take_length] at mem
    rw [ael6.len, List.length_map] at kl
    exact hZ _ _ ⟨kf, us, x8, x9, rfl, q14, ff, by omega, td, mem⟩
  rintro σ' H14 ⟨kf, us, x8, x9, rfl, q14, ff, kl, td, mem⟩
  have R14 := R6.mono q14
  have hm14 := dmono q14 _ _ hm6
  have hp14 := dmono q14 _ _ hp6
  have hw14 := dmono q14 _ _ hw
  have hT14 := q14 _ _ hT6
  have hel14 := q14 _ _ hel6
  have ael14 := dmonoAll q14 _ _ ael6
  have aokS : ∀ ls, AOk 10 (encs (runL m (swL p ls))) := fun ls => (aok_encs (by rw [(heldS ls).len]; omega) (md_of (depS ls))).mono (by decide)
  -- outcomes_swapped
  refine q_viaS (fun σ' H' => σ' = [some (.ref sa), some (.ref r), some mv, some pw, some (.int (p.length : Int)), some (.ref el), some wv, some (.ref fa), x8, x9, none, none, none, none, none, none, none, none, none] ∧ Ex H14 H') (fun Z hZ => ?_) ?_
  · refine ⟨_, rfl, _, rfl, mv, pw, m, p, rfl, hm14, hp14, mok, ok, p7, fun ov H17 out e17 oo ho => ?_⟩
    have f17 := e17 _ _ ff
    have td17 := td.tk (TK.of e17)
    have ull : us.length ≤ 300 := by
      have := Paired.length td.pr
      omega
    have key := lc_sorted (K := K) (H := H17) (us := us) (fa := fa) (i := 7) (j := 18) (σ := [some (.ref sa), some (.ref r), some mv, some pw, some (.int (p.length : Int)), some (.ref el), some wv, some (.ref fa), x8, x9, none, none, none, none, none, none, none, none, none])
      (tl := tCB (rSortL K) (tCons (tCB (fun xs H Q => ∃ d kvs, xs = [V.ref d] ∧ Rd H d (.dT kvs) ∧ ∀ p bs, H p = none → IsKeys H kvs bs → Q (.ref p) (L2.upd H p (.lst (bs.map V.ref)))) (tCons (tVar 7) tNil)) tNil)) mok f17 td17 ull (fun _ => rfl) (fun _ => rfl) (fun R hR => ⟨_, rfl, fa, kf, rfl, .inl f17, fun q0 bs hq0 ik => ⟨q0, bs, rfl, sq_of upd_same, fun b hb => by
        obtain ⟨kv, h1, h2⟩ := isKeys_mem ik b hb
        obtain ⟨ks, ne, h3⟩ := td_ne mok td17 kv h1
        rw [h3, kV_strs] at h2
        exact ⟨ks, ne, ex_t (Ex.new hq0) (st_of h2)⟩, fun q out hq pm as => by
        have e0 := Ex.new (o := .lst (bs.map V.ref)) hq0
        have eq := Ex.new (o := .lst (out.map V.ref)) hq
        have ik' : IsKeys (L2.upd H17 q0 (.lst (bs.map V.ref))) kf bs := Paired.mapP ik fun a b h => e0 _ _ h
        obtain ⟨us', u1, u2, u3⟩ := sorted_us td17 ik' pm as
        exact hR q out us' _ (e0.trans eq) upd_same u1 (Paired.mapP u2 fun b u h => eq _ _ h) u3⟩⟩)
    refine cons_tup (K := K) (key _ fun v H18 us' e18 pm as hv18 => ?_)
    obtain ⟨a18, ys, rfl, sq18, al18⟩ := Dp.lstD hv18
    refine ⟨a18, _, rfl, .inl ⟨sq18, fun t ht => ?_⟩⟩
    have oo2 : OutSw m p us' := ⟨pm.nodup_iff.mpr td.nd, fun u hu => td.ok u (pm.mem_iff.mp hu), as, fun u => by
      rw [pm.mem_iff, mem u]
      exact ⟨fun ⟨ls, a, b⟩ => ⟨ls, lots_mem.mp a, b⟩, fun ⟨ls, a, b⟩ => ⟨ls, lots_mem.mpr a, b⟩⟩⟩
    have eo := oo.uniq mok oo2
    subst eo
    have et18 := Ex.new (o := .tup ys) ht
    refine ⟨ov, .ref t, .tuple (out.map encs), rfl, dmono (e18.trans et18) _ _ ho, .tup (st_of upd_same) (dmonoAll et18 _ _ al18), ?_, fun H19 e19 => ⟨true, rfl, hZ _ _ ⟨rfl, ((e17.trans e18).trans et18).trans e19⟩⟩⟩
    refine ⟨by rw [List.length_map, pm.length_eq]; omega, fun e he => ?_⟩
    obtain ⟨u, hu, rfl⟩ := List.mem_map.mp he
    obtain ⟨ls2, h2, rfl⟩ := (oo.mem u).mp hu
    exact (aok_encs (by rw [(heldS ls2).len]; omega) (md_of (depS ls2)))
  rintro σ' H15 ⟨rfl, e15⟩
  have R15 := R14.mono e15
  -- lot
  refine ⟨_, rfl, _, rfl, r, el, sa, ns, exs, (lotsOf p.length).map natsD, rfl, elr, sq_of (e15 _ _ hel14), dmonoAll e15 _ _ ael14, natss_noLs _, ?_, by rw [List.length_map]; omega, R15, fun lv d H16 hd e16 R16 hlv => ?_⟩
  · rw [List.length_map]
    exact List.length_pos_of_mem (lots_nil _)
  obtain ⟨ls, hls, rfl⟩ := List.mem_map.mp hd
  have R16' := R16
  have tk16 : TK K H15 H16 := e16.tk R15.noTup
  have sok := (lsz ls hls).1
  have l7 := (lsz ls hls).2
  -- what is known from here on
  have I0 : ∃ I : Hp → Prop, I H16 ∧ (∀ G, I G → RowOk K G r sa ns ∧ (G el = some (.lst exs) ∧ DpAll K G exs ((lotsOf p.length).map natsD)) ∧ G tA = some (.tbl #[]) ∧ Dp K G mv m.enc ∧ Dp K G pw (progD p) ∧ Dp K G wv (wishesD ws) ∧ Dp K G lv (natsD ls)) ∧ (∀ G G', I G → Ex G G' → I G') ∧ ∀ G G', I G → ExB r G G' → RowOk K G' r sa ns → I G' := by
    refine ⟨fun G => RowOk K G r sa ns ∧ (G el = some (.lst exs) ∧ DpAll K G exs ((lotsOf p.length).map natsD)) ∧ G tA = some (.tbl #[]) ∧ Dp K G mv m.enc ∧ Dp K G pw (progD p) ∧ Dp K G wv (wishesD ws) ∧ Dp K G lv (natsD ls), ?_, fun G h => h, fun G G' h e => ?_, fun G G' h e R => ?_⟩
    · exact ⟨R16, ⟨e16 _ _ (e15 _ _ hel14) elr, tmonoAll tk16 _ _ (natss_noLs _) (dmonoAll e15 _ _ ael14)⟩, e16 _ _ (e15 _ _ hT14) rT, tmono tk16 _ _ m.noL (dmono e15 _ _ hm14), tmono tk16 _ _ (progD_noL _) (dmono e15 _ _ hp14), tmono tk16 _ _ (wishesD_noL _) (dmono e15 _ _ hw14), hlv⟩
    · obtain ⟨a, ⟨b1, b2⟩, t, d, f, g, h⟩ := h
      exact ⟨a.mono e, ⟨e _ _ b1, dmonoAll e _ _ b2⟩, e _ _ t, dmono e _ _ d, dmono e _ _ f, dmono e _ _ g, dmono e _ _ h⟩
    · obtain ⟨a, ⟨b1, b2⟩, t, d, f, g, h⟩ := h
      have tk : TK K G G' := e.tk a.noTup
      exact ⟨R, ⟨e _ _ b1 elr, tmonoAll tk _ _ (natss_noLs _) b2⟩, e _ _ t rT, tmono tk _ _ m.noL d, tmono tk _ _ (progD_noL _) f, tmono tk _ _ (wishesD_noL _) g, tmono tk _ _ (natsD_noL _) h⟩
  obtain ⟨I, I16, IG, IE, IB⟩ := I0
  have gM : ∀ {G σ}, I G → σ[2]? = some (some mv) → EvD K (tVar 2) σ G m.enc := fun {G σ} h e => ed_var e (IG _ h).2.2.2.1
  have gP : ∀ {G σ}, I G → σ[3]? = some (some pw) → EvD K (tVar 3) σ G (progD p) := fun {G σ} h e => ed_var e (IG _ h).2.2.2.2.1
  have gW : ∀ {G σ}, I G → σ[6]? = some (some wv) → EvD K (tVar 6) σ G (wishesD ws) := fun {G σ} h e => ed_var e (IG _ h).2.2.2.2.2.1
  have gR : ∀ {σ : L2.St} {G : Hp} {tl : TE} {ls : List Nat}, I G → σ[2]? = some (some mv) → σ[3]? = some (some pw) → SwOk p.length ls → EvD K tl σ G (natsD ls) → EvD K (tCall (spLRun K) [] E0 (tCons (tVar 2) (tCons (tCall (spLSwd K) [] E0 (tCons (tVar 3) (tCons tl tNil))) tNil))) σ G (encs (runL m (swL p ls))) := fun {σ G tl ls} h h2 h3 s hl =>
    ed_call (ead_cons (gM h h2) (ead_cons (ed_call (ead_cons (gP h h3) (ead_cons hl ead_nil)) (sp_lswd (by omega) s.1)) ead_nil)) (sp_lrun mok (okS ls))
  -- run_swapped
  refine qd_pass (et_not (et_B (ev_alike (n := 10) (d := encs (runL m (swL p ls))) (aokS ls) (ed_call (ead_cons (gM I16 rfl) (ead_cons (gP I16 rfl) (ead_cons (ed_var rfl hlv) ead_nil))) (sp_runsw mok ok p7 sok (by omega))) (gR I16 rfl rfl sok (ed_var rfl hlv))))) rfl fun H17 e17 => ?_
  have I17 := IE _ _ I16 e17
  -- harms
  refine qli_asg (K := K) (li_lcMLf (K := K) (as := lotsOf p.length) natsD natsD (badSw m p ws) (ed_var rfl (.lst (sq_of (IG _ I17).2.1.1) (IG _ I17).2.1.2)) (by omega) (fun _ _ => natsD_noL _) fun a x H18 ha e18 hx Q1 q1 => ?_) fun bl bxs H18 e18 hbl abl => ?_
  · have I18 := IE _ _ I17 e18
    have sa' := (lsz a ha).1
    refine q1 _ H18 (Ex.refl _) (wipe1 x) (et_not (et_B ?_)) fun _ => ed_var rfl hx
    exact ev_fulW (heldS a) (depS a) wok wz (gR I18 rfl rfl sa' (ed_var rfl hx)) (gW I18 rfl)
  change DpAll K H18 bxs ((harmsOf m p ws).map natsD) at abl
  have I18 := IE _ _ I17 e18
  have blr : bl ≠ r := row_neS (IG _ I18).1 hbl abl (noI _)
  have hbz : (harmsOf m p ws).length ≤ 64 := Nat.le_trans (List.length_filter_le _ _) lz
  have gB : ∀ {G : Hp} {σ : L2.St}, Ex H18 G → σ[10]? = some (some (.ref bl)) → EvD K (tVar 10) σ G (.list ((harmsOf m p ws).map natsD)) := fun {G σ} e h => ed_var h (.lst (sq_of (e _ _ hbl)) (dmonoAll e _ _ abl))
  have gN : ∀ {G : Hp} {σ : L2.St}, Ex H18 G → σ[10]? = some (some (.ref bl)) → EvT (tTest (tOp (rNeD K) (tVar 10) (tLst tNil))) σ G (!(harmsOf m p ws).isEmpty) := fun {G σ} e h => et_test (ev_is (ev_neD (gB e h) (ed_lst (ds := []) ead_nil (by simp)) (lay_natssS _) rfl) (by rw [eqv_nilL, List.isEmpty_map]))
  have gE : ∀ {G : Hp} {σ : L2.St}, Ex H18 G → σ[10]? = some (some (.ref bl)) → Ev (tOp (rEqD K) (tVar 10) (tLst tNil)) σ G (.bl (harmsOf m p ws).isEmpty) := fun {G σ} e h => ev_is (ev_eqD (gB e h) (ed_lst (ds := []) ead_nil (by simp)) (lay_natssS _) rfl) (by rw [eqv_nilL, List.isEmpty_map])
  -- least, found
  refine q_viaS (fun σ' H' => ∃ (fv : V) (rr : Option (List Nat)), σ' = [some (.ref sa), some (.ref r), some mv, some pw, some (.int (p.length : Int)), some (.ref el), some wv, some (.ref fa), some lv, x9, some (.ref bl), some (.int (leastS (harmsOf m p ws) : Int)), some fv, none, none, none, none, none, none] ∧ Ex H18 H' ∧ SwH m p ws rr ∧ Dp K H' fv (optL rr)) (fun Z hZ => ?_) ?_
  · refine ev_ifVS (v := .int (leastS (harmsOf m p ws) : Int)) (gN (Ex.refl _) rfl) (fun c => ?_) (fun c => ?_) H18 (Ex.refl _) _ fun H19 e19 => ?_
    · have ne : harmsOf m p ws ≠ [] := fun z => by
        rw [z] at c
        cases c
      obtain ⟨l0, hl0, el0⟩ := leastS_some p7 ne
      refine ev_minS (ns := (harmsOf m p ws).map fun l => (l.length : Int)) (ed_is (EvLi.ed (li_lcML (K := K) (as := harmsOf m p ws) natsD (fun l => .int (l.length : Int)) (gB (Ex.refl _) rfl) (by omega) (fun _ _ => rfl) fun l x H20 hl e20 hx => ed_int (ev_is (ev_lenT (ed_var rfl hx)) (by rw [List.length_map])))) (by rw [List.map_map]; rfl)) (List.mem_map.mpr ⟨l0, hl0, by rw [el0]⟩) fun y hy => ?_
      obtain ⟨l, hl, rfl⟩ := List.mem_map.mp hy
      have := leastS_le hl
      omega
    · have z : harmsOf m p ws = [] := by
        cases e : harmsOf m p ws with
        | nil => rfl
        | cons a b => rw [e] at c; cases c
      rw [z]
      exact ev_c
    · have I19 := IE _ _ I18 e19
      obtain ⟨_, _, _, h1, h2, h3, _⟩ := IG _ I19
      exact ⟨_, rfl, _, rfl, _, rfl, mv, pw, wv, m, p, ws, rfl, h1, h2, h3, mok, ok, p7, wok, by omega, fun fv H20 rr e20 hr20 hfv => ⟨_, _, rfl, hZ _ _ ⟨fv, rr, rfl, e19.trans e20, hr20, hfv⟩⟩⟩
  rintro σ' H20 ⟨fv, rr, rfl, e20, hrr, hfv⟩
  have I20 := IE _ _ I18 e20
  have hsi := (swh_iff p7).mp hrr
  have vdF : VD (optL rr) := by
    cases rr with
    | none => exact .non
    | some ks => exact .nats (by have := (lsz ks (lots_mem.mpr hrr.1)).2; omega)
  -- is_swap_proof, found is None
  have nE : isNon (optL rr) = (harmsOf m p ws).isEmpty := by
    cases rr with
    | none =>
      have z : harmsOf m p ws = [] := hsi
      rw [z]
      rfl
    | some ks =>
      have z := hsi.1
      cases e : harmsOf m p ws with
      | nil => rw [e] at z; cases z
      | cons a b => rfl
  refine qd_pass (et_or (et_not (et_B (ev_alike (n := 10) (d := .bool (harmsOf m p ws).isEmpty) trivial (ed_isswp mok ok p7 wok wz (gM I20 rfl) (gP I20 rfl) (gW I20 rfl)) (ed_bl (gE e20 rfl))))) fun _ => et_test (ev_op (ev_isN (ed_var rfl hfv)) (gE e20 rfl) (rv_ne rfl))) ?_ fun H21 e21 => ?_
  · rw [nE]
    simp
  have e1821 := e20.trans e21
  refine q_viaS (fun σ' H' => σ' = [some (.ref sa), some (.ref r), some mv, some pw, some (.int (p.length : Int)), some (.ref el), some wv, some (.ref fa), some lv, x9, some (.ref bl), some (.int (leastS (harmsOf m p ws) : Int)), some fv, none, none, none, none, none, none] ∧ Ex H21 H') (fun Z hZ => ?_) ?_
  · cases rr with
    | none => exact sd_pass (et_and (b := false) (et_test (ev_notN (ed_var rfl (dmono e21 _ _ hfv)))) fun z => by cases z) rfl fun H22 e22 => hZ _ _ ⟨rfl, e22⟩
    | some ks =>
      have k1 : ks ∈ harmsOf m p ws := hsi.1
      have k2 : ks.length = leastS (harmsOf m p ws) := hsi.2
      refine sd_pass (et_and (et_test (ev_notN (ed_var rfl (dmono e21 _ _ hfv)))) fun _ => et_or (et_test (ev_is (ev_ninDS (ed_var rfl (dmono e21 _ _ hfv)) (gB e1821 rfl) vdF.shaped (lay_natssS _)) (show _ = V.bl false by rw [show (((harmsOf m p ws).map natsD).any fun z => PyData.eqv z (optL (some ks))) = true from (inB_iff vdF).mpr ⟨ks, k1, rfl⟩]; rfl))) fun _ => et_test (ev_op (ev_is (ev_lenT (ed_var rfl (dmono e21 _ _ hfv))) (by rw [List.length_map])) (ev_var rfl) (rv_ne rfl))) ?_ fun H22 e22 => hZ _ _ ⟨rfl, e22⟩
      rw [k2]
      simp [isNon, optL, natsD]
  rintro σ' H22 ⟨rfl, e22⟩
  have I22 := IE _ _ (IE _ _ I20 e21) e22
  have hfv22 := dmono (e21.trans e22) _ _ hfv
  have hbl22 := (e1821.trans e22) _ _ hbl
  have abl22 := dmonoAll (e1821.trans e22) _ _ abl
  have el9 : 0 < ((lotsOf p.length).map natsD).length := by
    rw [List.length_map]
    exact List.length_pos_of_mem (lots_nil _)
  have el9b : ((lotsOf p.length).map natsD).length ≤ 40000 := by
    rw [List.length_map]
    omega
  have oL : noL (optL rr) = true := by
    cases rr with
    | none => rfl
    | some ks => exact natsD_noL ks
  -- the nine values
  refine q_viaS (fun σ' H' => ∃ (y13 y14 : Option V), σ' = [some (.ref sa), some (.ref r), some mv, some pw, some (.int (p.length : Int)), some (.ref el), some wv, some (.ref fa), some lv, x9, some (.ref bl), some (.int (leastS (harmsOf m p ws) : Int)), some fv, y13, y14, none, none, none, none] ∧ I H') (fun Z hZ => ?_) ?_
  · refine ⟨_, rfl, ⟨by show 0 ≤ sizeLine; decide, fun q3 hq3 => ?_⟩⟩
    have e23 := Ex.new (o := .tup []) hq3
    have h3 : (L2.upd H22 q3 (.tup [])) q3 = some (.tup []) := upd_same
    revert e23 h3
    generalize L2.upd H22 q3 (.tup []) = H23
    intro e23 h3
    have I23 := IE _ _ I22 e23
    refine ⟨_, rfl, _, rfl, r, el, sa, ns, exs, _, rfl, elr, sq_of (IG _ I23).2.1.1, (IG _ I23).2.1.2, natss_noLs _, el9, el9b, (IG _ I23).1, fun v4 d4 H24 hd4 e24 R24 hv4 => ?_⟩
    obtain ⟨l4, hl4, rfl⟩ := List.mem_map.mp hd4
    have I24 := IB _ _ I23 e24 R24
    have tk24 : TK K H23 H24 := e24.tk (IG _ I23).1.noTup
    have fv24 := tmono tk24 _ _ oL (dmono e23 _ _ hfv22)
    have v324 : Dp K H24 (.ref q3) (natsD []) := tmono tk24 _ _ (natsD_noL []) (.tup (st_of h3) .nil)
    have bl24 := e24 _ _ (e23 _ _ hbl22) blr
    have abl24 := tmonoAll tk24 _ _ (natss_noLs _) (dmonoAll e23 _ _ abl22)
    obtain ⟨la, lys, elv, lsq, lal⟩ := Dp.tupD (IG _ I24).2.2.2.2.2.2
    refine ⟨_, rfl, la, lys, by rw [elv], .inr lsq, fun q5 hq5 => ?_⟩
    have q5r : q5 ≠ r := R24.some_ hq5
    have e25 := Ex.new (o := .lst lys) hq5
    have h5 : (L2.upd H24 q5 (.lst lys)) q5 = some (.lst lys) := upd_same
    revert e25 h5
    generalize L2.upd H24 q5 (.lst lys) = H25
    intro e25 h5
    refine ed_tup (K := K) (ds := [.int 0, .int 1]) (ead_cons (ed_int ev_c) (ead_cons (ed_int ev_c) ead_nil)) (by simp) H25 (Ex.refl _) _ fun v6 H26 e26 hv6 => ?_
    refine ed_tup (K := K) (ds := [.int (p.length : Int)]) (ead_cons (ed_int (ev_var rfl)) ead_nil) (by simp) H26 (Ex.refl _) _ fun v7 H27 e27 hv7 => ?_
    refine ed_tup (K := K) (ds := [.int ((p.length : Int) - 1)]) (ead_cons (ed_int (ev_op (ev_var rfl) ev_c rv_I0)) ead_nil) (by simp) H27 (Ex.refl _) _ fun v8 H28 e28 hv8 => ?_
    have e2428 := e25.trans (e26.trans (e27.trans e28))
    have I28 := IE _ _ I24 e2428
    refine ⟨_, rfl, _, rfl, r, el, sa, ns, exs, _, rfl, elr, sq_of (IG _ I28).2.1.1, (IG _ I28).2.1.2, natss_noLs _, el9, el9b, (IG _ I28).1, fun v9 d9 H29 hd9 e29 R29 hv9 => ?_⟩
    obtain ⟨l9, hl9, rfl⟩ := List.mem_map.mp hd9
    have I29 := IB _ _ I28 e29 R29
    have tk29 : TK K H28 H29 := e29.tk (IG _ I28).1.noTup
    have T : ∀ {d : PyData} {v : V}, noL d = true → Dp K H24 v d → Dp K H29 v d := fun n h => tmono tk29 _ _ n (dmono e2428 _ _ h)
    have h5' := e29 _ _ ((e26.trans (e27.trans e28)) _ _ h5) q5r
    have v5 : Dp K H29 (.ref q5) (.list (ls.map fun n : Nat => PyData.int (n : Int))) := .lst (sq_of h5') (tmonoAll tk29 _ _ (by
      have := natsD_noL ls
      unfold natsD at this
      rw [noL_tup] at this
      exact this) (dmonoAll e2428 _ _ lal))
    have nI : ∀ (zs : List Int), noL (.tuple (zs.map PyData.int)) = true := fun zs => by
      rw [noL_tup, noLs_iff]
      intro d hd
      obtain ⟨z, _, rfl⟩ := List.mem_map.mp hd
      rfl
    refine ⟨by show 9 ≤ sizeLine; decide, fun L hL => ?_⟩
    have bl29 := e29 _ _ (e2428 _ _ bl24) blr
    have abl29 := tmonoAll tk29 _ _ (natss_noLs _) (dmonoAll e2428 _ _ abl24)
    have al29 : DpAll K H29 [fv, .non, .ref q3, v4, .ref q5, v6, v7, v8, v9] [optL rr, .none, natsD [], natsD l4, .list (ls.map fun n : Nat => PyData.int (n : Int)), .tuple [.int 0, .int 1], .tuple [.int (p.length : Int)], .tuple [.int ((p.length : Int) - 1)], natsD l9] :=
      .cons (T oL fv24) (.cons .non (.cons (T (natsD_noL _) v324) (.cons (T (natsD_noL _) hv4) (.cons v5 (.cons (tmono tk29 _ _ (nI [0, 1]) (dmono (e27.trans e28) _ _ hv6)) (.cons (tmono tk29 _ _ (nI [(p.length : Int)]) (dmono e28 _ _ hv7)) (.cons (tmono tk29 _ _ (nI [(p.length : Int) - 1]) hv8) (.cons hv9 .nil))))))))
    have vds : ∀ d ∈ [optL rr, .none, natsD [], natsD l4, .list (ls.map fun n : Nat => PyData.int (n : Int)), .tuple [.int 0, .int 1], .tuple [.int (p.length : Int)], .tuple [.int ((p.length : Int) - 1)], natsD l9], VD d := fun d hd => by
      have z4 := (lsz l4 hl4).2
      have z9 := (lsz l9 hl9).2
      rcases List.mem_cons.mp hd with rfl | hd
      · exact vdF
      rcases List.mem_cons.mp hd with rfl | hd
      · exact .non
      rcases List.mem_cons.mp hd with rfl | hd
      · exact .nats (by decide)
      rcases List.mem_cons.mp hd with rfl | hd
      · exact .nats (by omega)
      rcases List.mem_cons.mp hd with rfl | hd
      · exact .lst ls (by omega)
      rcases List.mem_cons.mp hd with rfl | hd
      · exact VD.nats (ls := [0, 1]) (by decide)
      rcases List.mem_cons.mp hd with rfl | hd
      · exact .tup _ (by simp) fun d h => by
          rw [List.mem_singleton.mp h]
          exact ⟨_, rfl⟩
      rcases List.mem_cons.mp hd with rfl | hd
      · exact .tup _ (by simp) fun d h => by
          rw [List.mem_singleton.mp h]
          exact ⟨_, rfl⟩
      · rw [List.mem_singleton.mp hd]
        exact .nats (by omega)
    have eL := Ex.new (o := .lst [fv, .non, .ref q3, v4, .ref q5, v6, v7, v8, v9]) hL
    have hLs : (L2.upd H29 L (.lst [fv, .non, .ref q3, v4, .ref q5, v6, v7, v8, v9])) L = some (.lst [fv, .non, .ref q3, v4, .ref q5, v6, v7, v8, v9]) := upd_same
    revert eL hLs al29 vds
    generalize [fv, V.non, V.ref q3, v4, V.ref q5, v6, v7, v8, v9] = xs9
    generalize [optL rr, PyData.none, natsD [], natsD l4, PyData.list (ls.map fun n : Nat => PyData.int (n : Int)), PyData.tuple [.int 0, .int 1], PyData.tuple [.int (p.length : Int)], PyData.tuple [.int ((p.length : Int) - 1)], natsD l9] = ds9
    generalize L2.upd H29 L (.lst xs9) = H30
    intro al29 vds eL hLs
    have I30 := IE _ _ I29 eL
    have al30 := dmonoAll eL _ _ al29
    have bl30 := eL _ _ bl29
    have abl30 := dmonoAll eL _ _ abl29
    have hB : ∀ {G : Hp} {σ : L2.St}, Ex H30 G → σ[10]? = some (some (.ref bl)) → EvD K (tVar 10) σ G (.list ((harmsOf m p ws).map natsD)) := fun {G σ} e h => ed_var h (.lst (sq_of (e _ _ bl30)) (dmonoAll e _ _ abl30))
    have hN : ∀ {G : Hp} {σ : L2.St}, Ex H30 G → σ[10]? = some (some (.ref bl)) → EvT (tTest (tOp (rNeD K) (tVar 10) (tLst tNil))) σ G (!(harmsOf m p ws).isEmpty) := fun {G σ} e h => et_test (ev_is (ev_neD (hB e h) (ed_lst (ds := []) ead_nil (by simp)) (lay_natssS _) rfl) (by rw [eqv_nilL, List.isEmpty_map]))
    refine ⟨L, rfl, ⟨xs9, sq_of hLs⟩, for_list (xs := xs9) (D := { nx := _, rt := _, bk := _, ct := _ }) (fun i σ' H' => Ex H30 H' ∧ ∃ (y13 y14 : Option V), σ' = [some (.ref sa), some (.ref r), some mv, some pw, some (.int (p.length : Int)), some (.ref el), some wv, some (.ref fa), some lv, x9, some (.ref bl), some (.int (leastS (harmsOf m p ws) : Int)), some fv, y13, y14, none, none, none, none]) ⟨Ex.refl _, none, none, rfl⟩ (fun i σ' H' _ q => sq_of (q.1 _ _ hLs)) ?_ ?_⟩
    · rintro i x σ' H31 hx ⟨e31, y13, y14, rfl⟩
      obtain ⟨d, hd, hxd⟩ := al30.getV hx
      have vd := vds d (List.mem_of_getElem? hd)
      have I31 := IE _ _ I30 e31
      have hx31 := dmono e31 _ _ hxd
      refine q_asg (v := .bl (goodB (harmsOf m p ws) d)) (ev_ifVS (b := !(harmsOf m p ws).isEmpty) (hN e31 rfl) (fun c => ?_) (fun c => ?_)) fun H32 e32 => ?_
      · have c' : (harmsOf m p ws).isEmpty = false := by
          cases e : (harmsOf m p ws).isEmpty with
          | true => rw [e] at c; cases c
          | false => rfl
        refine ev_is (ev_andV (a := inB (harmsOf m p ws) d) (b := lenB (leastS (harmsOf m p ws)) d) (ev_inDS (ed_var rfl hx31) (hB e31 rfl) vd.shaped (lay_natssS _)) fun ha => ?_) (by unfold goodB; rw [c']; rfl)
        obtain ⟨ks, hk, rfl⟩ := (inB_iff vd).mp ha
        refine ev_is (ev_op (ev_lenT (K := K) (ed_var rfl hx31)) (ev_var rfl) (rv_eq rfl)) ?_
        unfold natsD lenB
        rw [dec_int]
        rfl
      · have c' : (harmsOf m p ws).isEmpty = true := by
          cases e : (harmsOf m p ws).isEmpty with
          | true => rfl
          | false => rw [e] at c; cases c
        exact ev_is (ev_isN (ed_var rfl hx31)) (by unfold goodB; rw [c']; rfl)
      · have I32 := IE _ _ I31 e32
        exact sd_pass (et_not (et_B (ev_alike (n := 10) (d := .bool (goodB (harmsOf m p ws) d)) trivial (ed_showsw mok ok p7 wok wz vd (gM I32 rfl) (gP I32 rfl) (gW I32 rfl) (ed_var rfl (dmono e32 _ _ hx31))) (ed_bl (ev_var rfl))))) rfl fun H33 e33 => ⟨(e31.trans e32).trans e33, _, _, rfl⟩
    · rintro σ' H33 ⟨e33, y13, y14, rfl⟩
      exact hZ _ _ ⟨y13, y14, rfl, IE _ _ I30 e33⟩
  rintro σ' H34 ⟨y13, y14, rfl, I34⟩
  -- what is no swaps
  have edN : ∀ {σ : L2.St} {G : Hp}, EvD K (tC .non) σ G .none := fun {σ G} H1 e Q q => q .non H1 (Ex.refl _) .non
  refine qli_asg (K := K) (li_lst (ds := badsD p.length) (ead_cons edN (ead_cons (ed_lst (ead_cons (ed_int ev_c) ead_nil) (by simp)) (ead_cons (ed_tup (ead_cons (ed_int (ev_op (ev_var rfl) ev_c rv_I0)) ead_nil) (by simp)) (ead_cons (ed_tup (ead_cons (ed_int ev_c) (ead_cons (ed_int ev_c) ead_nil)) (by simp)) (ead_cons (ed_tup (ead_cons (ed_int ev_c) (ead_cons (ed_int ev_c) ead_nil)) (by simp)) (ead_cons (ed_tup (ead_cons (ed_bl ev_c) ead_nil) (by simp)) (ead_cons (ed_tup (ead_cons (ed_int (ev_is (ev_op ev_c ev_c rv_I0) rfl)) ead_nil) (by simp)) ead_nil))))))) (by simp [badsD])) fun bd bvs H35 e35 hbd abd => ?_
  have I35 := IE _ _ I34 e35
  obtain ⟨_, _, hT35, hm35, hp35, _, _⟩ := IG _ I35
  refine ⟨_, rfl, bd, rfl, ⟨bvs, sq_of hbd⟩, fun Dl hD => ?_⟩
  have eD := Ex.new (o := .lst []) hD
  refine lc_list (xs := bvs) (fun i H' => H' Dl = some (.lst []) ∧ Tabs TL H' ∧ H' bd = some (.lst bvs) ∧ DpAll K H' bvs (badsD p.length) ∧ Dp K H' mv m.enc ∧ Dp K H' pw (progD p)) ⟨upd_same, fun z hz => ?_, eD _ _ hbd, dmonoAll eD _ _ abd, dmono eD _ _ hm35, dmono eD _ _ hp35⟩ (fun i H' _ q => sq_of q.2.2.1) (fun i x H36 hx q => ?_) (fun H36 q => ?_)
  · rw [hTL] at hz
    rw [List.mem_singleton.mp hz]
    exact TabS.nil (eD _ _ hT35)
  · obtain ⟨q1, q2, q3, q4, q5, q6⟩ := q
    obtain ⟨d, hd, hxd⟩ := q4.getV hx
    obtain ⟨no, n60⟩ := bads_no d (List.mem_of_getElem? hd)
    refine ⟨wipe1 _, q2, fun H37 eN T37 => ?_⟩
    refine ⟨_, rfl, _, rfl, _, rfl, mv, pw, x, m, p, d, rfl, dmonoN eN _ _ q5, dmonoN eN _ _ q6, dmonoN eN _ _ hxd, mok, ok, p7, no, n60, fun H38 e38 => ⟨true, OW.te, fun _ => ?_, fun z => by cases z⟩⟩
    have eF : ExtN H36 H38 := eN.trans (.of e38)
    refine ⟨rfl, _, rfl, ?_⟩
    exact ⟨eF _ _ q1 (fun _ z => nomatch z), T37.ext e38, eF _ _ q3 (fun _ z => nomatch z), dmonoNAll eF _ _ q4, dmonoN eF _ _ q5, dmonoN eF _ _ q6⟩
  · obtain ⟨q1, _⟩ := q
    refine ⟨by show 0 ≤ sizeLine; decide, fun E0a hE => ?_⟩
    refine ⟨.list [], .list [], .lst (sq_of ((Ex.new hE) _ _ q1)) .nil, .lst (sq_of upd_same) .nil, rfl, rfl, ?_⟩
    exact k _
end
end Lb

set_option Elab.async false
set_option linter.all false
set_option maxRecDepth 100000
set_option maxHeartbeats 4000000
namespace Lb
open PySem L2 Evl PyProof.Rows
theorem fun_of {K : PySem.W.Frag} {x qual : Str} {st : Stmt} {f : Addr} {fd : FuncData} (F : FunD K x qual (defArgs st) (defBody st) (defScope st) [] [] f fd) : Fun K x qual st f fd := by
  obtain ⟨oc, od, dV, kV, doc, pm, an, cdv, ct, osl, e, lk, hcd, hD, hK⟩ := F.ex
  rcases hD with ⟨_, rfl⟩ | ⟨z, _⟩
  · exact ⟨⟨oc, od, kV, doc, pm, an, cdv, ct, osl, e, lk, hcd⟩, F.kp⟩
  · exact absurd rfl z
section
variable {P : Program} {w : World} {K : PySem.W.Frag} {mg : Str → Option Value} {base h : Heap}
theorem dfn_of (X : K.In h) (G : h.Ns mainGlobals mg) (c : He.SaysD fa fn K) (i j : Nat) {x : Str} {st : Stmt} {ps : List Str} (h1 : fn[i]? = some (dF x st)) (h2 : fa[j]? = some (.glo x))
    (hb : ∀ (kV doc pm : Value) (an : Option Addr) (cdv ct : Value) (us : List Value), us.length = ps.length → bindArgs (PySem.W.fnOf x x (defArgs st) (defBody st) (defScope st) .none kV doc pm an cdv ct) ⟨us, []⟩ = pure (ps.zip us)) : Dfn K mg x st ps := by
  obtain ⟨fd, F⟩ := c.def_ i h1
  exact ⟨_, fd, fun_of F, He.glo_ok X G (c.fact j h2), (fun_of F).binds hb⟩
theorem mdn_of (c : He.SaysD fa fn K) (i j : Nat) {m q : Str} {st : Stmt} {ps : List Str} (h1 : fn[i]? = some (dM m q st)) (h2 : fa[j]? = some (.meth "Store" m))
    (hb : ∀ (kV doc pm : Value) (an : Option Addr) (cdv ct : Value) (us : List Value), us.length = ps.length → bindArgs (PySem.W.fnOf m q (defArgs st) (defBody st) (defScope st) .none kV doc pm an cdv ct) ⟨us, []⟩ = pure (ps.zip us)) : Mdn K (He.ga K "Store") m q st ps := by
  obtain ⟨fd, F⟩ := c.def_ i h1
  exact ⟨_, fd, He.meth_ok (c.fact j h2), fun_of F, (fun_of F).binds hb⟩
theorem dfnD_of (X : K.In h) (G : h.Ns mainGlobals mg) (c : He.SaysD fa fn K) (i j : Nat) {x : Str} {st : Stmt} {ps : List Str} {ds : List He.Dv} (n : Nat) (h1 : fn[i]? = some (dFd x st ds)) (h2 : fa[j]? = some (.glo x)) (hd : ds.map (He.Dv.v K) ≠ []) (hn : n + (ds.map (He.Dv.v K)).length = ps.length)
    (hb : ∀ (T : Addr) (kV doc pm : Value) (an : Option Addr) (cdv ct : Value) (us its : List Value), us.length = n → its.length = (ds.map (He.Dv.v K)).length →
      ∃ k, bindArgs (PySem.W.fnOf x x (defArgs st) (defBody st) (defScope st) (.ref T) kV doc pm an cdv ct) ⟨us, []⟩ = seqItems? (.ref T) >>= k ∧ k (some its.toArray) = pure (ps.zip (us ++ its.drop 0))) : DfnD K mg x st ps (ds.map (He.Dv.v K)) := by
  obtain ⟨fd, F⟩ := c.def_ i h1
  have F2 : FunD K x x (defArgs st) (defBody st) (defScope st) (ds.map (He.Dv.v K)) [] _ fd := F
  obtain ⟨vs, r, b⟩ := F2.binds1 (ps := ps) n 0 hd (by rw [Nat.sub_zero]; exact hn) hb
  exact ⟨_, fd, vs, F2, He.glo_ok X G (c.fact j h2), b, r⟩
theorem bi_of (X : K.In h) (G : h.Ns mainGlobals mg) (c : He.SaysD fa fn K) : Bi mg := ⟨He.free_ok X G (c.fact 0 (f := .free "len") rfl), He.free_ok X G (c.fact 1 (f := .free "isinstance") rfl), He.free_ok X G (c.fact 2 (f := .free "tuple") rfl), He.free_ok X G (c.fact 3 (f := .free "list") rfl), He.free_ok X G (c.fact 4 (f := .free "int") rfl), He.free_ok X G (c.fact 5 (f := .free "bool") rfl), He.free_ok X G (c.fact 6 (f := .free "str") rfl), He.free_ok X G (c.fact 7 (f := .free "range") rfl), He.free_ok X G (c.fact 8 (f := .free "enumerate") rfl), He.free_ok X G (c.fact 9 (f := .free "max") rfl), He.free_ok X G (c.fact 10 (f := .free "all") rfl), He.free_ok X G (c.fact 11 (f := .free "sorted") rfl)⟩
theorem gs_of (X : K.In h) (G : h.Ns mainGlobals mg) (c : He.SaysD fa fn K) : Gs mg := ⟨He.int_ok X G (c.fact 16 (f := .int "DEEPEST" 8) rfl), He.int_ok X G (c.fact 17 (f := .int "MOST_CELLS" 4) rfl), He.int_ok X G (c.fact 18 (f := .int "MOST_FUNCTIONS" 3) rfl), He.int_ok X G (c.fact 19 (f := .int "MOST_READ" 2) rfl), He.int_ok X G (c.fact 20 (f := .int "MOST_LINES" 60) rfl), He.int_ok X G (c.fact 21 (f := .int "MOST_PAIRS" 3000) rfl)⟩
theorem st_of_ (X : K.In h) (G : h.Ns mainGlobals mg) (c : He.SaysD fa fn K) : StC K mg (He.ga K "Store") := by
  refine ⟨He.cls_ok (c.fact 23 (f := .cls "Store") rfl), He.noat_ok (c.fact 24 (f := .noat "Store" "at_first") rfl), He.noat_ok (c.fact 25 (f := .noat "Store" "_terms") rfl), He.noat_ok (c.fact 26 (f := .noat "Store" "_depths") rfl), He.noat_ok (c.fact 27 (f := .noat "Store" "_numbers") rfl), He.noat_ok (c.fact 28 (f := .noat "Store" "_texts") rfl), He.noat_ok (c.fact 29 (f := .noat "Store" "_deepest") rfl), He.noat_ok (c.fact 30 (f := .noat "Store" "_is_closed") rfl), He.noat_ok (c.fact 31 (f := .noat "Store" "_shared") rfl), He.glo_ok X G (c.fact 22 (f := .glo "Store") rfl), ?_, mdn_of c 45 32 rfl rfl (fun _ _ _ _ _ _ us hl => match us, hl with | [_, _, _], _ => rfl), mdn_of c 46 33 rfl rfl (fun _ _ _ _ _ _ us hl => match us, hl with | [_, _], _ => rfl), mdn_of c 47 34 rfl rfl (fun _ _ _ _ _ _ us hl => match us, hl with | [_, _], _ => rfl), mdn_of c 48 35 rfl rfl (fun _ _ _ _ _ _ us hl => match us, hl with | [_, _, _], _ => rfl)⟩
  obtain ⟨fd, F⟩ := c.def_ 44 (d := dMd "__init__" "Store.__init__" sStoreInit [.int 8]) rfl
  have F2 : FunD K "__init__" "Store.__init__" (defArgs sStoreInit) (defBody sStoreInit) (defScope sStoreInit) [.int 8] [] _ fd := F
  obtain ⟨vs, r, b⟩ := F2.binds1 (ps := ["self", "cells", "deepest"]) 2 0 (by simp) rfl (fun _ _ _ _ _ _ _ us its h1 h2 => match us, its, h1, h2 with | [_, _], [_], _, _ => ⟨_, rfl, rfl⟩)
  exact ⟨_, fd, vs, He.mkr_ok (c.fact 37 (f := .mkr "Store") rfl), F2, b, r⟩
theorem ow_BadSwaps (X : K.In h) (G : h.Ns mainGlobals mg) (c : He.SaysD fa fn K) : OwX K mg "BadSwaps" (He.ga K "BadSwaps") := by
  obtain ⟨a, b, d, e⟩ := He.exc_ok (c.fact 39 (f := .exc "BadSwaps") rfl)
  exact ⟨a, b, d, e, He.glo_ok X G (c.fact 38 (f := .glo "BadSwaps") rfl), He.exm_ok (c.fact 40 (f := .exm "BadSwaps" "BadSwaps" true) rfl)⟩
theorem facts {fL : Addr} (X : K.In h) (G : h.Ns mainGlobals mg) (hfa : mg ("law" : Str) = some (.ref fL)) (c : He.SaysD fa fn K) :
    ∃ fd : FuncData, (∀ (s : Shared) (v : Value), BindsTo s fd ⟨[v], []⟩ [("script", v)]) ∧ ∀ base : Heap, K.In base → base.Ns mainGlobals mg → LamX.TabB base mg (He.cT K (("law", none) : He.Defn)).1 (He.cT K (("law", none) : He.Defn)).2 → FnOk P w K mg base CX0 18 fL fd ["script"] (spLaw K (He.cT K (("law", none) : He.Defn)).2) := by
  obtain ⟨fd, F⟩ := c.def_ 43 (d := dF "law" sLaw) rfl
  have e := hfa.symm.trans (He.glo_ok X G (c.fact 84 (f := .glo "law") rfl))
  cases e
  have b := FunD.bindsA (ps := ["script"]) F fun _ _ _ _ _ _ us hl => match us, hl with | [_], _ => rfl
  have hcd : fd.code = .ref (He.cT K (("law", none) : He.Defn)).1 := by
    obtain ⟨oc, od, dV, kV, doc, pm, an, cdv, ct, osl, rfl, lk, hcd, _, _⟩ := F.ex
    obtain ⟨c0, e0⟩ := He.codeIn_ref hcd
    have q := He.codeOf_eq (p := (("law", none) : He.Defn)) lk (show (PySem.W.fnOf _ _ _ _ _ _ _ _ _ _ cdv _).code = .ref c0 from e0)
    show cdv = .ref (He.codeOf K ("law", none))
    rw [q, e0]
  refine ⟨fd, fun s v => b s [v] rfl, fun base _ _ TBl => ?_⟩
  have B := bi_of X G c
  have Gg := gs_of X G c
  have T := st_of_ X G c
  have bany : mg "any" = none := He.free_ok X G (c.fact 12 (f := .free "any") rfl)
  have bmin : mg "min" = none := He.free_ok X G (c.fact 13 (f := .free "min") rfl)
  have msum : mg "sum" = none := He.free_ok X G (c.fact 14 (f := .free "sum") rfl)
  have OW_BadSwaps := ow_BadSwaps X G c
  have H_ok_is_between : Cal P w K mg base 1 "is_between" ["value", "low", "high"] (spBetween K) := ok_is_between B (dfn_of X G c 0 41 rfl rfl (fun _ _ _ _ _ _ us hl => match us, hl with | [_, _, _], _ => rfl))
  have H_ok_is_number_below : Cal P w K mg base 2 "is_number_below" ["value", "limit"] (spBelow K) := ok_is_number_below (dfn_of X G c 1 42 rfl rfl (fun _ _ _ _ _ _ us hl => match us, hl with | [_, _], _ => rfl)) H_ok_is_between
  have H_ok_are_functions : Cal P w K mg base 2 "are_functions" ["value"] (spAreFns K) := ok_are_functions B Gg (dfn_of X G c 2 43 rfl rfl (fun _ _ _ _ _ _ us hl => match us, hl with | [_], _ => rfl)) H_ok_is_between
  have H_ok_check_machine : CChkM P w K mg base := ok_check_machine B Gg (dfnD_of (ds := [.int 4]) X G c 3 44 1 rfl rfl (by simp) rfl (fun _ _ _ _ _ _ _ us its h1 h2 => match us, its, h1, h2 with | [_], [_], _, _ => ⟨_, rfl, rfl⟩)) H_ok_is_between H_ok_are_functions
  have H_ok_are_sources : CSources P w K mg base := ok_are_sources B (dfn_of X G c 4 45 rfl rfl (fun _ _ _ _ _ _ us hl => match us, hl with | [_, _, _, _], _ => rfl)) H_ok_is_number_below
  have H_ok_is_line : CLine P w K mg base := ok_is_line B (dfn_of X G c 5 46 rfl rfl (fun _ _ _ _ _ _ us hl => match us, hl with | [_, _], _ => rfl)) H_ok_is_number_below H_ok_are_sources
  have H_ok_check_program : CChkP P w K mg base := ok_check_program B Gg (dfn_of X G c 6 47 rfl rfl (fun _ _ _ _ _ _ us hl => match us, hl with | [_, _], _ => rfl)) H_ok_is_line
  have H_ok_is_term : CTerm P w K mg base 8 := ok_is_term B (dfn_of X G c 7 48 rfl rfl (fun _ _ _ _ _ _ us hl => match us, hl with | [_, _, _], _ => rfl)) H_ok_is_number_below 8
  have H_ok_law_text : CLText P w K mg base 8 := ok_law_text B (dfn_of X G c 8 49 rfl rfl (fun _ _ _ _ _ _ us hl => match us, hl with | [_], _ => rfl)) 8
  have H_ok_text_of : CText P w K mg base 8 := ok_text_of B (dfn_of X G c 9 50 rfl rfl (fun _ _ _ _ _ _ us hl => match us, hl with | [_], _ => rfl)) 8
  have H_ok_law_taken : CTaken P w K mg base := ok_law_taken B (dfn_of X G c 10 51 rfl rfl (fun _ _ _ _ _ _ us hl => match us, hl with | [_, _], _ => rfl))
  have H_ok_law_pick : CPick P w K mg base := ok_law_pick B (dfn_of X G c 11 52 rfl rfl (fun _ _ _ _ _ _ us hl => match us, hl with | [_, _], _ => rfl)) H_ok_law_taken
  have H_ok_law_machine : CMach P w K mg base := ok_law_machine B (dfn_of X G c 12 53 rfl rfl (fun _ _ _ _ _ _ us hl => match us, hl with | [_], _ => rfl)) H_ok_law_taken
  have H_ok_law_line : CLineD P w K mg base := ok_law_line B (dfn_of X G c 13 54 rfl rfl (fun _ _ _ _ _ _ us hl => match us, hl with | [_, _], _ => rfl)) H_ok_law_taken H_ok_law_pick
  have H_ok_law_program : CProg P w K mg base := ok_law_program B (dfn_of X G c 14 55 rfl rfl (fun _ _ _ _ _ _ us hl => match us, hl with | [_, _, _], _ => rfl)) H_ok_law_taken H_ok_law_line
  have H_ok_law_alike : CAlike P w K mg base 10 := ok_law_alike B (dfn_of X G c 15 56 rfl rfl (fun _ _ _ _ _ _ us hl => match us, hl with | [_, _], _ => rfl)) 10
  have H_ok_terms : MTerms P w K mg base (He.ga K "Store") := ok_terms B T
  have H_ok_new : MNew P w K mg base (He.ga K "Store") := ok_new B T
  have H_ok_made : MMade P w K mg base (He.ga K "Store") := ok_made B Gg T H_ok_terms H_ok_new
  have H_ok_texts : MTexts P w K mg base (He.ga K "Store") := ok_texts B T H_ok_text_of
  have H_ok_store : KStore P w K mg base (He.ga K "Store") := ok_store B T
  have H_ok_behind_line : CBLine P w K mg base (He.ga K "Store") := ok_behind_line B (dfn_of X G c 16 57 rfl rfl (fun _ _ _ _ _ _ us hl => match us, hl with | [_, _, _], _ => rfl)) H_ok_made
  have H_ok_keep_shorter : CKeep P w K mg base := ok_keep_shorter B (dfn_of X G c 17 58 rfl rfl (fun _ _ _ _ _ _ us hl => match us, hl with | [_, _, _], _ => rfl))
  have H_ok_behind_losses : CBLs P w K mg base (He.ga K "Store") := ok_behind_losses B T (dfn_of X G c 18 59 rfl rfl (fun _ _ _ _ _ _ us hl => match us, hl with | [_, _, _], _ => rfl)) H_ok_behind_line
  have H_ok_is_wish : CWish P w K mg base := ok_is_wish B Gg (dfn_of X G c 19 60 rfl rfl (fun _ _ _ _ _ _ us hl => match us, hl with | [_, _], _ => rfl)) H_ok_is_number_below H_ok_is_term
  have H_ok_number : MNumber P w K mg base (He.ga K "Store") 8 := ok_number B T (mdn_of c 49 36 rfl rfl (fun _ _ _ _ _ _ us hl => match us, hl with | [_, _], _ => rfl)) H_ok_made 8
  have H_ok_check_wishes : CChkW P w K mg base := ok_check_wishes B (dfn_of X G c 20 61 rfl rfl (fun _ _ _ _ _ _ us hl => match us, hl with | [_, _], _ => rfl)) H_ok_is_wish
  have H_ok_are_fulfilled : CFull P w K mg base := ok_are_fulfilled B (dfn_of X G c 21 62 rfl rfl (fun _ _ _ _ _ _ us hl => match us, hl with | [_, _], _ => rfl))
  have H_ok_wanted_numbers : CWanted P w K mg base (He.ga K "Store") := ok_wanted_numbers (dfn_of X G c 22 63 rfl rfl (fun _ _ _ _ _ _ us hl => match us, hl with | [_, _], _ => rfl)) H_ok_number
  have H_ok_law_done : CDone P w K mg base := ok_law_done B (dfn_of X G c 23 64 rfl rfl (fun _ _ _ _ _ _ us hl => match us, hl with | [_, _], _ => rfl))
  have H_ok_law_run : CLRun P w K mg base := ok_law_run B (dfn_of X G c 24 65 rfl rfl (fun _ _ _ _ _ _ us hl => match us, hl with | [_, _], _ => rfl)) H_ok_law_done
  have H_ok_law_subsets : CSubs P w K mg base := ok_law_subsets B (dfn_of X G c 25 66 rfl rfl (fun _ _ _ _ _ _ us hl => match us, hl with | [_], _ => rfl))
  have H_ok_law_fulfilled : CFulW P w K mg base := ok_law_fulfilled B (dfn_of X G c 26 67 rfl rfl (fun _ _ _ _ _ _ us hl => match us, hl with | [_, _], _ => rfl))
  have H_ok_swapped : CSwd P w K mg base := ok_swapped B (dfn_of X G c 27 68 rfl rfl (fun _ _ _ _ _ _ us hl => match us, hl with | [_, _], _ => rfl))
  have H_ok_law_swapped : CLSwd P w K mg base := ok_law_swapped B (dfn_of X G c 28 69 rfl rfl (fun _ _ _ _ _ _ us hl => match us, hl with | [_, _], _ => rfl))
  have H_ok_law_wishes : CWishesL P w K mg base := ok_law_wishes B (dfn_of X G c 29 70 rfl rfl (fun _ _ _ _ _ _ us hl => match us, hl with | [_, _, _], _ => rfl)) H_ok_law_taken H_ok_law_run
  have H_ok_are_numbers : CNum P w K mg base := ok_are_numbers B (dfn_of X G c 30 71 rfl rfl (fun _ _ _ _ _ _ us hl => match us, hl with | [_, _], _ => rfl)) H_ok_is_number_below
  have H_ok_is_swaps : CIsSw P w K mg base := ok_is_swaps B (dfn_of X G c 31 72 rfl rfl (fun _ _ _ _ _ _ us hl => match us, hl with | [_, _], _ => rfl)) H_ok_are_numbers
  have H_ok_check_swaps : CChkSw P w K mg base := ok_check_swaps (dfn_of X G c 32 73 rfl rfl (fun _ _ _ _ _ _ us hl => match us, hl with | [_, _], _ => rfl)) H_ok_is_swaps
  have H_ok_check_swapsR : CalX P w K mg base 5 "check_swaps" ["program", "swaps"] (spChkSwR K (He.ga K "BadSwaps")) := ok_check_swapsR OW_BadSwaps (dfn_of X G c 32 73 rfl rfl (fun _ _ _ _ _ _ us hl => match us, hl with | [_, _], _ => rfl)) H_ok_is_swaps
  have H_ok_behind_lossesL : CBLL P w K mg base (He.ga K "Store") := ok_behind_lossesL B T (dfn_of X G c 18 59 rfl rfl (fun _ _ _ _ _ _ us hl => match us, hl with | [_, _, _], _ => rfl)) H_ok_behind_line
  have H_ok_run_swapped : CRunSw P w K mg base := ok_run_swapped T (dfn_of X G c 33 74 rfl rfl (fun _ _ _ _ _ _ us hl => match us, hl with | [_, _, _], _ => rfl)) H_ok_check_machine H_ok_check_program H_ok_check_swaps H_ok_store H_ok_swapped H_ok_behind_lossesL H_ok_terms
  have H_ok_run_swappedR : CalX P w K mg base 6 "run_swapped" ["machine", "program", "swaps"] (spRunSwR K (He.ga K "BadSwaps")) := ok_run_swappedR T (dfn_of X G c 33 74 rfl rfl (fun _ _ _ _ _ _ us hl => match us, hl with | [_, _, _], _ => rfl)) H_ok_check_machine H_ok_check_program H_ok_check_swapsR H_ok_store H_ok_swapped H_ok_behind_lossesL H_ok_terms
  have H_ok_keep5 : CKeep5 P w K mg base := ok_keep5 B (dfn_of X G c 17 58 rfl rfl (fun _ _ _ _ _ _ us hl => match us, hl with | [_, _, _], _ => rfl))
  have H_ok_within_most_pairs : CWithin P w K mg base := ok_within_most_pairs B Gg (dfn_of X G c 34 75 rfl rfl (fun _ _ _ _ _ _ us hl => match us, hl with | [_], _ => rfl))
  have H_ok_swapped_rows : CRowsS P w K mg base (He.ga K "Store") := ok_swapped_rows B T (dfn_of X G c 35 76 rfl rfl (fun _ _ _ _ _ _ us hl => match us, hl with | [_, _], _ => rfl)) H_ok_keep5 H_ok_within_most_pairs H_ok_behind_line
  have H_ok_by_texts : CByT P w K mg base (He.ga K "Store") := ok_by_texts B T (dfn_of X G c 36 77 rfl rfl (fun _ _ _ _ _ _ us hl => match us, hl with | [_, _], _ => rfl)) H_ok_texts H_ok_terms
  have H_ok_outcomes_swapped : COutSw P w K mg base := ok_outcomes_swapped B (dfn_of X G c 37 78 rfl rfl (fun _ _ _ _ _ _ us hl => match us, hl with | [_, _], _ => rfl)) H_ok_check_machine H_ok_check_program H_ok_store H_ok_swapped_rows H_ok_by_texts
  have H_ok_fewest_harmful : CFH P w K mg base := ok_fewest_harmful B (dfn_of X G c 38 79 rfl rfl (fun _ _ _ _ _ _ us hl => match us, hl with | [_, _], _ => rfl)) H_ok_are_fulfilled
  have H_ok_swap_harm : CSwH P w K mg base := ok_swap_harm B (dfn_of X G c 39 80 rfl rfl (fun _ _ _ _ _ _ us hl => match us, hl with | [_, _, _], _ => rfl)) H_ok_check_machine H_ok_check_program H_ok_check_wishes H_ok_store H_ok_swapped_rows H_ok_wanted_numbers H_ok_fewest_harmful
  have H_ok_is_swap_proof : Cal P w K mg base 15 "is_swap_proof" ["machine", "program", "wishes"] (spSwH K fun r => .bool r.isNone) := ok_is_swap_proof (dfn_of X G c 40 81 rfl rfl (fun _ _ _ _ _ _ us hl => match us, hl with | [_, _, _], _ => rfl)) H_ok_swap_harm
  have H_ok_shows_swap_harm : CShSw P w K mg base := ok_shows_swap_harm B (dfn_of X G c 41 82 rfl rfl (fun _ _ _ _ _ _ us hl => match us, hl with | [_, _, _, _], _ => rfl)) H_ok_swap_harm H_ok_is_swaps H_ok_store H_ok_swapped H_ok_behind_lossesL H_ok_are_fulfilled H_ok_wanted_numbers
  exact ok_law B bmin (fun_of F) hcd TBl (dfn_of X G c 42 83 rfl rfl (fun _ _ _ _ _ _ us hl => match us, hl with | [_], _ => rfl)) OW_BadSwaps H_ok_law_machine H_ok_law_program H_ok_law_subsets H_ok_law_wishes H_ok_law_run H_ok_law_swapped H_ok_law_text H_ok_law_alike H_ok_law_pick H_ok_law_fulfilled H_ok_outcomes_swapped H_ok_run_swapped H_ok_run_swappedR H_ok_is_swap_proof H_ok_swap_harm H_ok_shows_swap_harm
end
end Lb

set_option Elab.async false
set_option linter.all false
set_option maxRecDepth 100000
set_option maxHeartbeats 0
open PySem PySem.W PySem.Calls PyProof.Rows
theorem PySem.Challenge.cw_lostlines_k62_whole_swaps_holds : PySem.Challenge.rw_lostlines_k62_whole_swaps.Holds := by
  w_on; o_law
  refine HandSHeadRun.head_any (r := Lb.RR) (q := view Lb.RR.prog [67]) (H := Lb.hk) (ob := Lb.ob) (M := 4000) (loose := Lb.names) (d := HandSHeadRun.topDef Lb.RR.prog 67) (kwd := []) Lb.ob_eq
    (by kernel_rfl) (fun s => by kernel_rfl) Lb.run (by kernel_rfl) (by kernel_rfl) (by kernel_rfl) (by rfl) (by first | assumption | decide +kernel) (by decide +kernel) ⟨rfl, rfl, rfl, rfl, rfl, by decide +kernel⟩ ?hw ?hc
  case hw => w_witness2
  case hc =>
    refine LamX.walk_ofTsE (l := PySem.Challenge.rw_lostlines_k62_whole_swaps) (n := 63) (k := 18) (x := "script") (CX := fun _ => L2.CX0) rfl (by decide) (by kernel_rfl) ⟨rfl, by decide, by decide⟩ ?F (fun _ _ _ _ _ z => z)
    intro w mg fa h Y G hmg0
    obtain ⟨K, KX, c, t1, t2, t3⟩ := Y
    have hmg : mg ("law" : PySem.Str) = some (.ref fa) := by
      have e : (HandSHeadRun.topDef Lb.RR.prog 67).name = ("law" : PySem.Str) := by kernel_rfl
      rw [← e]
      exact hmg0
    obtain ⟨fd, hb, hF⟩ := Lb.facts (P := (PySem.Challenge.rw_lostlines_k62_whole_swaps).prog) (w := w) KX G hmg c
    exact ⟨K, KX, fd, [He.cT K ("law", none)], Lb.spLaw K (He.cT K ("law", none)).2, fun p hp => by rw [List.mem_singleton.mp hp]; exact t3, fun p hp => by rw [List.mem_singleton.mp hp]; exact t2, fun p hp => by rw [List.mem_singleton.mp hp]; exact PySem.W.codeHd_of_K KX t1, hb, fun H a ns hl _ hTt hS => ⟨a, ns, rfl, hS, hTt _ (List.mem_singleton_self _), fun _ => rfl⟩, fun base hB hN hTB => hF base hB hN (hTB _ (List.mem_singleton_self _))⟩
