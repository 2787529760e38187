import PyProof.Rows.All
import Wide.All
import OpenK.AllK
import Wide.FinOn
import HandS.ForMost
import HandS.Walk
import HandS.Conv
import HandS.Zip
import HandS.TupAny
import HandS.TupMul
import HandS.TupLe
import HandS.IsInst
import HandS.Style
import HandS.Flow
import HandS.Small
import HandS.RaiseMore
import HandS.Evl
import PyProof.ReprRoads
import HandS.ForExc
import HandS.ExcIs
import HandS.ExcValue
import KE.KIsAll
import PyProof.CallFns
import HandS.Lambda
import KE.KNestM
import KE.DatumOrd
import HandS.SortRule
import KE.LtSeq
import KE.KSortAsk
import KE.GoesMore
import KE.KItemsList
import PySem.Challenge.RW_gridshares_k11_boxes_refused
set_option Elab.async false
set_option linter.all false
set_option maxRecDepth 100000
set_option maxHeartbeats 4000000
/-! Defs that are called while nothing is being shown (repr): the stack bears no guard. -/
namespace GS
open PySem PySem.Spec PyProof.Rows L2
abbrev Clr (A : Around) : Prop := A.guards = some []
/-- a def's promise, where no repr is under way -/
structure FnG (P : Program) (w : World) (K : PySem.W.Frag) (mg : Str → Option Value) (base : Heap)
    (k : Nat) (f : Addr) (fd : FuncData) (ps : List Str) (sp : Sp) : Prop where
  num : ∀ vs H Q E, sp vs H Q E → vs.length = ps.length
  go : ∀ (A : Around) (fr : List Env) (s : Shared) (H : Hp) (ar : Args) (us : List Value) (vs : List V) (Q : VK) (E : XK),
    Clr A → Room k A → Env0 P w K mg base A fr s H → BindsTo s fd ar (ps.zip us) → Vals vs us →
    sp vs H Q E → codeAny (model P w) A (.call (.ref f) ar) (CR CX0 fr P w H s Q E) s
section
variable {X : Cx} {k : Nat} {f : Addr} {fd : FuncData} {ps : List Str} {sp : Sp} {x : Str} {p pos : Pos} {e : Expr} {es : List Expr} {t : TA}
/-- f(e, ..) of such a def -/
theorem pe_callG (F : FnG X.prog X.w X.K X.mg X.base k f fd ps sp) (hA : Clr X.A) (hr : Room k X.A) (hg : Gl X x)
    (hm : X.mg x = some (.ref f)) (hk : PySem.W.keepIn X.K (.ref f) = true) (hb : Binds X.K fd ps []) (ha : PA X (e :: es) t)
    (hdb : (x == ("__debug__" : Str)) = false := by decide)
    (he : starEach (e :: es) X.env = (false, eval e X.env) :: starEach es X.env := by rfl)
    (hpl : (backTo pos (starEach es X.env)).any (·.1) = false := by rfl) :
    PE X (.Call (.Name x p) (e :: es) [] pos) (tCall sp [] E0 t) := by
  constructor
  intro pins s σ H Q I h
  apply wpAny_Call_Name_kw
  apply ld_glob I hg hm _ hdb
  apply PySem.W.callWith_K (h₀ := X.base) I.ok.mod.kin hk _ he hpl
  apply thn (ha.run pos pins s σ H _ I h)
  rintro us s1 ⟨vs, H1, J, r, q⟩
  refine ⟨J.kIn, wpAny_call ?_⟩
  have q' : sp vs H1 Q E0 := by rw [List.append_nil] at q; exact q
  have hl : (us ++ []).length = ps.length := by rw [List.append_nil, ← r.length]; exact F.num _ _ _ _ q'
  have hbd := hb s1 us J.kIn hl
  rw [List.append_nil] at hbd
  apply codeAny_mono (F.go X.A X.stack s1 H1 ⟨us, []⟩ us vs Q E0 hA hr J.env0 hbd r q')
  intro r' s' z
  match r', z with
  | .error _, z => exact z.elim
  | .ok (.ret u), z => exact J.after z
  | .ok .next, z => exact z.elim
  | .ok .brk, z => exact z.elim
  | .ok .cont, z => exact z.elim
/-- repr(a list or tuple of data) -/
def rShown (K : PySem.W.Frag) : List V → Hp → VK → Prop := fun xs H Q => ∃ (v : V) (d : PyData), xs = [v] ∧ (∃ a, v = .ref a) ∧
    Dp K H v d ∧ d.showable = true ∧ d.hasDict = false ∧ d.depth ≤ 60 ∧ d.shown.length ≤ sizeLine ∧ Q (.str d.shown) H
theorem call_shown (hA : Clr X.A) (hu : X.A.units + 64 < cLine) : CallR X (.builtin "repr") (rShown X.K) := by
  intro pn s σ H xs us Q J r h
  obtain ⟨v, d, rfl, ⟨a, rfl⟩, hd, h1, h2, h3, h4, q⟩ := h
  cases r with
  | cons r1 r2 =>
    cases r2
    cases r1
    obtain ⟨as, rd⟩ := Dp.reads J d _ _ hd rfl
    exact repr_of_reads' rd h1 (PyData.noDict_hsm h2) hA (by omega) (fun _ _ z => z) (fun h' u tk hk => ⟨.str _, H, J.kept hk, ⟨_, rfl⟩, q⟩) h4
/-- what e gives stays locked from there on -/
theorem pe_frz {te : TE} (h : PE X e te) : PE X e (fun σ H Q => te σ H fun v H1 => ∃ d u, H1 d = some u ∧ Mut (some u) ∧ ∀ od, Q v (upd H1 d (.frz od u))) := by
  constructor
  intro pins s σ H Q I hw
  apply thn (h.run pins s σ H _ I hw)
  rintro v s1 ⟨x, H1, J, r, d, u, hd, mu, q⟩
  obtain ⟨od, J2⟩ := J.lock hd mu
  exact ⟨x, _, J2, r, q od⟩
end
section
variable {P : Program} {w : World} {K : PySem.W.Frag} {mg : Str → Option Value} {base : Heap}
/-- such a def by its body -/
theorem okG {x qual : Str} {st : Stmt} {f : Addr} {fd : FuncData} {N ps : List Str} {k : Nat} {sp : Sp} (F : Fun K x qual st f fd)
    (S : FnScope N ps (defScope st)) (num : ∀ vs H Q E, sp vs H Q E → vs.length = ps.length)
    (hb : ∀ (cdv : Value) (A : Around) (fr : List Env) (s : Shared) (H : Hp) (vs : List V) (Q : VK) (E : XK), Clr A →
      Room k (A.deeper (envOfC qual (defScope st) s.heap.objs.size f cdv)) → sp vs H Q E →
      ∃ t, PSs (cxOf CX0 P w K mg base N qual (defScope st) f cdv A fr s H E).nox (defBody st) t ∧ t { nx := fun _ H' => Q .non H', rt := Q } (start N vs) H) :
    FnG P w K mg base (k + 1) f fd ps sp := by
  obtain ⟨oc, od, kV, doc, pm, an, cdv, ct, osl, rfl, lk, hcd⟩ := F.ex
  refine ⟨num, ?_⟩
  intro A fr s H ar us vs Q E hA hr e0 hbd r hsp
  have kept : ∀ b o, base.get? b = some o → s.heap.get? b = some o := fun b o z => (e0.bs b o z).1
  have hK := e0.mod.kin.keeps kept
  refine codeAny_call_function hr.depth (hK _ _ lk) rfl S.co S.gen rfl (PySem.W.codeRec_of hK hcd) (hbd _ _ _ _ ?_)
  refine wpAny_newFunctionEnv_cells S.kind ?_ ?_
  · rintro ⟨n, v⟩ hy
    exact (S.par n (List.of_mem_zip hy).1).imp (fun z => z) fun z => ⟨z, PySem.W.cellsFrom_some _ _ _ (.inl z)⟩
  intro env he s1 ic
  subst he
  refine ⟨(e0.mod.nolimit.keeps kept).keeps ic.toInCall.keep, codeAny_func ?_⟩
  obtain ⟨t, ht, hq⟩ := hb cdv A fr s H vs Q E hA (hr.deeper _) hsp
  have J : Inv (cxOf CX0 P w K mg base N qual (defScope st) f cdv A fr s H E) [] (start N vs) H s1 := inv_start S hr.hd e0 (num _ _ _ _ hsp) r ic
  apply wpAny_mono (ht.nox.run [] s1 (start N vs) H _ J hq) _ fun _ _ z => z
  intro fl s' z
  match fl, z with
  | .ret u, ⟨v, σ', H', J', rv, q⟩ => exact ⟨v, H', J'.os, J'.bare, J'.base, J'.hok, rv, q⟩
  | .next, ⟨σ', H', J', q⟩ => exact ⟨.non, H', J'.os, J'.bare, J'.base, J'.hok, rfl, q⟩
  | .brk, ⟨_, _, _, q⟩ => exact q.elim
  | .cont, ⟨_, _, _, q⟩ => exact q.elim
end
/-- the script alone is tracked, locked, unless the module itself holds it -/
def scriptH (K : PySem.W.Frag) (a : Addr) (vs : List Value) (ns : List Int) : Hp := fun b =>
  if b = a ∧ K.lookup a = none then some (.frz { cls := .type "list", data := .seq vs.toArray } (.lst (ns.map V.int))) else none
theorem scriptH_some {K : PySem.W.Frag} {a b : Addr} {vs : List Value} {ns : List Int} {o : HO} (h : scriptH K a vs ns b = some o) :
    b = a ∧ K.lookup a = none ∧ o = .frz { cls := .type "list", data := .seq vs.toArray } (.lst (ns.map V.int)) := by
  unfold scriptH at h
  by_cases c : b = a ∧ K.lookup a = none
  · rw [if_pos c] at h
    exact ⟨c.1, c.2, (Option.some.inj h).symm⟩
  · rw [if_neg c] at h
    cases h
theorem lawG {P : Program} {w : World} {K : PySem.W.Frag} {mg mb : Str → Option Value} {k : Nat} {fa a : Addr} {fd : FuncData} {x : Str} {sp : Sp} {s₁ : Shared} {vs : List Value} {ns : List Int}
    (KX : K.In s₁.heap) (g1 : s₁.heap.Ns mainGlobals mg) (g2 : s₁.heap.Ns builtinsNs mb) (g3 : ∀ x : Str, x ≠ "__name__" → mb x = bootBuiltins x) (g4 : s₁.heap.NoLimit) (g5 : s₁.gens = #[])
    (ha : s₁.heap.get? a = some { cls := .type "list", data := .seq vs.toArray }) (hi : IntsAre vs ns) (hl : ns.length ≤ sizeLine) (hr : Room k callerA)
    (F : ∀ base : Heap, K.In base → base.Ns mainGlobals mg → FnG P w K mg base k fa fd [x] sp) (hbd : ∀ (s : Shared) (u : Value), BindsTo s fd ⟨[u], []⟩ [(x, u)])
    (hsp : ∀ H : Hp, SqL K H a (ns.map V.int) → sp [.ref a] H (fun v _ => v = .bl true) E0) :
    codeAny (model P w) callerA (.call (.ref fa) ⟨[.ref a], []⟩) (fun r s' => r = .ok (.ret (.bool true)) ∧ OldK s₁.heap s'.heap ∧ s'.os = s₁.os ∧ AllBare s'.gens) s₁ := by
  have rv : Vals (ns.map V.int) vs := vals_ints hi
  have n1 : vs.length = ns.length := hi.length
  let H := scriptH K a vs ns
  have hok : HOk P w H s₁.heap := by
    intro b o z
    obtain ⟨rfl, _, rfl⟩ := scriptH_some z
    exact ⟨ha, by rw [List.length_map]; exact hl, vs, _, rv, ha⟩
  have hS : SqL K H a (ns.map V.int) := by
    cases c : K.lookup a with
    | none => exact .inl (.inr ⟨_, if_pos ⟨rfl, c⟩⟩)
    | some o =>
      have z := KX a o c
      rw [ha] at z
      cases z
      exact .inr ⟨_, vs.toArray, _, c, rfl, rfl, rfl, by rw [List.size_toArray, n1]; exact hl, by simpa using rv⟩
  have away : ∀ {b : Addr} {o : Obj}, s₁.heap.get? b = some o → (∀ q n, o.data ≠ .seq q n) ∨ K.lookup b ≠ none → H b = none := by
    intro b o z hb
    cases q : H b with
    | none => rfl
    | some u =>
      obtain ⟨rfl, c, rfl⟩ := scriptH_some q
      rw [ha] at z
      cases z
      rcases hb with hb | hb
      · exact absurd rfl (hb _ _)
      · exact absurd c hb
  have nsK : ∀ {b : Addr} {m : Str → Option Value}, s₁.heap.Ns b m → (hidT s₁.heap H).Ns b m := by
    rintro b m ⟨o, es, ep, z, d, r⟩
    exact ⟨o, es, ep, hidT_get z (away z (.inl fun q n y => by rw [d] at y; cases y)), d, r⟩
  have hKb : K.In (hidT s₁.heap H) := fun b o z => hidT_get (KX b o z) (away (KX b o z) (.inr (by rw [z]; exact Option.some_ne_none _)))
  obtain ⟨mc, g6, g7⟩ := g4
  have e0 : Env0 P w K mg (hidT s₁.heap H) callerA [] s₁ H := {
    frames := rfl
    mod := ⟨hKb, nsK g1, ⟨mb, nsK g2, g3⟩, ⟨mc, nsK g6, g7⟩⟩
    bs := fun b o z => of_hidT z
    bsz := Nat.le_of_eq (hidT_size _ _)
    funs := trivial
    frf := fun b z => absurd (show b ∈ ([] : List Addr) from z) List.not_mem_nil
    hok := hok
    bare := .of_eq g5 }
  apply codeAny_mono ((F _ hKb (nsK g1)).go callerA [] s₁ H ⟨[.ref a], []⟩ [.ref a] [.ref a] _ _ rfl hr e0 (hbd s₁ (.ref a)) (.cons rfl .nil) (hsp H hS))
  intro r s' z
  match r, z with
  | .error _, z => exact z.elim
  | .ok .next, z => exact z.elim
  | .ok .brk, z => exact z.elim
  | .ok .cont, z => exact z.elim
  | .ok (.ret u), ⟨v, H', os, bare, un, hok', r', q⟩ =>
    obtain rfl : v = .bl true := q
    obtain rfl : u = Value.bool true := r'
    refine ⟨rfl, OldK.of_keep ?_, os, bare⟩
    intro b o z
    cases c : H b with
    | none => exact un.keep b o z c (fun y => absurd (show b ∈ ([] : List Addr) from y) List.not_mem_nil) List.not_mem_nil
    | some o' =>
      obtain ⟨_, _, rfl⟩ := scriptH_some c
      have c1 := (hok b _ c).1
      have c2 := (hok' b _ (un.frzs b _ _ c)).1
      rw [z] at c1
      cases c1
      exact c2
/-- the goal behind k_head -/
theorem walkG {l : PySem.W.OpenLaw} {n k : Nat} {q : Program} {loose : List Str} {XP : (Str → Option Value) → Heap → Prop} {YP : World → Heap → Prop} {d : DefRec} {K : Params → PySem.W.Frag} {sp : World → Sp} {x : Str}
    (hn : l.most = some n) (hn2 : n ≤ sizeLine) (hdf : d.params.defaults = []) (hr : Room k callerA) (hY : ∀ (w : World) (h : Heap), YP w h → (K w.params).In h)
    (F : ∀ (w : World) (mg : Str → Option Value) (fa : Addr) (h : Heap), (K w.params).In h → h.Ns mainGlobals mg → mg d.name = some (.ref fa) →
      ∃ fd : FuncData, (∀ (s : Shared) (u : Value), BindsTo s fd ⟨[u], []⟩ [(x, u)]) ∧ ∀ base : Heap, (K w.params).In base → base.Ns mainGlobals mg → FnG l.prog w (K w.params) mg base k fa fd [x] (sp w))
    (hsp : ∀ (w : World) (H : Hp) (a : Addr) (ns : List Int), ns.length ≤ n → SqL (K w.params) H a (ns.map V.int) → sp w [.ref a] H (fun v _ => v = .bl true) E0) :
    PySem.W.WalkO q loose XP YP l.row.toRowW d [] (fun f vs => PySem.call f vs) := by
  apply Att.attach_call hn hdf
  intro w s₀ s₁ mg mb fa o pm cd doc a vs ns G Y ho hd hcd hmg hobj hints hlen hg
  obtain ⟨fd, hb, hF⟩ := F w mg fa _ (hY w _ Y) G.T.g hmg
  exact lawG (hY w _ Y) G.T.g G.T.b G.T.builtins G.T.nolimit hg hobj hints (Nat.le_trans hlen hn2) hr hF hb fun H hS => hsp w H a ns hlen hS
end GS
namespace GS
open PySem PySem.Spec PyProof.Rows L2 RZ
/-! what the built-in names stand for -/
theorem bt_len : bootBuiltins "len" = some (.builtin "len") := by decide +kernel
theorem bt_abs : bootBuiltins "abs" = some (.builtin "abs") := by decide +kernel
theorem bt_max : bootBuiltins "max" = some (.builtin "max") := by decide +kernel
theorem bt_min : bootBuiltins "min" = some (.builtin "min") := by decide +kernel
theorem bt_sum : bootBuiltins "sum" = some (.builtin "sum") := by decide +kernel
theorem bt_all : bootBuiltins "all" = some (.builtin "all") := by decide +kernel
theorem bt_any : bootBuiltins "any" = some (.builtin "any") := by decide +kernel
theorem bt_repr : bootBuiltins "repr" = some (.builtin "repr") := by decide +kernel
theorem bt_isinstance : bootBuiltins "isinstance" = some (.builtin "isinstance") := by decide +kernel
theorem bt_int : bootBuiltins "int" = some (.type "int") := by decide +kernel
theorem bt_bool : bootBuiltins "bool" = some (.type "bool") := by decide +kernel
theorem bt_tuple : bootBuiltins "tuple" = some (.type "tuple") := by decide +kernel
theorem bt_list : bootBuiltins "list" = some (.type "list") := by decide +kernel
theorem bt_str : bootBuiltins "str" = some (.type "str") := by decide +kernel
theorem bt_dict : bootBuiltins "dict" = some (.type "dict") := by decide +kernel
/-! heaps: all but p is kept -/
def Kp (p : Addr) (H H' : Hp) : Prop := ∀ b o, b ≠ p → H b = some o → H' b = some o
theorem Kp.refl (p : Addr) (H : Hp) : Kp p H H := fun _ _ _ h => h
theorem Kp.trans {p : Addr} {H H1 H2 : Hp} (a : Kp p H H1) (b : Kp p H1 H2) : Kp p H H2 := fun c o n h => b c o n (a c o n h)
theorem Kp.of {p : Addr} {H H' : Hp} (s : Same H H') : Kp p H H' := fun b o _ h => s b o h
theorem kp_upd {p : Addr} {H : Hp} {o : HO} : Kp p H (upd H p o) := fun b u n h => by rw [upd_ne n]; exact h
theorem kp_new {p q : Addr} {H : Hp} {o : HO} (h : H q = none) : Kp p H (upd H q o) := fun b u n e => by rw [upd_ne (ne_of_none e h)]; exact e
theorem same_new {q : Addr} {H : Hp} {o : HO} (h : H q = none) : Same H (upd H q o) := fun b u e => by rw [upd_ne (ne_of_none e h)]; exact e
theorem sameT {K : PySem.W.Frag} {H H' : Hp} {a : Addr} {xs : List V} (e : Same H H') (h : SqT K H a xs) : SqT K H' a xs := by
  rcases h with (h | ⟨o, h⟩) | h
  · exact .inl (.inl (e _ _ h))
  · exact .inl (.inr ⟨o, e _ _ h⟩)
  · exact .inr h
/-! zip of two tuples -/
theorem walk_zipT {K : PySem.W.Frag} {a b : Addr} {xs ys : List V} : Walk (ItzT K a b) (min xs.length ys.length) (fun H => SqT K H a xs ∧ SqT K H b ys) (YPair (fun i => xs[i]?) (fun i => ys[i]?)) := by
  constructor
  · intro i H hi q
    exact ⟨xs, ys, xs[i]'(by omega), ys[i]'(by omega), q.1, q.2, by simp [show i < xs.length by omega], by simp [show i < ys.length by omega]⟩
  · intro H q
    exact ⟨xs, ys, q.1, q.2, by omega⟩
  · rintro i H v H' hi q ⟨T, x, y, h1, h2, h3, h4, h5⟩
    exact ⟨T, x, y, h1, h2, h3, h4 xs q.1, h5 ys q.2⟩
/-! a list that a comprehension makes: its turns so far -/
def Grow (H0 : Hp) (D : Addr) (acc : Nat → List V) (i : Nat) (H : Hp) : Prop := Same H0 H ∧ H D = some (.lst (acc i))
theorem Grow.start {H0 : Hp} {D : Addr} {acc : Nat → List V} (nD : H0 D = none) (h : acc 0 = []) : Grow H0 D acc 0 (upd H0 D (.lst [])) :=
  ⟨same_new nD, by rw [upd_same, h]⟩
theorem Grow.put {H0 H H4 : Hp} {D : Addr} {acc : Nat → List V} {i : Nat} {y : V} (g : Grow H0 D acc i H) (nD : H0 D = none) (s : Same H H4) (h : acc (i + 1) = acc i ++ [y]) :
    Grow H0 D acc (i + 1) (upd H4 D (.lst (acc i ++ [y]))) := by
  refine ⟨fun b o e => ?_, by rw [upd_same, h]⟩
  rw [upd_ne (ne_of_none e nD)]
  exact s _ _ (g.1 _ _ e)
theorem Grow.skip {H0 H H4 : Hp} {D : Addr} {acc : Nat → List V} {i : Nat} (g : Grow H0 D acc i H) (s : Same H H4) (h : acc (i + 1) = acc i) : Grow H0 D acc (i + 1) H4 :=
  ⟨g.1.trans s, by rw [h]; exact s _ _ g.2⟩
/-! data that is shown: of at most n signs, at most k deep -/
structure Sm (n k : Nat) (d : PyData) : Prop where
  a : d.showable = true
  b : d.hasDict = false
  c : d.depth ≤ k
  d : d.shown.length ≤ n
theorem Sm.int {i : Int} (h : i.natAbs < 10 ^ 12) : Sm 13 0 (.int i) := by
  refine ⟨?_, rfl, Nat.le_refl _, PyData.shown_int_le h⟩
  show decide (i.natAbs.log2 < 1920) = true
  exact decide_eq_true (log2_small (Nat.lt_of_lt_of_le h (Nat.le_trans (show 10 ^ 12 ≤ 2 ^ 40 by decide) (Nat.pow_le_pow_right (by decide) (by decide)))))
theorem Sm.more {n n' k k' : Nat} {d : PyData} (h : Sm n k d) (h1 : n ≤ n') (h2 : k ≤ k') : Sm n' k' d := ⟨h.a, h.b, Nat.le_trans h.c h2, Nat.le_trans h.d h1⟩
theorem sm_all {n k : Nat} : ∀ {ds : List PyData}, (∀ d ∈ ds, Sm n k d) → PyData.showableAll ds = true ∧ PyData.hasDictAll ds = false ∧ PyData.depthAll ds ≤ k ∧ ((PyData.shownAll ds).map (·.length)).sum ≤ n * ds.length ∧ (PyData.shownAll ds).length = ds.length
  | [], _ => ⟨rfl, rfl, Nat.zero_le _, Nat.zero_le _, rfl⟩
  | d :: ds, h => by
    obtain ⟨h1, h2, h3, h4, h5⟩ := sm_all (ds := ds) fun e m => h e (List.mem_cons_of_mem _ m)
    have q := h d List.mem_cons_self
    refine ⟨by simp only [PyData.showableAll, q.a, h1, Bool.and_self], by simp only [PyData.hasDictAll, q.b, h2, Bool.or_self], ?_, ?_, by simp only [PyData.shownAll, List.length_cons, h5]⟩
    · simp only [PyData.depthAll]
      have := q.c
      omega
    · simp only [PyData.shownAll, List.map_cons, List.sum_cons, List.length_cons]
      have e := q.d
      rw [Nat.mul_add]
      omega
theorem Sm.tuple {n k : Nat} {ds : List PyData} (h : ∀ d ∈ ds, Sm n k d) : Sm (n * ds.length + 2 * ds.length + 3) (k + 1) (.tuple ds) := by
  obtain ⟨h1, h2, h3, h4, h5⟩ := sm_all h
  refine ⟨by simpa only [PyData.showable] using h1, by simpa only [PyData.hasDict] using h2, by simp only [PyData.depth]; omega, ?_⟩
  simp only [PyData.shown]
  have := tupleText_len_le (PyData.shownAll ds)
  rw [h5] at this
  omega
theorem Sm.list {n k : Nat} {ds : List PyData} (h : ∀ d ∈ ds, Sm n k d) : Sm (n * ds.length + 2 * ds.length + 3) (k + 1) (.list ds) := by
  obtain ⟨h1, h2, h3, h4, h5⟩ := sm_all h
  refine ⟨by simpa only [PyData.showable] using h1, by simpa only [PyData.hasDict] using h2, by simp only [PyData.depth]; omega, ?_⟩
  simp only [PyData.shown]
  have := listText_len_le (PyData.shownAll ds)
  rw [h5] at this
  omega
theorem sm_ints {B : Nat} {xs : List Int} (h : ∀ x ∈ xs, x.natAbs ≤ B) (hB : B < 10 ^ 12) : ∀ d ∈ xs.map PyData.int, Sm 13 0 d := by
  intro d m
  obtain ⟨x, hx, rfl⟩ := List.mem_map.mp m
  exact Sm.int (Nat.lt_of_le_of_lt (h x hx) hB)
theorem dpAll_ints {K : PySem.W.Frag} {H : Hp} : ∀ xs : List Int, DpAll K H (xs.map V.int) (xs.map PyData.int)
  | [] => .nil
  | x :: xs => .cons (.int x) (dpAll_ints xs)
theorem dp_tup {K : PySem.W.Frag} {H : Hp} {a : Addr} {xs : List Int} (h : SqT K H a (xs.map V.int)) : Dp K H (.ref a) (.tuple (xs.map PyData.int)) := .tup h (dpAll_ints xs)
theorem dp_lst {K : PySem.W.Frag} {H : Hp} {a : Addr} {xs : List Int} (h : SqL K H a (xs.map V.int)) : Dp K H (.ref a) (.list (xs.map PyData.int)) := .lst h (dpAll_ints xs)
theorem canLay_ints : ∀ xs : List Int, PyData.canLayAll0 (xs.map PyData.int) = true ∧ PyData.depthAll (xs.map PyData.int) = 0
  | [] => ⟨rfl, rfl⟩
  | x :: xs => by
    obtain ⟨h1, h2⟩ := canLay_ints xs
    constructor
    · simp only [List.map_cons, PyData.canLayAll0, PyData.canLay0, h1, Bool.and_self]
    · simp only [List.map_cons, PyData.depthAll, PyData.depth, h2, Nat.max_self]
theorem shaped_lst (xs : List Int) : SeqAt.shaped (.list (xs.map PyData.int)) = true := by
  obtain ⟨h1, h2⟩ := canLay_ints xs
  unfold SeqAt.shaped
  rw [Bool.and_eq_true, decide_eq_true_eq]
  exact ⟨by simp only [PyData.canLay0, h1], by simp only [PyData.depth, h2]; omega⟩
theorem shaped_tup (xs : List Int) : SeqAt.shaped (.tuple (xs.map PyData.int)) = true := by
  obtain ⟨h1, h2⟩ := canLay_ints xs
  unfold SeqAt.shaped
  rw [Bool.and_eq_true, decide_eq_true_eq]
  exact ⟨by simp only [PyData.canLay0, h1], by simp only [PyData.depth, h2]; omega⟩
theorem eqvAll_ints : ∀ xs ys : List Int, PyData.eqvAll (xs.map PyData.int) (ys.map PyData.int) = decide (xs = ys)
  | [], [] => by simp [PyData.eqvAll]
  | [], _ :: _ => by simp [PyData.eqvAll]
  | _ :: _, [] => by simp [PyData.eqvAll]
  | x :: xs, y :: ys => by
    simp only [List.map_cons, PyData.eqvAll, PyData.eqv, eqvAll_ints xs ys, List.cons.injEq]
    by_cases h : x = y
    · subst h; simp
    · simp [h]
theorem small_line {n : Nat} (h : n ≤ 100000) : n ≤ sizeLine := by rw [sizeLine_eq]; omega
theorem small_lt {n : Nat} (h : n ≤ 100000) : n < sizeLine := by rw [sizeLine_eq]; omega
theorem at_get {xs : List V} {i : Int} {v : V} (h0 : 0 ≤ i) (h : xs[i.toNat]? = some v) : atI xs i = some v := by
  have e : i = ((i.toNat : Nat) : Int) := by omega
  rw [e]
  exact atI_nat h
theorem ix_in {n : Nat} {i : Int} (h0 : 0 ≤ i) (h1 : i < n) : ixN n i = some i.toNat := by
  unfold ixN
  rw [if_pos h0, if_pos h1]
end GS
namespace GS
open PySem PySem.Spec PyProof.Rows L2 RZ
/-! t * k: the same tuple for 1, an empty one for 0 -/
theorem tmul_same (l : Addr) (items : Array Value) (n : Nat) (dd : Option Addr) (sl : Array (Option Value)) (u : Tok) :
    Meets (Builtin.«tuple.__mul__» ⟨[.ref l, .int 1 u], []⟩) (fun _ R s => s.heap.get? l = some { cls := .type "tuple", dict := dd, data := .seq items n, slots := sl } ∧ R (.ok (.ret (Value.ref l))) s) :=
  .of_wp fun prog w A R s h => by
    obtain ⟨hp, g, d, tk, os⟩ := s
    obtain ⟨hl, h⟩ := h
    have f1 := AutoSeq1.idx_int
    wp_walk using wpAny_loadPart' hl
    repeat (first
      | (refine wpAny_ite_false (by decide) ?_; wp_walk using wpAny_loadPart' hl)
      | (refine wpAny_ite_true (decide_eq_true (Bool.or_true _)) ?_; wp_walk using wpAny_loadPart' hl)
      | (refine wpAny_ite_true (by decide) ?_; wp_walk using wpAny_loadPart' hl))
    exact ⟨_, rfl, h⟩
theorem tmul_none (l : Addr) (items : Array Value) (n : Nat) (dd : Option Addr) (sl : Array (Option Value)) (u : Tok) (c1 : items.isEmpty = false) :
    Meets (Builtin.«tuple.__mul__» ⟨[.ref l, .int 0 u], []⟩) (fun _ R s => s.heap.get? l = some { cls := .type "tuple", dict := dd, data := .seq items n, slots := sl } ∧
      R (.ok (.ret (Value.ref s.heap.objs.size))) { s with heap := s.heap.push { cls := Value.type "tuple", data := Data.seq #[] }, toks := s.toks }) :=
  .of_wp fun prog w A R s h => by
    obtain ⟨hp, g, d, tk, os⟩ := s
    obtain ⟨hl, h⟩ := h
    have f1 := AutoSeq1.idx_int
    wp_walk using wpAny_loadPart' hl
    repeat (first
      | (refine wpAny_ite_false (by decide) ?_; wp_walk using wpAny_loadPart' hl)
      | (refine wpAny_ite_false (decide_eq_false (by rw [c1]; decide)) ?_; wp_walk using wpAny_loadPart' hl)
      | (refine wpAny_ite_true (by decide) ?_; wp_walk using wpAny_loadPart' hl))
    exact ⟨_, rfl, h⟩
def rRepA (K : PySem.W.Frag) : R2 := fun x y H Q => ∃ l k xs, x = .ref l ∧ y = .int k ∧ H l = some (.tup xs) ∧ xs ≠ [] ∧ 0 ≤ k ∧ k ≤ 1000 ∧ xs.length ≤ 1000 ∧
  ∀ H' c, Same H H' → H' c = some (.tup (List.replicate k.toNat xs).flatten) → Q (.ref c) H'
section
variable {X : Cx}
theorem op_repA : OpR X (binaryOp .Mult) (rRepA X.K) := by
  intro pn s σ H x y v u Q J rx ry h
  obtain ⟨l, k, xs, rfl, rfl, hl, hne, h0, h2, hz, q⟩ := h
  have hT : SqT X.K H l xs := SqT.of hl
  by_cases hk : 2 ≤ k
  · exact op_repT pn s σ H _ _ v u Q J rx ry ⟨l, k, xs, rfl, rfl, hT, hne, hk, h2, hz, fun p np => q _ p (same_new np) upd_same⟩
  cases rx
  obtain ⟨t, rfl⟩ := ry
  obtain ⟨its, r, ⟨⟨cls, dd, data, sl⟩, ho, hc, n, hd⟩, hs⟩ := J.tuple hT
  simp only at hc hd
  subst hc hd
  have hi : its.toArray.isEmpty = false := by
    cases its with
    | nil => exact absurd (List.eq_nil_of_length_eq_zero r.length) hne
    | cons a b => rfl
  rcases (show k = 0 ∨ k = 1 by omega) with rfl | rfl
  · refine wpAny_binaryOp_repeat_ref (T := "tuple") (U := "int") (by decide) ⟨_, ho, rfl⟩ (fun s' => typeIs_int s' 0 t) noFill_tuple_mul F.fills_int_mul F.slot_int_rmul repeat_tuple F.slot_int_index.lookup
      (call_meets F.slot_int_rmul (typeIs_int s 0 t) F.entry_int_rmul (F.args_int_rmul_2 _ _) (int_rmul_tuple 0 t l its.toArray n dd sl)
        ⟨ho, rfl, ⟨_, ho, rfl⟩, call_meets F.slot_tuple_mul ⟨_, ho, rfl⟩ F.entry_tuple_mul (F.args_tuple_mul_2 _ _) (tmul_none l its.toArray n dd sl t hi) ⟨ho, ?_⟩⟩)
    refine ⟨.ref s.heap.objs.size, _, J.laid (t' := s.toks) (o := .tup []) (fun b ob z => Heap.get?_push_of_some _ z) (Nat.le_refl _) ?_, rfl, q _ _ (same_new (J.hok.fresh (Nat.le_refl _))) upd_same⟩
    exact ⟨Nat.zero_le _, [], .nil, IsTup.new _ _⟩
  · refine wpAny_binaryOp_repeat_ref (T := "tuple") (U := "int") (by decide) ⟨_, ho, rfl⟩ (fun s' => typeIs_int s' 1 t) noFill_tuple_mul F.fills_int_mul F.slot_int_rmul repeat_tuple F.slot_int_index.lookup
      (call_meets F.slot_int_rmul (typeIs_int s 1 t) F.entry_int_rmul (F.args_int_rmul_2 _ _) (int_rmul_tuple 1 t l its.toArray n dd sl)
        ⟨ho, rfl, ⟨_, ho, rfl⟩, call_meets F.slot_tuple_mul ⟨_, ho, rfl⟩ F.entry_tuple_mul (F.args_tuple_mul_2 _ _) (tmul_same l its.toArray n dd sl t) ⟨ho, ?_⟩⟩)
    refine ⟨.ref l, H, J, rfl, q H l (Same.refl _) ?_⟩
    have e : (List.replicate (1 : Int).toNat xs).flatten = xs := by simp
    rw [e]
    exact hl
/-- sum of a tuple of ints -/
theorem cr_sumT (hc : X.calm = true) : CallR X (.builtin "sum") (fun vs H Q => ∃ (a : Addr) (ns : List Int), vs = [V.ref a] ∧ SqT X.K H a (ns.map V.int) ∧ Q (.int ns.sum) H) := by
  intro pn s σ H vs us Q J r h
  obtain ⟨a, ns, rfl, hs, q⟩ := h
  obtain ⟨its, rv, p, _⟩ := J.tuple hs
  rw [Vals.ref1 r]
  have hn : its.length = ns.length := by rw [← rv.length, List.length_map]
  have hT : s.heap.IsTuple a its.toArray := p
  refine call_sum_walkG (wpAny_pyIter_tuple hT ?_)
  have hlt : a < s.heap.objs.size := by obtain ⟨o, ho, _⟩ := hT; exact Heap.lt_size ho
  refine ⟨s.heap.objs.size, _, _, _, _, _, fun i => ns.getD i 0, rfl, Walks.tuple (A := X.A.in1) (J.ok.hd hc) _ a (Nat.ne_of_lt hlt) its.toArray, ⟨⟨_, Heap.get?_push_size _ rfl, rfl, rfl⟩, ?_⟩, ?_, ?_, ?_⟩
  · obtain ⟨o, ho, z⟩ := hT
    exact ⟨o, Heap.get?_push_of_some _ ho, z⟩
  · intro b hb
    have e : b = s.heap.objs.size ∨ b = a := by simpa using hb
    have : (s.heap.push { cls := .type "tuple_iterator", data := .fields #[.ref a, .int 0 0] }).objs.size = s.heap.objs.size + 1 := Heap.size_push ..
    show b < (s.heap.push { cls := .type "tuple_iterator", data := .fields #[.ref a, .int 0 0] }).objs.size
    rw [this]
    rcases e with e | e
    · rw [e]
      exact Nat.lt_succ_self _
    · rw [e]
      exact Nat.lt_succ_of_lt hlt
  · intro i v hv
    have hv' : its[i]? = some v := by simpa using hv
    have hi : i < ns.length := by
      have := (List.getElem?_eq_some_iff.mp hv').1
      omega
    obtain ⟨u, hu, ru⟩ := rv.get (i := i) (x := .int ns[i]) (by rw [List.getElem?_map, List.getElem?_eq_getElem hi]; rfl)
    rw [hv'] at hu
    cases hu
    obtain ⟨t, rfl⟩ := ru
    refine ⟨t, ?_⟩
    show Value.int ns[i] t = Value.int (ns.getD i 0) t
    rw [List.getD_eq_getElem?_getD, List.getElem?_eq_getElem hi]
    rfl
  · intro h' tk t' hk
    have e : preSum (fun i => ns.getD i 0) its.toArray.size = ns.sum := by
      rw [preSum_getD, List.size_toArray, hn, List.take_of_length_le (Nat.le_refl _)]
    rw [e]
    refine ⟨.int _, H, J.kept fun b o z => hk b o ?_ (Heap.get?_push_of_some _ z), ⟨_, rfl⟩, q⟩
    intro y
    have : b = s.heap.objs.size := by simpa using y
    exact absurd (Heap.lt_size z) (by rw [this]; exact Nat.lt_irrefl _)
end
theorem cut_take {xs : List V} {i : Int} (h : 0 ≤ i) : cutV xs none (some i) = xs.take i.toNat := by
  obtain ⟨k, rfl⟩ : ∃ k : Nat, i = k := ⟨i.toNat, by omega⟩
  unfold cutV
  rw [HT.sIx_none, HT.sIx_nat, Int.toNat_natCast, List.drop_zero, Nat.sub_zero]
  rcases Nat.le_total k xs.length with z | z
  · rw [Nat.min_eq_left z]
  · rw [Nat.min_eq_right z, List.take_of_length_le (Nat.le_refl _), List.take_of_length_le z]
theorem cut_drop {xs : List V} {i : Int} (h : 0 ≤ i) : cutV xs (some i) none = xs.drop i.toNat := by
  obtain ⟨k, rfl⟩ : ∃ k : Nat, i = k := ⟨i.toNat, by omega⟩
  unfold cutV
  rw [HT.sIx_none, HT.sIx_nat, Int.toNat_natCast]
  rcases Nat.le_total k xs.length with z | z
  · rw [Nat.min_eq_left z]
    exact List.take_of_length_le (by rw [List.length_drop]; exact Nat.le_refl _)
  · rw [Nat.min_eq_right z, List.drop_of_length_le (Nat.le_refl _), List.drop_of_length_le z]
    simp
theorem rd_slA {K : PySem.W.Frag} {H : Hp} {a : Addr} {xs : List V} {lo hi : Option Int} {Q : VK} (ha : H a = some (.tup xs)) (h : ∀ H' c, Same H H' → H' c = some (.tup (cutV xs lo hi)) → Q (.ref c) H') :
    rSlA K (.ref a) lo hi H Q := by
  refine ⟨a, xs, rfl, SqT.of ha, fun z => h H a (Same.refl _) ?_, fun _ p np => h _ p (same_new np) upd_same⟩
  rw [ha]
  unfold cutV
  rw [z.1, z.2, List.drop_zero, Nat.sub_zero, List.take_of_length_le (Nat.le_refl _)]
theorem rd_catA {K : PySem.W.Frag} {H : Hp} {a b : Addr} {xs ys : List V} {Q : VK} (ha : H a = some (.tup xs)) (hb : H b = some (.tup ys)) (hl : xs.length + ys.length ≤ sizeLine) (h : ∀ H' c, Same H H' → H' c = some (.tup (xs ++ ys)) → Q (.ref c) H') :
    rCatA K (.ref a) (.ref b) H Q :=
  ⟨a, b, xs, ys, rfl, rfl, SqT.of ha, SqT.of hb, hl, fun z => h H b (Same.refl _) (by rw [hb, z]; rfl), fun _ z => h H a (Same.refl _) (by rw [ha, z, List.append_nil]), fun _ _ p np => h _ p (same_new np) upd_same⟩
/-! by named readings, for comprehensions' blocks -/
def rLenS (K : PySem.W.Frag) : List V → Hp → VK → Prop := fun xs H Q => ∃ p ys, xs = [.ref p] ∧ (SqL K H p ys ∨ SqT K H p ys) ∧ Q (.int ys.length) H
theorem len_seq {X : Cx} : CallR X (.builtin "len") (rLenS X.K) := call_len_seq
def rTupO (K : PySem.W.Frag) : List V → Hp → VK → Prop := fun xs H Q => ∃ p ys, xs = [.ref p] ∧ ((SqL K H p ys ∧ ∀ l, H l = none → Q (.ref l) (upd H l (.tup ys))) ∨ (SqT K H p ys ∧ Q (.ref p) H))
theorem tup_of {X : Cx} : CallR X (.type "tuple") (rTupO X.K) := call_tuple_of
def rLstO (K : PySem.W.Frag) : List V → Hp → VK → Prop := fun xs H Q => ∃ p ys, xs = [.ref p] ∧ (SqL K H p ys ∨ SqT K H p ys) ∧ ∀ l, H l = none → Q (.ref l) (upd H l (.lst ys))
theorem lst_of {X : Cx} : CallR X (.type "list") (rLstO X.K) := call_list_of
/-- what is new may change -/
theorem kp_same {p : Addr} {H H1 H2 : Hp} (np : H p = none) (s : Same H H1) (k : Kp p H1 H2) : Same H H2 := fun b o e => k b o (ne_of_none e np) (s b o e)
/-- a constant of the module -/
theorem pe_cst {X : Cx} {x : Str} {i : Int} {pos : Pos} (hg : Gl X x) (h : ∃ t, X.mg x = some (.int i t)) (hd : (x == ("__debug__" : Str)) = false := by decide) : PE X (.Name x pos) (tC (.int i)) := by
  obtain ⟨t, e⟩ := h
  exact pe_glob (v := .int i) hg e ⟨t, rfl⟩ hd
end GS
namespace GS
open PySem PySem.Spec PyProof.Rows L2 RZ HT
/-! ### xs[i] by values, xs[i] += n -/
def rGetL (K : PySem.W.Frag) : V → V → Hp → VK → Prop := fun o i H Q => ∃ (p : Addr) (xs : List V) (k : Nat) (v : V), o = .ref p ∧ i = .int (k : Int) ∧ SqL K H p xs ∧ xs[k]? = some v ∧ Q v H
theorem get_list {X : Cx} : PGet X (rGetL X.K) := by
  intro pins s σ H o i ov iv Q I ro ri h
  obtain ⟨p, xs, k, z, rfl, rfl, hq, he, q⟩ := h
  cases ro
  obtain ⟨t, rfl⟩ := ri
  obtain ⟨its, r, pl, hz⟩ := I.list hq
  obtain ⟨u, eu, ru⟩ := r.get he
  have hl := r.length
  have h63 := line63
  have hk := (List.getElem?_eq_some_iff.mp he).1
  exact wpAny_getItem_list pl.isList (by omega) (by omega) (by rw [Int.toNat_natCast]; simpa using eu) ⟨z, H, I, ru, q⟩
/-! ### (x, y)[::-1] -/
section
variable {prog : Program} {w : World} {A : Around} {E : Value → Shared → Prop} {s : Shared}
theorem applied_back {sl : Addr} {vl vu vs : Value} {Q : Int × Int × Nat → Shared → Prop} (hs : s.heap.IsSliceOf sl vl vu vs) (pl : IsPart vl none) (pu : IsPart vu none) (pv : IsPart vs (some (-1)))
    (h : Q (1, -1, 2) s) : wpAny (model prog w) A (Builtin.Slice.sliceApplied (.ref sl) (pure ((2 : Nat) : Int))) Q E s := by
  obtain ⟨os, g1, g2, g3⟩ := id hs
  unfold Builtin.Slice.sliceApplied Builtin.Slice.sliceFields
  refine wpAny_bind (wpAny_bind (wpAny_field g1 g3 (x := vl) rfl (wpAny_bind (wpAny_field g1 g3 (x := vu) rfl (wpAny_bind (wpAny_field g1 g3 (x := vs) rfl (wpAny_pure ?_)))))))
  refine wpAny_bind (slicePart_ pv ?_)
  show wpAny _ _ (if ((-1 : Int) == 0) = true then _ else _) _ _ s
  rw [if_neg (show ¬ ((-1 : Int) == 0) = true by decide)]
  refine wpAny_bind (slicePart_ pl (wpAny_bind (slicePart_ pu (wpAny_bind (wpAny_pure ?_)))))
  exact wpAny_pure h
theorem getItem_back {t sl : Addr} {x y : Value} {vl vu vs : Value} {Q : Value → Shared → Prop} (tt : IsTup s.heap t #[x, y]) (hs : s.heap.IsSliceOf sl vl vu vs) (pl : IsPart vl none) (pu : IsPart vu none) (pv : IsPart vs (some (-1)))
    (h : Q (.ref s.heap.objs.size) { s with heap := s.heap.push { cls := .type "tuple", data := .seq #[y, x] } }) : wpAny (model prog w) A (getItem (.ref t) (.ref sl)) Q E s := by
  have fits : sizeOk (.seq #[y, x]) := by
    show 2 ≤ sizeLine
    rw [sizeLine_eq]
    omega
  obtain ⟨os, g1, g2, g3⟩ := id hs
  have ts : s.TypeIs (.ref sl) "slice" := ⟨os, g1, g2⟩
  unfold getItem
  try with_reducible refine wpAny_holding ?_
  first | refine wpAny_bind (wpAny_pure ?_) | skip
  refine wpAny_bind (wpAny_sequenceKey tt.typeIs (by decide) ?_)
  refine wpAny_bind (wpAny_callSpecial?_slot (name := Str.ofString "__getitem__") tt.typeIs PyProof.Rows.slot_tuple_getitem (wpAny_call_entry PyProof.Rows.slot_tuple_getitem tt.typeIs entry_tuple_getitem ?_ (args_tuple_getitem _ _)))
  refine wpAny_bind (m := Builtin.Tuple.tupleItemsOf (.ref t)) (tupleItemsOf_ tt (wpAny_bind (wpAny_typeOf ts ?_)))
  rw [if_pos (by decide)]
  refine wpAny_bind (applied_back hs pl pu pv ?_)
  show wpAny _ _ (if ((1 : Int) == 0 && (-1 : Int) == 1 && (2 : Nat) == 2) = true then _ else _) _ _ s
  rw [if_neg (show ¬ (((1 : Int) == 0 && (-1 : Int) == 1 && (2 : Nat) == 2) = true) by decide)]
  show wpAny _ _ (Builtin.Tuple.tupleExact #[y, x] >>= _) _ _ s
  first
    | exact wpAny_bind (m := Builtin.Tuple.tupleExact _) (wpAny_newObj_type (wpAny_pure ⟨_, rfl, wpAny_pure h⟩) fits)
    | exact wpAny_bind (m := Builtin.Tuple.tupleExact _) (wpAny_newObj_type (wpAny_bind (wpAny_pure (wpAny_pure ⟨_, rfl, wpAny_pure h⟩))) fits)
    | exact wpAny_bind (m := Builtin.Tuple.tupleExact _) (wpAny_newObj_type (wpAny_pure (wpAny_pure ⟨_, rfl, wpAny_pure h⟩)) fits)
end
variable {X : Cx}
def tRevP (K : PySem.W.Frag) (te : TE) : TE := fun σ H Q => te σ H fun x H1 => ∃ a u v, x = .ref a ∧ SqT K H1 a [u, v] ∧ ∀ p, H1 p = none → Q (.ref p) (upd H1 p (.tup [v, u]))
theorem pe_revT {e : Expr} {te : TE} {k : Nat} {p1 p2 p3 pos : Pos} (he : PE X e te) : PE X (.Subscript e (.Slice none none (some (.UnaryOp .USub (.Constant (.int 1) k p1) p2)) p3) pos) (tRevP X.K te) := by
  refine ⟨fun pins s σ H Q I h => ?_⟩
  refine Subscript_ (thn (he.run pins s σ H _ I h) fun v s1 ⟨x, H1, I1, r1, q1⟩ => ?_)
  obtain ⟨a, u, v', rfl, hx, q⟩ := q1
  cases r1
  have hst : PO X (some (.UnaryOp .USub (.Constant (.int 1) k p1) p2)) (tPart (tUn (rU fun i => .int (-i)) (tC (.int 1)))) := po_some (pe_un un_neg pe_int)
  refine wpAny_Slice (thn (po_none.run pins s1 σ H1 (fun o H2 => o = none ∧ H2 = H1) I1 ⟨rfl, rfl⟩) fun vl s2 ⟨l, H2, I2, pl, el, e2⟩ => ?_)
  obtain rfl := el
  obtain rfl := e2
  refine thn (po_none.run pins s2 σ H2 (fun o H3 => o = none ∧ H3 = H2) I2 ⟨rfl, rfl⟩) fun vu s3 ⟨l3, H3, I3, pu, eu, e3⟩ => ?_
  obtain rfl := eu
  obtain rfl := e3
  refine thn (hst.run pins s3 σ H3 (fun o H4 => o = some (-1) ∧ H4 = H3) I3 ⟨1, rfl, -1, rfl, rfl, rfl⟩) fun vs s4 ⟨l4, H4, I4, pv, eo, e4⟩ => ?_
  obtain rfl := eo
  obtain rfl := e4
  have I5 : Inv X pins σ H4 { s4 with heap := s4.heap.push { cls := .type "slice", data := .fields #[vl, vu, vs] } } := I4.kept (t' := s4.toks) fun _ _ z => Heap.get?_push_of_some _ z
  obtain ⟨its, r, ht, _⟩ := I5.tuple hx
  obtain ⟨y1, its1, rfl, ry1, r1⟩ : ∃ y1 its1, its = y1 :: its1 ∧ RelV u y1 ∧ Vals [v'] its1 := by
    cases r with
    | cons g t => exact ⟨_, _, rfl, g, t⟩
  obtain ⟨y2, rfl, ry2⟩ := r1.one
  show wpAny (model X.prog X.w) X.A (subscriptTail e (.Slice none none (some (.UnaryOp .USub (.Constant (.int 1) k p1) p2)) p3) (.ref a) (.ref s4.heap.objs.size)) (EP X pins σ Q) X.xe _
  refine tail_any (ops := [.ref a, .ref s4.heap.objs.size]) ht.typeIs PyProof.Rows.slot_tuple_getitem.lookup ?_ (by with_unfolding_all rfl)
  refine getItem_back ht (Heap.IsSliceOf.new _ vl vu vs) pl pu pv ?_
  refine ⟨.ref _, _, I5.laid (t' := s4.toks) (o := .tup [v', u]) (fun _ _ z => Heap.get?_push_of_some _ z) (Nat.le_refl _) ?_, rfl, q _ (I5.hok.fresh (Nat.le_refl _))⟩
  exact ⟨small_line (by show 2 ≤ 100000; omega), [y2, y1], .cons ry2 (.cons ry1 .nil), _, Heap.get?_push_size _ rfl, rfl, _, rfl⟩
end GS
namespace K07
/-! ### the tables -/
def addTo : List Int → List Int → List Int
  | x :: xs, z :: zs => (z + x) :: addTo xs zs
  | [], zs => zs
  | _ :: _, [] => []
def jnT (xs ys : List Int) (w : Nat) : List Int := addTo xs (List.replicate w 0 ++ ys)
def tabR (f : Nat → List Int) : Nat → List Int
  | 0 => [1]
  | w + 1 => jnT (tabR f w) (f (w + 1)) (w + 1)
def tab : Nat → Nat → List Int
  | 0 => fun _ => [1]
  | h + 1 => tabR (tab h)
/-! the same, row by row -/
def stepR : List (List Int) → Nat → List Int → List (List Int)
  | [], _, _ => []
  | lo :: ls, w, acc => jnT acc lo w :: stepR ls (w + 1) (jnT acc lo w)
def rowN : List (List Int) → List (List Int)
  | [] => []
  | _ :: ls => [1] :: stepR ls 1 [1]
def rowAt : Nat → List (List Int)
  | 0 => List.replicate 21 [1]
  | h + 1 => rowN (rowAt h)
theorem stepR_get (f : Nat → List Int) : ∀ (n : Nat) (ls : List (List Int)) (w : Nat), (∀ i, i < n → ls[i]? = some (f (w + 1 + i))) → ∀ i, i < n → (stepR ls (w + 1) (tabR f w))[i]? = some (tabR f (w + 1 + i))
  | 0, _, _, _, i, hi => absurd hi (Nat.not_lt_zero _)
  | n + 1, [], w, h, i, hi => by have := h 0 (by omega); simp at this
  | n + 1, lo :: ls, w, h, i, hi => by
    have h0 := h 0 (by omega)
    simp only [List.getElem?_cons_zero, Option.some.injEq, Nat.add_zero] at h0
    have e : jnT (tabR f w) lo (w + 1) = tabR f (w + 1) := by rw [h0]; rfl
    rw [stepR, e]
    cases i with
    | zero => rfl
    | succ i =>
      rw [List.getElem?_cons_succ, show w + 1 + (i + 1) = (w + 1) + 1 + i by omega]
      refine stepR_get f n ls (w + 1) (fun j hj => ?_) i (by omega)
      have := h (j + 1) (by omega)
      rw [List.getElem?_cons_succ, show w + 1 + (j + 1) = (w + 1) + 1 + j by omega] at this
      exact this
theorem rowAt_get : ∀ (h w : Nat), w < 21 → (rowAt h)[w]? = some (tab h w)
  | 0, w, hw => by
    show (List.replicate 21 [1])[w]? = some [1]
    rw [List.getElem?_replicate, if_pos hw]
  | h + 1, w, hw => by
    show (rowN (rowAt h))[w]? = some (tabR (tab h) w)
    have ih := rowAt_get h
    cases e : rowAt h with
    | nil =>
      have := ih 0 (by omega)
      rw [e] at this
      cases this
    | cons z ls =>
      show ([1] :: stepR ls 1 [1])[w]? = _
      cases w with
      | zero => rfl
      | succ w =>
        rw [List.getElem?_cons_succ, show w + 1 = 0 + 1 + w by omega]
        refine stepR_get (tab h) 20 ls 0 (fun j hj => ?_) w (by omega)
        have := ih (j + 1) (by omega)
        rw [e, List.getElem?_cons_succ] at this
        rw [show 0 + 1 + j = j + 1 by omega]
        exact this
def grid : List (List (List Int)) := [rowAt 0, rowAt 1, rowAt 2, rowAt 3, rowAt 4, rowAt 5, rowAt 6, rowAt 7, rowAt 8, rowAt 9, rowAt 10, rowAt 11, rowAt 12, rowAt 13, rowAt 14, rowAt 15, rowAt 16, rowAt 17, rowAt 18, rowAt 19, rowAt 20]
def getT (g : List (List (List Int))) (h w : Nat) : List Int := (g.getD h []).getD w []
def okT (g : List (List (List Int))) (h w : Nat) : Bool :=
  (getT g h w).length == h * w + 1 && getT g h w == (getT g h w).reverse && getT g w h == getT g h w &&
  ((h == 0 || w == 0) || (getT g h w == List.zipWith (fun x y => x + y) (getT g (h - 1) w ++ List.replicate w 0) (List.replicate h 0 ++ getT g h (w - 1)) && (getT g h w).sum == (getT g (h - 1) w).sum + (getT g h (w - 1)).sum))
def okAll (n : Nat) : Bool := (List.range n).all fun h => (List.range n).all fun w => okT grid h w
theorem all_ok : okAll 21 = true := by decide +kernel
theorem grid_eq : grid = (List.range 21).map rowAt := rfl
theorem getT_eq {h w : Nat} (hh : h < 21) (hw : w < 21) : getT grid h w = tab h w := by
  unfold getT
  rw [grid_eq, List.getD_eq_getElem?_getD, List.getD_eq_getElem?_getD, List.getElem?_map, List.getElem?_range hh]
  show ((rowAt h)[w]?).getD [] = _
  rw [rowAt_get h w hw]
  rfl
theorem tab_ok {h w : Nat} (hh : h < 21) (hw : w < 21) : okT grid h w = true := by
  have a := List.all_eq_true.mp all_ok h (List.mem_range.mpr hh)
  exact List.all_eq_true.mp a w (List.mem_range.mpr hw)
structure Tab (h w : Nat) : Prop where
  len : (tab h w).length = h * w + 1
  rev : tab h w = (tab h w).reverse
  turn : tab w h = tab h w
  low : h ≠ 0 → w ≠ 0 → tab h w = List.zipWith (fun x y => x + y) (tab (h - 1) w ++ List.replicate w 0) (List.replicate h 0 ++ tab h (w - 1)) ∧ (tab h w).sum = (tab (h - 1) w).sum + (tab h (w - 1)).sum
theorem tab_is {h w : Nat} (hh : h < 21) (hw : w < 21) : Tab h w := by
  have o := tab_ok hh hw
  unfold okT at o
  rw [getT_eq hh hw, getT_eq hw hh, getT_eq (show h - 1 < 21 by omega) hw, getT_eq hh (show w - 1 < 21 by omega)] at o
  simp only [Bool.and_eq_true, Bool.or_eq_true, beq_iff_eq] at o
  obtain ⟨⟨⟨o1, o2⟩, o3⟩, o4⟩ := o
  refine ⟨o1, o2, o3, fun h0 w0 => ?_⟩
  rcases o4 with (z | z) | z
  · exact absurd z h0
  · exact absurd z w0
  · exact z
theorem tab_zero_l (w : Nat) : tab 0 w = [1] := rfl
theorem tab_zero_r : ∀ h : Nat, tab h 0 = [1]
  | 0 => rfl
  | _ + 1 => rfl
theorem tab_step (h w : Nat) : tab (h + 1) (w + 1) = jnT (tab (h + 1) w) (tab h (w + 1)) (w + 1) := rfl
/-! ### addTo -/
theorem addTo_get : ∀ (xs zs : List Int) (i : Nat), (addTo (xs.take i) zs)[i]? = zs[i]?
  | [], zs, i => by rw [List.take_nil]; cases zs <;> rfl
  | x :: xs, zs, 0 => by cases zs <;> rfl
  | x :: xs, [], i + 1 => rfl
  | x :: xs, z :: zs, i + 1 => by
    rw [List.take_succ_cons]
    show (_ :: addTo (xs.take i) zs)[i + 1]? = _
    rw [List.getElem?_cons_succ, List.getElem?_cons_succ]
    exact addTo_get xs zs i
theorem addTo_set : ∀ (xs zs : List Int) (i : Nat) (x z : Int), xs[i]? = some x → zs[i]? = some z → (addTo (xs.take i) zs).set i (z + x) = addTo (xs.take (i + 1)) zs
  | [], zs, i, x, z, h, _ => by simp at h
  | _ :: _, [], i, x, z, _, h => by simp at h
  | a :: xs, b :: zs, 0, x, z, h, k => by
    cases h
    cases k
    show (b + a) :: zs = (b + a) :: addTo (xs.take 0) zs
    cases zs <;> rfl
  | a :: xs, b :: zs, i + 1, x, z, h, k => by
    rw [List.take_succ_cons, List.take_succ_cons]
    show (b + a) :: (addTo (xs.take i) zs).set i (z + x) = (b + a) :: addTo (xs.take (i + 1)) zs
    rw [addTo_set xs zs i x z h k]
theorem addTo_len : ∀ (xs zs : List Int), xs.length ≤ zs.length → (addTo xs zs).length = zs.length
  | [], zs, _ => by cases zs <;> rfl
  | x :: xs, [], h => by simp at h
  | x :: xs, z :: zs, h => by
    show (addTo xs zs).length + 1 = zs.length + 1
    rw [addTo_len xs zs (by simpa using h)]
theorem rep_flat {α : Type} (x : α) : ∀ n : Nat, (List.replicate n [x]).flatten = List.replicate n x
  | 0 => rfl
  | n + 1 => by rw [List.replicate_succ, List.flatten_cons, rep_flat x n, List.replicate_succ]; rfl
end K07
namespace K09
open K07
/-! ### the tables, place by place -/
def look (ts : List Int) (n : Int) : Int := if n < 0 then 0 else (ts[n.toNat]?).getD 0
def cz (h : Nat) (w n : Int) : Int := look (tab h w.toNat) n
theorem tab_len : ∀ h w : Nat, (tab h w).length = h * w + 1
  | 0, w => by rw [tab_zero_l, Nat.zero_mul]; rfl
  | h + 1, 0 => by rw [tab_zero_r]; rfl
  | h + 1, w + 1 => by
    have i1 := tab_len (h + 1) w
    have i2 := tab_len h (w + 1)
    have e : (h + 1) * (w + 1) = h * (w + 1) + (w + 1) := by rw [Nat.add_mul, Nat.one_mul]
    have e2 : (h + 1) * w = h * w + w := by rw [Nat.add_mul, Nat.one_mul]
    have e3 : h * (w + 1) = h * w + h := by rw [Nat.mul_add, Nat.mul_one]
    rw [tab_step]
    unfold jnT
    rw [addTo_len, List.length_append, List.length_replicate]
    · omega
    · rw [List.length_append, List.length_replicate]
      omega
theorem addTo_at : ∀ (xs zs : List Int) (i : Nat), xs.length ≤ zs.length → ((addTo xs zs)[i]?).getD 0 = (zs[i]?).getD 0 + (xs[i]?).getD 0
  | [], zs, i, _ => by cases zs <;> simp [addTo]
  | x :: xs, [], i, h => by simp at h
  | x :: xs, z :: zs, 0, h => rfl
  | x :: xs, z :: zs, i + 1, h => by
    show ((_ :: addTo xs zs)[i + 1]?).getD 0 = _
    rw [List.getElem?_cons_succ, List.getElem?_cons_succ, List.getElem?_cons_succ]
    exact addTo_at xs zs i (by simpa using h)
theorem cz_neg {h : Nat} {w n : Int} (hn : n < 0) : cz h w n = 0 := by unfold cz look; rw [if_pos hn]
theorem cz_step {h : Nat} {w n : Int} (hw : 1 ≤ w) : cz (h + 1) w n = cz (h + 1) (w - 1) n + cz h w (n - w) := by
  by_cases hn : n < 0
  · rw [cz_neg hn, cz_neg hn, cz_neg (by omega)]
    rfl
  obtain ⟨w, rfl⟩ : ∃ k : Nat, w = ((k + 1 : Nat) : Int) := ⟨(w - 1).toNat, by omega⟩
  obtain ⟨n, rfl⟩ : ∃ k : Nat, n = (k : Int) := ⟨n.toNat, by omega⟩
  unfold cz look
  rw [if_neg hn, if_neg hn, Int.toNat_natCast, Int.toNat_natCast, show (((w + 1 : Nat) : Int) - 1).toNat = w by omega, tab_step]
  unfold jnT
  have l1 := tab_len (h + 1) w
  have l2 := tab_len h (w + 1)
  have e2 : (h + 1) * w = h * w + w := by rw [Nat.add_mul, Nat.one_mul]
  have e3 : h * (w + 1) = h * w + h := by rw [Nat.mul_add, Nat.mul_one]
  rw [addTo_at _ _ _ (by rw [List.length_append, List.length_replicate]; omega), Int.add_comm]
  congr 1
  by_cases z : (n : Int) - ((w + 1 : Nat) : Int) < 0
  · rw [if_pos z, List.getElem?_append_left (by rw [List.length_replicate]; omega), List.getElem?_replicate, if_pos (by omega)]
    rfl
  · rw [if_neg z, List.getElem?_append_right (by rw [List.length_replicate]; omega), List.length_replicate, show ((n : Int) - ((w + 1 : Nat) : Int)).toNat = n - (w + 1) by omega]
theorem cz_zero_w {h : Nat} {n : Int} (hn : 0 < n) : cz h 0 n = 0 := by
  unfold cz look
  rw [if_neg (by omega), show (0 : Int).toNat = 0 from rfl, tab_zero_r, List.getElem?_eq_none (by show 1 ≤ n.toNat; omega)]
  rfl
theorem cz_zero_h {w n : Int} (hn : 0 < n) : cz 0 w n = 0 := by
  unfold cz look
  rw [if_neg (by omega), tab_zero_l, List.getElem?_eq_none (by show 1 ≤ n.toNat; omega)]
  rfl
theorem cz_nat_nonneg : ∀ (h w : Nat) (n : Int), 0 ≤ cz h (w : Int) n
  | 0, w, n => by
    unfold cz look
    split
    · omega
    · rw [tab_zero_l]
      cases n.toNat with
      | zero => decide
      | succ k => exact Int.le_refl 0
  | h + 1, 0, n => by
    unfold cz look
    split
    · omega
    · rw [show ((0 : Nat) : Int).toNat = 0 from rfl, tab_zero_r]
      cases n.toNat with
      | zero => decide
      | succ k => exact Int.le_refl 0
  | h + 1, w + 1, n => by
    rw [cz_step (by omega), show ((w + 1 : Nat) : Int) - 1 = (w : Int) by omega]
    have := cz_nat_nonneg (h + 1) w n
    have := cz_nat_nonneg h (w + 1) (n - ((w + 1 : Nat) : Int))
    omega
theorem cz_nonneg {h : Nat} {w n : Int} (hw : 0 ≤ w) : 0 ≤ cz h w n := by
  obtain ⟨k, rfl⟩ : ∃ k : Nat, w = (k : Int) := ⟨w.toNat, by omega⟩
  exact cz_nat_nonneg h k n
theorem cz_none : ∀ (h w : Nat), cz h (w : Int) 0 = 1
  | 0, w => rfl
  | h + 1, 0 => rfl
  | h + 1, w + 1 => by
    rw [cz_step (by omega), cz_neg (show (0 : Int) - ((w + 1 : Nat) : Int) < 0 by omega), show ((w + 1 : Nat) : Int) - 1 = (w : Int) by omega, cz_none (h + 1) w]
    rfl
theorem cz_none' {h : Nat} {w : Int} (hw : 0 ≤ w) : cz h w 0 = 1 := by
  obtain ⟨k, rfl⟩ : ∃ k : Nat, w = (k : Int) := ⟨w.toNat, by omega⟩
  exact cz_none h k
theorem cz_mono {h : Nat} {n w : Int} (hw : 0 ≤ w) : ∀ k : Nat, cz h w n ≤ cz h (w + k) n
  | 0 => by rw [show w + ((0 : Nat) : Int) = w by omega]; exact Int.le_refl _
  | k + 1 => by
    have ih := cz_mono (h := h) (n := n) hw k
    cases h with
    | zero => exact Int.le_refl _
    | succ h =>
      rw [cz_step (w := w + ((k + 1 : Nat) : Int)) (by omega), show w + ((k + 1 : Nat) : Int) - 1 = w + (k : Int) by omega]
      have := cz_nonneg (h := h) (w := w + ((k + 1 : Nat) : Int)) (n := n - (w + ((k + 1 : Nat) : Int))) (by omega)
      omega
theorem cz_le {h : Nat} {n w w' : Int} (hw : 0 ≤ w) (hl : w ≤ w') : cz h w n ≤ cz h w' n := by
  have := cz_mono (h := h) (n := n) hw (w' - w).toNat
  rw [show w + (((w' - w).toNat : Nat) : Int) = w' by omega] at this
  exact this
/-! ### shares and their numbers -/
def Fits : Nat → Int → List Int → Prop
  | _, _, [] => True
  | 0, _, _ :: _ => False
  | h + 1, w, x :: xs => 1 ≤ x ∧ x ≤ w ∧ Fits h x xs
def pl : Nat → List Int → Int → Int
  | _, [], _ => 0
  | 0, _ :: _, _ => 0
  | h + 1, x :: xs, n => cz (h + 1) (x - 1) n + pl h xs (n - x)
theorem fits_sum : ∀ {h : Nat} {w : Int} {xs : List Int}, Fits h w xs → 0 ≤ xs.sum
  | _, _, [], _ => by simp
  | 0, _, _ :: _, f => f.elim
  | h + 1, w, x :: xs, f => by
    have := fits_sum f.2.2
    have := f.1
    rw [List.sum_cons]
    omega
theorem pl_lt : ∀ {h : Nat} {w : Int} {xs : List Int} {n : Int}, Fits h w xs → 0 ≤ w → xs.sum = n → 0 ≤ pl h xs n ∧ pl h xs n < cz h w n
  | h, w, [], n, _, hw, e => by
    cases e
    unfold pl
    have : cz h w 0 = 1 := cz_none' hw
    show (0 : Int) ≤ 0 ∧ (0 : Int) < cz h w 0
    omega
  | 0, _, _ :: _, _, f, _, _ => f.elim
  | h + 1, w, x :: xs, n, f, hw, e => by
    rw [List.sum_cons] at e
    obtain ⟨i1, i2⟩ := pl_lt (n := n - x) f.2.2 (by have := f.1; omega) (by omega)
    have f1 := f.1
    have f2 := f.2.1
    have a := cz_nonneg (h := h + 1) (w := x - 1) (n := n) (by omega)
    have b := cz_step (h := h) (w := x) (n := n) f1
    have c := cz_le (h := h + 1) (n := n) (w := x) (w' := w) (by omega) f2
    show 0 ≤ cz (h + 1) (x - 1) n + pl h xs (n - x) ∧ cz (h + 1) (x - 1) n + pl h xs (n - x) < cz (h + 1) w n
    omega
/-- xs > ys as tuples -/
def gtL : List Int → List Int → Bool
  | [], _ => false
  | _ :: _, [] => true
  | x :: xs, y :: ys => if x = y then gtL xs ys else decide (y < x)
theorem pl_lex : ∀ {h : Nat} {w w' : Int} {xs ys : List Int} {n : Int}, Fits h w xs → Fits h w' ys → xs.sum = n → ys.sum = n → (gtL xs ys = true ↔ pl h ys n < pl h xs n) ∧ (pl h xs n = pl h ys n → xs = ys)
  | h, w, w', [], [], n, _, _, _, _ => ⟨⟨fun z => Bool.noConfusion z, fun z => absurd z (by unfold pl; exact Int.lt_irrefl _)⟩, fun _ => rfl⟩
  | 0, _, _, _ :: _, _, _, f, _, _, _ => f.elim
  | 0, _, _, _, _ :: _, _, _, f, _, _ => f.elim
  | h + 1, w, w', [], y :: ys, n, _, f, e1, e2 => by
    have := fits_sum f.2.2
    have := f.1
    rw [List.sum_cons] at e2
    rw [List.sum_nil] at e1
    omega
  | h + 1, w, w', x :: xs, [], n, f, _, e1, e2 => by
    have := fits_sum f.2.2
    have := f.1
    rw [List.sum_cons] at e1
    rw [List.sum_nil] at e2
    omega
  | h + 1, w, w', x :: xs, y :: ys, n, f, g, e1, e2 => by
    rw [List.sum_cons] at e1 e2
    have f1 := f.1
    have g1 := g.1
    have p := pl_lt (n := n - x) f.2.2 (by omega) (by omega)
    have q := pl_lt (n := n - y) g.2.2 (by omega) (by omega)
    have a := cz_step (h := h) (w := x) (n := n) f1
    have b := cz_step (h := h) (w := y) (n := n) g1
    show ((if x = y then gtL xs ys else decide (y < x)) = true ↔ cz (h + 1) (y - 1) n + pl h ys (n - y) < cz (h + 1) (x - 1) n + pl h xs (n - x)) ∧ (cz (h + 1) (x - 1) n + pl h xs (n - x) = cz (h + 1) (y - 1) n + pl h ys (n - y) → _)
    by_cases e : x = y
    · subst e
      rw [if_pos rfl]
      obtain ⟨i1, i2⟩ := pl_lex (n := n - x) f.2.2 g.2.2 (by omega) (by omega)
      rw [i1]
      refine ⟨by omega, fun z => ?_⟩
      rw [i2 (by omega)]
    · rw [if_neg e, decide_eq_true_eq]
      by_cases l : y < x
      · have c := cz_le (h := h + 1) (n := n) (w := y) (w' := x - 1) (by omega) (by omega)
        refine ⟨⟨fun _ => by omega, fun _ => l⟩, fun z => by omega⟩
      · have c := cz_le (h := h + 1) (n := n) (w := x) (w' := y - 1) (by omega) (by omega)
        refine ⟨⟨fun z => absurd z l, fun z => by omega⟩, fun z => by omega⟩
theorem shift_at (e r : Nat → Bool) (z : Bool) : ∀ (k i : Nat), Ob.lexAt e r z (i + 1) k = Ob.lexAt (fun j => e (j + 1)) (fun j => r (j + 1)) z i k
  | 0, _ => rfl
  | k + 1, i => by rw [Ob.lexAt_succ, Ob.lexAt_succ, shift_at e r z k (i + 1)]
theorem lex_gt : ∀ (ns ms : List Int), Ob.lexAt (fun j => decide (ns.getD j 0 = ms.getD j 0)) (fun j => decide (ms.getD j 0 < ns.getD j 0)) (decide (ns.length > ms.length)) 0 (min ns.length ms.length) = gtL ns ms
  | [], ms => by simp [gtL, Ob.lexAt_zero]
  | n :: ns, [] => by simp [gtL, Ob.lexAt_zero]
  | n :: ns, m :: ms => by
    rw [List.length_cons, List.length_cons, Nat.succ_min_succ, Ob.lexAt_succ, shift_at]
    have ih := lex_gt ns ms
    simp only [List.getD_cons_succ, List.getD_cons_zero, decide_eq_true_eq, gt_iff_lt, Nat.add_lt_add_iff_right] at ih ⊢
    rw [ih]
    rfl
end K09
namespace GS
open PySem PySem.Spec PyProof.Rows L2 RZ
abbrev Sg := L2.St
/-! an exception that was caught and is kept behind its suite -/
def ExK (cls : Value) (a : Addr) : HO := .ext fun h => ∃ (oe : Obj) (vs : Array Value), h.get? a = some oe ∧ Zc cls none oe ∧ oe.data = .fields vs
theorem exK_ok {P : Program} {w : World} {H : Hp} {h : Heap} {a : Addr} {cls : Value} {oe : Obj} {vs : Array Value} (e : h.get? a = some oe) (z : Zc cls none oe) (d : oe.data = .fields vs) : ObjOk P w H h a (ExK cls a) :=
  ⟨⟨oe, vs, e, z, d⟩, ⟨oe, e⟩, fun _ _ ⟨o, us, e1, z1, d1⟩ k => ⟨o, us, k o e1, z1, d1⟩⟩
section
variable {X : Cx} {pins : List (Addr × Obj)} {σ : L2.St} {H : Hp} {s : Shared}
/-- an object that is in reach, but was tracked by nobody, is tracked from here on -/
theorem inv_track {a : Addr} {cls : Value} {oe : Obj} {vs : Array Value} (I : Inv X pins σ H s) (ga : s.heap.get? a = some oe) (hz : Zc cls none oe) (hd : oe.data = .fields vs) (na : H a = none)
    (nL : a ≠ X.env.locals) (n0 : X.s_0.heap.get? a = none) (np : ∀ p ∈ X.pn ++ pins, p.1 ≠ a) : Inv X pins σ (upd H a (ExK cls a)) s := by
  have other : ∀ {b : Addr}, b ≠ a → H b = none → (upd H a (ExK cls a)) b = none := fun hb hn => by
    rw [upd_ne hb]
    exact hn
  have kept : ∀ {b : Addr} {o : HO}, H b = some o → (upd H a (ExK cls a)) b = some o := fun e => by
    rw [upd_ne (ne_of_none e na)]
    exact e
  refine { ok := I.ok, os := I.os, bare := I.bare, loc := I.loc, cell := I.cell, len := I.len, base := ?_, free := other nL.symm I.free, freeC := ?_, pin := ?_, hok := ?_ }
  · refine { keep := I.base.keep, slot := I.base.slot, there := I.base.there, free := ?_, tups := fun b xs e => kept (I.base.tups b xs e), frzs := fun b o u e => kept (I.base.frzs b o u e), tbls := ?_ }
    · intro b o e n hx
      exact other (fun z => by rw [z, n0] at e; cases e) (I.base.free b o e n hx)
    · intro b ps e
      obtain ⟨more, q⟩ := I.base.tbls b ps e
      exact ⟨more, kept q⟩
  · intro x c e
    refine other (fun z => ?_) (I.freeC x c e)
    obtain ⟨v, hv⟩ := I.cell x c e
    obtain ⟨o, h1, h2⟩ := hv
    rw [z, ga] at h1
    cases h1
    rw [hd] at h2
    cases h2
  · intro p hp
    obtain ⟨g1, g2, g3⟩ := I.pin p hp
    exact ⟨g1, other (np p hp) g2, g3⟩
  · exact HOk.laidN I.hok (fun _ _ z => z) na (exK_ok ga hz hd)
end
/-- the wish behind «except c as n: suite» where the caught one is kept -/
def wKeep (K : PySem.W.Frag) (c : Value) (i : Nat) (ts : Addr → Value → TS) (D : Ends) : WX := fun cls d σ H =>
  d = none ∧ PySem.W.exmOne K cls c = some true ∧
    ∀ a, H a = none → ts a cls { nx := fun σ' H' => D.nx (σ'.set i none) (upd H' a (ExK cls a)), rt := fun _ _ => False, bk := fun _ _ => False, ct := fun _ _ => False } (σ.set i (some (.ref a))) H
section
variable {X : Cx} {x n : Str} {c : Value} {i : Nat} {body rest : List Stmt} {b₀ : Stmt} {np pos pos' : Pos} {tb : WX → TS} {ts : Addr → Value → TS}
theorem ps_try_keep (hs : X.stack = X.env :: X.outer) (hf : X.env.frame = some X.env.locals) (hex : X.ex = []) (hN : X.N.Nodup) (hi : X.N[i]? = some n) (hln : X.env.kindOf n = some .local) (hc : Names X x c)
    (hb : ∀ (W : WX) (pn : List (Addr × Obj)) (xe : Value → Shared → Prop), Takes (X.tr pn xe) W → PassesOwn (model X.prog X.w) X.A X.env xe → PSs (X.tr pn xe) body (tb W))
    (hsu : ∀ (a : Addr) (oe : Obj) (cls : Value) (pn : List (Addr × Obj)), Zc cls none oe → (∃ vs, oe.data = .fields vs) → PSs (X.suite a ((a, oe) :: pn)) (b₀ :: rest) (ts a cls)) :
    PS X (.Try body [.ExceptHandler (some (.Name x np)) (some n) (b₀ :: rest) pos'] [] [] pos) (fun D σ H => tb (wKeep X.K c i ts D) D σ H) := by
  constructor
  intro pins s σ H D I h
  have okX := I.ok
  have frames : X.A.frames = some (X.env :: X.outer) := okX.frames.trans (congrArg some hs)
  apply wpAny_Try_except
  have B := hb (wKeep X.K c i ts D) (X.pn ++ pins) (fun e s1 => wpAny (model X.prog X.w) X.A (noteFrame e X.env) (fun _ s2 => wpAny (model X.prog X.w) X.A (setFlight e none)
    (fun _ s3 => wpAny (model X.prog X.w) X.A (handleBy e X.env [.ExceptHandler (some (.Name x np)) (some n) (b₀ :: rest) pos']) (SP X pins D) X.xe s3) X.xe s2) X.xe s1)
  refine wpAny_mono ((B ?_ PassesOwn.looking).run [] s σ H D (I.toTry _) h) ?_ fun _ _ z => z
  · intro u s1 air
    obtain ⟨a, G, sI, ps, σ1, H1, cls, d, eu, I0, inG, upS, sky, na, eos, eg, ed, em, hw⟩ := air
    subst eu
    subst ed
    have J : Inv X pins σ1 H1 sI := I0.ofTry okX
    rw [show (X.tr (X.pn ++ pins) _).stack = X.env :: X.outer from hs] at sky
    change wpAny (model X.prog X.w) X.A (noteFrame (.ref a) X.env) _ _ _
    refine Sky.land Zc.steady frames hf sky fun g1 f1 u1 => ?_
    have J1 : Inv X pins σ1 H1 { s1 with heap := g1 } := J.landed inG f1.1 (upS.trans u1) eos eg
    obtain ⟨o1, v1, ga1, z1, d1⟩ := f1.there
    have away : a ∉ frs (X.env :: X.outer) := fun hm => by
      obtain ⟨_, o2, e2, nf⟩ := f1.2.2.1.mem hm
      rw [ga1] at e2
      cases e2
      exact nf _ d1
    have ne1 : a ≠ X.env.locals := fun z => away (List.mem_filterMap.mpr ⟨X.env, List.mem_cons_self, hf.trans (congrArg some z.symm)⟩)
    have ne2 : a ∉ X.fs := fun hm => by
      obtain ⟨e, me, q⟩ := List.mem_filterMap.mp hm
      exact away (List.mem_filterMap.mpr ⟨e, List.mem_cons_of_mem _ me, q⟩)
    -- it is new
    have newI : sI.heap.get? a = none := by
      cases q : sI.heap.get? a with
      | none => rfl
      | some o =>
        have := inG a o q (by rw [show (X.tr (X.pn ++ pins) _).stack = X.env :: X.outer from hs]; exact away)
        rw [f1.2.1] at this
        cases this
    have new0 : X.s_0.heap.get? a = none := by
      cases q : X.s_0.heap.get? a with
      | none => rfl
      | some o =>
        obtain ⟨o', q'⟩ := J.base.there a o q (by rw [hex]; exact List.not_mem_nil)
        rw [newI] at q'
        cases q'
    have newP : ∀ p ∈ X.pn ++ pins, p.1 ≠ a := fun p hp z => by
      have := (J.pin p hp).1
      rw [z, newI] at this
      cases this
    have S1 := J1.suite ga1 d1 na ne1 ne2
    refine wpAny_handleBy_cons (codeAny_handlers_test ?_) (by intro q; cases q)
    have look : PySem.W.Looks (model X.prog X.w) g1 (typeOf (.ref a)) cls := fun A Q E s k q => wpAny_typeOf_ref (k _ _ ga1) (by rw [z1.1]; exact q)
    have meets := PySem.W.exm_one (M := model X.prog X.w) J1.kIn look em
    have name : ∀ {Q E : Value → Shared → Prop}, Q c { s1 with heap := g1 } → wpAny (model X.prog X.w) (X.A.mark (some (.ref a))) (eval (.Name x np) X.env) Q E { s1 with heap := g1 } := by
      intro Q E q
      obtain ⟨hg, hdb, hm | ⟨hm, hv, hnn⟩⟩ := hc
      · exact ld_glob (X := X.suite a ((a, o1) :: (X.pn ++ pins))) S1 hg hm q hdb
      · exact ld_blt (X := X.suite a ((a, o1) :: (X.pn ++ pins))) S1 hg hm hv q hnn hdb
    refine name (meets.here (codeAny_handlers_suite_as ?_))
    refine HandSPX.lands_againZ f1 fun g2 f2 u2 => ?_
    have J2 : Inv X pins σ1 H1 { s1 with heap := g2 } := J.landed inG f2.1 ((upS.trans u1).trans u2) eos eg
    obtain ⟨o2, v2, ga2, z2, d2⟩ := f2.there
    have S2 := J2.suite ga2 d2 na ne1 ne2
    refine store_ok (X := X.suite a ((a, o2) :: (X.pn ++ pins))) (v := .ref a) S2 hN hi (.inl hln) rfl (fun s3 S3 => ?_) (.inr hln)
    refine wpAny_mono ((hsu a o2 cls (X.pn ++ pins) z2 ⟨_, d2⟩).run [] s3 _ H1 _ S3 (hw a na)) (fun fl s4 hq => ?_) fun _ _ z => False.elim z
    match fl, hq with
    | .next, ⟨σ4, H4, S4, q4⟩ =>
      have pn4 := S4.pin (a, o2) (List.mem_append.mpr (.inl List.mem_cons_self))
      have J4 := inv_track (S4.unsuite okX) pn4.1 z2 d2 pn4.2.1 ne1 new0 newP
      exact gone_ok J4 hN hi hln fun s5 J5 => ⟨_, _, J5, q4⟩
    | .brk, ⟨_, _, _, q4⟩ => exact q4.elim
    | .cont, ⟨_, _, _, q4⟩ => exact q4.elim
    | .ret _, ⟨_, _, _, _, _, q4⟩ => exact q4.elim
  · intro fl s1 hq
    match fl, hq with
    | .next, ⟨σ1, H1, J, q⟩ => exact wpAny_execs_nil ⟨σ1, H1, J.ofTry okX, q⟩
    | .brk, ⟨σ1, H1, J, q⟩ => exact ⟨σ1, H1, J.ofTry okX, q⟩
    | .cont, ⟨σ1, H1, J, q⟩ => exact ⟨σ1, H1, J.ofTry okX, q⟩
    | .ret u, ⟨v, σ1, H1, J, r, q⟩ => exact ⟨v, σ1, H1, J.ofTry okX, r, q⟩
end
section
variable {X : Cx}
/-- isinstance(e, c), e an exception that is kept -/
def rIsK (K : PySem.W.Frag) : List V → Hp → VK → Prop := fun xs H Q => ∃ (a D : Addr) (c : V) (u : Value) (b : Bool), xs = [.ref a, c] ∧ H a = some (ExK (.ref D) a) ∧ ExcC K D ∧ ClsV c u ∧ PySem.W.kitOne K (.ref D) u = some b ∧ Q (.bl b) H
def rIsKT (K : PySem.W.Frag) : List V → Hp → VK → Prop := fun xs H Q => ∃ (a D tp : Addr) (cs : List V) (us : List Value) (b : Bool), xs = [.ref a, .ref tp] ∧ H a = some (ExK (.ref D) a) ∧ ExcC K D ∧ H tp = some (.tup cs) ∧ Paired ClsV cs us ∧ PySem.W.kitAny K (.ref D) us = some b ∧ Q (.bl b) H
theorem exK_at {pins : List (Addr × Obj)} {σ : L2.St} {H : Hp} {s : Shared} {a D : Addr} (I : Inv X pins σ H s) (h : H a = some (ExK (.ref D) a)) : ∃ oe, PySem.W.InstAt s.heap a oe D none := by
  obtain ⟨⟨oe, vs, g, ⟨z1, z2⟩, d⟩, _, _⟩ := I.hok a _ h
  refine ⟨oe, ?_⟩
  obtain ⟨oc, od, oda, osl⟩ := oe
  dsimp only at z1 z2 d
  subst z1 z2 d
  exact ⟨g, rfl, rfl, trivial⟩
theorem call_isK : CallR X (.builtin "isinstance") (rIsK X.K) := by
  intro pins s σ H xs us Q I r h
  obtain ⟨a, D, c, u, b, rfl, ha, C, k, e, q⟩ := h
  obtain ⟨u1, u2, rfl, r1, r2⟩ := vals2 r
  cases (show u1 = Value.ref a from r1)
  have e2 := k.eq r2
  subst e2
  obtain ⟨oe, J⟩ := exK_at I ha
  exact PySem.W.kia_one (PySem.W.handS_kitx_exc C.hg C.hk C.hs C.hd C.ha C.hn C.ht C.hm) I.kIn J e (fun z => nomatch z) fun tk => ⟨.bl b, H, I.tok tk, rfl, q⟩
theorem call_isKT : CallR X (.builtin "isinstance") (rIsKT X.K) := by
  intro pins s σ H xs us Q I r h
  obtain ⟨a, D, tp, cs, ws, b, rfl, ha, C, hT, k, e, q⟩ := h
  obtain ⟨u1, u2, rfl, r1, r2⟩ := vals2 r
  cases (show u1 = Value.ref a from r1)
  cases (show u2 = Value.ref tp from r2)
  obtain ⟨oe, J⟩ := exK_at I ha
  obtain ⟨_, its, rv, o, h1, h2, n, h3⟩ := (show ObjOk X.prog X.w H s.heap tp (.tup cs) from I.hok tp _ hT)
  have e3 := ClsV.all k rv
  subst e3
  obtain ⟨oc, od, dt, sl⟩ := o
  simp only at h2 h3
  subst h2 h3
  exact PySem.W.kia_tup (PySem.W.handS_kitx_exc C.hg C.hk C.hs C.hd C.ha C.hn C.ht C.hm) I.kIn J h1 e (fun z => nomatch z) fun tk => ⟨.bl b, H, I.tok tk, rfl, q⟩
end
end GS
namespace GS
open PySem PySem.Spec PyProof.Rows L2 RZ
theorem bt_ValueError : bootBuiltins "ValueError" = some (.type "ValueError") := by decide +kernel
/-- repr of data of any kind (dicts aside) -/
def rShw (K : PySem.W.Frag) : List V → Hp → VK → Prop := fun xs H Q => ∃ (v : V) (d : PyData), xs = [v] ∧ Dp K H v d ∧ d.showable = true ∧ d.hasDict = false ∧ d.depth ≤ 60 ∧ d.shown.length ≤ sizeLine ∧ Q (.str d.shown) H
section
variable {X : Cx}
theorem call_shw (hA : Clr X.A) (hu : X.A.units + 64 < cLine) : CallR X (.builtin "repr") (rShw X.K) := by
  intro pn s σ H xs us Q J r h
  obtain ⟨v, d, rfl, hd, h1, h2, h3, h4, q⟩ := h
  obtain ⟨u, rfl, r1⟩ := vals1 r
  have big : ∀ a, v = .ref a → wpAny (model X.prog X.w) X.A (call (.builtin "repr") [u]) (EP X pn σ Q) X.xe s := by
    intro a e
    subst e
    cases r1
    obtain ⟨as, rd⟩ := Dp.reads J d _ _ hd rfl
    exact repr_of_reads' rd h1 (PyData.noDict_hsm h2) hA (by omega) (fun _ _ z => z) (fun h' u tk hk => ⟨.str _, H, J.kept hk, ⟨_, rfl⟩, q⟩) h4
  cases hd with
  | non =>
    cases r1
    exact PySem.P.repr_of_none ⟨.str _, H, J.tok _, ⟨_, rfl⟩, q⟩
  | bl b =>
    cases r1
    exact PySem.P.repr_of_bool ⟨.str _, H, J.tok _, ⟨_, rfl⟩, q⟩
  | int i =>
    obtain ⟨t, rfl⟩ := r1
    exact PySem.P.repr_of_int (of_decide_eq_true h1) ⟨.str _, H, J.tok _, ⟨_, rfl⟩, q⟩
  | str x =>
    obtain ⟨t, rfl⟩ := r1
    exact PySem.P.repr_of_str ⟨.str _, H, J.tok _, ⟨_, rfl⟩, q⟩ h4
  | lst h g => exact big _ rfl
  | tup h g => exact big _ rfl
end
end GS
/-! repr of data with dicts of ints in it, lists aside -/
namespace GS
open PySem PySem.Spec PyProof.Rows L2 RZ
mutual
inductive Dd (K : PySem.W.Frag) (H : Hp) : V → PyData → Prop
  | non : Dd K H .non .none
  | bl (b : Bool) : Dd K H (.bl b) (.bool b)
  | int (i : Int) : Dd K H (.int i) (.int i)
  | str (x : Str) : Dd K H (.str x) (.str x)
  | dct {a : Addr} (kvs : List (Int × Int)) : H a = some (.dK (kvs.map fun p => (Sum.inl p.1, V.int p.2))) → Dd K H (.ref a) (.dict (kvs.map fun p => (PyData.int p.1, PyData.int p.2)))
  | tup {a : Addr} {xs : List V} {ds : List PyData} : SqT K H a xs → DdAll K H xs ds → Dd K H (.ref a) (.tuple ds)
inductive DdAll (K : PySem.W.Frag) (H : Hp) : List V → List PyData → Prop
  | nil : DdAll K H [] []
  | cons {v : V} {vs : List V} {d : PyData} {ds : List PyData} : Dd K H v d → DdAll K H vs ds → DdAll K H (v :: vs) (d :: ds)
end
theorem reads_ints {h : Heap} {P : Program} {w : World} : ∀ {kvs : List (Int × Int)} {vs : List (Key × Value)} {es : List DictEntry}, KV (kvs.map fun p => (Sum.inl p.1, V.int p.2)) vs → Pairs (mixKind P w) es vs →
    ReadsAll h (es.map (·.key)) ((kvs.map fun p => (PyData.int p.1, PyData.int p.2)).map (·.1)) [] ∧ ReadsAll h (es.map (·.val)) ((kvs.map fun p => (PyData.int p.1, PyData.int p.2)).map (·.2)) []
  | [], _, _, k, p => by
    cases k
    cases p
    exact ⟨.nil, .nil⟩
  | x :: kvs, _, _, k, p => by
    cases k with
    | cons k1 k2 =>
      cases p with
      | cons p1 p2 p3 =>
        obtain ⟨h1, h2⟩ := reads_ints k2 p3
        obtain ⟨e1, e2⟩ := k1
        constructor
        · refine ReadsAll.cons (as := []) ?_ h1
          rcases keyIs_shape p1 with ⟨i, t, e3, e4⟩ | ⟨y, t, e3, e4⟩
          · rw [← e1] at e3
            cases e3
            dsimp only
            rw [e4]
            exact .int _ _
          · rw [← e1] at e3
            cases e3
        · refine ReadsAll.cons (as := []) ?_ h2
          dsimp only
          rw [p2]
          obtain ⟨t, e5⟩ := e2
          rw [e5]
          exact .int _ _
section
variable {X : Cx} {pins : List (Addr × Obj)} {σ : L2.St} {H : Hp} {s : Shared}
mutual
theorem Dd.reads (I : Inv X pins σ H s) : ∀ (d : PyData) (v : V) (u : Value), Dd X.K H v d → RelV v u → ∃ as, Reads s.heap u d as ∧ sysModules ∉ as
  | .none, _, _, h, r => by
    cases h
    cases r
    exact ⟨_, Reads.none, List.not_mem_nil⟩
  | .bool b, _, _, h, r => by
    cases h
    cases r
    exact ⟨_, Reads.bool b, List.not_mem_nil⟩
  | .int i, _, _, h, r => by
    cases h
    obtain ⟨t, rfl⟩ := r
    exact ⟨_, Reads.int i t, List.not_mem_nil⟩
  | .str x, _, _, h, r => by
    cases h
    obtain ⟨t, rfl⟩ := r
    exact ⟨_, Reads.str x t, List.not_mem_nil⟩
  | .list ds, _, _, h, r => by cases h
  | .tuple ds, _, _, h, r => by
    cases h with
    | tup hs ha =>
      cases r
      obtain ⟨its, rv, ⟨o, ho, hc, n, hd⟩, _⟩ := I.tuple hs
      obtain ⟨as, hr, na⟩ := Dd.readsAll I ds _ its ha rv
      exact ⟨_, Reads.tuple ho hc hd hr, na⟩
  | .dict ds, _, _, h, r => by
    generalize hd : PyData.dict ds = d at h
    cases h with
    | dct kvs hs =>
      cases hd
      cases r
      obtain ⟨_, ns, vs, kv, o, es, ep, ho, hx, hd, _, hp, _⟩ := (show ObjOk X.prog X.w H s.heap _ (.dK _) from I.hok _ _ hs)
      obtain ⟨h1, h2⟩ := reads_ints (h := s.heap) kv hp
      refine ⟨_, Reads.dict ho hx.1 hd h1 h2, ?_⟩
      intro z
      simp only [List.append_nil, List.mem_cons, List.not_mem_nil, or_false] at z
      rw [← z] at ns
      exact absurd ns (by decide)
    | _ => cases hd
theorem Dd.readsAll (I : Inv X pins σ H s) : ∀ (ds : List PyData) (vs : List V) (us : List Value), DdAll X.K H vs ds → Vals vs us → ∃ as, ReadsAll s.heap us ds as ∧ sysModules ∉ as
  | [], _, _, h, r => by
    cases h
    cases r
    exact ⟨_, ReadsAll.nil, List.not_mem_nil⟩
  | d :: ds, _, _, h, r => by
    cases h with
    | cons h1 h2 =>
      cases r with
      | cons r1 r2 =>
        obtain ⟨as, q1, n1⟩ := Dd.reads I d _ _ h1 r1
        obtain ⟨bs, q2, n2⟩ := Dd.readsAll I ds _ _ h2 r2
        exact ⟨_, ReadsAll.cons q1 q2, fun z => (List.mem_append.mp z).elim n1 n2⟩
end
end
/-- all but the tables stay -/
def KeepN (H H' : Hp) : Prop := ∀ b o, H b = some o → (∀ ps, o ≠ .tbl ps) → H' b = some o
theorem KeepN.trans {H H1 H2 : Hp} (a : KeepN H H1) (b : KeepN H1 H2) : KeepN H H2 := fun c o e n => b c o (a c o e n) n
theorem kpn {H H' : Hp} (s : Same H H') : KeepN H H' := fun b o e _ => s b o e
theorem rd_keep {H H' : Hp} {a : Addr} {u : HO} (r : Rd H a u) (n : ∀ ps, u ≠ .tbl ps) (s : KeepN H H') : Rd H' a u :=
  r.imp (fun h => s _ _ h n) fun ⟨o, h⟩ => ⟨o, s _ _ h fun _ z => nomatch z⟩
theorem sqL_keep {K : PySem.W.Frag} {H H' : Hp} {a : Addr} {xs : List V} (h : SqL K H a xs) (s : KeepN H H') : SqL K H' a xs := h.imp (fun r => rd_keep r (fun _ z => nomatch z) s) fun z => z
theorem sqT_keep {K : PySem.W.Frag} {H H' : Hp} {a : Addr} {xs : List V} (h : SqT K H a xs) (s : KeepN H H') : SqT K H' a xs := h.imp (fun r => rd_keep r (fun _ z => nomatch z) s) fun z => z
section
variable {K : PySem.W.Frag} {H H' : Hp}
mutual
theorem Dp.keep (s : KeepN H H') : ∀ (d : PyData) (v : V), Dp K H v d → Dp K H' v d
  | .none, _, h => by cases h; exact .non
  | .bool b, _, h => by cases h; exact .bl b
  | .int i, _, h => by cases h; exact .int i
  | .str x, _, h => by cases h; exact .str x
  | .list ds, _, h => by
    cases h with
    | lst hs ha => exact .lst (sqL_keep hs s) (DpAll.keep s ds _ ha)
  | .tuple ds, _, h => by
    cases h with
    | tup hs ha => exact .tup (sqT_keep hs s) (DpAll.keep s ds _ ha)
  | .dict _, _, h => by cases h
theorem DpAll.keep (s : KeepN H H') : ∀ (ds : List PyData) (vs : List V), DpAll K H vs ds → DpAll K H' vs ds
  | [], _, h => by cases h; exact .nil
  | d :: ds, _, h => by
    cases h with
    | cons h1 h2 => exact .cons (Dp.keep s d _ h1) (DpAll.keep s ds _ h2)
end
mutual
theorem Dd.keep (s : KeepN H H') : ∀ (d : PyData) (v : V), Dd K H v d → Dd K H' v d
  | .none, _, h => by cases h; exact .non
  | .bool b, _, h => by cases h; exact .bl b
  | .int i, _, h => by cases h; exact .int i
  | .str x, _, h => by cases h; exact .str x
  | .list ds, _, h => by cases h
  | .tuple ds, _, h => by
    cases h with
    | tup hs ha => exact .tup (sqT_keep hs s) (DdAll.keep s ds _ ha)
  | .dict ds, _, h => by
    generalize hd : PyData.dict ds = d at h
    cases h with
    | dct kvs hs => exact .dct kvs (s _ _ hs fun _ z => nomatch z)
    | _ => cases hd
theorem DdAll.keep (s : KeepN H H') : ∀ (ds : List PyData) (vs : List V), DdAll K H vs ds → DdAll K H' vs ds
  | [], _, h => by cases h; exact .nil
  | d :: ds, _, h => by
    cases h with
    | cons h1 h2 => exact .cons (Dd.keep s d _ h1) (DdAll.keep s ds _ h2)
end
end
/-- small data: it can be shown -/
structure Sx (n k : Nat) (d : PyData) : Prop where
  a : d.showable = true
  c : d.depth ≤ k
  d : d.shown.length ≤ n
theorem Sx.more {n n' k k' : Nat} {d : PyData} (h : Sx n k d) (h1 : n ≤ n') (h2 : k ≤ k') : Sx n' k' d := ⟨h.a, Nat.le_trans h.c h2, Nat.le_trans h.d h1⟩
theorem Sx.int {i : Int} (h : i.natAbs.log2 < 1920) : Sx 1921 0 (.int i) := ⟨decide_eq_true h, Nat.le_refl _, int_text_len_1921 h⟩
theorem sx_all {n k : Nat} : ∀ {ds : List PyData}, (∀ d ∈ ds, Sx n k d) → PyData.showableAll ds = true ∧ PyData.depthAll ds ≤ k ∧ ((PyData.shownAll ds).map (·.length)).sum ≤ n * ds.length ∧ (PyData.shownAll ds).length = ds.length
  | [], _ => ⟨rfl, Nat.zero_le _, Nat.zero_le _, rfl⟩
  | d :: ds, h => by
    obtain ⟨h1, h3, h4, h5⟩ := sx_all (ds := ds) fun e m => h e (List.mem_cons_of_mem _ m)
    have q := h d List.mem_cons_self
    refine ⟨by simp only [PyData.showableAll, q.a, h1, Bool.and_self], ?_, ?_, by simp only [PyData.shownAll, List.length_cons, h5]⟩
    · simp only [PyData.depthAll]
      have := q.c
      omega
    · simp only [PyData.shownAll, List.map_cons, List.sum_cons, List.length_cons]
      have e := q.d
      rw [Nat.mul_add]
      omega
theorem Sx.tuple {n k : Nat} {ds : List PyData} (h : ∀ d ∈ ds, Sx n k d) : Sx (n * ds.length + 2 * ds.length + 3) (k + 1) (.tuple ds) := by
  obtain ⟨h1, h3, h4, h5⟩ := sx_all h
  refine ⟨by simpa only [PyData.showable] using h1, by simp only [PyData.depth]; omega, ?_⟩
  simp only [PyData.shown]
  have := tupleText_len_le (PyData.shownAll ds)
  rw [h5] at this
  omega
theorem Sx.list {n k : Nat} {ds : List PyData} (h : ∀ d ∈ ds, Sx n k d) : Sx (n * ds.length + 2 * ds.length + 3) (k + 1) (.list ds) := by
  obtain ⟨h1, h3, h4, h5⟩ := sx_all h
  refine ⟨by simpa only [PyData.showable] using h1, by simp only [PyData.depth]; omega, ?_⟩
  simp only [PyData.shown]
  have := listText_len_le (PyData.shownAll ds)
  rw [h5] at this
  omega
theorem Sx.nodict : Sx 2 1 (.dict []) := ⟨rfl, by decide, by decide +kernel⟩
theorem Sx.dict1 {i j : Int} (hi : i.natAbs.log2 < 1920) (hj : j.natAbs.log2 < 1920) : Sx 3900 1 (.dict [(.int i, .int j)]) := by
  refine ⟨?_, by simp only [PyData.depth, PyData.depthKv]; decide, ?_⟩
  · simp only [PyData.showable, PyData.showableKv, decide_eq_true hi, decide_eq_true hj, Bool.and_self]
  · have h1 := (Sx.int hi).d
    have h2 := (Sx.int hj).d
    simp only [PyData.shown, PyData.shownKv] at h1 h2 ⊢
    have h3 := dictText_len_le [PySem.Str.ofString (toString i) ++ ": " ++ PySem.Str.ofString (toString j)]
    have h4 : (PySem.Str.ofString (toString i) ++ ": " ++ PySem.Str.ofString (toString j) : Str).length = (PySem.Str.ofString (toString i)).length + 2 + (PySem.Str.ofString (toString j)).length := by
      rw [Str.length_append, Str.length_append]
      rfl
    simp only [List.map_cons, List.map_nil, List.sum_cons, List.sum_nil, List.length_cons, List.length_nil] at h3
    refine Nat.le_trans h3 ?_
    rw [h4]
    omega
/-- data that repr shows -/
def Shw (K : PySem.W.Frag) (H : Hp) (v : V) (d : PyData) : Prop := Sx 100000 60 d ∧ ((Dp K H v d ∧ d.hasDict = false) ∨ Dd K H v d)
theorem Shw.keep {K : PySem.W.Frag} {H H' : Hp} {v : V} {d : PyData} (h : Shw K H v d) (s : KeepN H H') : Shw K H' v d :=
  ⟨h.1, h.2.imp (fun z => ⟨Dp.keep s d v z.1, z.2⟩) fun z => Dd.keep s d v z⟩
/-- parts of data that repr shows: without dicts, or without lists -/
def ElP (K : PySem.W.Frag) (H : Hp) (x : V) : Prop := ∃ d, Sx 8000 1 d ∧ Dp K H x d ∧ d.hasDict = false
def ElD (K : PySem.W.Frag) (H : Hp) (x : V) : Prop := ∃ d, Sx 8000 1 d ∧ Dd K H x d
section
variable {K : PySem.W.Frag} {H H' : Hp} {x : V} {a : Addr}
theorem ElP.keep (h : ElP K H x) (s : KeepN H H') : ElP K H' x := let ⟨d, h1, h2, h3⟩ := h; ⟨d, h1, Dp.keep s d x h2, h3⟩
theorem ElD.keep (h : ElD K H x) (s : KeepN H H') : ElD K H' x := let ⟨d, h1, h2⟩ := h; ⟨d, h1, Dd.keep s d x h2⟩
theorem lg {i : Int} (h1 : -100000000000000000000000000000000 ≤ i) (h2 : i ≤ 100000000000000000000000000000000) : i.natAbs.log2 < 1920 := by
  refine log2_small (Nat.lt_of_lt_of_le (m := 2 ^ 107) ?_ (Nat.pow_le_pow_right (by decide) (by decide)))
  have e : (2 : Nat) ^ 107 = 162259276829213363391578010288128 := by decide
  rw [e]
  omega
theorem elP_int {i : Int} (h : i.natAbs.log2 < 1920) : ElP K H (.int i) := ⟨_, (Sx.int h).more (by decide) (by decide), .int i, rfl⟩
theorem elD_int {i : Int} (h : i.natAbs.log2 < 1920) : ElD K H (.int i) := ⟨_, (Sx.int h).more (by decide) (by decide), .int i⟩
theorem elP_non : ElP K H .non := ⟨_, ⟨rfl, by decide, by decide +kernel⟩, .non, rfl⟩
theorem elD_non : ElD K H .non := ⟨_, ⟨rfl, by decide, by decide +kernel⟩, .non⟩
theorem sx_bl (b : Bool) : Sx 8000 1 (.bool b) := by cases b <;> exact ⟨rfl, by decide, by decide +kernel⟩
theorem elP_bl (b : Bool) : ElP K H (.bl b) := ⟨_, sx_bl b, .bl b, rfl⟩
theorem elD_bl (b : Bool) : ElD K H (.bl b) := ⟨_, sx_bl b, .bl b⟩
theorem sx_str {t : Str} (h : (reprText t).length ≤ 8000) : Sx 8000 1 (.str t) := ⟨rfl, Nat.zero_le _, h⟩
theorem elP_str {t : Str} (h : (reprText t).length ≤ 8000) : ElP K H (.str t) := ⟨_, sx_str h, .str t, rfl⟩
theorem elD_str {t : Str} (h : (reprText t).length ≤ 8000) : ElD K H (.str t) := ⟨_, sx_str h, .str t⟩
theorem elD_emp (h : H a = some (.dK [])) : ElD K H (.ref a) := ⟨_, Sx.nodict.more (by decide) (by decide), .dct [] h⟩
theorem elD_one {i j : Int} (h : H a = some (.dK [(Sum.inl i, V.int j)])) (hi : i.natAbs.log2 < 1920) (hj : j.natAbs.log2 < 1920) : ElD K H (.ref a) := ⟨_, (Sx.dict1 hi hj).more (by decide) (by decide), .dct [(i, j)] h⟩
theorem sx_ints {xs : List Int} (h : ∀ x ∈ xs, x.natAbs.log2 < 1920) : ∀ d ∈ xs.map PyData.int, Sx 1921 0 d := by
  intro d m
  obtain ⟨x, hx, rfl⟩ := List.mem_map.mp m
  exact Sx.int (h x hx)
theorem noDict_ints : ∀ xs : List Int, PyData.hasDictAll (xs.map PyData.int) = false
  | [] => rfl
  | x :: xs => by simp only [List.map_cons, PyData.hasDictAll, PyData.hasDict, noDict_ints xs, Bool.or_self]
theorem elP_tupI {xs : List Int} (h : H a = some (.tup (xs.map V.int))) (hl : xs.length ≤ 3) (hx : ∀ x ∈ xs, x.natAbs.log2 < 1920) : ElP K H (.ref a) :=
  ⟨_, (Sx.tuple (sx_ints hx)).more (by rw [List.length_map]; omega) (by decide), dp_tup (SqT.of h), by simp only [PyData.hasDict, noDict_ints]⟩
theorem elP_lstI {xs : List Int} (h : H a = some (.lst (xs.map V.int))) (hl : xs.length ≤ 3) (hx : ∀ x ∈ xs, x.natAbs.log2 < 1920) : ElP K H (.ref a) :=
  ⟨_, (Sx.list (sx_ints hx)).more (by rw [List.length_map]; omega) (by decide), dp_lst (SqL.of h), by simp only [PyData.hasDict, noDict_ints]⟩
theorem elP_all : ∀ {ys : List V}, (∀ y ∈ ys, ElP K H y) → ∃ ds, DpAll K H ys ds ∧ (∀ d ∈ ds, Sx 8000 1 d) ∧ PyData.hasDictAll ds = false ∧ ds.length = ys.length
  | [], _ => ⟨[], .nil, fun _ z => (nomatch z), rfl, rfl⟩
  | y :: ys, h => by
    obtain ⟨ds, h1, h2, h3, h4⟩ := elP_all (ys := ys) fun z m => h z (List.mem_cons_of_mem _ m)
    obtain ⟨d, k1, k2, k3⟩ := h y List.mem_cons_self
    refine ⟨d :: ds, .cons k2 h1, fun e m => ?_, by simp only [PyData.hasDictAll, k3, h3, Bool.or_self], by rw [List.length_cons, List.length_cons, h4]⟩
    rcases List.mem_cons.mp m with rfl | m
    · exact k1
    · exact h2 e m
theorem elD_all : ∀ {ys : List V}, (∀ y ∈ ys, ElD K H y) → ∃ ds, DdAll K H ys ds ∧ (∀ d ∈ ds, Sx 8000 1 d) ∧ ds.length = ys.length
  | [], _ => ⟨[], .nil, fun _ z => (nomatch z), rfl⟩
  | y :: ys, h => by
    obtain ⟨ds, h1, h2, h4⟩ := elD_all (ys := ys) fun z m => h z (List.mem_cons_of_mem _ m)
    obtain ⟨d, k1, k2⟩ := h y List.mem_cons_self
    refine ⟨d :: ds, .cons k2 h1, fun e m => ?_, by rw [List.length_cons, List.length_cons, h4]⟩
    rcases List.mem_cons.mp m with rfl | m
    · exact k1
    · exact h2 e m
theorem shw_el (h : ElP K H x) : ∃ d, Shw K H x d := let ⟨d, h1, h2, h3⟩ := h; ⟨d, h1.more (by decide) (by decide), .inl ⟨h2, h3⟩⟩
theorem shw_elD (h : ElD K H x) : ∃ d, Shw K H x d := let ⟨d, h1, h2⟩ := h; ⟨d, h1.more (by decide) (by decide), .inr h2⟩
theorem shw_tup {ys : List V} (h : H a = some (.tup ys)) (hl : ys.length ≤ 5) (hy : ∀ y ∈ ys, ElP K H y) : ∃ d, Shw K H (.ref a) d := by
  obtain ⟨ds, h1, h2, h3, h4⟩ := elP_all hy
  exact ⟨_, (Sx.tuple h2).more (by omega) (by decide), .inl ⟨.tup (SqT.of h) h1, by simp only [PyData.hasDict, h3]⟩⟩
theorem shw_lst {ys : List V} (h : H a = some (.lst ys)) (hl : ys.length ≤ 5) (hy : ∀ y ∈ ys, ElP K H y) : ∃ d, Shw K H (.ref a) d := by
  obtain ⟨ds, h1, h2, h3, h4⟩ := elP_all hy
  exact ⟨_, (Sx.list h2).more (by omega) (by decide), .inl ⟨.lst (SqL.of h) h1, by simp only [PyData.hasDict, h3]⟩⟩
theorem shw_tupD {ys : List V} (h : H a = some (.tup ys)) (hl : ys.length ≤ 5) (hy : ∀ y ∈ ys, ElD K H y) : ∃ d, Shw K H (.ref a) d := by
  obtain ⟨ds, h1, h2, h4⟩ := elD_all hy
  exact ⟨_, (Sx.tuple h2).more (by omega) (by decide), .inr (.tup (SqT.of h) h1)⟩
end
def rShwX (K : PySem.W.Frag) : List V → Hp → VK → Prop := fun xs H Q => ∃ (v : V) (d : PyData), xs = [v] ∧ Shw K H v d ∧ Q (.str d.shown) H
def rStrI : List V → Hp → VK → Prop := fun xs H Q => ∃ i : Int, xs = [.int i] ∧ i.natAbs.log2 < 1920 ∧ Q (.str (toString i)) H
section
variable {X : Cx}
theorem call_strI : CallR X (.type "str") rStrI := call_str_int
theorem call_shwX (hA : Clr X.A) (hu : X.A.units + 64 < cLine) : CallR X (.builtin "repr") (rShwX X.K) := by
  intro pn s σ H xs us Q J r h
  obtain ⟨v, d, rfl, ⟨sx, hd | hd⟩, q⟩ := h
  · exact call_shw hA hu pn s σ H [v] us Q J r ⟨v, d, rfl, hd.1, sx.a, hd.2, sx.c, small_line sx.d, q⟩
  obtain ⟨u, rfl, r1⟩ := vals1 r
  have h3 := sx.c
  have h1 := sx.a
  have h4 := small_line sx.d
  have big : ∀ a, v = .ref a → wpAny (model X.prog X.w) X.A (call (.builtin "repr") [u]) (EP X pn σ Q) X.xe s := by
    intro a e
    subst e
    cases r1
    obtain ⟨as, rd, na⟩ := Dd.reads J d _ _ hd rfl
    exact repr_of_reads' rd h1 (fun _ => na) hA (by omega) (fun _ _ z => z) (fun h' u tk hk => ⟨.str _, H, J.kept hk, ⟨_, rfl⟩, q⟩) h4
  cases hd with
  | non =>
    cases r1
    exact PySem.P.repr_of_none ⟨.str _, H, J.tok _, ⟨_, rfl⟩, q⟩
  | bl b =>
    cases r1
    exact PySem.P.repr_of_bool ⟨.str _, H, J.tok _, ⟨_, rfl⟩, q⟩
  | int i =>
    obtain ⟨t, rfl⟩ := r1
    exact PySem.P.repr_of_int (of_decide_eq_true h1) ⟨.str _, H, J.tok _, ⟨_, rfl⟩, q⟩
  | str x =>
    obtain ⟨t, rfl⟩ := r1
    exact PySem.P.repr_of_str ⟨.str _, H, J.tok _, ⟨_, rfl⟩, q⟩ h4
  | dct h => exact big _ rfl
  | tup h g => exact big _ rfl
end
end GS
/-! a lambda handed to a def, where what it lets out is caught beside the def's own slots; the end of a law with a table -/
namespace GS
open PySem PySem.Spec PyProof.Rows L2 RZ
open LamX (LamS lamEnv lamCx CodeO TabS Tabs TabB ExtN tLam)
section
variable {X : Cx} {pins : List (Addr × Obj)} {σ : L2.St} {H : Hp} {s : Shared}
/-- the context of the def that got the lambda -/
abbrev gotCx (X : Cx) (Ng : List Str) (x : Str) (sg : Scope) (g : Addr) (cdg : Value) (s : Shared) (H : Hp) : Cx := cxOf CX0 X.prog X.w X.K X.mg X.base Ng x sg g cdg X.A X.stack s H E0
theorem pe_actW {Ng : List Str} {x : Str} {sg : Scope} {g fn cc : Addr} {cdg pm ctv : Value} {params : Arguments} {body : Expr} {scope : Scope} {k : Nat} {nm : Str} {tb : XK → TE}
    (J : Inv X pins σ H s) (L : LamS X.env.scope scope)
    (ho : s.heap.get? fn = some (PySem.W.kla_obj "<lambda>" (X.env.qual ++ "<lambda>") params body scope (cloFrom X.env.cells scope.names []) pm cc ctv))
    (nH : H fn = none) (nS : fn ∉ frs X.stack)
    (hb : bindArgs (PySem.W.kla_fn "<lambda>" (X.env.qual ++ "<lambda>") params body scope (cloFrom X.env.cells scope.names []) pm (.ref cc) ctv) ⟨[], []⟩ = pure [])
    (room : Room (k + 1) (X.A.deeper (envOfC x sg s.heap.objs.size g cdg)))
    (hbd : ∀ (E : XK) (A : Around) (fr : List Env) (s : Shared) (H : Hp), Room k (A.deeper (lamEnv X scope s.heap.objs.size fn cc)) → PE (lamCx X A fr s H E scope fn cc) body (tb E))
    (h0 : Ng[0]? = some nm) (hv : Vis sg nm) (n1 : (nm == ("__debug__" : Str)) = false) (n2 : (nm == ("__classdict__" : Str)) = false)
    (W : WX) (pn : List (Addr × Obj)) (xe : Value → Shared → Prop) (p1 p2 : Pos) (tk : Takes ((gotCx X Ng x sg g cdg s H).tr pn xe) W) :
    PE ((gotCx X Ng x sg g cdg s H).tr pn xe) (.Call (.Name nm p1) [] [] p2)
      (fun τ G Q => τ[0]? = some (some (.ref fn)) ∧ G cc = some (CodeO cc (X.env.qual ++ "<lambda>")) ∧ ∃ (E : XK) (R : VK), (∀ cls d G', E cls d G' → W cls d τ G') ∧ (∀ v G', R v G' → Q v G') ∧ tb E σ G R) := by
  constructor
  intro pz sz τ G Q JZ hw
  obtain ⟨w1, w2, E, R, wE, wR, w3⟩ := hw
  apply wpAny_Call_Name_kw
  apply thn ((pe_var (pos := p1) (i := 0) h0 hv n1 n2).run pz sz τ G (fun v H1 => v = .ref fn ∧ H1 = G) JZ ⟨.ref fn, w1, rfl, rfl⟩)
  rintro u s1 ⟨v, H1, J1, r1, e1, e2⟩
  subst e1
  rw [e2] at J1
  obtain rfl : u = Value.ref fn := r1
  have o1 := J1.base.keep fn _ ho nH nS fun z => nomatch (show fn ∈ ([] : List Addr) from z)
  apply PySem.W.callWith_F0 ⟨_, _, _, _, o1⟩
  obtain ⟨⟨oc, us, t, c1, c2, c3⟩, _, _⟩ := J1.hok cc _ w2
  have run : codeAny (model X.prog X.w) (X.A.deeper (envOfC x sg s.heap.objs.size g cdg)) (.call (.ref fn) ⟨[], []⟩) (CR (L2.CX X.prog X.w) (envOfC x sg s.heap.objs.size g cdg :: X.stack) X.prog X.w G s1 R E) s1 := by
    apply PySem.W.kla_callFunE room.depth o1 rfl L.co L.gen rfl ⟨cc, oc, us, t, rfl, c1, c2, c3⟩
    rw [hb]
    apply wpAny_pure
    refine wpAny_newFunctionEnv (fun y m => (L.own y m).2) (fun y m => absurd m List.not_mem_nil) ?_ L.kind
    intro h₁ ns sb
    have kp : ∀ b o, s1.heap.get? b = some o → h₁.get? b = some o := fun b o e => sb.extBut b o (Nat.ne_of_lt (Heap.lt_size e)) (Heap.get?_push_of_some _ e)
    refine ⟨J1.nolimit.fresh _ sb, ?_⟩
    change codeAny _ _ (.expr body (lamEnv X scope s1.heap.objs.size fn cc)) _ _
    have JL := LamX.lam_start2 (E := E) (f := fn) (c' := cc) (tk := s1.toks + ([] : List (Str × Value)).length) J L J1.env0 room.hd J1.base ns kp
    apply PySem.W.kla_codeExpr
    apply wpAny_mono ((hbd E _ _ s1 G (room.deeper _)).run [] _ _ G R JL w3) _ fun _ _ z => z
    rintro v s2 ⟨v', G', K1, K2, K3⟩
    exact ⟨v', G', K1.os, K1.bare, K1.base, K1.hok, K2, K3⟩
  apply wpAny_call
  apply codeAny_mono run
  intro r s2 z
  match r, z with
  | .error e, z => exact tk e s2 (XE.of_call J1 (fun cls d G' q => wE cls d G' q) z)
  | .ok (.ret u), ⟨v', G', k1, k2, k3, k4, k5, k6⟩ => exact J1.after ⟨v', G', k1, k2, k3, k4, k5, wR _ _ k6⟩
  | .ok .next, z => exact z.elim
  | .ok .brk, z => exact z.elim
  | .ok .cont, z => exact z.elim
end
/-- TT: what the def makes of the lambda's reading -/
def Makes (X : Cx) (Ng : List Str) (x : Str) (sg : Scope) (g : Addr) (cdg : Value) (bg : List Stmt) (nm q : Str) (TT : (XK → Hp → VK → Prop) → Hp → VK → Prop) : Prop :=
  ∀ (fn cc : Addr) (s : Shared) (H : Hp) (Q : VK) (tl : XK → Hp → VK → Prop),
    (∀ (W : WX) (pn : List (Addr × Obj)) (xe : Value → Shared → Prop) (p1 p2 : Pos), Takes ((gotCx X Ng x sg g cdg s H).tr pn xe) W →
      PE ((gotCx X Ng x sg g cdg s H).tr pn xe) (.Call (.Name nm p1) [] [] p2) (fun τ G Q => τ[0]? = some (some (.ref fn)) ∧ G cc = some (CodeO cc q) ∧ ∃ (E : XK) (R : VK), (∀ cls d G', E cls d G' → W cls d τ G') ∧ (∀ v G', R v G' → Q v G') ∧ tl E G R)) →
    H cc = some (CodeO cc q) → TT tl H Q →
    ∃ t, PSs (gotCx X Ng x sg g cdg s H).nox bg t ∧ t { nx := fun _ H' => Q .non H', rt := Q } (start Ng [.ref fn]) H
section
variable {X : Cx}
/-- g(lambda: body) -/
theorem pe_lamW {T : List (Addr × Str)} {TT : (XK → Hp → VK → Prop) → Hp → VK → Prop} {x nm : Str} {g c P : Addr} {k : Nat} {st : Stmt} {fd : FuncData} {Ng : List Str} {params : Arguments} {body : Expr} {scope : Scope} {t : XK → TE} {p lpos pos : Pos}
    (F : Fun X.K x x st g fd) (hg : Gl X x) (hm : X.mg x = some (.ref g)) (hb : Binds X.K fd [nm] []) (Sg : FnScope Ng [nm] (defScope st)) (h0 : Ng[0]? = some nm) (hv : Vis (defScope st) nm)
    (hG : ∀ cdg, Makes X Ng x (defScope st) g cdg (defBody st) nm (X.env.qual ++ "<lambda>") TT)
    (TB : TabB X.base X.mg c P) (hc : X.env.code = .ref c) (hT : (P, X.env.qual ++ "<lambda>") ∈ T) (hU : ∀ z ∈ T, z.1 = P → z.2 = X.env.qual ++ "<lambda>") (room : Room (k + 2) X.A) (L : LamS X.env.scope scope) (hdef : defaultsOf params X.env = ([], []))
    (hbi : ∀ (q : Str) (cl : List (Str × Addr)) (pm cv ctv : Value), bindArgs (PySem.W.kla_fn "<lambda>" q params body scope cl pm cv ctv) ⟨[], []⟩ = pure [])
    (hbd : ∀ (E : XK) (A : Around) (fr : List Env) (s : Shared) (H : Hp) (fn cc : Addr), Room k (A.deeper (lamEnv X scope s.heap.objs.size fn cc)) → PE (lamCx X A fr s H E scope fn cc) body (t E))
    (hdb : (x == ("__debug__" : Str)) = false := by decide) (n1 : (nm == ("__debug__" : Str)) = false := by decide) (n2 : (nm == ("__classdict__" : Str)) = false := by decide) :
    PE X (.Call (.Name x p) [.Lambda params body scope lpos] [] pos) (tLam T TT t) := by
  obtain ⟨oc, od, kV, doc, pm, an, cdv, ct, osl, rfl, lk, hcd⟩ := F.ex
  constructor
  intro pins s σ H Q J hw
  apply wpAny_Call_Name_kw
  apply ld_glob J hg hm _ hdb
  refine PySem.W.callWith_K (h₀ := X.base) J.ok.mod.kin F.kp ?_ (by rfl) (by rfl)
  change wpAny _ _ (spliced ((false, eval (.Lambda params body scope lpos) X.env) :: backTo pos (starEach [] X.env))) _ _ s
  apply Calls.spliced_cons
  apply LamX.lam_make2 J TB hc hT hU hw.1 hdef (L.has J.ok)
  intro fn cc pm' ctv H1 s1 J1 eN T1 of nf fr hco
  refine Calls.spliced_nil ⟨J1.kIn, ?_⟩
  apply wpAny_call
  have run : codeAny (model X.prog X.w) X.A (.call (.ref g) ⟨[.ref fn], []⟩) (CR CX0 X.stack X.prog X.w H1 s1 Q E0) s1 := by
    apply LamX.run_ofS (N := Ng) (ps := [nm]) (us := [.ref fn]) (vs := [.ref fn]) lk hcd Sg room J1.env0 (hb s1 [.ref fn] J1.kIn rfl) (.cons rfl .nil) rfl
    intro room'
    obtain ⟨t', a1, a2⟩ := hG cdv fn cc s1 H1 Q (fun E H' Q' => t E σ H' Q') (fun W pn xe p1 p2 tk => pe_actW J1 L of nf fr (hbi _ _ _ _ _) room' (fun E A fr s H r => hbd E A fr s H fn cc r) h0 hv n1 n2 W pn xe p1 p2 tk) hco (hw.2 H1 eN T1)
    exact ⟨t', a1.nox, a2⟩
  apply codeAny_mono run
  intro r s2 z
  match r, z with
  | .error _, z => exact (show False from z).elim
  | .ok (.ret u), z => exact J1.after z
  | .ok .next, z => exact z.elim
  | .ok .brk, z => exact z.elim
  | .ok .cont, z => exact z.elim
end
section
variable {P : Program} {w : World} {K : PySem.W.Frag} {mg : Str → Option Value} {base : Heap}
/-- the table of a def's code object stands ready -/
structure Tb (base : Heap) (mg : Str → Option Value) (fd : FuncData) (T : Addr) : Prop where
  ex : ∃ c, fd.code = .ref c ∧ TabB base mg c T
/-- okG, with the def's code object -/
theorem okGT {x qual : Str} {st : Stmt} {f : Addr} {fd : FuncData} {N ps : List Str} {k : Nat} {sp : Sp} (F : Fun K x qual st f fd)
    (S : FnScope N ps (defScope st)) (num : ∀ vs H Q E, sp vs H Q E → vs.length = ps.length)
    (hb : ∀ (cdv : Value) (A : Around) (fr : List Env) (s : Shared) (H : Hp) (vs : List V) (Q : VK) (E : XK), fd.code = cdv → Clr A →
      Room k (A.deeper (envOfC qual (defScope st) s.heap.objs.size f cdv)) → sp vs H Q E →
      ∃ t, PSs (cxOf CX0 P w K mg base N qual (defScope st) f cdv A fr s H E).nox (defBody st) t ∧ t { nx := fun _ H' => Q .non H', rt := Q } (start N vs) H) :
    FnG P w K mg base (k + 1) f fd ps sp := by
  obtain ⟨oc, od, kV, doc, pm, an, cdv, ct, osl, rfl, lk, hcd⟩ := F.ex
  refine ⟨num, ?_⟩
  intro A fr s H ar us vs Q E hA hr e0 hbd r hsp
  have kept : ∀ b o, base.get? b = some o → s.heap.get? b = some o := fun b o z => (e0.bs b o z).1
  have hK := e0.mod.kin.keeps kept
  refine codeAny_call_function hr.depth (hK _ _ lk) rfl S.co S.gen rfl (PySem.W.codeRec_of hK hcd) (hbd _ _ _ _ ?_)
  refine wpAny_newFunctionEnv_cells S.kind ?_ ?_
  · rintro ⟨n, v⟩ hy
    exact (S.par n (List.of_mem_zip hy).1).imp (fun z => z) fun z => ⟨z, PySem.W.cellsFrom_some _ _ _ (.inl z)⟩
  intro env he s1 ic
  subst he
  refine ⟨(e0.mod.nolimit.keeps kept).keeps ic.toInCall.keep, codeAny_func ?_⟩
  obtain ⟨t, ht, hq⟩ := hb cdv A fr s H vs Q E rfl hA (hr.deeper _) hsp
  have J : Inv (cxOf CX0 P w K mg base N qual (defScope st) f cdv A fr s H E) [] (start N vs) H s1 := inv_start S hr.hd e0 (num _ _ _ _ hsp) r ic
  apply wpAny_mono (ht.nox.run [] s1 (start N vs) H _ J hq) _ fun _ _ z => z
  intro fl s' z
  match fl, z with
  | .ret u, ⟨v, σ', H', J', rv, q⟩ => exact ⟨v, H', J'.os, J'.bare, J'.base, J'.hok, rv, q⟩
  | .next, ⟨σ', H', J', q⟩ => exact ⟨.non, H', J'.os, J'.bare, J'.base, J'.hok, rfl, q⟩
  | .brk, ⟨_, _, _, q⟩ => exact q.elim
  | .cont, ⟨_, _, _, q⟩ => exact q.elim
end
/-- the script, locked, and empty tables -/
def tabH (K : PySem.W.Frag) (a : Addr) (vs : List Value) (ns : List Int) (ts : List Addr) : Hp := fun b => if b ∈ ts then some (.tbl #[]) else scriptH K a vs ns b
abbrev emptyT : Obj := { cls := .none, data := .fields #[] }
theorem lawGT {P : Program} {w : World} {K : PySem.W.Frag} {mg mb : Str → Option Value} {k : Nat} {fa a : Addr} {fd : FuncData} {x : Str} {sp : Sp} {s₁ : Shared} {vs : List Value} {ns : List Int} {cs : List (Addr × Addr)}
    (KX : K.In s₁.heap) (g1 : s₁.heap.Ns mainGlobals mg) (g2 : s₁.heap.Ns builtinsNs mb) (g3 : ∀ x : Str, x ≠ "__name__" → mb x = bootBuiltins x) (g4 : s₁.heap.NoLimit) (g5 : s₁.gens = #[])
    (tT : ∀ p ∈ cs, s₁.heap.get? p.2 = some emptyT) (tN : ∀ p ∈ cs, K.lookup p.2 = none) (tC : ∀ p ∈ cs, PySem.W.CodeHd s₁.heap p.1 p.2)
    (tB : ∃ (bm : Addr) (ob : Obj), mg "__builtins__" = some (.ref bm) ∧ bm ≠ builtinsNs ∧ s₁.heap.get? bm = some ob ∧ ob.cls = .type "module" ∧ ob.dict = some builtinsNs ∧ ob.data = .plain)
    (ha : s₁.heap.get? a = some { cls := .type "list", data := .seq vs.toArray }) (hi : IntsAre vs ns) (hl : ns.length ≤ sizeLine) (hr : Room k callerA)
    (F : ∀ base : Heap, K.In base → base.Ns mainGlobals mg → (∀ p ∈ cs, TabB base mg p.1 p.2) → FnG P w K mg base k fa fd [x] sp) (hbd : ∀ (s : Shared) (u : Value), BindsTo s fd ⟨[u], []⟩ [(x, u)])
    (hsp : ∀ H : Hp, (∀ p ∈ cs, H p.2 = some (.tbl #[])) → SqL K H a (ns.map V.int) → sp [.ref a] H (fun v _ => v = .bl true) E0) :
    codeAny (model P w) callerA (.call (.ref fa) ⟨[.ref a], []⟩) (fun r s' => r = .ok (.ret (.bool true)) ∧ OldK s₁.heap s'.heap ∧ s'.os = s₁.os ∧ AllBare s'.gens) s₁ := by
  have rv : Vals (ns.map V.int) vs := vals_ints hi
  have n1 : vs.length = ns.length := hi.length
  let ts := cs.map (·.2)
  have isT : ∀ b, b ∈ ts → s₁.heap.get? b = some emptyT := fun b hb => by
    obtain ⟨p, hp, rfl⟩ := List.mem_map.mp hb
    exact tT p hp
  have noK : ∀ b, b ∈ ts → K.lookup b = none := fun b hb => by
    obtain ⟨p, hp, rfl⟩ := List.mem_map.mp hb
    exact tN p hp
  have inT : ∀ p ∈ cs, p.2 ∈ ts := fun p hp => List.mem_map.mpr ⟨p, hp, rfl⟩
  have aT : a ∉ ts := fun z => by
    have e := isT a z
    rw [ha] at e
    cases e
  let H := tabH K a vs ns ts
  have H1 : ∀ {b : Addr} {o : HO}, H b = some o → (b ∈ ts ∧ o = .tbl #[]) ∨ (b = a ∧ K.lookup a = none ∧ o = .frz { cls := .type "list", data := .seq vs.toArray } (.lst (ns.map V.int))) := by
    intro b o z
    by_cases c : b ∈ ts
    · have z2 : (if b ∈ ts then some (HO.tbl #[]) else scriptH K a vs ns b) = some o := z
      rw [if_pos c] at z2
      exact .inl ⟨c, (Option.some.inj z2).symm⟩
    · have z2 : (if b ∈ ts then some (HO.tbl #[]) else scriptH K a vs ns b) = some o := z
      rw [if_neg c] at z2
      exact .inr (scriptH_some z2)
  have HT : ∀ p ∈ cs, H p.2 = some (.tbl #[]) := fun p hp => if_pos (inT p hp)
  have hok : HOk P w H s₁.heap := by
    intro b o z
    rcases H1 z with ⟨c, rfl⟩ | ⟨rfl, _, rfl⟩
    · exact isT b c
    · exact ⟨ha, by rw [List.length_map]; exact hl, vs, _, rv, ha⟩
  have hS : SqL K H a (ns.map V.int) := by
    cases c : K.lookup a with
    | none =>
      have e : H a = scriptH K a vs ns a := if_neg aT
      exact .inl (.inr ⟨_, e.trans (if_pos ⟨rfl, c⟩)⟩)
    | some o =>
      have z := KX a o c
      rw [ha] at z
      cases z
      exact .inr ⟨_, vs.toArray, _, c, rfl, rfl, rfl, by rw [List.size_toArray, n1]; exact hl, by simpa using rv⟩
  have away : ∀ {b : Addr} {o : Obj}, s₁.heap.get? b = some o → ((∀ q n, o.data ≠ .seq q n) ∧ o.data ≠ .fields #[]) ∨ K.lookup b ≠ none → H b = none := by
    intro b o z hb
    cases q : H b with
    | none => rfl
    | some u =>
      rcases H1 q with ⟨c, rfl⟩ | ⟨rfl, c, rfl⟩
      · rw [isT b c] at z
        cases z
        rcases hb with hb | hb
        · exact absurd rfl hb.2
        · exact absurd (noK b c) hb
      · rw [ha] at z
        cases z
        rcases hb with hb | hb
        · exact absurd rfl (hb.1 _ _)
        · exact absurd c hb
  have nsK : ∀ {b : Addr} {m : Str → Option Value}, s₁.heap.Ns b m → (hidT s₁.heap H).Ns b m := by
    rintro b m ⟨o, es, ep, z, d, r⟩
    exact ⟨o, es, ep, hidT_get z (away z (.inl ⟨fun q n y => (by rw [d] at y; cases y), fun y => by rw [d] at y; cases y⟩)), d, r⟩
  have hKb : K.In (hidT s₁.heap H) := fun b o z => hidT_get (KX b o z) (away (KX b o z) (.inr (by rw [z]; exact Option.some_ne_none _)))
  have TB : ∀ p ∈ cs, TabB (hidT s₁.heap H) mg p.1 p.2 := by
    intro p hp
    have tp := tT p hp
    constructor
    · obtain ⟨o, us, y1, y2, y3, y4, y5, y6, y7, z1, z2, z3, z4, z5⟩ := tC p hp
      exact ⟨o, us, y1, y2, y3, y4, y5, y6, y7, hidT_get z1 (away z1 (.inl ⟨fun q n y => (by rw [z3] at y; cases y), fun y => by rw [z3] at y; cases y; simp at z4⟩)), z2, z3, z4, z5⟩
    · obtain ⟨bm, ob, b1, b2, b3, b4, b5, b6⟩ := tB
      refine ⟨bm, ob, b1, b2, ?_, ?_, hidT_get b3 (away b3 (.inl ⟨fun q n y => (by rw [b6] at y; cases y), fun y => by rw [b6] at y; cases y⟩)), b4, b5, b6⟩
      · intro e
        obtain ⟨o, es, ep, z, d, _⟩ := g1
        rw [← e, b3] at z
        cases z
        rw [b6] at d
        cases d
      · intro e
        rw [e, tp] at b3
        cases b3
        cases b6
    · intro e
      obtain ⟨o, es, ep, z, d, _⟩ := g1
      rw [e, tp] at z
      cases z
      cases d
  obtain ⟨mc, g6, g7⟩ := g4
  have e0 : Env0 P w K mg (hidT s₁.heap H) callerA [] s₁ H := {
    frames := rfl
    mod := ⟨hKb, nsK g1, ⟨mb, nsK g2, g3⟩, ⟨mc, nsK g6, g7⟩⟩
    bs := fun b o z => of_hidT z
    bsz := Nat.le_of_eq (hidT_size _ _)
    funs := trivial
    frf := fun b z => absurd (show b ∈ ([] : List Addr) from z) List.not_mem_nil
    hok := hok
    bare := .of_eq g5 }
  apply codeAny_mono ((F _ hKb (nsK g1) TB).go callerA [] s₁ H ⟨[.ref a], []⟩ [.ref a] [.ref a] _ _ rfl hr e0 (hbd s₁ (.ref a)) (.cons rfl .nil) (hsp H HT hS))
  intro r s' z
  match r, z with
  | .error _, z => exact z.elim
  | .ok .next, z => exact z.elim
  | .ok .brk, z => exact z.elim
  | .ok .cont, z => exact z.elim
  | .ok (.ret u), ⟨v, H', os, bare, un, hok', r', q⟩ =>
    obtain rfl : v = .bl true := q
    obtain rfl : u = Value.bool true := r'
    have kept : ∀ b o, b ∉ ts → s₁.heap.get? b = some o → s'.heap.get? b = some o := by
      intro b o nb z
      cases c : H b with
      | none => exact un.keep b o z c (fun y => absurd (show b ∈ ([] : List Addr) from y) List.not_mem_nil) List.not_mem_nil
      | some o' =>
        rcases H1 c with ⟨c0, _⟩ | ⟨_, _, rfl⟩
        · exact absurd c0 nb
        have c1 := (hok b _ c).1
        have c2 := (hok' b _ (un.frzs b _ _ c)).1
        rw [z] at c1
        cases c1
        exact c2
    have grown : ∀ p ∈ cs, ∃ more : Array Value, s'.heap.get? p.2 = some { cls := .none, data := .fields more } := by
      intro p hp
      obtain ⟨more, y⟩ := un.tbls p.2 #[] (HT p hp)
      exact ⟨_, hok' p.2 _ y⟩
    refine ⟨rfl, ⟨?_, ?_⟩, os, bare⟩
    · intro b o z
      by_cases c : b ∈ ts
      · obtain ⟨p, hp, rfl⟩ := List.mem_map.mp c
        obtain ⟨more, y⟩ := grown p hp
        rw [tT p hp] at z
        cases z
        right
        left
        exact ⟨((tC p hp).tab (tT p hp)).isCodeTable, rfl, #[], more, rfl, by rw [Array.empty_append]; exact y⟩
      · exact .inl (kept b o c z)
    · intro b o z
      by_cases c : b ∈ ts
      · obtain ⟨p, hp, rfl⟩ := List.mem_map.mp c
        obtain ⟨more, y⟩ := grown p hp
        exact ⟨_, y⟩
      · exact ⟨o, kept b o c z⟩
/-- what stands of a def's table behind the top -/
def Tops (q : Program) (mg : Str → Option Value) (h : Heap) : Prop := ∀ nm : Str, ((recsOf q).any fun e => e.name == nm) = true → ∃ a o fd c P, mg nm = some (.ref a) ∧ h.get? a = some o ∧ o.data = .func fd ∧ fd.code = .ref c ∧ h.IsCode c P #[] ∧ h.TableAt c P #[]
theorem tops_at {q : Program} {mg : Str → Option Value} {h : Heap} {K : PySem.W.Frag} {nm : Str} {f c T : Addr} {oc e : Value} {od d : Option Addr} {fd : FuncData} {sl sl' : Array (Option Value)} {us : Array Value}
    (X : K.In h) (t : Tops q mg h) (hr : ((recsOf q).any fun e => e.name == nm) = true) (hm : mg nm = some (.ref f)) (lk : K.lookup f = some ⟨oc, od, .func fd, sl⟩) (hc : fd.code = .ref c) (lc : K.lookup c = some ⟨e, d, .fields us, sl'⟩) (h11 : us[11]? = some (.ref T)) :
    h.get? T = some emptyT ∧ PySem.W.CodeHd h c T := by
  obtain ⟨a, o, fd', c', T', h1, h2, h3, h4, h5, h6⟩ := t nm hr
  rw [hm] at h1
  cases h1
  rw [X _ _ lk] at h2
  cases h2
  cases h3
  rw [hc] at h4
  cases h4
  have h7 := PySem.W.CodeHd.of h5 h6
  obtain ⟨⟨o2, us2, e1, _, e3, e4⟩, h8⟩ := h6
  rw [X _ _ lc] at e1
  cases e1
  cases e3
  rw [h11] at e4
  cases e4
  exact ⟨h8, h7⟩
theorem walkGT {l : PySem.W.OpenLaw} {n k : Nat} {q : Program} {loose : List Str} {XP : (Str → Option Value) → Heap → Prop} {YP : World → Heap → Prop} {d : DefRec} {K : Params → PySem.W.Frag} {x : Str}
    (hn : l.most = some n) (hn2 : n ≤ sizeLine) (hdf : d.params.defaults = []) (hr : Room k callerA) (hY : ∀ (w : World) (h : Heap), YP w h → (K w.params).In h)
    (F : ∀ (w : World) (mg : Str → Option Value) (fa : Addr) (h : Heap), (K w.params).In h → h.Ns mainGlobals mg → mg d.name = some (.ref fa) → Tops q mg h →
      ∃ (fd : FuncData) (cs : List (Addr × Addr)) (sp : Sp), (∀ (s : Shared) (u : Value), BindsTo s fd ⟨[u], []⟩ [(x, u)]) ∧ (∀ p ∈ cs, h.get? p.2 = some emptyT) ∧ (∀ p ∈ cs, (K w.params).lookup p.2 = none) ∧ (∀ p ∈ cs, PySem.W.CodeHd h p.1 p.2) ∧
        (∀ base : Heap, (K w.params).In base → base.Ns mainGlobals mg → (∀ p ∈ cs, TabB base mg p.1 p.2) → FnG l.prog w (K w.params) mg base k fa fd [x] sp) ∧
        ∀ (H : Hp) (a : Addr) (ns : List Int), ns.length ≤ n → (∀ p ∈ cs, H p.2 = some (.tbl #[])) → SqL (K w.params) H a (ns.map V.int) → sp [.ref a] H (fun v _ => v = .bl true) E0) :
    PySem.W.WalkO q loose XP YP l.row.toRowW d [] (fun f vs => PySem.call f vs) := by
  apply Att.attach_call hn hdf
  intro w s₀ s₁ mg mb fa o pm cd doc a vs ns G Y ho hd hcd hmg hobj hints hlen hg
  have tp : Tops q mg s₁.heap := by
    intro nm z
    obtain ⟨dr, m1, m2⟩ := List.any_eq_true.mp z
    have y := G.T.tab dr m1
    rw [beq_iff_eq.mp m2] at y
    exact y
  obtain ⟨fd, cs, sp, hb, t1, t2, t3, hF, hsp⟩ := F w mg fa _ (hY w _ Y) G.T.g hmg tp
  exact lawGT (hY w _ Y) G.T.g G.T.b G.T.builtins G.T.nolimit hg t1 t2 t3 G.T.bmain hobj hints (Nat.le_trans hlen hn2) hr hF hb fun H h1 h2 => hsp H a ns hlen h1 h2
end GS
/-! max and min of a tuple of ints -/
namespace GS
open PySem PySem.Spec PyProof.Rows L2 RZ
theorem holds_each {h : Heap} : ∀ {vs : List Value} {ns : List Int}, IntsAre vs ns → PySem.W.HoldAll h vs ns := by
  intro vs ns hi
  induction hi with
  | nil => exact PySem.W.HoldAll.nil
  | cons n t _ ih => exact PySem.W.HoldAll.cons (PySem.W.holds_int _ _) ih
theorem maxOf_ge : ∀ (ys : List Int) (y : Int), y ≤ PySem.W.maxOf y ys ∧ (∀ z ∈ ys, z ≤ PySem.W.maxOf y ys) ∧ (PySem.W.maxOf y ys = y ∨ PySem.W.maxOf y ys ∈ ys)
  | [], y => ⟨Int.le_refl _, fun z h => absurd h List.not_mem_nil, .inl rfl⟩
  | x :: xs, y => by
    obtain ⟨c, hc, hc1, hc2, hc3⟩ : ∃ c : Int, PySem.W.maxOf y (x :: xs) = PySem.W.maxOf c xs ∧ y ≤ c ∧ x ≤ c ∧ (c = y ∨ c = x) := by
      by_cases c : y < x
      · refine ⟨x, ?_, by omega, by omega, .inr rfl⟩
        show xs.foldl _ (if decide (y < x) = true then x else y) = _
        rw [decide_eq_true c]
        rfl
      · refine ⟨y, ?_, by omega, by omega, .inl rfl⟩
        show xs.foldl _ (if decide (y < x) = true then x else y) = _
        rw [decide_eq_false c]
        rfl
    rw [hc]
    obtain ⟨h1, h2, h3⟩ := maxOf_ge xs c
    refine ⟨by omega, fun z hz => ?_, ?_⟩
    · rcases List.mem_cons.mp hz with rfl | hz
      · omega
      · exact h2 z hz
    · rcases h3 with h3 | h3
      · rw [h3]
        rcases hc3 with rfl | rfl
        · exact .inl rfl
        · exact .inr List.mem_cons_self
      · exact .inr (List.mem_cons_of_mem _ h3)
def rMaxT (K : PySem.W.Frag) : List V → Hp → VK → Prop := fun vs H Q => ∃ (a : Addr) (ns : List Int), vs = [V.ref a] ∧ SqT K H a (ns.map V.int) ∧ 0 < ns.length ∧ ∀ m, m ∈ ns → (∀ y, y ∈ ns → y ≤ m) → Q (.int m) H
section
variable {X : Cx}
theorem cr_maxT (hc : X.calm = true) (hu : X.A.units + 64 < cLine) : CallR X (.builtin "max") (rMaxT X.K) := by
  intro pins s σ H vs us Q I r h
  obtain ⟨a, ns, rfl, hs, hn, q⟩ := h
  obtain rfl := Vals.ref1 r
  obtain ⟨its, rv, hl, _⟩ := I.tuple hs
  cases ns with
  | nil => exact absurd hn (by decide)
  | cons y ys =>
    refine PySem.W.max_tuple_datum (α := Int) (I.ok.hd hc) hl (holds_each rv.ints) (by show X.A.units + 1 + 0 < cLine; omega) ?_
    intro i v h' tk _ hv hk
    obtain ⟨as, rd⟩ := hv
    have : ∃ t, v = .int (PySem.W.maxOf y ys) t := by
      cases rd with
      | int n t => exact ⟨t, rfl⟩
    obtain ⟨t, rfl⟩ := this
    obtain ⟨h1, h2, h3⟩ := maxOf_ge ys y
    refine ⟨.int _, H, I.kept hk, ⟨_, rfl⟩, q _ ?_ ?_⟩
    · rcases h3 with h3 | h3
      · rw [h3]
        exact List.mem_cons_self
      · exact List.mem_cons_of_mem _ h3
    · intro z hz
      rcases List.mem_cons.mp hz with rfl | hz
      · exact h1
      · exact h2 z hz
end
end GS
/-! repr of a list that has dicts in it, where the list is known not to be the modules' own dict's place -/
namespace GS
open PySem PySem.Spec PyProof.Rows L2 RZ
def ShwL (K : PySem.W.Frag) (H : Hp) (v : V) (d : PyData) : Prop :=
  Shw K H v d ∨ (Sx 100000 60 d ∧ ∃ (a : Addr) (xs : List V) (ds : List PyData), v = .ref a ∧ a ≠ sysModules ∧ SqL K H a xs ∧ DdAll K H xs ds ∧ d = .list ds)
theorem ShwL.keep {K : PySem.W.Frag} {H H' : Hp} {v : V} {d : PyData} (h : ShwL K H v d) (s : KeepN H H') : ShwL K H' v d := by
  rcases h with h | ⟨h, a, xs, ds, e, na, h1, h2, h3⟩
  · exact .inl (h.keep s)
  · exact .inr ⟨h, a, xs, ds, e, na, sqL_keep h1 s, DdAll.keep s ds xs h2, h3⟩
def rShwL (K : PySem.W.Frag) : List V → Hp → VK → Prop := fun xs H Q => ∃ (v : V) (d : PyData), xs = [v] ∧ ShwL K H v d ∧ Q (.str d.shown) H
def rCatF : R2 := fun x y H Q => ∃ l b xs zs, x = .ref l ∧ y = .ref b ∧ H l = some (.lst xs) ∧ H b = some (.lst zs) ∧ xs.length + zs.length ≤ sizeLine ∧ ∀ p, H p = none → p ≠ sysModules → Q (.ref p) (upd H p (.lst (xs ++ zs)))
section
variable {X : Cx}
theorem size_gt {pins : List (Addr × Obj)} {σ : L2.St} {H : Hp} {s : Shared} (I : Inv X pins σ H s) : s.heap.objs.size ≠ sysModules := by
  obtain ⟨o, es, ep, h1, _⟩ := I.mod.glob
  have h2 := Heap.lt_size (I.bk _ _ h1)
  have h3 : (3 : Nat) < s.heap.objs.size := h2
  intro z
  rw [z] at h3
  exact absurd h3 (by decide)
theorem op_catF : OpR X (binaryOp .Add) rCatF := by
  intro pn s σ H x y v u Q J rx ry h
  obtain ⟨l, b, xs, zs, rfl, rfl, hl, hb, hz, q⟩ := h
  cases rx
  cases ry
  obtain ⟨_, us, m, r1, n1, o1⟩ := J.lstM hl
  obtain ⟨_, ws, m', r2, n2, o2⟩ := J.lstM hb
  refine PySem.P.add_list o1 o2 ?_ (by rw [List.size_toArray, List.size_toArray]; omega)
  · rw [show us.toArray ++ ws.toArray = (us ++ ws).toArray from by simp]
    exact ⟨.ref _, _, J.lnew (t' := s.toks) (r1.append r2) (by rw [List.length_append]; omega), rfl, q _ J.fresh (size_gt J)⟩
theorem call_shwL (hA : Clr X.A) (hu : X.A.units + 64 < cLine) : CallR X (.builtin "repr") (rShwL X.K) := by
  intro pn s σ H xs us Q J r h
  obtain ⟨v, d, rfl, h | ⟨sx, a, zs, ds, rfl, na, hs, hd, rfl⟩, q⟩ := h
  · exact call_shwX hA hu pn s σ H [v] us Q J r ⟨v, d, rfl, h, q⟩
  obtain ⟨u, rfl, r1⟩ := vals1 r
  cases r1
  obtain ⟨its, rv, ⟨o, n, ho, hc, _, hdt⟩, _⟩ := J.list hs
  obtain ⟨as, hr, nas⟩ := Dd.readsAll J ds _ its hd rv
  have h3 := sx.c
  refine repr_of_reads' (Reads.list ho hc hdt hr) sx.a (fun _ z => ?_) hA (by omega) (fun _ _ z => z) (fun h' u tk hk => ⟨.str _, H, J.kept hk, ⟨_, rfl⟩, q⟩) (small_line sx.d)
  rcases List.mem_cons.mp z with z | z
  · exact na z.symm
  · exact nas z
end
/-- smaller parts, for rows of things -/
def EPa (K : PySem.W.Frag) (H : Hp) (x : V) : Prop := ∃ d, Sx 4000 1 d ∧ Dp K H x d ∧ d.hasDict = false
def EDa (K : PySem.W.Frag) (H : Hp) (x : V) : Prop := ∃ d, Sx 4000 1 d ∧ Dd K H x d
section
variable {K : PySem.W.Frag} {H H' : Hp} {x : V} {a : Addr}
theorem EPa.keep (h : EPa K H x) (s : KeepN H H') : EPa K H' x := let ⟨d, h1, h2, h3⟩ := h; ⟨d, h1, Dp.keep s d x h2, h3⟩
theorem EDa.keep (h : EDa K H x) (s : KeepN H H') : EDa K H' x := let ⟨d, h1, h2⟩ := h; ⟨d, h1, Dd.keep s d x h2⟩
theorem ep_int {i : Int} (h : i.natAbs.log2 < 1920) : EPa K H (.int i) := ⟨_, (Sx.int h).more (by decide) (by decide), .int i, rfl⟩
theorem ed_int {i : Int} (h : i.natAbs.log2 < 1920) : EDa K H (.int i) := ⟨_, (Sx.int h).more (by decide) (by decide), .int i⟩
theorem ep_non : EPa K H .non := ⟨_, ⟨rfl, by decide, by decide +kernel⟩, .non, rfl⟩
theorem ep_bl (b : Bool) : EPa K H (.bl b) := ⟨_, by cases b <;> exact ⟨rfl, by decide, by decide +kernel⟩, .bl b, rfl⟩
theorem ep_str {t : Str} (h : (reprText t).length ≤ 4000) : EPa K H (.str t) := ⟨.str t, ⟨rfl, Nat.zero_le _, h⟩, .str t, rfl⟩
theorem ed_emp (h : H a = some (.dK [])) : EDa K H (.ref a) := ⟨_, Sx.nodict.more (by decide) (by decide), .dct [] h⟩
theorem ed_one {i j : Int} (h : H a = some (.dK [(Sum.inl i, V.int j)])) (hi : i.natAbs.log2 < 1920) (hj : j.natAbs.log2 < 1920) : EDa K H (.ref a) := ⟨_, (Sx.dict1 hi hj).more (by decide) (by decide), .dct [(i, j)] h⟩
theorem ep_tupI {xs : List Int} (h : H a = some (.tup (xs.map V.int))) (hl : xs.length ≤ 2) (hx : ∀ x ∈ xs, x.natAbs.log2 < 1920) : EPa K H (.ref a) :=
  ⟨_, (Sx.tuple (sx_ints hx)).more (by rw [List.length_map]; omega) (by decide), dp_tup (SqT.of h), by simp only [PyData.hasDict, noDict_ints]⟩
theorem ep_lstI {xs : List Int} (h : H a = some (.lst (xs.map V.int))) (hl : xs.length ≤ 2) (hx : ∀ x ∈ xs, x.natAbs.log2 < 1920) : EPa K H (.ref a) :=
  ⟨_, (Sx.list (sx_ints hx)).more (by rw [List.length_map]; omega) (by decide), dp_lst (SqL.of h), by simp only [PyData.hasDict, noDict_ints]⟩
theorem ep_all : ∀ {ys : List V}, (∀ y ∈ ys, EPa K H y) → ∃ ds, DpAll K H ys ds ∧ (∀ d ∈ ds, Sx 4000 1 d) ∧ PyData.hasDictAll ds = false ∧ ds.length = ys.length
  | [], _ => ⟨[], .nil, fun _ z => (nomatch z), rfl, rfl⟩
  | y :: ys, h => by
    obtain ⟨ds, h1, h2, h3, h4⟩ := ep_all (ys := ys) fun z m => h z (List.mem_cons_of_mem _ m)
    obtain ⟨d, k1, k2, k3⟩ := h y List.mem_cons_self
    refine ⟨d :: ds, .cons k2 h1, fun e m => ?_, by simp only [PyData.hasDictAll, k3, h3, Bool.or_self], by rw [List.length_cons, List.length_cons, h4]⟩
    rcases List.mem_cons.mp m with rfl | m
    · exact k1
    · exact h2 e m
theorem ed_all : ∀ {ys : List V}, (∀ y ∈ ys, EDa K H y) → ∃ ds, DdAll K H ys ds ∧ (∀ d ∈ ds, Sx 4000 1 d) ∧ ds.length = ys.length
  | [], _ => ⟨[], .nil, fun _ z => (nomatch z), rfl⟩
  | y :: ys, h => by
    obtain ⟨ds, h1, h2, h4⟩ := ed_all (ys := ys) fun z m => h z (List.mem_cons_of_mem _ m)
    obtain ⟨d, k1, k2⟩ := h y List.mem_cons_self
    refine ⟨d :: ds, .cons k2 h1, fun e m => ?_, by rw [List.length_cons, List.length_cons, h4]⟩
    rcases List.mem_cons.mp m with rfl | m
    · exact k1
    · exact h2 e m
/-- the parts of a thing: none is a dict, or none is a list -/
def Prt (K : PySem.W.Frag) (H : Hp) (ys : List V) : Prop := ys.length ≤ 23 ∧ ((∀ y ∈ ys, EPa K H y) ∨ ∀ y ∈ ys, EDa K H y)
theorem Prt.keep {ys : List V} (h : Prt K H ys) (s : KeepN H H') : Prt K H' ys := ⟨h.1, h.2.imp (fun z y m => (z y m).keep s) fun z y m => (z y m).keep s⟩
theorem prt_tup {ys : List V} (h : H a = some (.tup ys)) (hy : Prt K H ys) : ∃ d, ShwL K H (.ref a) d := by
  have hl := hy.1
  rcases hy.2 with hy | hy
  · obtain ⟨ds, h1, h2, h3, h4⟩ := ep_all hy
    exact ⟨_, .inl ⟨(Sx.tuple h2).more (by omega) (by decide), .inl ⟨.tup (SqT.of h) h1, by simp only [PyData.hasDict, h3]⟩⟩⟩
  · obtain ⟨ds, h1, h2, h4⟩ := ed_all hy
    exact ⟨_, .inl ⟨(Sx.tuple h2).more (by omega) (by decide), .inr (.tup (SqT.of h) h1)⟩⟩
theorem prt_lst {ys : List V} (h : H a = some (.lst ys)) (na : a ≠ sysModules ∨ ∀ y ∈ ys, EPa K H y) (hy : Prt K H ys) : ∃ d, ShwL K H (.ref a) d := by
  have hl := hy.1
  have one : (∀ y ∈ ys, EPa K H y) → ∃ d, ShwL K H (.ref a) d := fun hy => by
    obtain ⟨ds, h1, h2, h3, h4⟩ := ep_all hy
    exact ⟨_, .inl ⟨(Sx.list h2).more (by omega) (by decide), .inl ⟨.lst (SqL.of h) h1, by simp only [PyData.hasDict, h3]⟩⟩⟩
  rcases na with na | na
  · rcases hy.2 with hy | hy
    · exact one hy
    · obtain ⟨ds, h1, h2, h4⟩ := ed_all hy
      exact ⟨_, .inr ⟨(Sx.list h2).more (by omega) (by decide), a, ys, ds, rfl, na, SqL.of h, h1, rfl⟩⟩
  · exact one na
end
end GS
/-! sorted() of tuples of ints of any length, the empty one first -/
namespace GS
open PySem PySem.Spec PyProof.Rows L2 RZ PySem.Calls
def lexL : List Int → List Int → Bool
  | [], [] => false
  | [], _ :: _ => true
  | _ :: _, [] => false
  | x :: xs, y :: ys => if x = y then lexL xs ys else decide (x < y)
theorem firstLt_mp (e r : Nat → Bool) (fin : Bool) (f : Nat → Nat) : ∀ l : List Nat, SeqAt.firstLt e r fin (l.map f) = SeqAt.firstLt (fun j => e (f j)) (fun j => r (f j)) fin l
  | [] => rfl
  | j :: t => by
    have ih := firstLt_mp e r fin f t
    show (if e (f j) = true then SeqAt.firstLt e r fin (t.map f) else r (f j)) = (if e (f j) = true then SeqAt.firstLt (fun j => e (f j)) (fun j => r (f j)) fin t else r (f j))
    rw [ih]
theorem lexL_first : ∀ xs ys : List Int, SeqAt.firstLt (fun j => decide (xs.getD j 0 = ys.getD j 0)) (fun j => decide (xs.getD j 0 < ys.getD j 0)) (decide (xs.length < ys.length)) (List.range (min xs.length ys.length)) = lexL xs ys
  | [], [] => rfl
  | [], _ :: _ => by simp [SeqAt.firstLt, lexL]
  | _ :: _, [] => by simp [SeqAt.firstLt, lexL]
  | x :: xs, y :: ys => by
    have ih := lexL_first xs ys
    have em : min (x :: xs).length (y :: ys).length = min xs.length ys.length + 1 := by
      rw [List.length_cons, List.length_cons]
      omega
    have ed : decide ((x :: xs).length < (y :: ys).length) = decide (xs.length < ys.length) := by
      rw [List.length_cons, List.length_cons]
      exact decide_eq_decide.mpr (by omega)
    rw [em, ed, List.range_succ_eq_map]
    unfold lexL
    by_cases c : x = y
    · rw [if_pos c, SeqAt.firstLt_yes (decide_eq_true (by exact c)), firstLt_mp, ← ih]
      rfl
    · rw [if_neg c, SeqAt.firstLt_no (decide_eq_false (by exact c))]
      rfl
theorem lexL_asym : ∀ xs ys : List Int, lexL xs ys = true → lexL ys xs = false
  | [], [], h => by cases h
  | [], _ :: _, _ => rfl
  | _ :: _, [], h => by cases h
  | x :: xs, y :: ys, h => by
    unfold lexL at h ⊢
    by_cases c : x = y
    · rw [if_pos c] at h
      rw [if_pos c.symm]
      exact lexL_asym xs ys h
    · rw [if_neg c, decide_eq_true_eq] at h
      rw [if_neg (Ne.symm c)]
      exact decide_eq_false (by omega)
theorem lexL_tr : ∀ xs ys zs : List Int, lexL ys xs = false → lexL zs ys = false → lexL zs xs = false
  | [], _, [], _, _ => rfl
  | [], _, _ :: _, _, _ => rfl
  | x :: xs, [], _, h, _ => by cases h
  | x :: xs, y :: ys, [], _, h => by cases h
  | x :: xs, y :: ys, z :: zs, h1, h2 => by
    unfold lexL at h1 h2 ⊢
    by_cases c1 : y = x
    · rw [if_pos c1] at h1
      by_cases c2 : z = y
      · rw [if_pos c2] at h2
        rw [if_pos (c2.trans c1)]
        exact lexL_tr xs ys zs h1 h2
      · rw [if_neg c2, decide_eq_false_iff_not] at h2
        rw [if_neg (fun z1 => c2 (z1.trans c1.symm))]
        exact decide_eq_false (by omega)
    · rw [if_neg c1, decide_eq_false_iff_not] at h1
      by_cases c2 : z = y
      · rw [if_neg (fun z1 => c1 (c2.symm.trans z1))]
        exact decide_eq_false (by omega)
      · rw [if_neg c2, decide_eq_false_iff_not] at h2
        rw [if_neg (by omega)]
        exact decide_eq_false (by omega)
theorem swo_lexL {α : Type} (k : α → List Int) : SrtO.Swo fun x y => lexL (k x) (k y) := ⟨fun x y => lexL_asym _ _, fun x y z => lexL_tr _ _ _⟩
/-- the value is a tuple of these ints -/
def IsTI (h : Heap) (v : Value) (ns : List Int) : Prop := ∃ a us, v = .ref a ∧ h.IsTuple a us ∧ IntsAre us.toList ns
section
variable {prog : Program} {w : World} {A : Around} {E : Value → Shared → Prop} {s : Shared}
theorem one_tups {v u : Value} {ns ms : List Int} {Q : Bool → Shared → Prop} (h1 : IsTI s.heap v ns) (h2 : IsTI s.heap u ms) (hu : A.units < cLine) (hq : Q (lexL ns ms) s) : wpAny (model prog w) A (oneLt' true v u) Q E s := by
  obtain ⟨l, us, rfl, p1, j1⟩ := h1
  obtain ⟨b, vs, rfl, p2, j2⟩ := h2
  have n1 : us.size = ns.length := by rw [← Array.length_toList]; exact j1.length
  have n2 : vs.size = ms.length := by rw [← Array.length_toList]; exact j2.length
  have at1 : ∀ j (hj : j < us.size), ∃ t, us[j] = .int (ns.getD j 0) t := fun j hj => PyProof.Rows.IntsAre.int_at j1 _ _ (by simp [hj])
  have at2 : ∀ j (hj : j < vs.size), ∃ t, vs[j] = .int (ms.getD j 0) t := fun j hj => PyProof.Rows.IntsAre.int_at j2 _ _ (by simp [hj])
  obtain ⟨⟨cls, dd, data, sl⟩, ho, hc, n, hd⟩ := p1
  obtain ⟨⟨cls2, dd2, data2, sl2⟩, ho2, hc2, n2', hd2⟩ := p2
  simp only at hc hd hc2 hd2
  subst hc hd hc2 hd2
  rw [oneLt'_eq]
  simp only [if_true]
  refine wpAny_bind (wpAny_cRoomFor hu ?_)
  refine wpAny_bind (wpAny_callSpecialIfBound?_slot (T := "tuple") ⟨_, ho, rfl⟩ F.slot_tuple_lt ?_)
  refine call_meets F.slot_tuple_lt ⟨_, ho, rfl⟩ F.entry_tuple_lt (F.args_tuple_lt_2 _ _) (SeqAt.tuple_ltAt l b us vs n n2' dd dd2 sl sl2 (fun j => decide (ns.getD j 0 = ms.getD j 0)) (fun j => decide (ns.getD j 0 < ms.getD j 0))) ⟨ho, ho2, fun j hj1 hj2 => ?_, fun j hj1 hj2 _ => ?_, ?_⟩
  · obtain ⟨t, et⟩ := at1 j hj1
    obtain ⟨t', et'⟩ := at2 j hj2
    rw [et, et']
    have z : decide (ns.getD j 0 = ms.getD j 0) = (ns.getD j 0 == ms.getD j 0) := by
      by_cases q : ns.getD j 0 = ms.getD j 0
      · rw [decide_eq_true q]
        exact (beq_iff_eq.mpr q).symm
      · rw [decide_eq_false q]
        exact (beq_eq_false_iff_ne.mpr q).symm
    rw [z]
    exact SeqAt.EqAt.int_int _ _ _ _
  · obtain ⟨t, et⟩ := at1 j hj1
    obtain ⟨t', et'⟩ := at2 j hj2
    rw [et, et']
    intro prog w E Q h
    exact PyProof.Rows.lt_int h
  · rw [n1, n2, lexL_first]
    exact wpAny_truthy_bool hq
theorem IsTI.keeps {h h' : Heap} {v : Value} {ns : List Int} (p : IsTI h v ns) (k : ∀ b o, h.get? b = some o → o.cls = .type "tuple" → h'.get? b = some o) : IsTI h' v ns := by
  obtain ⟨a, us, e, ⟨o, h1, h2, h3⟩, j⟩ := p
  exact ⟨a, us, e, ⟨o, k a o h1 h2, h2, h3⟩, j⟩
theorem IsTI.looks {M : Model} {h : Heap} {v : Value} {ns : List Int} (p : IsTI h v ns) : PySem.W.Looks M h (typeOf v) (.type "tuple") := by
  obtain ⟨a, us, rfl, ⟨o, h1, h2, h3⟩, j⟩ := p
  have z : PySem.W.Looks M h (typeOf (.ref a)) o.cls := (PySem.W.Looks.ld h1).andThen .now
  rw [h2] at z
  exact z
/-- the first items, where there are such -/
theorem firsts_any {M : Model} {k : Value → List Int} : ∀ (vs : List Value) {Q : List (Option Value) → Shared → Prop}, (∀ v ∈ vs, IsTI s.heap v (k v)) → (∀ fs : List (Option Value), fs.length = vs.length → (∀ (i : Nat) (v : Value), vs[i]? = some v → k v = [] → fs[i]? = some none) → Q fs s) → wpAny M A (vs.mapM firstOfTuple') Q E s
  | [], _, _, h => by
    rw [List.mapM_nil]
    exact wpAny_pure (h [] rfl fun i v e => by simp at e)
  | v :: vs, Q, hk, h => by
    obtain ⟨a, us, rfl, ⟨o, ho, hc, n, hd⟩, hj⟩ := hk v List.mem_cons_self
    rw [List.mapM_cons]
    refine wpAny_bind ?_
    rw [PySem.W.kas_first_eq]
    refine wpAny_bind (PySem.W.Looks.here (show PySem.W.Looks M s.heap (typeOf (.ref a)) o.cls from (PySem.W.Looks.ld ho).andThen .now) ?_)
    rw [hc, if_neg (by first | decide | simp)]
    refine wpAny_bind (listItems_at ho hd (wpAny_pure ?_))
    refine wpAny_bind (firsts_any vs (k := k) (fun u m => hk u (List.mem_cons_of_mem _ m)) fun fs hl hf => wpAny_pure (h _ (by rw [List.length_cons, List.length_cons, hl]) fun i u e1 e2 => ?_))
    cases i with
    | zero =>
      have e1 : some (Value.ref a) = some u := e1
      cases e1
      rw [e2] at hj
      have hz : us.toList = [] := List.eq_nil_of_length_eq_zero (by rw [hj.length]; rfl)
      have hz2 : us = #[] := by
        apply Array.ext'
        rw [hz]
      rw [hz2]
      rfl
    | succ i => exact hf i u e1 e2
theorem kind_tups {M : Model} {k : Value → List Int} {v0 : Value} {vs : List Value} {Q : SortKind → Shared → Prop} (hk : ∀ v ∈ v0 :: vs, IsTI s.heap v (k v)) (h0 : k v0 = []) (h : Q oneType' s) : wpAny M A (keyKind' (v0 :: vs).toArray) Q E s := by
  rw [keyKind'_eq, List.mapM_toArray, map_eq_pure_bind]
  refine wpAny_bind (wpAny_bind (firsts_any (k := k) _ hk fun fs hl hf => wpAny_pure ?_))
  have f0 := hf 0 v0 rfl h0
  obtain ⟨fr, rfl⟩ : ∃ fr, fs = none :: fr := by
    cases fs with
    | nil => cases f0
    | cons x fr => cases f0; exact ⟨fr, rfl⟩
  rw [if_neg (by simp), if_neg (by simp)]
  rw [oneTypeOnly'_eq, List.mapM_toArray, map_eq_pure_bind]
  refine wpAny_bind (wpAny_bind (wpAny_bind (PySem.W.kas_mapM (r := Value.type "tuple") _ (fun v hv Q' hq => (hk v hv).looks.here hq) (wpAny_pure ?_))))
  have hall : ((List.map (fun _ => Value.type "tuple") (v0 :: vs)).toArray.all fun x => x == Value.type "tuple") = true := by
    simp only [List.all_toArray, List.all_map, List.all_eq_true]
    intro _ _
    rfl
  have e0 : (List.map (fun _ => Value.type "tuple") (v0 :: vs)).toArray[0]? = some (Value.type "tuple") := by simp
  rw [e0]
  simp only [hall, if_true]
  exact wpAny_pure (wpAny_pure h)
theorem tups_sortableO {a : Addr} {v0 : Value} {vs : List Value} {k : Value → List Int} (hk : ∀ v ∈ v0 :: vs, IsTI s.heap v (k v)) (h0 : k v0 = []) (hu : A.units < cLine) (ha : ∀ o, s.heap.get? a = some o → o.cls ≠ .type "tuple") : SrtO.SortableO prog w A s a (v0 :: vs) fun v u => lexL (k v) (k u) := by
  intro h' keep
  have hk' : ∀ v ∈ v0 :: vs, IsTI h' v (k v) := fun v hm => (hk v hm).keeps fun b o e c => keep b o (fun z => by subst z; exact ha o e c) e
  refine ⟨oneType', fun Q E hq => kind_tups (s := { s with heap := h' }) hk' h0 hq, fun p q hp hq => ?_⟩
  rw [keyLt'_oneType]
  exact one_tups (s := { s with heap := h' }) (hk' _ hp) (hk' _ hq) hu ⟨rfl, rfl⟩
theorem sorted_tupsO {l : Addr} {vs : List Value} {k : Value → List Int} {Q : Value → Shared → Prop} (hl : s.heap.IsList l vs.toArray) (hz : vs.length ≤ sizeLine) (hp : ∀ v ∈ vs, IsTI s.heap v (k v)) (h0 : ∀ v, vs[0]? = some v → k v = []) (hu : A.units + 2 < cLine)
    (h : ∀ (h' : Heap) (d : Addr) (out : List Value), SrtO.Srtd (fun v u => lexL (k v) (k u)) out → SrtO.Stb (fun v u => lexL (k v) (k u)) out vs → (∀ b o, s.heap.get? b = some o → h'.get? b = some o) → s.heap.objs.size ≤ d → (∃ n, h'.get? d = some (seqObj "list" out.toArray n)) → Q (.ref d) { s with heap := h' }) :
    wpAny (model prog w) A (call (.builtin "sorted") [.ref l]) Q E s := by
  refine SrtO.sorted_ord (swo_lexL k) hl hz (fun h2 h₁ a ha kk => ?_) fun out hs hb => ?_
  · cases vs with
    | nil => exact absurd h2 (by simp)
    | cons v0 vs =>
      refine tups_sortableO (s := { s with heap := h₁ }) (fun v hm => (hp v hm).keeps fun b o e _ => (kk b o e).2) (h0 v0 rfl) ?_ fun o e => ?_
      · show A.in1.in1.units < cLine
        exact hu
      · have e' : some o = some (seqObj "list" (v0 :: vs).toArray 0) := e.symm.trans ha
        cases e'
        intro c
        exact absurd (Value.type.inj c) (by decide)
  · exact h _ _ out hs hb (fun b o e => sortedAll_old e) (Nat.le_succ _) (sortedAll_at s.heap vs out.toArray)
end
/-- sorted(xs), xs a list of tuples of ints, the first of them () -/
def rSortedT (K : PySem.W.Frag) : List V → Hp → VK → Prop := fun vs H Q => ∃ (a : Addr) (xs : List V) (k : V → List Int), vs = [V.ref a] ∧ SqL K H a xs ∧ (∀ x ∈ xs, ∃ t, x = V.ref t ∧ H t = some (.tup ((k x).map V.int))) ∧ (∀ x, xs[0]? = some x → k x = []) ∧
  ∀ ys p, SrtO.Srtd (fun x y => lexL (k x) (k y)) ys → SrtO.Stb (fun x y => lexL (k x) (k y)) ys xs → H p = none → Q (.ref p) (upd H p (.lst ys))
section
variable {X : Cx}
theorem cr_sortedT (hu : X.A.units + 2 < cLine) : CallR X (.builtin "sorted") (rSortedT X.K) := by
  intro pins s σ H vs us Q I r h
  obtain ⟨a, xs, k, rfl, hs, hx, h0, q⟩ := h
  obtain ⟨its, rv, hl, hz⟩ := I.list hs
  obtain ⟨u, rfl, ru⟩ := vals1 r
  obtain rfl : u = Value.ref a := ru
  obtain ⟨e1, e2⟩ := refs_back rv fun x m => by
    obtain ⟨t, e, _⟩ := hx x m
    exact ⟨t, e⟩
  refine sorted_tupsO (k := fun u => k (backV u)) hl.isList (by rw [← rv.length]; exact hz) (fun v hv => ?_) (fun v hv => h0 _ (by rw [e1, List.getElem?_map, hv]; rfl)) hu fun h' d out h1 h2 kp hd hn => ?_
  · obtain ⟨t, rfl⟩ := e2 v hv
    have hm : V.ref t ∈ xs := by rw [e1]; exact List.mem_map.mpr ⟨_, hv, rfl⟩
    obtain ⟨t', e, ht⟩ := hx _ hm
    cases e
    obtain ⟨_, its2, r2, o, ho, hc, n, hd⟩ := I.hok _ _ ht
    exact ⟨t, its2.toArray, rfl, ⟨o, ho, hc, n, hd⟩, Vals.ints r2⟩
  · have h3 : ∀ u ∈ out, ∃ a, u = Value.ref a := fun u hu => e2 u (h2.perm.mem_iff.mp hu)
    obtain ⟨n, hn⟩ := hn
    have hb : SrtO.Stb (fun x y => lexL (k x) (k y)) (out.map backV) xs := by
      rw [e1]
      exact SrtO.Stb.map (swo_lexL k) backV h2
    refine ⟨.ref d, upd H d (.lst (out.map backV)), I.laid (t' := s.toks) kp hd ⟨?_, out, n, vals_back h3, hn⟩, rfl, q _ d (SrtO.srtd_map h1) hb (I.hok.fresh hd)⟩
    rw [hb.len]
    exact hz
end
theorem minOf_le2 : ∀ (ys : List Int) (y : Int), PySem.W.minOf y ys ≤ y ∧ (∀ z ∈ ys, PySem.W.minOf y ys ≤ z) ∧ (PySem.W.minOf y ys = y ∨ PySem.W.minOf y ys ∈ ys)
  | [], y => ⟨Int.le_refl _, fun z h => absurd h List.not_mem_nil, .inl rfl⟩
  | x :: xs, y => by
    obtain ⟨c, hc, hc1, hc2, hc3⟩ : ∃ c : Int, PySem.W.minOf y (x :: xs) = PySem.W.minOf c xs ∧ c ≤ y ∧ c ≤ x ∧ (c = y ∨ c = x) := by
      by_cases c : x < y
      · refine ⟨x, ?_, by omega, by omega, .inr rfl⟩
        show xs.foldl _ (if decide (x < y) = true then x else y) = _
        rw [decide_eq_true c]
        rfl
      · refine ⟨y, ?_, by omega, by omega, .inl rfl⟩
        show xs.foldl _ (if decide (x < y) = true then x else y) = _
        rw [decide_eq_false c]
        rfl
    rw [hc]
    obtain ⟨h1, h2, h3⟩ := minOf_le2 xs c
    refine ⟨by omega, fun z hz => ?_, ?_⟩
    · rcases List.mem_cons.mp hz with rfl | hz
      · omega
      · exact h2 z hz
    · rcases h3 with h3 | h3
      · rw [h3]
        rcases hc3 with rfl | rfl
        · exact .inl rfl
        · exact .inr List.mem_cons_self
      · exact .inr (List.mem_cons_of_mem _ h3)
def rMinT (K : PySem.W.Frag) : List V → Hp → VK → Prop := fun vs H Q => ∃ (a : Addr) (ns : List Int), vs = [V.ref a] ∧ SqT K H a (ns.map V.int) ∧ 0 < ns.length ∧ ∀ m, m ∈ ns → (∀ y, y ∈ ns → m ≤ y) → Q (.int m) H
section
variable {X : Cx}
theorem cr_minT (hc : X.calm = true) (hu : X.A.units + 64 < cLine) : CallR X (.builtin "min") (rMinT X.K) := by
  intro pins s σ H vs us Q I r h
  obtain ⟨a, ns, rfl, hs, hn, q⟩ := h
  obtain rfl := Vals.ref1 r
  obtain ⟨its, rv, hl, _⟩ := I.tuple hs
  cases ns with
  | nil => exact absurd hn (by decide)
  | cons y ys =>
    refine PySem.W.min_tuple_datum (α := Int) (I.ok.hd hc) hl (holds_each rv.ints) (by show X.A.units + 1 + 0 < cLine; omega) ?_
    intro i v h' tk _ hv hk
    obtain ⟨as, rd⟩ := hv
    have : ∃ t, v = .int (PySem.W.minOf y ys) t := by
      cases rd with
      | int n t => exact ⟨t, rfl⟩
    obtain ⟨t, rfl⟩ := this
    obtain ⟨h1, h2, h3⟩ := minOf_le2 ys y
    refine ⟨.int _, H, I.kept hk, ⟨_, rfl⟩, q _ ?_ ?_⟩
    · rcases h3 with h3 | h3
      · rw [h3]
        exact List.mem_cons_self
      · exact List.mem_cons_of_mem _ h3
    · intro z hz
      rcases List.mem_cons.mp hz with rfl | hz
      · exact h1
      · exact h2 z hz
end
theorem pi_listK {X : Cx} {K : PySem.W.Frag} {tg l : Expr} {tl : TE} (hK : X.K = K) (hl : PE X l tl) : PI X tg l (iList K tl) := by
  subst hK
  exact pi_list hl
end GS
/-! all shares of a box, the mathematics -/
namespace K10
open GS
/-- as the program lists them -/
def alS : Nat → Nat → List (List Int)
  | 0, _ => [[]]
  | h + 1, w => [] :: ((List.range w).flatMap fun i => (alS h (i + 1)).map fun r => ((i + 1 : Nat) : Int) :: r)
/-- those of n cells -/
def shT : Nat → Nat → Int → List (List Int)
  | 0, _, n => if n = 0 then [[]] else []
  | h + 1, w, n => if n = 0 then [[]] else if n < 0 ∨ n > ((h + 1 : Nat) : Int) * (w : Int) then [] else
    (List.range (min w n.toNat)).flatMap fun i => (shT h (i + 1) (n - ((i + 1 : Nat) : Int))).map fun r => ((i + 1 : Nat) : Int) :: r
/-- the least of w and of what is in it -/
def mnL (w : Nat) : List Int → Nat
  | [] => w
  | x :: xs => min x.toNat (mnL w xs)
/-- as the law lists them, row by row -/
def enS (w : Nat) : Nat → List (List Int)
  | 0 => [[]]
  | r + 1 => (enS w r).flatMap fun one => (List.range (mnL w one)).map fun i => one ++ [((i + 1 : Nat) : Int)]
def foS (w : Nat) : Nat → List (List Int)
  | 0 => [[]]
  | r + 1 => foS w r ++ enS w (r + 1)
def srB : List (List Int) → Bool
  | x :: y :: l => lexL x y && srB (y :: l)
  | _ => true
def insL (x : List Int) : List (List Int) → List (List Int)
  | [] => [x]
  | y :: l => if lexL x y then x :: y :: l else y :: insL x l
def isL : List (List Int) → List (List Int)
  | [] => []
  | x :: l => insL x (isL l)
def okB (h w : Nat) : Bool := srB (alS h w) && (decide (isL (foS w h) = alS h w) && ((alS h w).all fun s => decide (0 ≤ s.sum ∧ s.sum ≤ (h : Int) * (w : Int)) && s.all fun x => decide (1 ≤ x ∧ x ≤ 6)) && decide ((alS h w).length ≤ 924) && (alS h w).all fun s => decide (s.length ≤ 6))
def okN (h w : Nat) : Bool := (List.range (h * w + 1)).all fun n => decide (((alS h w).filter fun s => decide (s.sum = (n : Int))) = shT h w (n : Int))
theorem ok_all : ∀ h < 7, ∀ w < 7, okB h w = true := by decide +kernel
theorem ok_nums : ∀ h < 7, ∀ w < 7, okN h w = true := by decide +kernel
theorem lexL_eqv : ∀ {xs ys : List Int}, lexL xs ys = false → lexL ys xs = false → xs = ys
  | [], [], _, _ => rfl
  | [], _ :: _, h, _ => by cases h
  | _ :: _, [], _, h => by cases h
  | x :: xs, y :: ys, h1, h2 => by
    unfold lexL at h1 h2
    by_cases c : x = y
    · rw [if_pos c] at h1
      rw [if_pos c.symm] at h2
      rw [c, lexL_eqv h1 h2]
    · rw [if_neg c, decide_eq_false_iff_not] at h1
      rw [if_neg (Ne.symm c), decide_eq_false_iff_not] at h2
      omega
theorem swoL : SrtO.Swo lexL := swo_lexL (α := List Int) id
theorem srB_lt : ∀ {x : List Int} {l : List (List Int)}, srB (x :: l) = true → ∀ y ∈ l, lexL x y = true
  | x, [], _, y, m => absurd m List.not_mem_nil
  | x, z :: l, h, y, m => by
    unfold srB at h
    rw [Bool.and_eq_true] at h
    rcases List.mem_cons.mp m with rfl | m
    · exact h.1
    · exact swoL.ltle h.1 (swoL.asym _ _ (srB_lt h.2 y m))
theorem srB_tail : ∀ {x : List Int} {l : List (List Int)}, srB (x :: l) = true → srB l = true
  | x, [], _ => rfl
  | x, z :: l, h => by
    unfold srB at h
    rw [Bool.and_eq_true] at h
    exact h.2
theorem srB_srtd : ∀ {l : List (List Int)}, srB l = true → SrtO.Srtd lexL l
  | [], _ => List.Pairwise.nil
  | x :: l, h => List.pairwise_cons.mpr ⟨fun y m => swoL.asym _ _ (srB_lt h y m), srB_srtd (srB_tail h)⟩
theorem insL_perm (x : List Int) : ∀ l : List (List Int), (insL x l).Perm (x :: l)
  | [] => List.Perm.refl _
  | y :: l => by
    unfold insL
    split
    · exact List.Perm.refl _
    · exact ((insL_perm x l).cons y).trans (List.Perm.swap x y l)
theorem isL_perm : ∀ l : List (List Int), (isL l).Perm l
  | [] => List.Perm.refl _
  | x :: l => by
    unfold isL
    exact (insL_perm x _).trans ((isL_perm l).cons x)
theorem stb_of {l m : List (List Int)} (h : l.Perm m) : SrtO.Stb lexL l m := by
  refine ⟨h, fun x => ?_⟩
  have e : ∀ k : List (List Int), k.filter (SrtO.eqv lexL x) = List.replicate (k.count x) x := fun k => by
    rw [← List.filter_beq]
    refine List.filter_congr fun y _ => ?_
    cases q : SrtO.eqv lexL x y with
    | true =>
      obtain ⟨q1, q2⟩ := SrtO.eqv_iff.mp q
      rw [lexL_eqv q1 q2]
      exact (beq_self_eq_true _).symm
    | false =>
      symm
      rw [beq_eq_false_iff_ne]
      rintro rfl
      rw [SrtO.eqv_iff.mpr ⟨swoL.refl _, swoL.refl _⟩] at q
      cases q
  rw [e, e, h.count_eq]
theorem okB_all {h w : Nat} (hh : h ≤ 6) (hw : w ≤ 6) : srB (alS h w) = true ∧ isL (foS w h) = alS h w ∧ (∀ s ∈ alS h w, 0 ≤ s.sum ∧ s.sum ≤ (h : Int) * (w : Int) ∧ ∀ x ∈ s, 1 ≤ x ∧ x ≤ 6) ∧ (alS h w).length ≤ 924 ∧ ∀ s ∈ alS h w, s.length ≤ 6 := by
  have z := ok_all h (by omega) w (by omega)
  unfold okB at z
  rw [Bool.and_eq_true, Bool.and_eq_true, Bool.and_eq_true, Bool.and_eq_true] at z
  obtain ⟨z1, ⟨⟨z2, z3⟩, z4⟩, z5⟩ := z
  refine ⟨z1, of_decide_eq_true z2, fun s m => ?_, of_decide_eq_true z4, fun s m => of_decide_eq_true (List.all_eq_true.mp z5 s m)⟩
  have q := List.all_eq_true.mp z3 s m
  rw [Bool.and_eq_true] at q
  have q1 := of_decide_eq_true q.1
  exact ⟨q1.1, q1.2, fun x mx => of_decide_eq_true (List.all_eq_true.mp q.2 x mx)⟩
/-- what sorted() gives of the law's list is the program's -/
theorem sorted_is {α : Type} {k : α → List Int} {ys us : List α} {h w : Nat} (hh : h ≤ 6) (hw : w ≤ 6) (hs : SrtO.Srtd (fun x y => lexL (k x) (k y)) ys) (hb : SrtO.Stb (fun x y => lexL (k x) (k y)) ys us) (hu : us.map k = foS w h) : ys.map k = alS h w := by
  obtain ⟨z1, z2, _⟩ := okB_all hh hw
  have s1 := SrtO.Stb.map swoL k hb
  rw [hu] at s1
  refine SrtO.stb_uniq swoL (SrtO.srtd_map hs) (srB_srtd z1) (s1.trans ?_)
  refine stb_of ?_
  rw [← z2]
  exact (isL_perm _).symm
theorem shT_neg {h w : Nat} {n : Int} (hn : n < 0 ∨ n > (h : Int) * (w : Int)) : shT h w n = [] := by
  have h0 : ¬ n = 0 := by
    have : (0 : Int) ≤ (h : Int) * (w : Int) := Int.mul_nonneg (by omega) (by omega)
    omega
  cases h with
  | zero =>
    unfold shT
    rw [if_neg h0]
  | succ h =>
    unfold shT
    rw [if_neg h0, if_pos hn]
theorem of_n {h w : Nat} (hh : h ≤ 6) (hw : w ≤ 6) (n : Int) : ((alS h w).filter fun s => decide (s.sum = n)) = shT h w n := by
  by_cases c : n < 0 ∨ n > (h : Int) * (w : Int)
  · rw [shT_neg c, List.filter_eq_nil_iff]
    intro s m
    have := (okB_all hh hw).2.2.1 s m
    rw [decide_eq_true_eq]
    omega
  · have z := ok_nums h (by omega) w (by omega)
    unfold okN at z
    have q := List.all_eq_true.mp z n.toNat (List.mem_range.mpr (by
      have : ((h * w : Nat) : Int) = (h : Int) * (w : Int) := Int.natCast_mul h w
      omega))
    have e : ((n.toNat : Nat) : Int) = n := by omega
    rw [e] at q
    exact of_decide_eq_true q
end K10
/-! shares by their numbers, the mathematics -/
namespace K08
open K07 K09 K10
def fitsB : Nat → Int → List Int → Bool
  | _, _, [] => true
  | 0, _, _ :: _ => false
  | h + 1, w, x :: xs => decide (1 ≤ x) && decide (x ≤ w) && fitsB h x xs
theorem fitsB_iff : ∀ {h : Nat} {w : Int} {xs : List Int}, fitsB h w xs = true → Fits h w xs
  | _, _, [], _ => by unfold Fits; trivial
  | 0, _, _ :: _, h => by cases h
  | h + 1, w, x :: xs, e => by
    unfold fitsB at e
    rw [Bool.and_eq_true, Bool.and_eq_true] at e
    exact ⟨of_decide_eq_true e.1.1, of_decide_eq_true e.1.2, fitsB_iff e.2⟩
def okF (h w : Nat) : Bool := (alS h w).all fun s => fitsB h (w : Int) s
theorem ok_fits : ∀ h < 7, ∀ w < 7, okF h w = true := by decide +kernel
theorem shT_mem {h w : Nat} (hh : h ≤ 6) (hw : w ≤ 6) {n : Int} {xs : List Int} (m : xs ∈ shT h w n) : Fits h (w : Int) xs ∧ xs.sum = n ∧ xs.length ≤ 6 ∧ ∀ x ∈ xs, 1 ≤ x ∧ x ≤ 6 := by
  rw [← of_n hh hw] at m
  obtain ⟨m1, m2⟩ := List.mem_filter.mp m
  have z := ok_fits h (by omega) w (by omega)
  obtain ⟨_, _, z3, _, z5⟩ := okB_all hh hw
  exact ⟨fitsB_iff (List.all_eq_true.mp z xs m1), of_decide_eq_true m2, z5 xs m1, (z3 xs m1).2.2⟩
/-- the numbers of those of n cells, in their order -/
def okP (h w : Nat) : Bool := (List.range (h * w + 1)).all fun n => decide ((shT h w (n : Int)).map (fun s => pl h s (n : Int)) = (List.range (shT h w (n : Int)).length).map (fun i : Nat => Int.ofNat i)) && decide (cz h (w : Int) (n : Int) = ((shT h w (n : Int)).length : Int))
theorem ok_places : ∀ h < 7, ∀ w < 7, okP h w = true := by decide +kernel
theorem cz_big {h w : Nat} {n : Int} (hn : n < 0 ∨ n > (h : Int) * (w : Int)) : cz h (w : Int) n = 0 := by
  rcases hn with hn | hn
  · exact cz_neg hn
  · unfold cz look
    have h0 : (0 : Int) ≤ (h : Int) * (w : Int) := Int.mul_nonneg (by omega) (by omega)
    rw [if_neg (by omega), List.getElem?_eq_none]
    · rfl
    · rw [tab_len, Int.toNat_natCast]
      have : ((h * w : Nat) : Int) = (h : Int) * (w : Int) := Int.natCast_mul h w
      omega
theorem places {h w : Nat} (hh : h ≤ 6) (hw : w ≤ 6) (n : Int) : cz h (w : Int) n = ((shT h w n).length : Int) ∧ ∀ (i : Nat) (xs : List Int), (shT h w n)[i]? = some xs → pl h xs n = (i : Int) := by
  by_cases c : n < 0 ∨ n > (h : Int) * (w : Int)
  · rw [shT_neg c, cz_big c]
    exact ⟨rfl, fun i xs e => by simp at e⟩
  · have z := ok_places h (by omega) w (by omega)
    unfold okP at z
    have q := List.all_eq_true.mp z n.toNat (List.mem_range.mpr (by
      have : ((h * w : Nat) : Int) = (h : Int) * (w : Int) := Int.natCast_mul h w
      omega))
    have e : ((n.toNat : Nat) : Int) = n := by omega
    rw [e, Bool.and_eq_true] at q
    refine ⟨of_decide_eq_true q.2, fun i xs ei => ?_⟩
    have q1 := of_decide_eq_true q.1
    have e1 : ((shT h w n).map (fun s => pl h s n))[i]? = some (pl h xs n) := by rw [List.getElem?_map, ei]; rfl
    have hi : i < (shT h w n).length := (List.getElem?_eq_some_iff.mp ei).1
    rw [q1, List.getElem?_map, List.getElem?_range hi] at e1
    exact (Option.some.inj e1).symm
end K08
namespace GS
open PySem PySem.Spec PyProof.Rows L2 RZ
open AutoSeq1 (wpAny_loadPart')
/-! enumerate(tuple) -/
theorem meets_enumT (l : Addr) (items : Array Value) (n : Nat) (dct : Option Addr) (sl : Array (Option Value)) :
    Meets (Builtin.«enumerate.__new__» ⟨[.type "enumerate", .ref l], []⟩) (fun _ R s => s.heap.get? l = some { cls := .type "tuple", dict := dct, data := .seq items n, slots := sl } ∧
      R (.ok (.ret (.ref (s.heap.push { cls := .type "tuple_iterator", data := .fields #[.ref l, .int 0 0] }).objs.size)))
        { s with heap := (s.heap.push { cls := .type "tuple_iterator", data := .fields #[.ref l, .int 0 0] }).push { cls := .type "enumerate", data := .fields #[.none, .bool false, .ref s.heap.objs.size, rawInt 0, .none, .none] } }) :=
  .of_wp fun prog w A R s h => by
    obtain ⟨hp, g, d, tk, os⟩ := s
    obtain ⟨hl, h⟩ := h
    have hsub := sub_enumerate
    have hT : Heap.IsTuple (Shared.heap ⟨hp, g, d, tk, os⟩) l items := ⟨_, hl, rfl, n, rfl⟩
    wp_walk using wpAny_loadPart' hl
    refine wpAny_stack_any fun st => wpAny_pure ?_
    split
    · rename_i c _ _ _ _ _
      cases (c == Value.type "enumerate") <;> (wp_walk using wpAny_loadPart' hl, wpAny_pyIter_tuple hT) <;> exact ⟨_, rfl, h⟩
    · wp_walk using wpAny_loadPart' hl, wpAny_pyIter_tuple hT
      exact ⟨_, rfl, h⟩
section
variable {prog : Program} {w : World} {A : Around} {E : Value → Shared → Prop} {s : Shared}
theorem call_enumT {l : Addr} {items : Array Value} {Q : Value → Shared → Prop} (hL : s.heap.IsTuple l items)
    (h : ∀ h', IsEnum h' (s.heap.objs.size + 1) s.heap.objs.size 0 .none → h'.IsTupleIter s.heap.objs.size l 0 → (∀ b o, s.heap.get? b = some o → h'.get? b = some o) → Q (.ref (s.heap.objs.size + 1)) { s with heap := h' }) :
    wpAny (model prog w) A (call (.type "enumerate") [.ref l]) Q E s := by
  obtain ⟨⟨c, dct, dt, sl⟩, hl, hc, n, hd⟩ := hL
  obtain rfl : c = .type "tuple" := hc
  obtain rfl : dt = .seq items n := hd
  refine callType_new F.called_enumerate (by decide) (F.typeCall_enumerate_1 _) (F.newCall_enumerate_1 _) (fun obj => F.args_object_init_2 obj _) F.entry_enumerate_new (meets_enumT l items n dct sl) ⟨hl, ?_⟩
  let g1 := s.heap.push { cls := .type "tuple_iterator", data := .fields #[.ref l, .int 0 0] }
  let o2 : Obj := { cls := .type "enumerate", data := .fields #[.none, .bool false, .ref s.heap.objs.size, rawInt 0, .none, .none] }
  have hz : g1.objs.size = s.heap.objs.size + 1 := Heap.size_push ..
  have he : (g1.push o2).get? (s.heap.objs.size + 1) = some o2 := by rw [← hz]; exact Heap.get?_push_size _ rfl
  show Shared.TypeIs { s with heap := g1.push o2 } (.ref g1.objs.size) "enumerate" ∧ _
  rw [hz]
  exact ⟨⟨o2, he, rfl⟩, h _ he ⟨_, Heap.get?_push_of_some _ (Heap.get?_push_size _ rfl), rfl, rfl⟩ fun b o x => Heap.get?_push_of_some _ (Heap.get?_push_of_some _ x)⟩
end
section
variable {prog : Program} {w : World} {A : Around} {E : Value → Shared → Prop} {s : Shared}
theorem enumT_end {e it l : Addr} {i : Int} {j : Nat} {items : Array Value} {old : Value} {Q : Option Value → Shared → Prop} (hh : A.handled = none)
    (he : IsEnum s.heap e it i old) (hit : s.heap.IsTupleIter it l j) (hl : s.heap.IsTuple l items) (hx : items[j]? = none)
    (hQ : ∀ h', Heap.ExtBut it s.heap h' → Q none { s with heap := h' }) : wpAny (model prog w) A (pyNext (.ref e)) Q E s := by
  have tE : s.TypeIs (.ref e) "enumerate" := ⟨_, he, rfl⟩
  unfold pyNext
  apply wpAny_bind
  apply wpAny_attempt
  apply wpAny_callSpecial?_slot (name := Str.ofString "__next__") tE F.slot_enumerate_next
  apply wpAny_call_entry F.slot_enumerate_next tE F.entry_enumerate_next _ (F.args_enumerate_next_1 _)
  show wpAny _ _ (field (.ref e) 2 >>= _) _ _ _
  apply wpAny_bind
  apply wpAny_field he rfl (x := .ref it) rfl
  apply wpAny_bind
  apply wpAny_nextOf_tuple_end (A := A.in1) (show A.in1.handled = none from hh) hit hl hx
  rintro h' x eb ⟨o, ho, hc⟩
  refine wpAny_bind ?_
  refine wpAny_isInstance (T := "StopIteration") (b := true) (v := .ref x) ⟨o, ho, hc⟩ isSubtype_stop ?_
  exact wpAny_pure (hQ _ eb)
end
def IteT (K : PySem.W.Frag) (a : Addr) : It where
  go := fun i H => ∃ (xs : List V) (x : V), SqT K H a xs ∧ xs[i]? = some x
  yld := fun i H v H' => ∃ T x, v = .ref T ∧ H T = none ∧ H' = upd H T (.tup [.int (i : Nat), x]) ∧ ∀ xs, SqT K H a xs → xs[i]? = some x
  stop := fun i H => ∃ xs : List V, SqT K H a xs ∧ xs.length ≤ i
theorem turn_enumT {P : Program} {w : World} {K : PySem.W.Frag} {elts : List Expr} {kk : Nat} {tpos : Pos} (a e it : Addr) :
    Turn P w K (.Tuple elts kk tpos) (IteT K a) [e, it] e (fun i h => (∃ old, IsEnum h e it ((i : Nat) : Int) old) ∧ h.IsTupleIter it a i ∧ e ≠ it ∧ a ≠ it ∧ e ≠ a) where
  mem := List.mem_cons_self
  obj := fun i h st b hb => by
    obtain ⟨⟨old, he⟩, ⟨o, ho, _, hd⟩, _⟩ := st
    rcases List.mem_cons.mp hb with rfl | hb
    · exact ⟨_, he, fun v q => nomatch q⟩
    · rw [List.mem_singleton.mp hb]
      exact ⟨o, ho, fun v q => by rw [hd] at q; cases q⟩
  keep := fun i h h' ⟨⟨old, he⟩, hi, r⟩ k => ⟨⟨old, k e (by simp) _ he⟩, hi.at fun o q => k it (by simp) o q, r⟩
  item := by
    intro X hP hw hK hc i pn s σ H E J hf st hg
    subst hP hw hK
    obtain ⟨⟨old, he⟩, hit, hne, hai, hea⟩ := st
    obtain ⟨xs, x, hq, hx⟩ := hg
    obtain ⟨its, rv, p, hz⟩ := J.tuple hq
    obtain ⟨u, hu, ru⟩ := rv.get hx
    have hel : e < s.heap.objs.size := Heap.lt_size he
    have hil : it < s.heap.objs.size := by obtain ⟨_, q, _⟩ := hit; exact Heap.lt_size q
    have hlt : i < its.toArray.size := by
      have := (List.getElem?_eq_some_iff.mp hu).1
      simpa using this
    refine wpAny_pyNext_enum_itemD (Draws.tuple (A := X.A.in1) (J.ok.hd hc) it a hai its.toArray) he ⟨hit, p⟩ hlt hne (by simp [hne, hea]) fun y h' tk hy ho hst hT hsz hk => ?_
    have ey : y = u := by
      have hy' : its[i]? = some y := by simpa using hy
      rw [hu] at hy'
      exact (Option.some.inj hy').symm
    subst ey
    refine ⟨_, rfl, wpAny_letOwnedTupleGo_enum (s := { s with heap := h', toks := tk + 1 }) ho fun h'' he' sb => ?_⟩
    have hT2 : h''.get? s.heap.objs.size = some { cls := .type "tuple", data := .seq #[.int i tk, y] } := (sb.2 _ (Nat.ne_of_gt hel)).trans hT
    have new : ObjOk X.prog X.w (upd H s.heap.objs.size (.tup [.int (i : Nat), x])) h'' s.heap.objs.size (.tup [.int (i : Nat), x]) :=
      ⟨small_line (by show 2 ≤ 100000; omega), [.int i tk, y], .cons ⟨_, rfl⟩ (.cons ru .nil), ⟨_, hT2, rfl, _, rfl⟩⟩
    have J1 : Inv X pn σ (upd H s.heap.objs.size (.tup [.int (i : Nat), x])) { s with heap := h'', toks := tk + 1 } :=
      J.turnedNew (ch := [e, it]) (fun b ob hb q => (sb.2 b (fun z => hb (by simp [z]))).trans (hk b ob (fun z => hb (by simp [z])) (fun z => hb (by simp [z])) q)) hf (Nat.le_refl _) new
    refine ⟨.ref s.heap.objs.size, _, J1, rfl, ⟨_, x, rfl, J.hok.fresh (Nat.le_refl _), rfl, fun ys hy => by rw [J.tuple_inj hy hq]; exact hx⟩, ⟨⟨y, ?_⟩, hst.1.at fun o q => (sb.2 it (Ne.symm hne)).trans q, hne, hai, hea⟩, fun b hb => ?_⟩
    · rw [show ((i + 1 : Nat) : Int) = (i : Int) + 1 by omega]
      exact he'
    · have hb' : b < s.heap.objs.size := by
        rcases List.mem_cons.mp hb with z | z
        · rw [z]; exact hel
        · rw [List.mem_singleton.mp z]; exact hil
      rw [upd_ne (Nat.ne_of_lt hb')]
      exact (hf b hb).1
  done := by
    intro X hP hw hK hc i pn s σ H E J hf st hg
    subst hP hw hK
    obtain ⟨⟨old, he⟩, hit, hne, hai, hea⟩ := st
    obtain ⟨xs, hq, hx⟩ := hg
    obtain ⟨its, rv, p, hz⟩ := J.tuple hq
    obtain ⟨f0, f1, f2, f3, f4, f5⟩ := hf it (by simp)
    have hl := rv.length
    exact enumT_end (J.ok.hd hc) he hit p (by simp; omega) fun h' eb => ⟨rfl, J.turned (t' := s.toks) (fun b o hb q => eb b o hb q) f0 f1 f3 f4 f5⟩
  self := fun A i s Q E ⟨⟨_, he⟩, _⟩ h => wpAny_pyIter_enum he h
def iEnumT (K : PySem.W.Frag) (ta : TA) : TI := fun σ H R => ta σ H fun vs H1 => ∃ a xs, vs = [.ref a] ∧ SqT K H1 a xs ∧ R (IteT K a) H1
theorem pi_enumT {X : Cx} {e : Expr} {ta : TA} {p pos tpos : Pos} {elts : List Expr} {kk : Nat} (hg : Gl X "enumerate") (hm : X.mg "enumerate" = none) (ha : PA X [e] ta) (hs : starEach [e] X.env = [(false, eval e X.env)] := by rfl) :
    PI X (.Tuple elts kk tpos) (.Call (.Name "enumerate" p) [e] [] pos) (iEnumT X.K ta) := by
  constructor
  intro pn s σ H R J h
  refine Call_ (ld_blt J hg hm boot_enumerate ?_)
  refine PyProof.Rows.callWith_type1 (thn (ha.run pos pn s σ H _ J h) ?_) hs rfl
  rintro us s1 ⟨vs, H1, J1, r1, a, xs, rfl, hq, q⟩
  obtain ⟨its, rv, hT, hz⟩ := J1.tuple hq
  rw [Vals.ref1 r1]
  refine call_enumT hT fun h' he hit hk => wpAny_pyIter_enum he ?_
  have hal : a < s1.heap.objs.size := by obtain ⟨o, ho, _⟩ := hT; exact Heap.lt_size ho
  have J2 : Inv X pn σ H1 { s1 with heap := h' } := J1.kept (t' := s1.toks) hk
  refine ⟨s1.heap.objs.size + 1, [s1.heap.objs.size + 1, s1.heap.objs.size], _, _, H1, rfl, J2, turn_enumT a (s1.heap.objs.size + 1) s1.heap.objs.size, ⟨⟨.none, he⟩, hit, Nat.succ_ne_self _, Nat.ne_of_lt hal, Nat.ne_of_gt (Nat.lt_succ_of_lt hal)⟩, fun b hb => ?_, q⟩
  have hle : s1.heap.objs.size ≤ b := by
    rcases List.mem_cons.mp hb with z | z
    · rw [z]; exact Nat.le_add_right _ _
    · rw [List.mem_singleton.mp z]; exact Nat.le_refl _
  exact J1.fpOk hle (J1.hok.fresh hle)
theorem walk_enumT {K : PySem.W.Frag} {a : Addr} {xs : List V} : Walk (IteT K a) xs.length (fun H => SqT K H a xs) (YPair (fun i => some (.int (i : Nat))) (fun i => xs[i]?)) := by
  constructor
  · intro i H hi q
    exact ⟨xs, xs[i], q, by simp [hi]⟩
  · intro H q
    exact ⟨xs, q, Nat.le_refl _⟩
  · rintro i H v H' _ q ⟨T, x, h1, h2, h3, h4⟩
    exact ⟨T, .int (i : Nat), x, h1, h2, h3, rfl, h4 xs q⟩
theorem bt_sorted : bootBuiltins "sorted" = some (.builtin "sorted") := by decide +kernel
/-- a walk, by what holds behind each turn: for whatever a turn does (B) and whatever comes behind (Z) -/
theorem wit {J : It} {n : Nat} {G : Hp → Prop} {Y : Nat → Hp → V → Hp → Prop} (w : Walk J n G Y) {B : (Hp → Prop) → V → Hp → Prop} {Z : Hp → Prop} {H0 : Hp} (Pv : Nat → Hp → Prop) (h0 : Pv 0 H0)
    (hG : ∀ i H, i ≤ n → Pv i H → G H) (hs : ∀ i x H H', i < n → Pv i H → Y i H x H' → B (Pv (i + 1)) x H') (hd : ∀ H, Pv n H → Z H) :
    ∃ W : Nat → Nat → Hp → Prop, (∃ m, W 0 m H0) ∧ ∀ i m H, W i m H → (J.stop i H ∧ Z H) ∨ (J.go i H ∧ ∃ Nx : Hp → Prop, (∀ H', Nx H' → ∃ m', m' < m ∧ W (i + 1) m' H') ∧ ∀ x H', J.yld i H x H' → B Nx x H') := by
  refine ⟨fun i m H => m = n - i ∧ i ≤ n ∧ Pv i H, ⟨n, rfl, Nat.zero_le _, h0⟩, ?_⟩
  rintro i m H ⟨rfl, hi, p⟩
  by_cases h : i < n
  · right
    exact ⟨w.goes i H h (hG i H hi p), Pv (i + 1), fun H' p' => ⟨n - (i + 1), by omega, rfl, h, p'⟩, fun x H' y => hs i x H H' h p (w.yields i H x H' h (hG i H hi p) y)⟩
  · obtain rfl : i = n := by omega
    exact .inl ⟨w.stops H (hG i H hi p), hd H p⟩
theorem bt_enumerate : bootBuiltins "enumerate" = some (.type "enumerate") := boot_enumerate
end GS
namespace GS
open PySem PySem.Spec PyProof.Rows L2 RZ
/-! ### t > u of tuples of ints -/
def rGtT (K : PySem.W.Frag) : R2 := fun x y H Q => ∃ (a b : Addr) (ns ms : List Int), x = .ref a ∧ y = .ref b ∧ SqT K H a (ns.map V.int) ∧ SqT K H b (ms.map V.int) ∧
  Q (.bl (Ob.lexAt (fun j => decide (ns.getD j 0 = ms.getD j 0)) (fun j => decide (ms.getD j 0 < ns.getD j 0)) (decide (ns.length > ms.length)) 0 (min ns.length ms.length))) H
theorem op_gtT {X : Cx} (hu : X.A.units < cLine) : OpR X (compareOp .Gt) (rGtT X.K) := by
  intro pins s σ H x y v u Q I rx ry h
  obtain ⟨a, b, ns, ms, rfl, rfl, ha, hb, q⟩ := h
  cases rx
  cases ry
  obtain ⟨us, g1, p1, _⟩ := I.tuple ha
  obtain ⟨vs, g2, p2, _⟩ := I.tuple hb
  have j1 : IntsAre us ns := Vals.ints g1
  have j2 : IntsAre vs ms := Vals.ints g2
  have n1 : us.toArray.size = ns.length := by rw [List.size_toArray]; exact j1.length
  have n2 : vs.toArray.size = ms.length := by rw [List.size_toArray]; exact j2.length
  have at1 : ∀ j (hj : j < us.toArray.size), ∃ t, us.toArray[j] = .int (ns.getD j 0) t := fun j hj => PyProof.Rows.IntsAre.int_at j1 _ _ (by simp at hj; simp [hj])
  have at2 : ∀ j (hj : j < vs.toArray.size), ∃ t, vs.toArray[j] = .int (ms.getD j 0) t := fun j hj => PyProof.Rows.IntsAre.int_at j2 _ _ (by simp at hj; simp [hj])
  have R := Ob.RcOp.tuples_gt (A := X.A) (s := s) (e := fun j => decide (ns.getD j 0 = ms.getD j 0)) (r := fun j => decide (ms.getD j 0 < ns.getD j 0)) p1 p2 hu ?_ ?_
  · rw [n1, n2] at R
    exact R X.prog X.w X.xe (EP X pins σ Q) ⟨.bl _, H, I, rfl, q⟩
  · intro j hj1 hj2
    obtain ⟨t, et⟩ := at1 j hj1
    obtain ⟨t', et'⟩ := at2 j hj2
    rw [et, et']
    have z : decide (ns.getD j 0 = ms.getD j 0) = (ns.getD j 0 == ms.getD j 0) := by
      by_cases q : ns.getD j 0 = ms.getD j 0
      · rw [decide_eq_true q]
        exact (beq_iff_eq.mpr q).symm
      · rw [decide_eq_false q]
        exact (beq_eq_false_iff_ne.mpr q).symm
    show SeqAt.EqAt _ _ _ _ (decide (ns.getD j 0 = ms.getD j 0))
    rw [z]
    exact SeqAt.EqAt.int_int _ _ _ _
  · intro j hj1 hj2 _
    obtain ⟨t, et⟩ := at1 j hj1
    obtain ⟨t', et'⟩ := at2 j hj2
    rw [et, et']
    exact Ob.RcOp.gt_int _ _ _ _
/-! ### not x as a value, x of any kind -/
theorem pe_notA {X : Cx} {a : Expr} {ta : TE} {pos : Pos} (ha : PE X a ta) : PE X (.UnaryOp .Not a pos) (fun σ H Q => ta σ H fun x H1 => ∃ k, TruV X.K x H1 k ∧ Q (.bl (!k)) H1) := by
  refine ⟨fun pins s σ H Q I h => ?_⟩
  refine UnaryOp_ (thn (ha.run pins s σ H _ I h) fun v s1 ⟨x, H1, I1, r1, k, tr, q⟩ => not_of ?_)
  refine thn (tru_ok pins s1 σ H1 x v (fun b H2 => b = k ∧ H2 = H1) I1 r1 ⟨k, tr, rfl, rfl⟩) fun b s2 ⟨H2, I2, e1, e2⟩ => ?_
  obtain rfl := e1
  obtain rfl := e2
  exact ⟨.bl (!b), _, I2, rfl, q⟩
end GS
namespace GS
open PySem PySem.Spec PyProof.Rows L2 RZ
/-! enumerate(zip(t, u)) of two tuples -/
/-- a zip in whatever state: what it has given out (g), and whether it knows that this is still held (b) -/
abbrev ZipF (h : Heap) (z TI TO : Addr) (g : Value) (b : Bool) : Prop :=
  h.get? z = some { cls := .type "zip", dict := none, data := .fields #[g, .bool b, .bool false, .ref TI, .ref TO], slots := #[] }
abbrev PairAt (h : Heap) (T : Addr) (a b : Value) : Prop := h.get? T = some { cls := .type "tuple", data := .seq #[a, b] }
def Gv (g : Value) : Prop := g = .none ∨ ∃ T : Addr, g = rawInt T
section
variable {prog : Program} {w : World} {A : Around} {E : Value → Shared → Prop} {s : Shared}
theorem owned_any {z TI TO : Addr} {g : Value} {b : Bool} {Q : Bool → Shared → Prop} (hz : ZipF s.heap z TI TO g b) (hg : Gv g) (yes : Q true s)
    (no : ∀ h', ZipF h' z TI TO g true → Heap.SameBut z s.heap h' → Q false { s with heap := h' }) : wpAny (model prog w) A (Builtin.SmallTypes.ownedTupleIsFree (.ref z)) Q E s := by
  unfold Builtin.SmallTypes.ownedTupleIsFree
  apply wpAny_bind
  rcases hg with rfl | ⟨T, rfl⟩
  · exact wpAny_field hz rfl (x := .none) rfl (wpAny_pure yes)
  apply wpAny_field hz rfl (x := rawInt T) rfl
  change wpAny _ _ (loadIfAlive ((T : Int).toNat) >>= _) _ _ _
  rw [Int.toNat_natCast]
  apply wpAny_bind
  cases e : s.heap.get? T with
  | none =>
    have goal : wpAny (model prog w) A (loadIfAlive T) (fun o s1 => o = none ∧ s1 = s) E s := by
      have q : (s.heap.get? T) = none ∧ s = s := ⟨e, rfl⟩
      exact fun _ _ _ => q
    refine wpAny_mono goal (fun o s1 hq => ?_) fun _ _ x => x
    obtain ⟨rfl, rfl⟩ := hq
    simp only [Option.isNone_none, if_true]
    exact wpAny_pure yes
  | some oT =>
    refine PySem.W.kdx_alive e ?_
    simp only [Option.isNone_some, Bool.false_eq_true, if_false]
    apply wpAny_bind
    apply wpAny_field hz rfl (x := .bool b) rfl
    cases b with
    | true =>
      rw [if_neg (by decide)]
      exact wpAny_pure (no _ hz (Heap.SameBut.refl _ _))
    | false =>
      rw [if_pos (by decide)]
      apply wpAny_bind
      exact wpAny_setField_rec hz (by simp) fun h1 z1 s1 => wpAny_pure (no h1 z1 s1)
/-- next of such a zip, both have an item -/
theorem zipF_item {z TI TO i1 i2 l1 l2 : Addr} {k1 k2 : Nat} {xs ys : Array Value} {x y g : Value} {b : Bool} {Q : Value → Shared → Prop} (D : ZipApart z TI TO i1 i2 l1 l2) (hz : ZipF s.heap z TI TO g b) (hg : Gv g)
    (hTI : PairAt s.heap TI (.ref i1) (.ref i2)) (hTO : ∃ u v, PairAt s.heap TO u v) (h1 : s.heap.IsTupleIter i1 l1 k1) (h2 : s.heap.IsTupleIter i2 l2 k2) (hl1 : s.heap.IsTuple l1 xs) (hl2 : s.heap.IsTuple l2 ys)
    (hx : xs[k1]? = some x) (hy : ys[k2]? = some y)
    (hQ : ∀ h' g' b', ZipF h' z TI TO g' b' → Gv g' → (∃ u v, PairAt h' TO u v) → h'.IsTupleIter i1 l1 (k1 + 1) → h'.IsTupleIter i2 l2 (k2 + 1) → PairAt h' s.heap.objs.size x y → h'.objs.size = s.heap.objs.size + 1 →
      (∀ c o, c ≠ z → c ≠ TO → c ≠ i1 → c ≠ i2 → s.heap.get? c = some o → h'.get? c = some o) → Q (.ref s.heap.objs.size) { s with heap := h' }) :
    wpAny (model prog w) A (Builtin.«zip.__next__» ⟨[.ref z], []⟩) (fun fin s' => ∃ v, fin = .done (.ret v) ∧ Q v s') E s := by
  change wpAny _ _ (field (.ref z) 2 >>= _) _ _ _
  apply wpAny_bind
  apply wpAny_field hz rfl (x := .bool false) rfl
  change wpAny _ _ (field (.ref z) 3 >>= _) _ _ _
  apply wpAny_bind
  apply wpAny_field hz rfl (x := .ref TI) rfl
  apply wpAny_bind
  apply wpAny_seqItems hTI rfl
  change wpAny _ _ (Builtin.SmallTypes.ownedTupleIsFree (.ref z) >>= _) _ _ _
  apply wpAny_bind
  obtain ⟨u0, v0, hTO⟩ := hTO
  refine owned_any hz hg ?_ fun ha za sa => ?_
  · -- the owned one again
    simp only [if_true]
    refine wpAny_bind (wpAny_rule (wpAny_bind (wpAny_field hz rfl (x := .ref TO) rfl (wpAny_bind (wpAny_setField_rec hz (by simp) fun ha za sa => ?_)))))
    replace za : ZipF ha z TI TO .ellipsis b := za
    apply wpAny_bind
    simp only [List.zipIdx_cons, List.zipIdx_nil, List.forIn_cons, List.forIn_nil]
    refine wpAny_bind (wpAny_bind (wpAny_onRaise ?_))
    change wpAny _ _ (Builtin.SmallTypes.nextOf (.ref i1) >>= _) _ _ _
    refine wpAny_bind (nextOf_tuple_item (h1.extBut sa.extBut D.i1z) (hl1.extBut sa.extBut D.l1z) hx fun hb ib sb => wpAny_pure ?_)
    have tb : PairAt hb TO u0 v0 := sb.extBut _ _ D.TOi1 (sa.extBut _ _ D.TOz hTO)
    refine wpAny_bind (wpAny_seqItems tb rfl (wpAny_bind (wpAny_updateSeq_pair tb fun hc tc sc => ?_)))
    replace tc : PairAt hc TO x v0 := tc
    refine wpAny_bind (wpAny_letGo (wpAny_pure ?_))
    refine wpAny_bind (wpAny_bind (wpAny_onRaise ?_))
    change wpAny _ _ (Builtin.SmallTypes.nextOf (.ref i2) >>= _) _ _ _
    have i2c := ((h2.extBut sa.extBut D.i2z).extBut sb.extBut D.i12.symm).extBut sc.extBut D.TOi2.symm
    have l2c := ((hl2.extBut sa.extBut D.l2z).extBut sb.extBut D.l2i1).extBut sc.extBut D.l2TO
    refine wpAny_bind (nextOf_tuple_item i2c l2c hy fun hd id sd => wpAny_pure ?_)
    have td : PairAt hd TO x v0 := sd.extBut _ _ D.TOi2 tc
    refine wpAny_bind (wpAny_seqItems td rfl (wpAny_bind (wpAny_updateSeq_pair td fun he te se => ?_)))
    replace te : PairAt he TO x y := te
    refine wpAny_bind (wpAny_letGo (wpAny_pure (wpAny_pure (wpAny_bind (wpAny_seqItems te rfl (wpAny_bind (wpAny_newTuple ?_)))))))
    have size : he.objs.size = s.heap.objs.size := by rw [se.1, sd.1, sc.1, sb.1, sa.1]
    have keep : ∀ c o, c ≠ z → c ≠ TO → c ≠ i1 → c ≠ i2 → s.heap.get? c = some o → he.get? c = some o := fun c o n1 n2 n3 n4 q =>
      se.extBut _ _ n2 (sd.extBut _ _ n4 (sc.extBut _ _ n2 (sb.extBut _ _ n3 (sa.extBut _ _ n1 q))))
    have ze : ZipF he z TI TO .ellipsis b := se.extBut _ _ D.TOz.symm (sd.extBut _ _ D.i2z.symm (sc.extBut _ _ D.TOz.symm (sb.extBut _ _ D.i1z.symm za)))
    have i1e : he.IsTupleIter i1 l1 (k1 + 1) := ((ib.extBut sc.extBut D.TOi1.symm).extBut sd.extBut D.i12).extBut se.extBut D.TOi1.symm
    have i2e : he.IsTupleIter i2 l2 (k2 + 1) := id.extBut se.extBut D.TOi2.symm
    have zlt : z < he.objs.size := Heap.lt_size ze
    change wpAny _ _ (Builtin.SmallTypes.ownedTupleHandOut (.ref z) (.ref he.objs.size) >>= _) _ _ _
    apply wpAny_bind
    unfold Builtin.SmallTypes.ownedTupleHandOut
    have zf : ZipF (he.push { cls := .type "tuple", data := .seq #[x, y] }) z TI TO .ellipsis b := Heap.get?_push_of_some _ ze
    refine wpAny_bind (wpAny_setField_rec zf (by simp) fun hg zg sg => ?_)
    replace zg : ZipF hg z TI TO (rawInt he.objs.size) b := zg
    refine wpAny_setField_rec zg (by simp) fun hi zi si => ?_
    replace zi : ZipF hi z TI TO (rawInt he.objs.size) false := zi
    have on : ∀ c o, c ≠ z → he.get? c = some o → hi.get? c = some o := fun c o n q => si.extBut _ _ n (sg.extBut _ _ n (Heap.get?_push_of_some _ q))
    have new : PairAt hi he.objs.size x y := si.extBut _ _ (Nat.ne_of_gt zlt) (sg.extBut _ _ (Nat.ne_of_gt zlt) (Heap.get?_push_size _ rfl))
    have sz : hi.objs.size = he.objs.size + 1 := by rw [si.1, sg.1, Heap.size_push]
    refine wpAny_pure ⟨_, rfl, ?_⟩
    change Q (.ref he.objs.size) _
    rw [size] at new sz ⊢
    exact hQ hi _ _ zi (.inr ⟨_, rfl⟩) ⟨_, _, on _ _ D.TOz te⟩ (i1e.at fun o q => on _ o D.i1z q) (i2e.at fun o q => on _ o D.i2z q) new sz fun c o n1 n2 n3 n4 q => on c o n1 (keep c o n1 n2 n3 n4 q)
  · -- a new one
    simp only [Bool.false_eq_true, if_false]
    apply wpAny_bind
    rw [← Array.forIn_toList]
    simp only [List.forIn_cons, List.forIn_nil]
    refine wpAny_bind (wpAny_bind (wpAny_holding ?_))
    change wpAny _ _ (Builtin.SmallTypes.nextOf (.ref i1) >>= _) _ _ _
    refine wpAny_bind (nextOf_tuple_item (s := { s with heap := ha }) (h1.extBut sa.extBut D.i1z) (hl1.extBut sa.extBut D.l1z) hx fun hb ib sb => wpAny_pure (wpAny_pure ?_))
    refine wpAny_bind (wpAny_bind (wpAny_holding ?_))
    change wpAny _ _ (Builtin.SmallTypes.nextOf (.ref i2) >>= _) _ _ _
    refine wpAny_bind (nextOf_tuple_item (s := { s with heap := hb }) ((h2.extBut sa.extBut D.i2z).extBut sb.extBut D.i12.symm) ((hl2.extBut sa.extBut D.l2z).extBut sb.extBut D.l2i1) hy fun hc ic sc => wpAny_pure (wpAny_pure (wpAny_pure ?_)))
    change wpAny _ _ (newTuple [x, y] >>= _) _ _ _
    refine wpAny_bind (wpAny_newTuple ?_)
    have size : hc.objs.size = s.heap.objs.size := by rw [sc.1, sb.1, sa.1]
    have zc : ZipF hc z TI TO g true := sc.extBut _ _ D.i2z.symm (sb.extBut _ _ D.i1z.symm za)
    have keep : ∀ c o, c ≠ z → c ≠ i1 → c ≠ i2 → s.heap.get? c = some o → hc.get? c = some o := fun c o n1 n2 n3 q => sc.extBut _ _ n3 (sb.extBut _ _ n2 (sa.extBut _ _ n1 q))
    have i1c : hc.IsTupleIter i1 l1 (k1 + 1) := ib.extBut sc.extBut D.i12
    refine wpAny_pure ⟨_, rfl, ?_⟩
    change Q (.ref hc.objs.size) _
    have new : PairAt (hc.push { cls := .type "tuple", data := .seq #[x, y] }) hc.objs.size x y := Heap.get?_push_size _ rfl
    have sz : (hc.push { cls := .type "tuple", data := .seq #[x, y] }).objs.size = hc.objs.size + 1 := Heap.size_push ..
    rw [size] at new sz ⊢
    exact hQ _ g true (Heap.get?_push_of_some _ zc) hg ⟨_, _, Heap.get?_push_of_some _ (keep _ _ D.TOz D.TOi1 D.TOi2 hTO)⟩ (i1c.at fun o q => Heap.get?_push_of_some _ q) (ic.at fun o q => Heap.get?_push_of_some _ q) new sz
      fun c o n1 _ n3 n4 q => Heap.get?_push_of_some _ (keep c o n1 n3 n4 q)
/-- next of such a zip, one has none -/
theorem zipF_end {z TI TO i1 i2 l1 l2 : Addr} {k1 k2 : Nat} {xs ys : Array Value} {g : Value} {b : Bool} {Q : PySem.Fin → Shared → Prop} (hh : A.handled = none) (D : ZipApart z TI TO i1 i2 l1 l2) (hz : ZipF s.heap z TI TO g b) (hg : Gv g)
    (hTI : PairAt s.heap TI (.ref i1) (.ref i2)) (hTO : ∃ u v, PairAt s.heap TO u v) (h1 : s.heap.IsTupleIter i1 l1 k1) (h2 : s.heap.IsTupleIter i2 l2 k2) (hl1 : s.heap.IsTuple l1 xs) (hl2 : s.heap.IsTuple l2 ys)
    (hend : xs[k1]? = none ∨ ys[k2]? = none)
    (hE : ∀ h' e, (∀ c o, c ≠ z → c ≠ TO → c ≠ i1 → c ≠ i2 → s.heap.get? c = some o → h'.get? c = some o) → (∃ o, h'.get? e = some o ∧ o.cls = .type "StopIteration") → E (.ref e) { s with heap := h' }) :
    wpAny (model prog w) A (Builtin.«zip.__next__» ⟨[.ref z], []⟩) Q E s := by
  change wpAny _ _ (field (.ref z) 2 >>= _) _ _ _
  apply wpAny_bind
  apply wpAny_field hz rfl (x := .bool false) rfl
  change wpAny _ _ (field (.ref z) 3 >>= _) _ _ _
  apply wpAny_bind
  apply wpAny_field hz rfl (x := .ref TI) rfl
  apply wpAny_bind
  apply wpAny_seqItems hTI rfl
  change wpAny _ _ (Builtin.SmallTypes.ownedTupleIsFree (.ref z) >>= _) _ _ _
  apply wpAny_bind
  obtain ⟨u0, v0, hTO⟩ := hTO
  refine owned_any hz hg ?_ fun ha za sa => ?_
  · simp only [if_true]
    refine wpAny_bind (wpAny_rule (wpAny_bind (wpAny_field hz rfl (x := .ref TO) rfl (wpAny_bind (wpAny_setField_rec hz (by simp) fun ha za sa => ?_)))))
    replace za : ZipF ha z TI TO .ellipsis b := za
    apply wpAny_bind
    simp only [List.zipIdx_cons, List.zipIdx_nil, List.forIn_cons, List.forIn_nil]
    refine wpAny_bind (wpAny_bind (wpAny_onRaise ?_))
    change wpAny _ _ (Builtin.SmallTypes.nextOf (.ref i1) >>= _) _ _ _
    have i1a := h1.extBut sa.extBut D.i1z
    have l1a := hl1.extBut sa.extBut D.l1z
    cases hx : xs[k1]? with
    | none =>
      refine wpAny_bind (nextOf_tuple_end hh i1a l1a hx fun hb e sb ⟨oe, ge, ce⟩ => ?_)
      have zb : ZipF hb z TI TO .ellipsis b := sb _ _ D.i1z.symm za
      have ez : e ≠ z := fun q => by
        rw [q, zb] at ge
        cases ge
        simp at ce
      refine wpAny_setField_rec zb (by simp) fun hc _ sc => hE hc e (fun c o n1 _ n3 _ q => sc.extBut _ _ n1 (sb _ _ n3 (sa.extBut _ _ n1 q))) ⟨oe, sc.extBut _ _ ez ge, ce⟩
    | some x =>
      have hy : ys[k2]? = none := hend.resolve_left fun q => by rw [hx] at q; cases q
      refine wpAny_bind (nextOf_tuple_item i1a l1a hx fun hb ib sb => wpAny_pure ?_)
      have tb : PairAt hb TO u0 v0 := sb.extBut _ _ D.TOi1 (sa.extBut _ _ D.TOz hTO)
      refine wpAny_bind (wpAny_seqItems tb rfl (wpAny_bind (wpAny_updateSeq_pair tb fun hc tc sc => ?_)))
      refine wpAny_bind (wpAny_letGo (wpAny_pure ?_))
      refine wpAny_bind (wpAny_bind (wpAny_onRaise ?_))
      change wpAny _ _ (Builtin.SmallTypes.nextOf (.ref i2) >>= _) _ _ _
      have i2c := ((h2.extBut sa.extBut D.i2z).extBut sb.extBut D.i12.symm).extBut sc.extBut D.TOi2.symm
      have l2c := ((hl2.extBut sa.extBut D.l2z).extBut sb.extBut D.l2i1).extBut sc.extBut D.l2TO
      refine wpAny_bind (nextOf_tuple_end hh i2c l2c hy fun hd e sd ⟨oe, ge, ce⟩ => ?_)
      have zd : ZipF hd z TI TO .ellipsis b := sd _ _ D.i2z.symm (sc.extBut _ _ D.TOz.symm (sb.extBut _ _ D.i1z.symm za))
      have ez : e ≠ z := fun q => by
        rw [q, zd] at ge
        cases ge
        simp at ce
      refine wpAny_setField_rec zd (by simp) fun hf _ sf => hE hf e (fun c o n1 n2 n3 n4 q => sf.extBut _ _ n1 (sd _ _ n4 (sc.extBut _ _ n2 (sb.extBut _ _ n3 (sa.extBut _ _ n1 q))))) ⟨oe, sf.extBut _ _ ez ge, ce⟩
  · simp only [Bool.false_eq_true, if_false]
    apply wpAny_bind
    rw [← Array.forIn_toList]
    simp only [List.forIn_cons, List.forIn_nil]
    refine wpAny_bind (wpAny_bind (wpAny_holding ?_))
    change wpAny _ _ (Builtin.SmallTypes.nextOf (.ref i1) >>= _) _ _ _
    have i1a := h1.extBut sa.extBut D.i1z
    have l1a := hl1.extBut sa.extBut D.l1z
    cases hx : xs[k1]? with
    | none => exact wpAny_bind (nextOf_tuple_end (s := { s with heap := ha }) hh i1a l1a hx fun hb e sb he => hE hb e (fun c o n1 _ n3 _ q => sb _ _ n3 (sa.extBut _ _ n1 q)) he)
    | some x =>
      have hy : ys[k2]? = none := hend.resolve_left fun q => by rw [hx] at q; cases q
      refine wpAny_bind (nextOf_tuple_item (s := { s with heap := ha }) i1a l1a hx fun hb ib sb => wpAny_pure (wpAny_pure ?_))
      refine wpAny_bind (wpAny_bind (wpAny_holding ?_))
      change wpAny _ _ (Builtin.SmallTypes.nextOf (.ref i2) >>= _) _ _ _
      exact wpAny_bind (nextOf_tuple_end (s := { s with heap := hb }) hh ((h2.extBut sa.extBut D.i2z).extBut sb.extBut D.i12.symm) ((hl2.extBut sa.extBut D.l2z).extBut sb.extBut D.l2i1) hy fun hc e sc he =>
        hE hc e (fun c o n1 _ n3 n4 q => sc _ _ n4 (sb.extBut _ _ n3 (sa.extBut _ _ n1 q))) he)
/-- next of an enumerate over whatever gives x and leaves the enumerate alone -/
theorem enum_next {e it : Addr} {i : Nat} {old : Value} {Q : Option Value → Shared → Prop} (he : IsEnum s.heap e it i old)
    (hn : wpAny (model prog w) A.in1 (Builtin.SmallTypes.nextOf (.ref it)) (fun x s1 => IsEnum s1.heap e it i old ∧ ∀ h' tk, IsEnumOut h' e it ((i : Int) + 1) x s1.heap.objs.size →
      h'.get? s1.heap.objs.size = some { cls := .type "tuple", data := .seq #[.int i tk, x] } → h'.objs.size = s1.heap.objs.size + 1 → (∀ b o, b ≠ e → s1.heap.get? b = some o → h'.get? b = some o) →
        Q (some (.ref s1.heap.objs.size)) { s1 with heap := h', toks := tk + 1 }) (fun v s1 => s1.TypeIs v "StopIteration" ∧ Q none s1) s) : wpAny (model prog w) A (pyNext (.ref e)) Q E s := by
  have ty : s.TypeIs (.ref e) "enumerate" := ⟨_, he, rfl⟩
  unfold pyNext
  apply wpAny_bind
  apply wpAny_attempt
  apply wpAny_callSpecial?_slot (name := Str.ofString "__next__") ty F.slot_enumerate_next
  apply wpAny_call_entry F.slot_enumerate_next ty F.entry_enumerate_next _ (F.args_enumerate_next_1 _)
  change wpAny _ _ (field (.ref e) 2 >>= _) _ _ _
  apply wpAny_bind
  apply wpAny_field he rfl (x := .ref it) rfl
  apply wpAny_bind
  refine wpAny_mono hn (fun x s1 hq => ?_) (fun v s1 hq => ?_)
  · obtain ⟨e1, q⟩ := hq
    obtain ⟨hp, gn, dr, tk, os⟩ := s1
    dsimp only at e1 q
    change wpAny _ _ (field (.ref e) 3 >>= _) _ _ _
    refine wpAny_bind (wpAny_field e1 rfl (x := rawInt i) rfl ?_)
    change wpAny _ _ (field (.ref e) 4 >>= _) _ _ _
    refine wpAny_bind (wpAny_field e1 rfl (x := .none) rfl ?_)
    change wpAny _ _ (mkInt i >>= _) _ _ _
    refine wpAny_bind (wpAny_mkInt ?_)
    change wpAny _ _ (setField (.ref e) 3 (rawInt ((i : Int) + 1)) >>= _) _ _ ⟨hp, gn, dr, tk + 1, os⟩
    refine wpAny_bind (wpAny_setField_rec e1 (by simp) fun ha ea sa => ?_)
    replace ea : IsEnum ha e it ((i : Int) + 1) old := ea
    replace sa : Heap.SameBut e hp ha := sa
    change wpAny _ _ (setField (.ref e) 4 .none >>= _) _ _ ⟨ha, gn, dr, tk + 1, os⟩
    refine wpAny_bind (wpAny_setField_rec ea (by simp) fun hb eb sb => ?_)
    replace eb : IsEnum hb e it ((i : Int) + 1) old := eb
    replace sb : Heap.SameBut e ha hb := sb
    change wpAny _ _ (newTuple [.int i tk, x] >>= _) _ _ ⟨hb, gn, dr, tk + 1, os⟩
    refine wpAny_bind (wpAny_newTuple ?_)
    have size : hb.objs.size = hp.objs.size := by rw [sb.1, sa.1]
    have elt : e < hb.objs.size := Heap.lt_size eb
    have ec : IsEnum (hb.push { cls := .type "tuple", data := .seq #[.int i tk, x] }) e it ((i : Int) + 1) old := Heap.get?_push_of_some _ eb
    change wpAny _ _ (Builtin.SmallTypes.ownedTupleIsFree (.ref e) >>= _) _ _ _
    apply wpAny_bind
    unfold Builtin.SmallTypes.ownedTupleIsFree
    refine wpAny_bind (wpAny_field ec rfl (x := .none) rfl (wpAny_pure ?_))
    simp only [if_true]
    refine wpAny_bind (wpAny_rule (wpAny_bind (wpAny_field ec rfl (x := old) rfl ?_)))
    refine wpAny_bind (wpAny_setField_rec ec (by simp) fun hd ed sd => ?_)
    replace ed : IsEnum hd e it ((i : Int) + 1) x := ed
    change wpAny _ _ (Builtin.SmallTypes.ownedTupleHandOut (.ref e) (.ref hb.objs.size) >>= _) _ _ _
    apply wpAny_bind
    unfold Builtin.SmallTypes.ownedTupleHandOut
    refine wpAny_bind (wpAny_setField_rec ed (by simp) fun hf ef sf => ?_)
    replace ef : IsEnumOut hf e it ((i : Int) + 1) x hb.objs.size := ef
    refine wpAny_setField_rec ef (by simp) fun hg eg sg => ?_
    replace eg : IsEnumOut hg e it ((i : Int) + 1) x hb.objs.size := eg
    have on : ∀ c o, c ≠ e → hb.get? c = some o → hg.get? c = some o := fun c o n z => sg.extBut _ _ n (sf.extBut _ _ n (sd.extBut _ _ n (Heap.get?_push_of_some _ z)))
    have new : hg.get? hb.objs.size = some { cls := .type "tuple", data := .seq #[.int i tk, x] } := sg.extBut _ _ (Nat.ne_of_gt elt) (sf.extBut _ _ (Nat.ne_of_gt elt) (sd.extBut _ _ (Nat.ne_of_gt elt) (Heap.get?_push_size _ rfl)))
    have sz : hg.objs.size = hb.objs.size + 1 := by rw [sg.1, sf.1, sd.1, Heap.size_push]
    rw [size] at eg new sz ⊢
    refine wpAny_bind (wpAny_letGo (wpAny_pure ⟨_, rfl, ?_⟩))
    refine wpAny_pure (q hg tk eg new sz fun b o n z => on b o n (sb.extBut _ _ n (sa.extBut _ _ n z)))
  · obtain ⟨ht, q⟩ := hq
    refine wpAny_bind (wpAny_isInstance (T := "StopIteration") (b := true) ht isSubtype_stop ?_)
    exact wpAny_pure q
end
open AutoSeq1 (wpAny_loadPart')
theorem meets_enumZ (z TI TO : Addr) :
    Meets (Builtin.«enumerate.__new__» ⟨[.type "enumerate", .ref z], []⟩) (fun _ R s => IsZip s.heap z TI TO .none ∧
      R (.ok (.ret (.ref s.heap.objs.size))) { s with heap := s.heap.push { cls := .type "enumerate", data := .fields #[.none, .bool false, .ref z, rawInt 0, .none, .none] } }) :=
  .of_wp fun prog w A R s h => by
    obtain ⟨hp, g, d, tk, os⟩ := s
    obtain ⟨hz, h⟩ := h
    have hsub := sub_enumerate
    have hZ : IsZip (Shared.heap ⟨hp, g, d, tk, os⟩) z TI TO .none := hz
    wp_walk using wpAny_loadPart' hz
    refine wpAny_stack_any fun st => wpAny_pure ?_
    split
    · rename_i c _ _ _ _ _
      cases (c == Value.type "enumerate") <;> (wp_walk using wpAny_loadPart' hz, wpAny_pyIter_zip hZ) <;> exact ⟨_, rfl, h⟩
    · wp_walk using wpAny_loadPart' hz, wpAny_pyIter_zip hZ
      exact ⟨_, rfl, h⟩
section
variable {prog : Program} {w : World} {A : Around} {E : Value → Shared → Prop} {s : Shared}
theorem call_enumZ {z TI TO : Addr} {Q : Value → Shared → Prop} (hz : IsZip s.heap z TI TO .none)
    (h : ∀ h', IsEnum h' s.heap.objs.size z 0 .none → (∀ b o, s.heap.get? b = some o → h'.get? b = some o) → Q (.ref s.heap.objs.size) { s with heap := h' }) :
    wpAny (model prog w) A (call (.type "enumerate") [.ref z]) Q E s := by
  refine callType_new F.called_enumerate (by decide) (F.typeCall_enumerate_1 _) (F.newCall_enumerate_1 _) (fun obj => F.args_object_init_2 obj _) F.entry_enumerate_new (meets_enumZ z TI TO) ⟨hz, ?_⟩
  have he : (s.heap.push { cls := .type "enumerate", data := .fields #[.none, .bool false, .ref z, rawInt 0, .none, .none] }).get? s.heap.objs.size = some _ := Heap.get?_push_size _ rfl
  exact ⟨⟨_, he, rfl⟩, h _ he fun b o x => Heap.get?_push_of_some _ x⟩
end
def IteZ (K : PySem.W.Frag) (a b : Addr) : It where
  go := fun i H => ∃ (xs ys : List V) (x y : V), SqT K H a xs ∧ SqT K H b ys ∧ xs[i]? = some x ∧ ys[i]? = some y
  yld := fun i H v H' => ∃ T P x y, v = .ref T ∧ H P = none ∧ H T = none ∧ T ≠ P ∧ H' = upd (upd H P (.tup [x, y])) T (.tup [.int (i : Nat), .ref P]) ∧ (∀ xs, SqT K H a xs → xs[i]? = some x) ∧ ∀ ys, SqT K H b ys → ys[i]? = some y
  stop := fun i H => ∃ xs ys : List V, SqT K H a xs ∧ SqT K H b ys ∧ (xs.length ≤ i ∨ ys.length ≤ i)
structure EZ (e z TI TO i1 i2 a b : Addr) : Prop where
  D : ZipApart z TI TO i1 i2 a b
  ez : e ≠ z
  eI : e ≠ TI
  eO : e ≠ TO
  e1 : e ≠ i1
  e2 : e ≠ i2
abbrev ezSt (e z TI TO i1 i2 a b : Addr) (i : Nat) (h : Heap) : Prop :=
  (∃ old, IsEnum h e z ((i : Nat) : Int) old) ∧ (∃ g c, ZipF h z TI TO g c ∧ Gv g) ∧ PairAt h TI (.ref i1) (.ref i2) ∧ (∃ u v, PairAt h TO u v) ∧ h.IsTupleIter i1 a i ∧ h.IsTupleIter i2 b i
theorem turn_enumZ {P : Program} {w : World} {K : PySem.W.Frag} {elts : List Expr} {kk : Nat} {tpos : Pos} {e z TI TO i1 i2 a b : Addr} (Z : EZ e z TI TO i1 i2 a b) :
    Turn P w K (.Tuple elts kk tpos) (IteZ K a b) [e, z, TI, TO, i1, i2] e (ezSt e z TI TO i1 i2 a b) where
  mem := List.mem_cons_self
  obj := by
    rintro i h ⟨⟨old, he⟩, ⟨g, c, hz, _⟩, hI, ⟨u, v, hO⟩, ⟨o1, g1, _, d1⟩, ⟨o2, g2, _, d2⟩⟩ q hq
    simp only [List.mem_cons, List.not_mem_nil, or_false] at hq
    rcases hq with rfl | rfl | rfl | rfl | rfl | rfl
    · exact ⟨_, he, fun _ z => nomatch z⟩
    · exact ⟨_, hz, fun _ z => nomatch z⟩
    · exact ⟨_, hI, fun _ z => nomatch z⟩
    · exact ⟨_, hO, fun _ z => nomatch z⟩
    · exact ⟨o1, g1, fun _ z => by rw [d1] at z; cases z⟩
    · exact ⟨o2, g2, fun _ z => by rw [d2] at z; cases z⟩
  keep := by
    rintro i h h' ⟨⟨old, he⟩, ⟨g, c, hz, hg⟩, hI, ⟨u, v, hO⟩, h1, h2⟩ k
    exact ⟨⟨old, k e (by simp) _ he⟩, ⟨g, c, k z (by simp) _ hz, hg⟩, k TI (by simp) _ hI, ⟨u, v, k TO (by simp) _ hO⟩, h1.at fun o q => k i1 (by simp) o q, h2.at fun o q => k i2 (by simp) o q⟩
  item := by
    intro X hP hw hK hc i pn s σ H E J hf st hg
    subst hP hw hK
    obtain ⟨⟨old, he⟩, ⟨g, c, hz, hgv⟩, hI, hO, h1, h2⟩ := st
    obtain ⟨xs, ys, x, y, qx, qy, hx, hy⟩ := hg
    obtain ⟨its, rv, p1, _⟩ := J.tuple qx
    obtain ⟨its2, rv2, p2, _⟩ := J.tuple qy
    obtain ⟨u, hu, ru⟩ := rv.get hx
    obtain ⟨u2, hu2, ru2⟩ := rv2.get hy
    have el : e < s.heap.objs.size := Heap.lt_size he
    have tz : s.TypeIs (.ref z) "zip" := ⟨_, hz, rfl⟩
    have lt : ∀ q ∈ [e, z, TI, TO, i1, i2], q < s.heap.objs.size := by
      intro q hq
      simp only [List.mem_cons, List.not_mem_nil, or_false] at hq
      rcases hq with rfl | rfl | rfl | rfl | rfl | rfl
      · exact el
      · exact Heap.lt_size hz
      · exact Heap.lt_size hI
      · obtain ⟨_, _, q⟩ := hO; exact Heap.lt_size q
      · obtain ⟨_, q, _⟩ := h1; exact Heap.lt_size q
      · obtain ⟨_, q, _⟩ := h2; exact Heap.lt_size q
    refine enum_next he ?_
    unfold Builtin.SmallTypes.nextOf
    refine wpAny_bind (wpAny_callSpecial?_slot (name := Str.ofString "__next__") tz F.slot_zip_next (wpAny_call_entry F.slot_zip_next tz F.entry_zip_next ?_ (F.args_zip_next_1 _)))
    refine zipF_item Z.D hz hgv hI hO h1 h2 p1 p2 (x := u) (y := u2) (by simpa using hu) (by simpa using hu2) fun hA gA bA zA vA oA a1 a2 pA szA kA => ?_
    refine wpAny_pure ⟨kA _ _ Z.ez Z.eO Z.e1 Z.e2 he, fun hB tk eB tB szB kB => ?_⟩
    dsimp only at eB tB szB kB ⊢
    rw [szA] at eB tB szB ⊢
    refine ⟨_, rfl, wpAny_letOwnedTupleGo_enum (s := { s with heap := hB, toks := tk + 1 }) eB fun hC eC sC => ?_⟩
    have ne1 : ∀ q, q < s.heap.objs.size + 1 → q ≠ s.heap.objs.size + 1 := fun q h => Nat.ne_of_lt h
    have npe : s.heap.objs.size ≠ e := Nat.ne_of_gt el
    have upB : ∀ q o, q ≠ e → hA.get? q = some o → hC.get? q = some o := fun q o n z => (sC.2 q n).trans (kB q o n z)
    -- the pair, then the tuple
    have newP : ObjOk X.prog X.w (upd H s.heap.objs.size (.tup [x, y])) hA s.heap.objs.size (.tup [x, y]) := ⟨small_line (by show 2 ≤ 100000; omega), [u, u2], .cons ru (.cons ru2 .nil), ⟨_, pA, rfl, _, rfl⟩⟩
    have J1 : Inv X pn σ (upd H s.heap.objs.size (.tup [x, y])) { s with heap := hA } :=
      J.turnedNew (t' := s.toks) (ch := [e, z, TI, TO, i1, i2]) (fun q o hq z => kA q o (fun t => hq (by simp [t])) (fun t => hq (by simp [t])) (fun t => hq (by simp [t])) (fun t => hq (by simp [t])) z) hf (Nat.le_refl _) newP
    have hf1 : ∀ q ∈ [e], FpOk X pn (upd H s.heap.objs.size (.tup [x, y])) q := fun q hq => by
      obtain ⟨f0, f1⟩ := hf q (by simp at hq; simp [hq])
      exact ⟨by rw [upd_ne (Nat.ne_of_lt (lt q (by simp at hq; simp [hq])))]; exact f0, f1⟩
    have tC : hC.get? (s.heap.objs.size + 1) = some { cls := .type "tuple", data := .seq #[.int i tk, .ref s.heap.objs.size] } := (sC.2 _ (Nat.ne_of_gt (Nat.lt_succ_of_lt el))).trans tB
    have newT : ObjOk X.prog X.w (upd (upd H s.heap.objs.size (.tup [x, y])) (s.heap.objs.size + 1) (.tup [.int (i : Nat), .ref s.heap.objs.size])) hC (s.heap.objs.size + 1) (.tup [.int (i : Nat), .ref s.heap.objs.size]) :=
      ⟨small_line (by show 2 ≤ 100000; omega), [.int i tk, .ref s.heap.objs.size], .cons ⟨_, rfl⟩ (.cons rfl .nil), ⟨_, tC, rfl, _, rfl⟩⟩
    have J2 : Inv X pn σ (upd (upd H s.heap.objs.size (.tup [x, y])) (s.heap.objs.size + 1) (.tup [.int (i : Nat), .ref s.heap.objs.size])) { s with heap := hC, toks := tk + 1 } :=
      J1.turnedNew (ch := [e]) (fun q o hq z => upB q o (fun t => hq (by simp [t])) z) hf1 (by show hA.objs.size ≤ _; rw [szA]; exact Nat.le_refl _) newT
    have fr1 : H (s.heap.objs.size + 1) = none := J.hok.fresh (Nat.le_succ _)
    refine ⟨.ref (s.heap.objs.size + 1), _, J2, rfl, ⟨_, _, x, y, rfl, J.hok.fresh (Nat.le_refl _), fr1, Nat.succ_ne_self _, rfl, fun l hl => by rw [J.tuple_inj hl qx]; exact hx, fun l hl => by rw [J.tuple_inj hl qy]; exact hy⟩, ?_, fun q hq => ?_⟩
    · refine ⟨⟨.ref s.heap.objs.size, ?_⟩, ⟨gA, bA, upB _ _ Z.ez.symm zA, vA⟩, ?_, ?_, a1.at fun o q => upB _ o Z.e1.symm q, a2.at fun o q => upB _ o Z.e2.symm q⟩
      · rw [show ((i + 1 : Nat) : Int) = (i : Int) + 1 by omega]
        exact eC
      · exact upB _ _ Z.eI.symm (kA _ _ Z.D.TIz Z.D.TITO Z.D.TIi1 Z.D.TIi2 hI)
      · obtain ⟨u', v', q⟩ := oA
        exact ⟨u', v', upB _ _ Z.eO.symm q⟩
    · have := lt q hq
      rw [upd_ne (Nat.ne_of_lt (Nat.lt_succ_of_lt this)), upd_ne (Nat.ne_of_lt this)]
      exact (hf q hq).1
  done := by
    intro X hP hw hK hc i pn s σ H E J hf st hg
    subst hP hw hK
    obtain ⟨⟨old, he⟩, ⟨g, c, hz, hgv⟩, hI, hO, h1, h2⟩ := st
    obtain ⟨xs, ys, qx, qy, hend⟩ := hg
    obtain ⟨its, rv, p1, _⟩ := J.tuple qx
    obtain ⟨its2, rv2, p2, _⟩ := J.tuple qy
    have l1 := rv.length
    have l2 := rv2.length
    have ends : its.toArray[i]? = none ∨ its2.toArray[i]? = none := by
      rcases hend with q | q
      · exact .inl (by simp; omega)
      · exact .inr (by simp; omega)
    have tz : s.TypeIs (.ref z) "zip" := ⟨_, hz, rfl⟩
    refine enum_next he ?_
    unfold Builtin.SmallTypes.nextOf
    refine wpAny_bind (wpAny_callSpecial?_slot (name := Str.ofString "__next__") tz F.slot_zip_next (wpAny_call_entry F.slot_zip_next tz F.entry_zip_next ?_ (F.args_zip_next_1 _)))
    refine zipF_end (by show X.A.in1.in1.handled = none; exact J.ok.hd hc) Z.D hz hgv hI hO h1 h2 p1 p2 ends fun h' x k hx => ?_
    obtain ⟨o, ho, hcx⟩ := hx
    exact ⟨⟨o, ho, hcx⟩, rfl, J.turnedL (t' := s.toks) (ch := [e, z, TI, TO, i1, i2]) (fun q o hq z => k q o (fun t => hq (by simp [t])) (fun t => hq (by simp [t])) (fun t => hq (by simp [t])) (fun t => hq (by simp [t])) z) hf⟩
  self := fun A i s Q E ⟨⟨_, he⟩, _⟩ h => wpAny_pyIter_enum he h
def iEnumZ (K : PySem.W.Frag) (ta : TA) : TI := fun σ H R => ta σ H fun vs H1 => ∃ a b xs ys, vs = [.ref a, .ref b] ∧ SqT K H1 a xs ∧ SqT K H1 b ys ∧ R (IteZ K a b) H1
theorem pi_enumZ {X : Cx} {e e2 : Expr} {ta : TA} {p pos p2 pos2 tpos : Pos} {elts : List Expr} {kk : Nat} (hg : Gl X "enumerate") (hm : X.mg "enumerate" = none) (hg2 : Gl X "zip") (hm2 : X.mg "zip" = none) (ha : PA X [e, e2] ta)
    (hs : starEach [Expr.Call (.Name "zip" p2) [e, e2] [] pos2] X.env = [(false, eval (.Call (.Name "zip" p2) [e, e2] [] pos2) X.env)] := by rfl)
    (hs2 : starEach [e, e2] X.env = (false, eval e X.env) :: starEach [e2] X.env := by rfl) (hpl2 : (backTo pos2 (starEach [e2] X.env)).any (·.1) = false := by rfl) :
    PI X (.Tuple elts kk tpos) (.Call (.Name "enumerate" p) [.Call (.Name "zip" p2) [e, e2] [] pos2] [] pos) (iEnumZ X.K ta) := by
  constructor
  intro pn s σ H R J h
  refine Call_ (ld_blt J hg hm boot_enumerate ?_)
  refine PyProof.Rows.callWith_type1 ?_ hs rfl
  rw [hs]
  refine Calls.spliced_cons ?_
  refine Call_ (ld_blt J hg2 hm2 PyProof.Rows.boot_zip ?_)
  refine PyProof.Rows.callWith_type1 (thn (ha.run pos2 pn s σ H _ J h) ?_) hs2 hpl2
  rintro us s1 ⟨vs, H1, J1, r1, a, b, xs, ys, rfl, qx, qy, q⟩
  obtain ⟨u1, u2, rfl, e1, e2'⟩ := vals2 r1
  cases e1
  cases e2'
  obtain ⟨its, rv, p1, _⟩ := J1.tuple qx
  obtain ⟨its2, rv2, p2', _⟩ := J1.tuple qy
  have al : a < s1.heap.objs.size := by obtain ⟨o, ho, _⟩ := p1; exact Heap.lt_size ho
  have bl : b < s1.heap.objs.size := by obtain ⟨o, ho, _⟩ := p2'; exact Heap.lt_size ho
  refine call_zipT (show s1.heap.IsTuple a its.toArray from p1) (show s1.heap.IsTuple b its2.toArray from p2') fun h' hz hTI hTO h1 h2 hsz hk => ?_
  refine Calls.spliced_nil ?_
  refine call_enumZ (s := { s1 with heap := h' }) hz fun h'' he hk2 => wpAny_pyIter_enum he ?_
  have J2 : Inv X pn σ H1 { s1 with heap := h'' } := J1.kept (t' := s1.toks) fun c o z => hk2 c o (hk c o z)
  have sz : (Shared.heap { s1 with heap := h' }).objs.size = s1.heap.objs.size + 5 := hsz
  rw [sz] at he ⊢
  have N := PySem.W.ktu_apart s1.heap.objs.size a b al bl
  refine ⟨s1.heap.objs.size + 5, [s1.heap.objs.size + 5, s1.heap.objs.size + 4, s1.heap.objs.size + 2, s1.heap.objs.size + 3, s1.heap.objs.size, s1.heap.objs.size + 1], _, _, H1, rfl, J2,
    turn_enumZ (e := s1.heap.objs.size + 5) (z := s1.heap.objs.size + 4) (TI := s1.heap.objs.size + 2) (TO := s1.heap.objs.size + 3) (i1 := s1.heap.objs.size) (i2 := s1.heap.objs.size + 1) ⟨N, ?_, ?_, ?_, ?_, ?_⟩,
    ⟨⟨_, he⟩, ⟨_, _, hk2 _ _ hz, .inl rfl⟩, hk2 _ _ hTI, ⟨_, _, hk2 _ _ hTO⟩, h1.at fun o q => hk2 _ o q, h2.at fun o q => hk2 _ o q⟩, fun c hc => ?_, q⟩
  · exact Nat.ne_of_gt (Nat.add_lt_add_left (by decide) _)
  · exact Nat.ne_of_gt (Nat.add_lt_add_left (by decide) _)
  · exact Nat.ne_of_gt (Nat.add_lt_add_left (by decide) _)
  · exact Nat.ne_of_gt (Nat.lt_add_of_pos_right (by decide))
  · exact Nat.ne_of_gt (Nat.add_lt_add_left (by decide) _)
  · have hle : s1.heap.objs.size ≤ c := by
      simp only [List.mem_cons, List.not_mem_nil, or_false] at hc
      rcases hc with rfl | rfl | rfl | rfl | rfl | rfl
      · exact Nat.le_add_right _ _
      · exact Nat.le_add_right _ _
      · exact Nat.le_add_right _ _
      · exact Nat.le_add_right _ _
      · exact Nat.le_refl _
      · exact Nat.le_add_right _ _
    exact J1.fpOk hle (J1.hok.fresh hle)
/-- the i-th of both in a new pair, that in a new tuple behind its number -/
def YNum (xs ys : Nat → Option V) : Nat → Hp → V → Hp → Prop := fun i H v H' => ∃ T P x y, v = .ref T ∧ H P = none ∧ H T = none ∧ T ≠ P ∧ H' = upd (upd H P (.tup [x, y])) T (.tup [.int (i : Nat), .ref P]) ∧ xs i = some x ∧ ys i = some y
theorem walk_enumZ {K : PySem.W.Frag} {a b : Addr} {xs ys : List V} : Walk (IteZ K a b) (min xs.length ys.length) (fun H => SqT K H a xs ∧ SqT K H b ys) (YNum (fun i => xs[i]?) (fun i => ys[i]?)) := by
  constructor
  · intro i H hi q
    exact ⟨xs, ys, xs[i]'(by omega), ys[i]'(by omega), q.1, q.2, by simp [show i < xs.length by omega], by simp [show i < ys.length by omega]⟩
  · intro H q
    exact ⟨xs, ys, q.1, q.2, by omega⟩
  · rintro i H v H' hi q ⟨T, P, x, y, h1, h2, h3, h4, h5, h6, h7⟩
    exact ⟨T, P, x, y, h1, h2, h3, h4, h5, h6 xs q.1, h7 ys q.2⟩
end GS
namespace M15
structure Sh (xs : List Int) : Prop where
  n : xs.length ≤ 20
  a : ∀ x ∈ xs, 1 ≤ x ∧ x ≤ 20
  f : xs.Pairwise (fun x y => y ≤ x)
abbrev gd (xs : List Int) (k : Nat) : Int := xs.getD k 0
theorem gd_at {xs : List Int} {k : Nat} (h : k < xs.length) : gd xs k = xs[k] := by
  unfold gd
  rw [List.getD_eq_getElem?_getD, List.getElem?_eq_getElem h]
  rfl
theorem gd_out {xs : List Int} {k : Nat} (h : xs.length ≤ k) : gd xs k = 0 := by
  unfold gd
  rw [List.getD_eq_getElem?_getD, List.getElem?_eq_none h]
  rfl
structure Sq (xs : List Int) : Prop where
  n : xs.length ≤ 20
  a : ∀ k, k < xs.length → 1 ≤ gd xs k ∧ gd xs k ≤ 20
  f : ∀ k, k + 1 < xs.length → gd xs (k + 1) ≤ gd xs k
theorem Sq.le {xs : List Int} (h : Sq xs) : ∀ (d i : Nat), i + d < xs.length → gd xs (i + d) ≤ gd xs i
  | 0, i, _ => Int.le_refl _
  | d + 1, i, hl => Int.le_trans (h.f (i + d) hl) (h.le d i (by omega))
theorem sq_iff {xs : List Int} : Sh xs ↔ Sq xs := by
  constructor
  · intro h
    refine ⟨h.n, fun k hk => ?_, fun k hk => ?_⟩
    · rw [gd_at hk]
      exact h.a _ (List.getElem_mem hk)
    · rw [gd_at hk, gd_at (by omega)]
      exact List.pairwise_iff_getElem.mp h.f k (k + 1) (by omega) hk (by omega)
  · intro h
    refine ⟨h.n, fun x m => ?_, ?_⟩
    · obtain ⟨k, hk, rfl⟩ := List.mem_iff_getElem.mp m
      have := h.a k hk
      rw [gd_at hk] at this
      exact this
    · rw [List.pairwise_iff_getElem]
      intro i j hi hj hij
      have := h.le (j - i) i (by omega)
      rw [show i + (j - i) = j by omega, gd_at hi, gd_at hj] at this
      exact this
theorem gd_set {xs : List Int} {r k : Nat} {v : Int} (h : r < xs.length) : gd (xs.set r v) k = if k = r then v else gd xs k := by
  unfold gd
  rw [List.getD_eq_getElem?_getD, List.getD_eq_getElem?_getD, List.getElem?_set]
  by_cases c : r = k
  · subst c
    rw [if_pos rfl, if_pos h, if_pos rfl]
    rfl
  · rw [if_neg c, if_neg (fun z => c z.symm)]
theorem gd_snoc {xs : List Int} {k : Nat} {v : Int} : gd (xs ++ [v]) k = if k < xs.length then gd xs k else if k = xs.length then v else 0 := by
  unfold gd
  rw [List.getD_eq_getElem?_getD, List.getD_eq_getElem?_getD]
  by_cases c : k < xs.length
  · rw [if_pos c, List.getElem?_append_left c]
  · rw [if_neg c, List.getElem?_append_right (by omega)]
    by_cases c2 : k = xs.length
    · rw [if_pos c2, c2, Nat.sub_self]
      rfl
    · rw [if_neg c2, List.getElem?_eq_none (by simp; omega)]
      rfl
theorem gd_cons {x : Int} {xs : List Int} {k : Nat} : gd (x :: xs) k = if k = 0 then x else gd xs (k - 1) := by
  cases k with
  | zero => rfl
  | succ k => rfl
theorem gd_drop {xs : List Int} {k : Nat} : gd (xs.drop 1 ++ [0]) k = gd xs (k + 1) := by
  rw [gd_snoc, List.length_drop]
  by_cases c : k < xs.length - 1
  · rw [if_pos c]
    unfold gd
    rw [List.getD_eq_getElem?_getD, List.getD_eq_getElem?_getD, List.getElem?_drop, Nat.add_comm]
  · rw [if_neg c, gd_out (show xs.length ≤ k + 1 by omega)]
    split <;> rfl
theorem gd_take {xs : List Int} {n k : Nat} : gd (xs.take n) k = if k < n then gd xs k else 0 := by
  unfold gd
  rw [List.getD_eq_getElem?_getD, List.getD_eq_getElem?_getD, List.getElem?_take]
  split <;> rfl
theorem set_cut {xs : List Int} {r : Nat} {v : Int} (h : r < xs.length) : xs.set r v = xs.take r ++ [v] ++ xs.drop (r + 1) := by
  rw [List.set_eq_take_append_cons_drop, if_pos h, List.append_assoc]
  rfl
def pRoom (h w : Int) (xs : List Int) (i : Nat) : Bool := decide (gd (xs ++ [0]) i < gd (w :: xs) i) && decide ((i : Int) < h)
def pOut (xs : List Int) (i : Nat) : Bool := decide (gd (xs.drop 1 ++ [0]) i < gd xs i)
def putL (xs : List Int) (i : Nat) : List Int := if i = xs.length then xs ++ [1] else xs.take i ++ [gd xs i + 1] ++ xs.drop (i + 1)
def takenL (xs : List Int) (i : Nat) : List Int := if gd xs i = 1 then xs.take i else xs.take i ++ [gd xs i - 1] ++ xs.drop (i + 1)
theorem put_set {xs : List Int} {i : Nat} (h : i < xs.length) : putL xs i = xs.set i (gd xs i + 1) := by
  unfold putL
  rw [if_neg (by omega), set_cut h]
theorem taken_set {xs : List Int} {i : Nat} (h : i < xs.length) (h1 : gd xs i ≠ 1) : takenL xs i = xs.set i (gd xs i - 1) := by
  unfold takenL
  rw [if_neg h1, set_cut h]
/-- a cell may come just where it leaves a share -/
theorem room_iff {xs : List Int} (hx : Sh xs) {r : Nat} (hr : r ≤ xs.length) : pRoom 20 20 xs r = true ↔ Sh (putL xs r) := by
  have h := sq_iff.mp hx
  have hn := h.n
  rw [sq_iff]
  unfold pRoom
  rw [Bool.and_eq_true, decide_eq_true_eq, decide_eq_true_eq]
  by_cases c : r = xs.length
  · subst c
    have e : putL xs xs.length = xs ++ [1] := by unfold putL; rw [if_pos rfl]
    rw [e, gd_snoc, if_neg (Nat.lt_irrefl _), if_pos rfl, gd_cons]
    constructor
    · rintro ⟨h1, h2⟩
      refine ⟨by rw [List.length_append]; show xs.length + 1 ≤ 20; omega, fun k hk => ?_, fun k hk => ?_⟩
      · rw [List.length_append] at hk
        rw [gd_snoc]
        by_cases ck : k < xs.length
        · rw [if_pos ck]; exact h.a k ck
        · rw [if_neg ck, if_pos (by have : k < xs.length + 1 := hk; omega)]; decide
      · rw [List.length_append] at hk
        have hk' : k + 1 < xs.length + 1 := hk
        rw [gd_snoc, gd_snoc, if_pos (show k < xs.length by omega)]
        by_cases ck : k + 1 < xs.length
        · rw [if_pos ck]; exact h.f k ck
        · rw [if_neg ck, if_pos (by omega)]
          exact (h.a k (by omega)).1
    · intro q
      have q1 := q.n
      rw [List.length_append] at q1
      have q1' : xs.length + 1 ≤ 20 := q1
      refine ⟨?_, by omega⟩
      by_cases c0 : xs.length = 0
      · rw [if_pos c0]; decide
      · rw [if_neg c0]
        have := (h.a (xs.length - 1) (by omega)).1
        omega
  · have hr' : r < xs.length := by omega
    rw [put_set hr', gd_snoc, if_pos hr', gd_cons]
    constructor
    · rintro ⟨h1, h2⟩
      refine ⟨by rw [List.length_set]; exact hn, fun k hk => ?_, fun k hk => ?_⟩
      · rw [List.length_set] at hk
        rw [gd_set hr']
        have hb := h.a k hk
        split
        · rename_i e
          subst e
          refine ⟨by omega, ?_⟩
          by_cases c0 : k = 0
          · rw [if_pos c0] at h1; omega
          · rw [if_neg c0] at h1
            have := (h.a (k - 1) (by omega)).2
            omega
        · exact hb
      · rw [List.length_set] at hk
        rw [gd_set hr', gd_set hr']
        have hf := h.f k hk
        by_cases c1 : k + 1 = r
        · rw [if_pos c1, if_neg (by omega)]
          rw [if_neg (by omega)] at h1
          have e : r - 1 = k := by omega
          rw [e] at h1
          omega
        · rw [if_neg c1]
          split
          · rename_i e
            subst e
            omega
          · exact hf
    · intro q
      refine ⟨?_, by omega⟩
      by_cases c0 : r = 0
      · rw [if_pos c0]
        have := (q.a r (by rw [List.length_set]; exact hr')).2
        rw [gd_set hr', if_pos rfl] at this
        omega
      · rw [if_neg c0]
        have := q.f (r - 1) (by rw [List.length_set]; omega)
        rw [show r - 1 + 1 = r by omega, gd_set hr', gd_set hr', if_pos rfl, if_neg (by omega)] at this
        omega
/-- what is left where the last cell of the row goes, a row without cells at the end left out -/
def left (xs : List Int) (r : Nat) : List Int := if r + 1 = xs.length ∧ gd xs r = 1 then xs.take r else xs.set r (gd xs r - 1)
theorem sh_take {xs : List Int} (h : Sh xs) (n : Nat) : Sh (xs.take n) :=
  ⟨by rw [List.length_take]; have := h.n; omega, fun x m => h.a x (List.mem_of_mem_take m), h.f.sublist (List.take_sublist _ _)⟩
theorem out_iff {xs : List Int} (hx : Sh xs) {r : Nat} (hr : r < xs.length) : pOut xs r = true ↔ Sh (left xs r) := by
  have h := sq_iff.mp hx
  unfold pOut left
  rw [decide_eq_true_eq, gd_drop]
  by_cases c : r + 1 = xs.length ∧ gd xs r = 1
  · rw [if_pos c, c.2, gd_out (by omega)]
    exact ⟨fun _ => sh_take hx r, fun _ => by decide⟩
  · rw [if_neg c, sq_iff]
    have hb := h.a r hr
    constructor
    · intro h1
      have h2 : r + 1 < xs.length → 1 ≤ gd xs (r + 1) := fun z => (h.a _ z).1
      have h3 : 2 ≤ gd xs r := by
        by_cases c1 : r + 1 < xs.length
        · have := h2 c1; omega
        · have : r + 1 = xs.length := by omega
          have : gd xs r ≠ 1 := fun z => c ⟨this, z⟩
          omega
      refine ⟨by rw [List.length_set]; exact h.n, fun k hk => ?_, fun k hk => ?_⟩
      · rw [List.length_set] at hk
        rw [gd_set hr]
        have := h.a k hk
        split
        · rename_i e; subst e; omega
        · exact this
      · rw [List.length_set] at hk
        rw [gd_set hr, gd_set hr]
        have := h.f k hk
        by_cases c1 : k + 1 = r
        · rw [if_pos c1, if_neg (by omega)]
          rw [c1] at this
          omega
        · rw [if_neg c1]
          split
          · rename_i e; subst e; omega
          · exact this
    · intro q
      by_cases c1 : r + 1 < xs.length
      · have := q.f r (by rw [List.length_set]; exact c1)
        rw [gd_set hr, gd_set hr, if_pos rfl, if_neg (by omega)] at this
        omega
      · rw [gd_out (by omega)]
        omega
theorem left_taken {xs : List Int} (hx : Sh xs) {r : Nat} (hr : r < xs.length) (ho : pOut xs r = true) : left xs r = takenL xs r := by
  have h := sq_iff.mp hx
  unfold left
  by_cases c : gd xs r = 1
  · have : r + 1 = xs.length := by
      unfold pOut at ho
      rw [decide_eq_true_eq, gd_drop, c] at ho
      by_cases c1 : r + 1 < xs.length
      · have := (h.a _ c1).1
        omega
      · omega
    rw [if_pos ⟨this, c⟩]
    unfold takenL
    rw [if_pos c]
  · rw [if_neg fun z => c z.2, taken_set hr c]
theorem taken_sh {xs : List Int} (hx : Sh xs) {r : Nat} (hr : r < xs.length) (ho : pOut xs r = true) : Sh (takenL xs r) := by
  rw [← left_taken hx hr ho]
  exact (out_iff hx hr).mp ho
/-- there and back -/
theorem put_taken {xs : List Int} (hx : Sh xs) {r : Nat} (hr : r ≤ xs.length) (hp : pRoom 20 20 xs r = true) : r < (putL xs r).length ∧ pOut (putL xs r) r = true ∧ takenL (putL xs r) r = xs := by
  have h := sq_iff.mp hx
  by_cases c : r = xs.length
  · subst c
    have e : putL xs xs.length = xs ++ [1] := by unfold putL; rw [if_pos rfl]
    have g : gd (xs ++ [1]) xs.length = 1 := by rw [gd_snoc, if_neg (Nat.lt_irrefl _), if_pos rfl]
    rw [e]
    refine ⟨by rw [List.length_append]; show xs.length < xs.length + 1; omega, ?_, ?_⟩
    · unfold pOut
      rw [decide_eq_true_eq, gd_drop, g, gd_out (by rw [List.length_append]; exact Nat.le_refl _)]
      decide
    · unfold takenL
      rw [if_pos g, List.take_left]
  · have hr' : r < xs.length := by omega
    have hb := h.a r hr'
    have g : gd (xs.set r (gd xs r + 1)) r = gd xs r + 1 := by rw [gd_set hr', if_pos rfl]
    rw [put_set hr']
    refine ⟨by rw [List.length_set]; exact hr', ?_, ?_⟩
    · unfold pOut
      rw [decide_eq_true_eq, gd_drop, g, gd_set hr', if_neg (by omega)]
      by_cases c1 : r + 1 < xs.length
      · have := h.f r c1; omega
      · rw [gd_out (by omega)]; omega
    · rw [taken_set (by rw [List.length_set]; exact hr') (by rw [g]; omega), g, List.set_set, show gd xs r + 1 - 1 = gd xs r by omega, gd_at hr', List.set_getElem_self]
theorem taken_put {xs : List Int} (hx : Sh xs) {r : Nat} (hr : r < xs.length) (ho : pOut xs r = true) : r ≤ (takenL xs r).length ∧ pRoom 20 20 (takenL xs r) r = true ∧ putL (takenL xs r) r = xs := by
  have h := sq_iff.mp hx
  have hs := taken_sh hx hr ho
  have key : r ≤ (takenL xs r).length ∧ putL (takenL xs r) r = xs := by
    by_cases c : gd xs r = 1
    · have e : takenL xs r = xs.take r := by unfold takenL; rw [if_pos c]
      have l : (xs.take r).length = r := by rw [List.length_take]; omega
      have last : r + 1 = xs.length := by
        unfold pOut at ho
        rw [decide_eq_true_eq, gd_drop, c] at ho
        by_cases c1 : r + 1 < xs.length
        · have := (h.a _ c1).1
          omega
        · omega
      rw [e]
      refine ⟨by omega, ?_⟩
      unfold putL
      rw [if_pos l.symm]
      have : xs = xs.take r ++ [xs[r]] := by
        conv => lhs; rw [← List.take_append_drop r xs]
        congr 1
        rw [List.drop_eq_getElem_cons hr, List.drop_of_length_le (by omega)]
      conv => rhs; rw [this]
      rw [← gd_at hr, c]
    · rw [taken_set hr c]
      refine ⟨by rw [List.length_set]; omega, ?_⟩
      rw [put_set (by rw [List.length_set]; exact hr), gd_set hr, if_pos rfl, List.set_set, show gd xs r - 1 + 1 = gd xs r by omega, gd_at hr, List.set_getElem_self]
  refine ⟨key.1, ?_, key.2⟩
  rw [room_iff hs key.1, key.2]
  exact hx
end M15
namespace K11
open PySem PySem.Spec PyProof.Rows L2 RZ GS K07 K09 K10 M15
def topS (i : Nat) : Stmt := PySem.Challenge.pw_gridshares_k11_boxes_refused.main.body.getD i (.Pass ⟨0, 0, 0, 0⟩)
abbrev stis_whole : Stmt := topS 19
abbrev Nis_whole : List Str := ["thing"]
theorem scis_whole : FnScope Nis_whole ["thing"] (defScope stis_whole) := ⟨rfl, rfl, rfl, by decide +kernel, rfl, by decide +kernel, by decide +kernel⟩
abbrev stis_whole_from : Stmt := topS 20
abbrev Nis_whole_from : List Str := ["least", "most", "thing"]
theorem scis_whole_from : FnScope Nis_whole_from ["least", "most", "thing"] (defScope stis_whole_from) := ⟨rfl, rfl, rfl, by decide +kernel, rfl, by decide +kernel, by decide +kernel⟩
abbrev stcells_in : Stmt := topS 22
abbrev Ncells_in : List Str := ["share"]
theorem sccells_in : FnScope Ncells_in ["share"] (defScope stcells_in) := ⟨rfl, rfl, rfl, by decide +kernel, rfl, by decide +kernel, by decide +kernel⟩
abbrev stis_box : Stmt := topS 25
abbrev Nis_box : List Str := ["thing", "side"]
theorem scis_box : FnScope Nis_box ["thing"] (defScope stis_box) := ⟨rfl, rfl, rfl, by decide +kernel, rfl, by decide +kernel, by decide +kernel⟩
abbrev stneed_box : Stmt := topS 26
abbrev Nneed_box : List Str := ["thing"]
theorem scneed_box : FnScope Nneed_box ["thing"] (defScope stneed_box) := ⟨rfl, rfl, rfl, by decide +kernel, rfl, by decide +kernel, by decide +kernel⟩
abbrev stfits_in : Stmt := topS 27
abbrev Nfits_in : List Str := ["box", "share", "high", "wide"]
theorem scfits_in : FnScope Nfits_in ["box", "share"] (defScope stfits_in) := ⟨rfl, rfl, rfl, by decide +kernel, rfl, by decide +kernel, by decide +kernel⟩
abbrev stneed_fit : Stmt := topS 28
abbrev Nneed_fit : List Str := ["box", "share"]
theorem scneed_fit : FnScope Nneed_fit ["box", "share"] (defScope stneed_fit) := ⟨rfl, rfl, rfl, by decide +kernel, rfl, by decide +kernel, by decide +kernel⟩
abbrev sthow_many : Stmt := topS 30
abbrev Nhow_many : List Str := ["box", "n"]
theorem schow_many : FnScope Nhow_many ["box", "n"] (defScope sthow_many) := ⟨rfl, rfl, rfl, by decide +kernel, rfl, by decide +kernel, by decide +kernel⟩
abbrev stcell_table : Stmt := topS 31
abbrev Ncell_table : List Str := ["box", "high", "wide"]
theorem sccell_table : FnScope Ncell_table ["box"] (defScope stcell_table) := ⟨rfl, rfl, rfl, by decide +kernel, rfl, by decide +kernel, by decide +kernel⟩
abbrev stall_in : Stmt := topS 32
abbrev Nall_in : List Str := ["box"]
theorem scall_in : FnScope Nall_in ["box"] (defScope stall_in) := ⟨rfl, rfl, rfl, by decide +kernel, rfl, by decide +kernel, by decide +kernel⟩
abbrev sttold_in : Stmt := topS 33
abbrev Ntold_in : List Str := ["table", "n"]
theorem sctold_in : FnScope Ntold_in ["table", "n"] (defScope sttold_in) := ⟨rfl, rfl, rfl, by decide +kernel, rfl, by decide +kernel, by decide +kernel⟩
abbrev sttables_to : Stmt := topS 34
abbrev Ntables_to : List Str := ["high", "wide", "tables", "height", "width"]
theorem sctables_to : FnScope Ntables_to ["high", "wide"] (defScope sttables_to) := ⟨rfl, rfl, rfl, by decide +kernel, rfl, by decide +kernel, by decide +kernel⟩
abbrev sthigher_tables : Stmt := topS 35
abbrev Nhigher_tables : List Str := ["lower", "tables", "width"]
theorem schigher_tables : FnScope Nhigher_tables ["lower"] (defScope sthigher_tables) := ⟨rfl, rfl, rfl, by decide +kernel, rfl, by decide +kernel, by decide +kernel⟩
abbrev stjoined_table : Stmt := topS 36
abbrev Njoined_table : List Str := ["narrower", "lower", "width", "table", "n", "many"]
theorem scjoined_table : FnScope Njoined_table ["narrower", "lower", "width"] (defScope stjoined_table) := ⟨rfl, rfl, rfl, by decide +kernel, rfl, by decide +kernel, by decide +kernel⟩
abbrev stshares_of : Stmt := topS 38
abbrev Nshares_of : List Str := ["box", "n", "high", "wide"]
theorem scshares_of : FnScope Nshares_of ["box", "n"] (defScope stshares_of) := ⟨rfl, rfl, rfl, by decide +kernel, rfl, by decide +kernel, by decide +kernel⟩
abbrev stshares_in : Stmt := topS 39
abbrev Nshares_in : List Str := ["box", "high", "wide"]
theorem scshares_in : FnScope Nshares_in ["box"] (defScope stshares_in) := ⟨rfl, rfl, rfl, by decide +kernel, rfl, by decide +kernel, by decide +kernel⟩
abbrev stshares_to : Stmt := topS 40
abbrev Nshares_to : List Str := ["high", "wide", "n", "length", "rest"]
theorem scshares_to : FnScope Nshares_to ["high", "wide", "n"] (defScope stshares_to) := ⟨rfl, rfl, rfl, by decide +kernel, rfl, by decide +kernel, by decide +kernel⟩
abbrev stall_shares_to : Stmt := topS 41
abbrev Nall_shares_to : List Str := ["high", "wide", "longer", "length", "rest"]
theorem scall_shares_to : FnScope Nall_shares_to ["high", "wide"] (defScope stall_shares_to) := ⟨rfl, rfl, rfl, by decide +kernel, rfl, by decide +kernel, by decide +kernel⟩
abbrev stshare_at : Stmt := topS 43
abbrev Nshare_at : List Str := ["box", "n", "number", "high", "wide", "tables", "rows", "length"]
theorem scshare_at : FnScope Nshare_at ["box", "n", "number"] (defScope stshare_at) := ⟨rfl, rfl, rfl, by decide +kernel, rfl, by decide +kernel, by decide +kernel⟩
abbrev strow_at : Stmt := topS 44
abbrev Nrow_at : List Str := ["tables", "n", "number", "length"]
theorem scrow_at : FnScope Nrow_at ["tables", "n", "number"] (defScope strow_at) := ⟨rfl, rfl, rfl, by decide +kernel, rfl, by decide +kernel, by decide +kernel⟩
abbrev stplace_of : Stmt := topS 45
abbrev Nplace_of : List Str := ["box", "share", "high", "wide", "tables", "left", "number", "row", "length"]
theorem scplace_of : FnScope Nplace_of ["box", "share"] (defScope stplace_of) := ⟨rfl, rfl, rfl, by decide +kernel, rfl, by decide +kernel, by decide +kernel⟩
abbrev st_law_pen : Stmt := topS 47
abbrev N_law_pen : List Str := ["_law_script", "_law_k", "_law_cell"]
theorem sc_law_pen : FnScope N_law_pen ["_law_script", "_law_k"] (defScope st_law_pen) := ⟨rfl, rfl, rfl, by decide +kernel, rfl, by decide +kernel, by decide +kernel⟩
abbrev st_law_draw : Stmt := topS 48
abbrev N_law_draw : List Str := ["_law_pen_here", "_law_size", "_law_drawn", "_law_number"]
theorem sc_law_draw : FnScope N_law_draw ["_law_pen_here", "_law_size"] (defScope st_law_draw) := ⟨rfl, rfl, rfl, by decide +kernel, rfl, by decide +kernel, by decide +kernel⟩
abbrev st_law_no_box : Stmt := topS 49
abbrev N_law_no_box : List Str := ["_law_pen_here", "_law_some"]
theorem sc_law_no_box : FnScope N_law_no_box ["_law_pen_here"] (defScope st_law_no_box) := ⟨rfl, rfl, rfl, by decide +kernel, rfl, by decide +kernel, by decide +kernel⟩
abbrev st_law_word : Stmt := topS 50
abbrev N_law_word : List Str := ["_law_asked_here", "_law_caught", "_law_told", "e", "_law_heard"]
theorem sc_law_word : FnScope N_law_word ["_law_asked_here"] (defScope st_law_word) := ⟨rfl, rfl, rfl, by decide +kernel, rfl, by decide +kernel, by decide +kernel⟩
abbrev st_law_asked : Stmt := topS 51
abbrev N_law_asked : List Str := ["_law_way", "_law_box", "_law_n", "_law_number", "_law_share"]
theorem sc_law_asked : FnScope N_law_asked ["_law_way", "_law_box", "_law_n", "_law_number", "_law_share"] (defScope st_law_asked) := ⟨rfl, rfl, rfl, by decide +kernel, rfl, by decide +kernel, by decide +kernel⟩
abbrev stlaw : Stmt := topS 52
abbrev Nlaw : List Str := ["_law_script", "_law_k", "_law_pen_here", "_law_odd", "_law_n", "_law_number", "_law_share", "_law_way", "_law_near", "_law_box", "_law_one"]
theorem sclaw : FnScope Nlaw ["_law_script"] (defScope stlaw) := ⟨rfl, rfl, rfl, by decide +kernel, rfl, by decide +kernel, by decide +kernel⟩
structure Txt (K : PySem.W.Frag) (mg : Str → Option Value) (f : Nat → Addr) (fd : Nat → FuncData) : Prop where
  F19 : Fun K "is_whole" "is_whole" stis_whole (f 19) (fd 19)
  g19 : mg "is_whole" = some (.ref (f 19))
  b19 : Binds K (fd 19) ["thing"] []
  F20 : Fun K "is_whole_from" "is_whole_from" stis_whole_from (f 20) (fd 20)
  g20 : mg "is_whole_from" = some (.ref (f 20))
  b20 : Binds K (fd 20) ["least", "most", "thing"] []
  F22 : Fun K "cells_in" "cells_in" stcells_in (f 22) (fd 22)
  g22 : mg "cells_in" = some (.ref (f 22))
  b22 : Binds K (fd 22) ["share"] []
  F25 : Fun K "is_box" "is_box" stis_box (f 25) (fd 25)
  g25 : mg "is_box" = some (.ref (f 25))
  b25 : Binds K (fd 25) ["thing"] []
  F26 : Fun K "need_box" "need_box" stneed_box (f 26) (fd 26)
  g26 : mg "need_box" = some (.ref (f 26))
  b26 : Binds K (fd 26) ["thing"] []
  F27 : Fun K "fits_in" "fits_in" stfits_in (f 27) (fd 27)
  g27 : mg "fits_in" = some (.ref (f 27))
  b27 : Binds K (fd 27) ["box", "share"] []
  F28 : Fun K "need_fit" "need_fit" stneed_fit (f 28) (fd 28)
  g28 : mg "need_fit" = some (.ref (f 28))
  b28 : Binds K (fd 28) ["box", "share"] []
  F30 : Fun K "how_many" "how_many" sthow_many (f 30) (fd 30)
  g30 : mg "how_many" = some (.ref (f 30))
  b30 : Binds K (fd 30) ["box", "n"] []
  F31 : Fun K "cell_table" "cell_table" stcell_table (f 31) (fd 31)
  g31 : mg "cell_table" = some (.ref (f 31))
  b31 : Binds K (fd 31) ["box"] []
  F32 : Fun K "all_in" "all_in" stall_in (f 32) (fd 32)
  g32 : mg "all_in" = some (.ref (f 32))
  b32 : Binds K (fd 32) ["box"] []
  F33 : Fun K "told_in" "told_in" sttold_in (f 33) (fd 33)
  g33 : mg "told_in" = some (.ref (f 33))
  b33 : Binds K (fd 33) ["table", "n"] []
  F34 : Fun K "tables_to" "tables_to" sttables_to (f 34) (fd 34)
  g34 : mg "tables_to" = some (.ref (f 34))
  b34 : Binds K (fd 34) ["high", "wide"] []
  F35 : Fun K "higher_tables" "higher_tables" sthigher_tables (f 35) (fd 35)
  g35 : mg "higher_tables" = some (.ref (f 35))
  b35 : Binds K (fd 35) ["lower"] []
  F36 : Fun K "joined_table" "joined_table" stjoined_table (f 36) (fd 36)
  g36 : mg "joined_table" = some (.ref (f 36))
  b36 : Binds K (fd 36) ["narrower", "lower", "width"] []
  F38 : Fun K "shares_of" "shares_of" stshares_of (f 38) (fd 38)
  g38 : mg "shares_of" = some (.ref (f 38))
  b38 : Binds K (fd 38) ["box", "n"] []
  F39 : Fun K "shares_in" "shares_in" stshares_in (f 39) (fd 39)
  g39 : mg "shares_in" = some (.ref (f 39))
  b39 : Binds K (fd 39) ["box"] []
  F40 : Fun K "shares_to" "shares_to" stshares_to (f 40) (fd 40)
  g40 : mg "shares_to" = some (.ref (f 40))
  b40 : Binds K (fd 40) ["high", "wide", "n"] []
  F41 : Fun K "all_shares_to" "all_shares_to" stall_shares_to (f 41) (fd 41)
  g41 : mg "all_shares_to" = some (.ref (f 41))
  b41 : Binds K (fd 41) ["high", "wide"] []
  F43 : Fun K "share_at" "share_at" stshare_at (f 43) (fd 43)
  g43 : mg "share_at" = some (.ref (f 43))
  b43 : Binds K (fd 43) ["box", "n", "number"] []
  F44 : Fun K "row_at" "row_at" strow_at (f 44) (fd 44)
  g44 : mg "row_at" = some (.ref (f 44))
  b44 : Binds K (fd 44) ["tables", "n", "number"] []
  F45 : Fun K "place_of" "place_of" stplace_of (f 45) (fd 45)
  g45 : mg "place_of" = some (.ref (f 45))
  b45 : Binds K (fd 45) ["box", "share"] []
  F47 : Fun K "_law_pen" "_law_pen" st_law_pen (f 47) (fd 47)
  g47 : mg "_law_pen" = some (.ref (f 47))
  b47 : Binds K (fd 47) ["_law_script", "_law_k"] []
  F48 : Fun K "_law_draw" "_law_draw" st_law_draw (f 48) (fd 48)
  g48 : mg "_law_draw" = some (.ref (f 48))
  b48 : Binds K (fd 48) ["_law_pen_here", "_law_size"] []
  F49 : Fun K "_law_no_box" "_law_no_box" st_law_no_box (f 49) (fd 49)
  g49 : mg "_law_no_box" = some (.ref (f 49))
  b49 : Binds K (fd 49) ["_law_pen_here"] []
  F50 : Fun K "_law_word" "_law_word" st_law_word (f 50) (fd 50)
  g50 : mg "_law_word" = some (.ref (f 50))
  b50 : Binds K (fd 50) ["_law_asked_here"] []
  F51 : Fun K "_law_asked" "_law_asked" st_law_asked (f 51) (fd 51)
  g51 : mg "_law_asked" = some (.ref (f 51))
  b51 : Binds K (fd 51) ["_law_way", "_law_box", "_law_n", "_law_number", "_law_share"] []
  g1 : mg "GridError" = some (.ref (f 1))
  g2 : mg "NoShare" = some (.ref (f 2))
  g3 : mg "NoBox" = some (.ref (f 3))
  g4 : mg "NoFit" = some (.ref (f 4))
  g5 : mg "NoNumber" = some (.ref (f 5))
  g6 : mg "NoRow" = some (.ref (f 6))
  g7 : mg "NoCell" = some (.ref (f 7))
  g8 : mg "NoChain" = some (.ref (f 8))
  g9 : mg "NoSquare" = some (.ref (f 9))
  g10 : mg "NoFilling" = some (.ref (f 10))
  g11 : mg "NoWalk" = some (.ref (f 11))
  g12 : mg "NoStack" = some (.ref (f 12))
  g13 : mg "NoPile" = some (.ref (f 13))
  g14 : mg "NoWay" = some (.ref (f 14))
  g15 : mg "NoBack" = some (.ref (f 15))
  g16 : mg "NoText" = some (.ref (f 16))
  g17 : mg "NoWord" = some (.ref (f 17))
  x3 : PySem.W.excIn K (f 3) [.type "ValueError", .type "Exception", .type "BaseException", .type "object"] "ValueError.__new__" = true
  k3 : PySem.W.keepIn K (.ref (f 3)) = true
  t3 : PySem.W.typeIn K (.ref (f 3)) = some (.type "type")
  e3 : ExcC K (f 3)
  v3 : PySem.W.kitOne K (.ref (f 3)) (.type "ValueError") = some true
  m3 : PySem.W.exmOne K (.ref (f 3)) (.ref (f 1)) = some true
  q3_1 : PySem.W.kitOne K (.ref (f 3)) (.ref (f 1)) = some true
  q3_2 : PySem.W.kitOne K (.ref (f 3)) (.ref (f 2)) = some false
  q3_3 : PySem.W.kitOne K (.ref (f 3)) (.ref (f 3)) = some true
  q3_4 : PySem.W.kitOne K (.ref (f 3)) (.ref (f 4)) = some false
  q3_5 : PySem.W.kitOne K (.ref (f 3)) (.ref (f 5)) = some false
  q3_6 : PySem.W.kitOne K (.ref (f 3)) (.ref (f 6)) = some false
  q3_7 : PySem.W.kitOne K (.ref (f 3)) (.ref (f 7)) = some false
  q3_8 : PySem.W.kitOne K (.ref (f 3)) (.ref (f 8)) = some false
  q3_9 : PySem.W.kitOne K (.ref (f 3)) (.ref (f 9)) = some false
  q3_10 : PySem.W.kitOne K (.ref (f 3)) (.ref (f 10)) = some false
  q3_11 : PySem.W.kitOne K (.ref (f 3)) (.ref (f 11)) = some false
  q3_12 : PySem.W.kitOne K (.ref (f 3)) (.ref (f 12)) = some false
  q3_13 : PySem.W.kitOne K (.ref (f 3)) (.ref (f 13)) = some false
  q3_14 : PySem.W.kitOne K (.ref (f 3)) (.ref (f 14)) = some false
  q3_15 : PySem.W.kitOne K (.ref (f 3)) (.ref (f 15)) = some false
  q3_16 : PySem.W.kitOne K (.ref (f 3)) (.ref (f 16)) = some false
  q3_17 : PySem.W.kitOne K (.ref (f 3)) (.ref (f 17)) = some false
  x4 : PySem.W.excIn K (f 4) [.type "ValueError", .type "Exception", .type "BaseException", .type "object"] "ValueError.__new__" = true
  k4 : PySem.W.keepIn K (.ref (f 4)) = true
  t4 : PySem.W.typeIn K (.ref (f 4)) = some (.type "type")
  e4 : ExcC K (f 4)
  v4 : PySem.W.kitOne K (.ref (f 4)) (.type "ValueError") = some true
  m4 : PySem.W.exmOne K (.ref (f 4)) (.ref (f 1)) = some true
  q4_1 : PySem.W.kitOne K (.ref (f 4)) (.ref (f 1)) = some true
  q4_2 : PySem.W.kitOne K (.ref (f 4)) (.ref (f 2)) = some false
  q4_3 : PySem.W.kitOne K (.ref (f 4)) (.ref (f 3)) = some false
  q4_4 : PySem.W.kitOne K (.ref (f 4)) (.ref (f 4)) = some true
  q4_5 : PySem.W.kitOne K (.ref (f 4)) (.ref (f 5)) = some false
  q4_6 : PySem.W.kitOne K (.ref (f 4)) (.ref (f 6)) = some false
  q4_7 : PySem.W.kitOne K (.ref (f 4)) (.ref (f 7)) = some false
  q4_8 : PySem.W.kitOne K (.ref (f 4)) (.ref (f 8)) = some false
  q4_9 : PySem.W.kitOne K (.ref (f 4)) (.ref (f 9)) = some false
  q4_10 : PySem.W.kitOne K (.ref (f 4)) (.ref (f 10)) = some false
  q4_11 : PySem.W.kitOne K (.ref (f 4)) (.ref (f 11)) = some false
  q4_12 : PySem.W.kitOne K (.ref (f 4)) (.ref (f 12)) = some false
  q4_13 : PySem.W.kitOne K (.ref (f 4)) (.ref (f 13)) = some false
  q4_14 : PySem.W.kitOne K (.ref (f 4)) (.ref (f 14)) = some false
  q4_15 : PySem.W.kitOne K (.ref (f 4)) (.ref (f 15)) = some false
  q4_16 : PySem.W.kitOne K (.ref (f 4)) (.ref (f 16)) = some false
  q4_17 : PySem.W.kitOne K (.ref (f 4)) (.ref (f 17)) = some false
  x5 : PySem.W.excIn K (f 5) [.type "ValueError", .type "Exception", .type "BaseException", .type "object"] "ValueError.__new__" = true
  k5 : PySem.W.keepIn K (.ref (f 5)) = true
  t5 : PySem.W.typeIn K (.ref (f 5)) = some (.type "type")
  e5 : ExcC K (f 5)
  v5 : PySem.W.kitOne K (.ref (f 5)) (.type "ValueError") = some true
  m5 : PySem.W.exmOne K (.ref (f 5)) (.ref (f 1)) = some true
  q5_1 : PySem.W.kitOne K (.ref (f 5)) (.ref (f 1)) = some true
  q5_2 : PySem.W.kitOne K (.ref (f 5)) (.ref (f 2)) = some false
  q5_3 : PySem.W.kitOne K (.ref (f 5)) (.ref (f 3)) = some false
  q5_4 : PySem.W.kitOne K (.ref (f 5)) (.ref (f 4)) = some false
  q5_5 : PySem.W.kitOne K (.ref (f 5)) (.ref (f 5)) = some true
  q5_6 : PySem.W.kitOne K (.ref (f 5)) (.ref (f 6)) = some false
  q5_7 : PySem.W.kitOne K (.ref (f 5)) (.ref (f 7)) = some false
  q5_8 : PySem.W.kitOne K (.ref (f 5)) (.ref (f 8)) = some false
  q5_9 : PySem.W.kitOne K (.ref (f 5)) (.ref (f 9)) = some false
  q5_10 : PySem.W.kitOne K (.ref (f 5)) (.ref (f 10)) = some false
  q5_11 : PySem.W.kitOne K (.ref (f 5)) (.ref (f 11)) = some false
  q5_12 : PySem.W.kitOne K (.ref (f 5)) (.ref (f 12)) = some false
  q5_13 : PySem.W.kitOne K (.ref (f 5)) (.ref (f 13)) = some false
  q5_14 : PySem.W.kitOne K (.ref (f 5)) (.ref (f 14)) = some false
  q5_15 : PySem.W.kitOne K (.ref (f 5)) (.ref (f 15)) = some false
  q5_16 : PySem.W.kitOne K (.ref (f 5)) (.ref (f 16)) = some false
  q5_17 : PySem.W.kitOne K (.ref (f 5)) (.ref (f 17)) = some false
  c_LONGEST_SIDE : ∃ t, mg "LONGEST_SIDE" = some (.int 20 t)
  m_ValueError : mg "ValueError" = none
  m_abs : mg "abs" = none
  m_all : mg "all" = none
  m_bool : mg "bool" = none
  m_enumerate : mg "enumerate" = none
  m_int : mg "int" = none
  m_isinstance : mg "isinstance" = none
  m_len : mg "len" = none
  m_max : mg "max" = none
  m_min : mg "min" = none
  m_range : mg "range" = none
  m_sum : mg "sum" = none
  m_tuple : mg "tuple" = none
section
variable {P : Program} {w : World} {K : PySem.W.Frag} {mg : Str → Option Value} {base : Heap} {f : Nat → Addr} {fd : Nat → FuncData}
/-! ### whole numbers, and what is none -/
/-- no whole number: of another kind, or a truth -/
def NotWh (K : PySem.W.Frag) (H : Hp) (v : V) : Prop := ∃ (t : Value) (b : Bool), TyX K H v t ∧ PySem.W.kitOne K t (.type "int") = some b ∧ (b = true → PySem.W.kitOne K t (.type "bool") = some true)
/-- what is no whole number, as it comes here -/
inductive Odd (H : Hp) : V → Prop
  | non : Odd H .non
  | bl (b : Bool) : Odd H (.bl b)
  | str (s : Str) : Odd H (.str s)
  | lst {a : Addr} {xs : List V} : H a = some (.lst xs) → Odd H (.ref a)
  | tup {a : Addr} {xs : List V} : H a = some (.tup xs) → Odd H (.ref a)
  | dK {a : Addr} {kvs : List (Key × V)} : H a = some (.dK kvs) → Odd H (.ref a)
theorem Odd.same {H H' : Hp} {v : V} (h : Odd H v) (s : Same H H') : Odd H' v := by
  cases h with
  | non => exact .non
  | bl b => exact .bl b
  | str x => exact .str x
  | lst e => exact .lst (s _ _ e)
  | tup e => exact .tup (s _ _ e)
  | dK e => exact .dK (s _ _ e)
def sp_is_whole (K : PySem.W.Frag) : Sp := fun vs H Q _ => ∃ v : V, vs = [v] ∧ ((∃ i : Int, v = .int i ∧ Q (.bl true) H) ∨ (NotWh K H v ∧ Q (.bl false) H))
theorem ok_is_whole (T : Txt K mg f fd) : FnOk P w K mg base CX0 1 (f 19) (fd 19) ["thing"] (sp_is_whole K) := by
  refine T.F19.ok scis_whole (fun vs H Q E h => ?_) (fun cdv A outer s H vs Q E hr h => ?_)
  · obtain ⟨v, rfl, _⟩ := h
    rfl
  · obtain ⟨v, rfl, h⟩ := h
    refine ⟨_, (pss_one (ps_ret (pe_and (pe_callB call_isi (by rfl) T.m_isinstance bt_isinstance (pa_cons (pv 0) (pa_cons (pe_bltn (v := .ty "int") (by rfl) T.m_int bt_int rfl) pa_nil))) (pe_one (pe_not (pe_callB call_isi (by rfl) T.m_isinstance bt_isinstance (pa_cons (pv 0) (pa_cons (pe_bltn (v := .ty "bool") (by rfl) T.m_bool bt_bool rfl) pa_nil)))))))), ?_⟩
    rcases h with ⟨i, rfl, q⟩ | ⟨⟨t, b, ty, k1, k2⟩, q⟩
    · refine ⟨_, rfl, _, .ty "int", .type "int", .type "int", true, rfl, .ty _, .base (.int _), kit_ty (by decide +kernel), _, rfl, ?_⟩
      rw [if_pos rfl]
      exact ⟨_, rfl, _, .ty "bool", .type "int", .type "bool", false, rfl, .ty _, .base (.int _), kit_ty (by decide +kernel), _, rfl, q⟩
    · refine ⟨_, rfl, _, .ty "int", t, .type "int", b, rfl, .ty _, ty, k1, _, rfl, ?_⟩
      cases b with
      | false =>
        rw [if_neg Bool.false_ne_true]
        exact q
      | true =>
        rw [if_pos rfl]
        exact ⟨_, rfl, _, .ty "bool", t, .type "bool", true, rfl, .ty _, ty, k2 rfl, _, rfl, q⟩
theorem nw_non {H : Hp} : NotWh K H .non := ⟨_, false, .base .non, kit_ty (by decide +kernel), nofun⟩
theorem nw_bl {H : Hp} (b : Bool) : NotWh K H (.bl b) := ⟨_, true, .base (.bl b), kit_ty (by decide +kernel), fun _ => kit_ty (by decide +kernel)⟩
theorem nw_str {H : Hp} (s : Str) : NotWh K H (.str s) := ⟨_, false, .base (.str s), kit_ty (by decide +kernel), nofun⟩
theorem nw_lst {H : Hp} {a : Addr} {xs : List V} (h : H a = some (.lst xs)) : NotWh K H (.ref a) := ⟨_, false, .base (.lst h), kit_ty (by decide +kernel), nofun⟩
theorem nw_tup {H : Hp} {a : Addr} {xs : List V} (h : H a = some (.tup xs)) : NotWh K H (.ref a) := ⟨_, false, .base (.tup h), kit_ty (by decide +kernel), nofun⟩
theorem nw_dK {H : Hp} {a : Addr} {kvs : List (Key × V)} (h : H a = some (.dK kvs)) : NotWh K H (.ref a) := ⟨_, false, .base (.dK h), kit_ty (by decide +kernel), nofun⟩
theorem Odd.nw {H : Hp} {v : V} (h : Odd H v) : NotWh K H v := by
  cases h with
  | non => exact nw_non
  | bl b => exact nw_bl b
  | str x => exact nw_str x
  | lst e => exact nw_lst e
  | tup e => exact nw_tup e
  | dK e => exact nw_dK e
/-! ### boxes, and what is none -/
def inS : V → Bool
  | .int i => decide (0 ≤ i) && decide (i ≤ 20)
  | _ => false
def Sd (H : Hp) (v : V) : Prop := (∃ i : Int, v = .int i) ∨ Odd H v
theorem Sd.same {H H' : Hp} {v : V} (h : Sd H v) (s : Same H H') : Sd H' v := h.imp (fun z => z) fun o => o.same s
theorem Odd.inS {H : Hp} {v : V} (h : Odd H v) : inS v = false := by cases h <;> rfl
inductive NonT (H : Hp) : V → Prop
  | int (i : Int) : NonT H (.int i)
  | non : NonT H .non
  | bl (b : Bool) : NonT H (.bl b)
  | str (s : Str) : NonT H (.str s)
  | lst {a : Addr} {xs : List V} : H a = some (.lst xs) → NonT H (.ref a)
  | dK {a : Addr} {kvs : List (Key × V)} : H a = some (.dK kvs) → NonT H (.ref a)
theorem NonT.ty {H : Hp} {v : V} (h : NonT H v) : ∃ t, TyX K H v t ∧ PySem.W.kitOne K t (.type "tuple") = some false := by
  cases h with
  | int i => exact ⟨_, .base (.int i), kit_ty (by decide +kernel)⟩
  | non => exact ⟨_, .base .non, kit_ty (by decide +kernel)⟩
  | bl b => exact ⟨_, .base (.bl b), kit_ty (by decide +kernel)⟩
  | str x => exact ⟨_, .base (.str x), kit_ty (by decide +kernel)⟩
  | lst e => exact ⟨_, .base (.lst e), kit_ty (by decide +kernel)⟩
  | dK e => exact ⟨_, .base (.dK e), kit_ty (by decide +kernel)⟩
def NoBx (H : Hp) (v : V) : Prop := NonT H v ∨ (∃ a xs, v = .ref a ∧ H a = some (.tup xs) ∧ xs.length ≠ 2) ∨ ∃ a x y, v = .ref a ∧ H a = some (.tup [x, y]) ∧ Sd H x ∧ Sd H y ∧ (inS x && inS y) = false
def Bx (H : Hp) (v : V) (h w : Int) : Prop := ∃ a, v = .ref a ∧ H a = some (.tup [.int h, .int w]) ∧ 0 ≤ h ∧ h ≤ 20 ∧ 0 ≤ w ∧ w ≤ 20
theorem NonT.same {H H' : Hp} {v : V} (h : NonT H v) (s : Same H H') : NonT H' v := by
  cases h with
  | int i => exact .int i
  | non => exact .non
  | bl b => exact .bl b
  | str x => exact .str x
  | lst e => exact .lst (s _ _ e)
  | dK e => exact .dK (s _ _ e)
theorem NoBx.same {H H' : Hp} {v : V} (h : NoBx H v) (s : Same H H') : NoBx H' v := by
  rcases h with h | ⟨a, xs, e, h1, h2⟩ | ⟨a, x, y, e, h1, h2, h3, h4⟩
  · exact .inl (h.same s)
  · exact .inr (.inl ⟨a, xs, e, s _ _ h1, h2⟩)
  · exact .inr (.inr ⟨a, x, y, e, s _ _ h1, h2.same s, h3.same s, h4⟩)
def sp_is_whole_from : Sp := fun vs H Q _ => ∃ (l m : Int) (v : V), vs = [.int l, .int m, v] ∧ ((∃ i : Int, v = .int i ∧ Q (.bl (decide (l ≤ i) && decide (i ≤ m))) H) ∨ (Odd H v ∧ Q (.bl false) H))
theorem ok_is_whole_from (T : Txt K mg f fd) : FnOk P w K mg base CX0 2 (f 20) (fd 20) ["least", "most", "thing"] sp_is_whole_from := by
  refine T.F20.ok scis_whole_from (fun vs H Q E h => ?_) (fun cdv A outer s H vs Q E hr h => ?_)
  · obtain ⟨l, m, v, rfl, _⟩ := h
    rfl
  · obtain ⟨l, m, v, rfl, h⟩ := h
    refine ⟨_, (pss_one (ps_ret (pe_and (pe_call (ok_is_whole T) (hr.mono (by decide)) (by rfl) T.g19 T.F19.kp T.b19 .nil pass0 (pa_cons (pv 2) pa_nil)) (pe_one (pe_chain op_le op_le (pv 0) (pv 2) (pv 1)))))), ?_⟩
    rcases h with ⟨i, rfl, q⟩ | ⟨o, q⟩
    · refine ⟨_, rfl, _, rfl, .inl ⟨i, rfl, _, rfl, ?_⟩⟩
      rw [if_pos rfl]
      refine ⟨_, rfl, _, rfl, _, _, rfl, rfl, _, rfl, ?_⟩
      by_cases c : l ≤ i
      · rw [decide_eq_true c] at q ⊢
        rw [if_pos rfl]
        exact ⟨_, rfl, _, _, rfl, rfl, q⟩
      · rw [decide_eq_false c] at q ⊢
        rw [if_neg Bool.false_ne_true]
        exact q
    · refine ⟨_, rfl, _, rfl, .inr ⟨o.nw, _, rfl, ?_⟩⟩
      rw [if_neg Bool.false_ne_true]
      exact q
def sp_is_box : Sp := fun vs H Q _ => ∃ v : V, vs = [v] ∧ ((∃ h w : Int, Bx H v h w ∧ ∀ H', Same H H' → Q (.bl true) H') ∨ (NoBx H v ∧ ∀ H', Same H H' → Q (.bl false) H'))
theorem ok_is_box (T : Txt K mg f fd) : FnOk P w K mg base CX0 3 (f 25) (fd 25) ["thing"] sp_is_box := by
  refine T.F25.ok scis_box (fun vs H Q E h => ?_) (fun cdv A outer s H vs Q E hr h => ?_)
  · obtain ⟨v, rfl, _⟩ := h
    rfl
  · obtain ⟨v, rfl, h⟩ := h
    refine ⟨_, (pss_cons (ps_if (PW.pt (pw_or (pt_not (pt_val (pe_callB call_isi (by rfl) T.m_isinstance bt_isinstance (pa_cons (pv 0) (pa_cons (pe_bltn (v := .ty "tuple") (by rfl) T.m_tuple bt_tuple rfl) pa_nil))))) (pw_or1 (pt_cmpR op_ne (pe_callB (r := rLenS K) len_seq (by rfl) T.m_len bt_len (pa_cons (pv 0) pa_nil)) pe_int (nomark _))))) (pss_one (ps_ret pe_bl)) pss_nil)
      (pss_one (ps_ret (pe_callB (cr_all rfl) (by rfl) T.m_all bt_all (pa_cons (pe_lc (own := [("side", 1)]) (g := (gName 1)) (tt := tYes) rfl scis_box.nd (pi_tup (pv 0)) (blkOk_by (N := Nis_box) (sc := defScope stis_box) (by decide +kernel)) (fun _ _ _ _ _ => (pg_name (i := 1) scis_box.nd rfl (Or.inl rfl))) (fun _ _ _ _ _ => pts_nil) (fun _ _ _ _ _ => (pe_call (ok_is_whole_from T) (hr.mono (by decide)) (by rfl) T.g20 T.F20.kp T.b20 .nil pass0 (pa_cons pe_int (pa_cons (pe_cst (by rfl) T.c_LONGEST_SIDE) (pa_cons (pv 1) pa_nil)))))) pa_nil))))), ?_⟩
    have h' : (NonT H v ∧ ∀ H', Same H H' → Q (.bl false) H') ∨ (∃ a xs, v = .ref a ∧ H a = some (.tup xs) ∧ xs.length ≠ 2 ∧ ∀ H', Same H H' → Q (.bl false) H') ∨
        ∃ a x y, v = .ref a ∧ H a = some (.tup [x, y]) ∧ Sd H x ∧ Sd H y ∧ ∀ H', Same H H' → Q (.bl (inS x && inS y)) H' := by
      rcases h with ⟨h, w, ⟨a, rfl, ha, h0, h1, w0, w1⟩, q⟩ | ⟨h | ⟨a, xs, rfl, ha, hl⟩ | ⟨a, x, y, rfl, ha, hx, hy, hb⟩, q⟩
      · refine .inr (.inr ⟨a, _, _, rfl, ha, .inl ⟨_, rfl⟩, .inl ⟨_, rfl⟩, fun H' s' => ?_⟩)
        have : (inS (.int h) && inS (.int w)) = true := by
          show ((decide (0 ≤ h) && decide (h ≤ 20)) && (decide (0 ≤ w) && decide (w ≤ 20))) = true
          rw [decide_eq_true h0, decide_eq_true h1, decide_eq_true w0, decide_eq_true w1]
          rfl
        rw [this]
        exact q _ s'
      · exact .inl ⟨h, q⟩
      · exact .inr (.inl ⟨a, xs, rfl, ha, hl, q⟩)
      · exact .inr (.inr ⟨a, x, y, rfl, ha, hx, hy, fun H' s' => by rw [hb]; exact q _ s'⟩)
    clear h
    rcases h' with ⟨h, q⟩ | ⟨a, xs, rfl, ha, hl, q⟩ | ⟨a, x, y, rfl, ha, hx, hy, q⟩
    · obtain ⟨t, ty, k⟩ := h.ty (K := K)
      exact ⟨_, rfl, _, .ty "tuple", t, .type "tuple", false, rfl, .ty _, ty, k, _, rfl, iteT (q _ (Same.refl _))⟩
    · refine ⟨_, rfl, _, .ty "tuple", .type "tuple", .type "tuple", true, rfl, .ty _, .base (.tup ha), kit_ty (by decide +kernel), _, rfl, iteF ⟨.ref a, rfl, a, _, rfl, .inr (SqT.of ha), rfl, _, rfl, ?_⟩⟩
      rw [decide_eq_false (fun z => hl (by have := V.int.inj z; omega))]
      exact iteT (q _ (Same.refl _))
    refine ⟨_, rfl, _, .ty "tuple", .type "tuple", .type "tuple", true, rfl, .ty _, .base (.tup ha), kit_ty (by decide +kernel), _, rfl, iteF ⟨.ref a, rfl, a, _, rfl, .inr (SqT.of ha), rfl, _, rfl, ?_⟩⟩
    rw [decide_eq_true (show V.int ((([x, y] : List V).length : Nat) : Int) = V.int 2 from rfl)]
    refine iteF ⟨.ref a, rfl, a, rfl, ⟨_, SqT.of ha⟩, fun D nD => ?_⟩
    refine lc_it (walk_tup (xs := [x, y])) (Grow H D (fun i => ([inS x, inS y].take i).map V.bl)) (Grow.start nD rfl) (fun i H' _ g => SqT.of (g.1 _ _ ha)) ?_ ?_
    · rintro i v _ H1 hi g ⟨rfl, hv⟩
      refine ⟨rfl, ?_⟩
      simp only [tYes, reduceIte]
      match i, hi, hv, g with
      | 0, _, hv, g =>
        cases hv
        refine ⟨_, rfl, 0, 20, x, rfl, ?_⟩
        rcases hx.same g.1 with ⟨i, rfl⟩ | o
        · exact .inl ⟨i, rfl, _, g.2, small_lt (by show 0 ≤ 100000; omega), g.put nD (Same.refl _) rfl⟩
        · refine .inr ⟨o, _, g.2, small_lt (by show 0 ≤ 100000; omega), g.put nD (Same.refl _) ?_⟩
          show [V.bl (inS x)] = [V.bl false]
          rw [o.inS]
      | 1, _, hv, g =>
        cases hv
        refine ⟨_, rfl, 0, 20, y, rfl, ?_⟩
        rcases hy.same g.1 with ⟨i, rfl⟩ | o
        · exact .inl ⟨i, rfl, _, g.2, small_lt (by show 1 ≤ 100000; omega), g.put nD (Same.refl _) rfl⟩
        · refine .inr ⟨o, _, g.2, small_lt (by show 1 ≤ 100000; omega), g.put nD (Same.refl _) ?_⟩
          show [V.bl (inS x), V.bl (inS y)] = [V.bl (inS x), V.bl false]
          rw [o.inS]
    · intro H1 g
      refine ⟨D, [inS x, inS y], rfl, SqL.of g.2, ?_⟩
      have : [inS x, inS y].all id = (inS x && inS y) := by simp
      rw [this]
      exact q _ g.1
def sp_need_box (C : Addr) : Sp := fun vs H Q E => ∃ v : V, vs = [v] ∧ ((∃ h w : Int, Bx H v h w ∧ ∀ H', Same H H' → Q .non H') ∨ (NoBx H v ∧ ∀ H', Same H H' → E (.ref C) none H'))
theorem ok_need_box (T : Txt K mg f fd) : FnOk P w K mg base (L2.CX P w) 4 (f 26) (fd 26) ["thing"] (sp_need_box (f 3)) := by
  refine T.F26.okX scneed_box (fun vs H Q E h => ?_) (fun cdv A outer s H vs Q E hr h => ?_)
  · obtain ⟨v, rfl, _⟩ := h
    rfl
  · obtain ⟨v, rfl, h⟩ := h
    refine ⟨_, (pss_one (ps_if (pt_not (pt_val (pe_call (ok_is_box T) (hr.mono (by decide)) (by rfl) T.g25 T.F25.kp T.b25 .nil pass0 (pa_cons (pv 0) pa_nil)))) (pss_one (ps_raise rfl (takes_of rfl rfl rfl rfl) (pmk_own PySem.F.excBase_ValueError T.x3 T.g3 T.k3 (raises_own T.e3.hs T.t3) rfl))) pss_nil)), ?_⟩
    rcases h with ⟨h, w, hb, q⟩ | ⟨hb, q⟩
    · exact ⟨_, rfl, v, rfl, .inl ⟨h, w, hb, fun H1 s1 => ⟨_, rfl, iteF (q _ s1)⟩⟩⟩
    · exact ⟨_, rfl, v, rfl, .inr ⟨hb, fun H1 s1 => ⟨_, rfl, iteT (q _ s1)⟩⟩⟩
def fitB (h w : Int) (xs : List Int) : Bool := decide ((xs.length : Int) ≤ h) && (xs.isEmpty || decide (gd xs 0 ≤ w))
def sp_fits_in (C : Addr) : Sp := fun vs H Q E => ∃ (v : V) (a : Addr) (xs : List Int), vs = [v, .ref a] ∧ H a = some (.tup (xs.map V.int)) ∧ ((∃ h w : Int, Bx H v h w ∧ ∀ H', Same H H' → Q (.bl (fitB h w xs)) H') ∨ (NoBx H v ∧ ∀ H', Same H H' → E (.ref C) none H'))
theorem ok_fits_in (T : Txt K mg f fd) : FnOk P w K mg base (L2.CX P w) 5 (f 27) (fd 27) ["box", "share"] (sp_fits_in (f 3)) := by
  refine T.F27.okX scfits_in (fun vs H Q E h => ?_) (fun cdv A outer s H vs Q E hr h => ?_)
  · obtain ⟨v, a, xs, rfl, _⟩ := h
    rfl
  · obtain ⟨v, a, xs, rfl, ha, h⟩ := h
    refine ⟨_, (pss_cons (ps_expr (pe_callS (ok_need_box T) (hr.mono (by decide)) (by rfl) T.g26 T.F26.kp T.b26 (fun σ => passAt (takes_of rfl rfl rfl rfl) σ) (pa_cons (pv 0) pa_nil)))
      (pss_cons (ps_asg (pv 0) (pg_tup rfl (pgs_cons (pg_name (i := 2) scfits_in.nd rfl (Or.inl rfl)) (pgs_cons (pg_name (i := 3) scfits_in.nd rfl (Or.inl rfl)) pgs_nil))))
      (pss_one (ps_ret (pe_and (pe_cmpR op_le (pe_callB (r := rLenS K) len_seq (by rfl) T.m_len bt_len (pa_cons (pv 1) pa_nil)) (pv 2) (nomark _)) (pe_one (pe_or (pe_notA (pv 1)) (pe_one (pe_cmpR op_le (pe_ix (r := rIxT K) ix_tup (pv 1) pe_int (fun _ _ => rfl)) (pv 3) (nomark _)))))))))), ?_⟩
    rcases h with ⟨h, w, hb, q⟩ | ⟨hb, q⟩
    · obtain ⟨b, rfl, hbx, r1⟩ := id hb
      refine ⟨_, rfl, .ref b, rfl, .inl ⟨h, w, hb, fun H1 s1 => ?_⟩⟩
      have ha1 := s1 _ _ ha
      refine ⟨.ref b, rfl, b, _, rfl, SqT.of (s1 _ _ hbx), rfl, _, _, rfl, _, _, rfl, rfl, ?_⟩
      refine ⟨.ref a, rfl, a, _, rfl, .inr (SqT.of ha1), _, rfl, _, _, rfl, rfl, _, rfl, ?_⟩
      have q1 := q _ s1
      unfold fitB at q1
      rw [List.length_map]
      by_cases c : (xs.length : Int) ≤ h
      · rw [decide_eq_true c] at q1 ⊢
        rw [if_pos rfl]
        refine ⟨.ref a, rfl, _, .inr (.inl ⟨_, SqT.of ha1, rfl⟩), _, rfl, ?_⟩
        cases xs with
        | nil => exact q1
        | cons x xs =>
          rw [if_neg (show ¬ (!!(List.map V.int (x :: xs)).isEmpty) = true from Bool.false_ne_true)]
          exact ⟨.ref a, rfl, a, _, 0, .int x, rfl, rfl, SqT.of ha1, at_get (by decide) rfl, _, rfl, _, _, rfl, rfl, q1⟩
      · rw [decide_eq_false c] at q1 ⊢
        rw [if_neg Bool.false_ne_true]
        exact q1
    · exact ⟨_, rfl, v, rfl, .inr ⟨hb, q⟩⟩
def sp_need_fit (C D : Addr) : Sp := fun vs H Q E => ∃ (v : V) (a : Addr) (xs : List Int), vs = [v, .ref a] ∧ H a = some (.tup (xs.map V.int)) ∧ ((∃ h w : Int, Bx H v h w ∧ fitB h w xs = true ∧ ∀ H', Same H H' → Q .non H') ∨
  (∃ h w : Int, Bx H v h w ∧ fitB h w xs = false ∧ ∀ H', Same H H' → E (.ref D) none H') ∨ (NoBx H v ∧ ∀ H', Same H H' → E (.ref C) none H'))
theorem ok_need_fit (T : Txt K mg f fd) : FnOk P w K mg base (L2.CX P w) 6 (f 28) (fd 28) ["box", "share"] (sp_need_fit (f 3) (f 4)) := by
  refine T.F28.okX scneed_fit (fun vs H Q E h => ?_) (fun cdv A outer s H vs Q E hr h => ?_)
  · obtain ⟨v, a, xs, rfl, _⟩ := h
    rfl
  · obtain ⟨v, a, xs, rfl, ha, h⟩ := h
    refine ⟨_, (pss_one (ps_if (pt_not (pt_val (pe_callS (ok_fits_in T) (hr.mono (by decide)) (by rfl) T.g27 T.F27.kp T.b27 (fun σ => passAt (takes_of rfl rfl rfl rfl) σ) (pa_cons (pv 0) (pa_cons (pv 1) pa_nil))))) (pss_one (ps_raise rfl (takes_of rfl rfl rfl rfl) (pmk_own PySem.F.excBase_ValueError T.x4 T.g4 T.k4 (raises_own T.e4.hs T.t4) rfl))) pss_nil)), ?_⟩
    rcases h with ⟨h, w, hb, hf, q⟩ | ⟨h, w, hb, hf, q⟩ | ⟨hb, q⟩
    · exact ⟨_, rfl, .ref a, rfl, v, a, xs, rfl, ha, .inl ⟨h, w, hb, fun H1 s1 => ⟨_, rfl, by rw [hf]; exact iteF (q _ s1)⟩⟩⟩
    · exact ⟨_, rfl, .ref a, rfl, v, a, xs, rfl, ha, .inl ⟨h, w, hb, fun H1 s1 => ⟨_, rfl, by rw [hf]; exact iteT (q _ s1)⟩⟩⟩
    · exact ⟨_, rfl, .ref a, rfl, v, a, xs, rfl, ha, .inr ⟨hb, q⟩⟩
/-! ### joined_table, higher_tables, tables_to, cell_table -/
def Row (H : Hp) (as : List Addr) (ts : List (List Int)) : Prop := Paired (fun a t => H a = some (.lst (t.map V.int))) as ts
theorem Row.mono {H H' : Hp} : ∀ {as : List Addr} {ts : List (List Int)}, Row H as ts → (∀ (a : Addr) (t : List Int), H a = some (.lst (t.map V.int)) → H' a = some (.lst (t.map V.int))) → Row H' as ts
  | _, _, .nil, _ => .nil
  | _, _, .cons h t, k => .cons (k _ _ h) (Row.mono t k)
theorem Row.same {H H' : Hp} {as : List Addr} {ts : List (List Int)} (h : Row H as ts) (s : Same H H') : Row H' as ts := h.mono fun _ _ e => s _ _ e
theorem Row.append {H : Hp} : ∀ {as : List Addr} {ts : List (List Int)} {bs : List Addr} {us : List (List Int)}, Row H as ts → Row H bs us → Row H (as ++ bs) (ts ++ us)
  | _, _, _, _, .nil, h => h
  | _, _, _, _, .cons h t, k => .cons h (Row.append t k)
theorem Row.len {H : Hp} : ∀ {as : List Addr} {ts : List (List Int)}, Row H as ts → as.length = ts.length
  | _, _, .nil => rfl
  | _, _, .cons _ t => by rw [List.length_cons, List.length_cons, Row.len t]
theorem Row.at {H : Hp} : ∀ {as : List Addr} {ts : List (List Int)} {i : Nat} {t : List Int}, Row H as ts → ts[i]? = some t → ∃ a, as[i]? = some a ∧ H a = some (.lst (t.map V.int))
  | _, _, i, _, .nil, e => by simp at e
  | _, _, 0, _, .cons h _, e => by
    cases e
    exact ⟨_, rfl, h⟩
  | _, _, i + 1, _, .cons _ t, e => by
    rw [List.getElem?_cons_succ] at e
    obtain ⟨c, h1, h2⟩ := Row.at t e
    exact ⟨c, by rw [List.getElem?_cons_succ]; exact h1, h2⟩
/-- a list of references changes: the tables stay -/
theorem Row.upd {H : Hp} {as bs : List Addr} {ts : List (List Int)} {L : Addr} {o : HO} (h : Row H as ts) (hL : H L = some (.lst (bs.map V.ref))) (hb : bs ≠ []) : Row (L2.upd H L o) as ts := h.mono fun a t e => by
  rw [upd_ne (ne_of e hL ?_)]
  · exact e
  · intro z
    injection z with z
    cases bs with
    | nil => exact hb rfl
    | cons b bs =>
      cases t with
      | nil => cases z
      | cons x t =>
        rw [List.map_cons, List.map_cons] at z
        injection z with z _
        cases z
def sp_joined_table : Sp := fun vs H Q _ => ∃ (a b : Addr) (xs ys : List Int) (w : Nat), vs = [.ref a, .ref b, .int (w : Int)] ∧ H a = some (.lst (xs.map V.int)) ∧ H b = some (.lst (ys.map V.int)) ∧ w ≤ 20 ∧ ys.length ≤ 500 ∧ xs.length ≤ w + ys.length ∧
  ∀ H' t, Same H H' → H t = none → H' t = some (.lst ((jnT xs ys w).map V.int)) → Q (.ref t) H'
theorem ok_joined_table (T : Txt K mg f fd) : FnOk P w K mg base CX0 1 (f 36) (fd 36) ["narrower", "lower", "width"] sp_joined_table := by
  refine T.F36.ok scjoined_table (fun vs H Q E h => ?_) (fun cdv A outer s H vs Q E hr h => ?_)
  · obtain ⟨a, b, xs, ys, w, rfl, _⟩ := h
    rfl
  · obtain ⟨a, b, xs, ys, w, rfl, ha, hb, hw, hy, hxy, q⟩ := h
    refine ⟨_, (pss_cons (ps_set (i := 3) scjoined_table.nd rfl (Or.inl rfl) (pe_op op_cat (pe_op op_rep (pe_lst (pa_cons pe_int pa_nil)) (pv 2)) (pv 1)))
      (pss_cons (ps_for PassesOwn.never rfl (pi_enum (by rfl) T.m_enumerate (pa_cons (pv 0) pa_nil)) (pg_tup rfl (pgs_cons (pg_name (i := 4) scjoined_table.nd rfl (Or.inl rfl)) (pgs_cons (pg_name (i := 5) scjoined_table.nd rfl (Or.inl rfl)) pgs_nil))) (pss_one (ps_augS (tget := rGetL K) (pv 3) (pv 4) get_list (pv 5) ip_add set_list)))
      (pss_one (ps_ret (pv 3))))), ?_⟩
    refine ⟨small_line (by show 1 ≤ 100000; omega), fun z nz => ?_⟩
    have s1 := same_new (o := .lst [V.int 0]) nz
    refine ⟨_, rfl, z, (w : Int), _, rfl, rfl, upd_same, by omega, by omega, small_line (by show 1 * (w : Int).toNat ≤ 100000; omega), fun z2 nz2 => ?_⟩
    have s2 := same_new (o := .lst (List.replicate (w : Int).toNat [V.int 0]).flatten) nz2
    refine ⟨.ref b, rfl, z2, b, _, _, rfl, rfl, upd_same, s2 _ _ (s1 _ _ hb), small_line ?_, fun t nt => ?_⟩
    · rw [rep_flat, List.length_replicate, List.length_map]
      omega
    have s3 := same_new (o := .lst ((List.replicate (w : Int).toNat [V.int 0]).flatten ++ ys.map V.int)) nt
    have ht := upd_same (H := upd (upd H z (.lst [V.int 0])) z2 (.lst (List.replicate (w : Int).toNat [V.int 0]).flatten)) (a := t) (o := .lst ((List.replicate (w : Int).toNat [V.int 0]).flatten ++ ys.map V.int))
    have s03 := (s1.trans s2).trans s3
    have e3 : (List.replicate (w : Int).toNat [V.int 0]).flatten ++ ys.map V.int = (List.replicate w 0 ++ ys).map V.int := by
      rw [rep_flat, List.map_append, List.map_replicate, Int.toNat_natCast]
    rw [e3] at ht s03 ⊢
    have nt0 : H t = none := (s1.trans s2).free nt
    generalize upd (upd (upd H z (.lst [V.int 0])) z2 (.lst (List.replicate (w : Int).toNat [V.int 0]).flatten)) t (.lst ((List.replicate w 0 ++ ys).map V.int)) = H3 at s03 ht ⊢
    have hzl : (List.replicate w (0 : Int) ++ ys).length = w + ys.length := by rw [List.length_append, List.length_replicate]
    refine ⟨.ref a, rfl, a, _, rfl, SqL.of (s03 _ _ ha), ?_⟩
    refine for_it (walk_enum (xs := xs.map V.int)) (fun i σ H4 => ∃ o4 o5, σ = [some (.ref a), some (.ref b), some (.int (w : Int)), some (.ref t), o4, o5] ∧ Same H H4 ∧ H4 t = some (.lst ((addTo (xs.take i) (List.replicate w 0 ++ ys)).map V.int))) ?_ (fun i σ H4 _ ⟨_, _, _, s4, _⟩ => SqL.of (s4 _ _ ha)) ?_ ?_
    · refine ⟨none, none, rfl, s03, ?_⟩
      rw [ht, List.take_zero]
      cases (List.replicate w (0 : Int) ++ ys) <;> rfl
    · rintro i v _ H4 _ hi ⟨o4, o5, rfl, s4, ht4⟩ ⟨u, x, y, rfl, nu, rfl, h1, h2⟩
      rw [List.length_map] at hi
      dsimp only at h1 h2
      cases h1
      rw [List.getElem?_map, List.getElem?_eq_getElem hi] at h2
      cases h2
      have hil : i < (List.replicate w (0 : Int) ++ ys).length := by omega
      have s5 := same_new (o := .tup [V.int (i : Int), V.int xs[i]]) nu
      have ht5 := s5 _ _ ht4
      refine ⟨u, _, rfl, SqT.of upd_same, rfl, _, _, rfl, _, _, rfl, rfl, ?_⟩
      refine ⟨.ref t, rfl, _, rfl, t, _, i, .int (List.replicate w (0 : Int) ++ ys)[i], rfl, rfl, SqL.of ht5, ?_, _, rfl, _, _, rfl, rfl, t, _, (i : Int), i, rfl, rfl, ht5, ?_, _, _, rfl, fun c o e => ?_, ?_⟩
      · rw [List.getElem?_map, addTo_get, List.getElem?_eq_getElem hil]
        rfl
      · have := ix_in (n := ((addTo (xs.take i) (List.replicate w 0 ++ ys)).map V.int).length) (i := (i : Int)) (by omega) (by rw [List.length_map, addTo_len _ _ (by rw [List.length_take]; omega)]; omega)
        rw [this, Int.toNat_natCast]
      · rw [upd_ne (ne_of_none e nt0)]
        exact s5 _ _ (s4 _ _ e)
      · rw [upd_same, ← addTo_set xs _ i _ _ (List.getElem?_eq_getElem hi) (List.getElem?_eq_getElem hil), List.map_set]
    · rintro _ H4 ⟨o4, o5, rfl, s4, ht4⟩
      rw [List.length_map, List.take_of_length_le (Nat.le_refl _)] at ht4
      exact ⟨.ref t, rfl, q _ t s4 nt0 ht4⟩
def rowT (h n : Nat) : List (List Int) := (List.range (n + 1)).map (tab h)
theorem rowT_get {h n i : Nat} (hi : i ≤ n) : (rowT h n)[i]? = some (tab h i) := by
  unfold rowT
  rw [List.getElem?_map, List.getElem?_range (by omega)]
  rfl
theorem rowT_len (h n : Nat) : (rowT h n).length = n + 1 := by unfold rowT; rw [List.length_map, List.length_range]
theorem rowT_succ (h n : Nat) : rowT h (n + 1) = rowT h n ++ [tab h (n + 1)] := by
  unfold rowT
  rw [List.range_succ, List.map_append]
  rfl
theorem len_le {h w : Nat} (hh : h < 21) (hw : w < 21) : (tab h w).length ≤ 401 := by
  rw [(tab_is hh hw).len]
  have := Nat.mul_le_mul (Nat.le_of_lt_succ hh) (Nat.le_of_lt_succ hw)
  omega
def sp_higher_tables : Sp := fun vs H Q _ => ∃ (L : Addr) (as : List Addr) (h n : Nat), vs = [.ref L] ∧ H L = some (.lst (as.map V.ref)) ∧ Row H as (rowT h n) ∧ h < 20 ∧ n < 21 ∧
  ∀ (H' : Hp) (M : Addr) (bs : List Addr), Same H H' → H M = none → H' M = some (.lst (bs.map V.ref)) → Row H' bs (rowT (h + 1) n) → (∀ b ∈ bs, H b = none) → Q (.ref M) H'
theorem ok_higher_tables (T : Txt K mg f fd) : FnOk P w K mg base CX0 2 (f 35) (fd 35) ["lower"] sp_higher_tables := by
  refine T.F35.ok schigher_tables (fun vs H Q E h => ?_) (fun cdv A outer s H vs Q E hr h => ?_)
  · obtain ⟨L, as, h, n, rfl, _⟩ := h
    rfl
  · obtain ⟨L, as, h, n, rfl, hL, hp, hh, hn, q⟩ := h
    have hal := hp.len
    rw [rowT_len] at hal
    refine ⟨_, (pss_cons (ps_set (i := 1) schigher_tables.nd rfl (Or.inl rfl) (pe_lst (pa_cons (pe_lst (pa_cons pe_int pa_nil)) pa_nil)))
      (pss_cons (ps_for PassesOwn.never rfl (pi_range2 (by rfl) T.m_range (pa_cons pe_int (pa_cons (pe_callB (r := rLenS K) len_seq (by rfl) T.m_len bt_len (pa_cons (pv 0) pa_nil)) pa_nil))) (pg_name (i := 2) schigher_tables.nd rfl (Or.inl rfl)) (pss_one (ps_expr (pe_bm PySem.F.plainAttrs_list PySem.F.slot_list_append PySem.F.type_list_append mt_append (pv 1) (pa_cons (pe_call (ok_joined_table T) (hr.mono (by decide)) (by rfl) T.g36 T.F36.kp T.b36 .nil pass0 (pa_cons (pe_ix (r := rIxL K) ix_list (pv 1) (pe_op op_sub (pv 2) pe_int) (fun _ _ => rfl)) (pa_cons (pe_ix (r := rIxL K) ix_list (pv 0) (pv 2) (fun _ _ => rfl)) (pa_cons (pv 2) pa_nil)))) pa_nil)))))
      (pss_one (ps_ret (pv 1))))), ?_⟩
    refine ⟨small_line (by show 1 ≤ 100000; omega), fun z nz => ⟨small_line (by show 1 ≤ 100000; omega), fun M nM => ?_⟩⟩
    have s1 := same_new (o := .lst [V.int 1]) nz
    have s2 := same_new (o := .lst [V.ref z]) nM
    have nM0 : H M = none := s1.free nM
    have hz2 : (upd (upd H z (.lst [V.int 1])) M (.lst [V.ref z])) z = some (.lst [V.int 1]) := s2 _ _ upd_same
    have hM2 : (upd (upd H z (.lst [V.int 1])) M (.lst [V.ref z])) M = some (.lst [V.ref z]) := upd_same
    have s02 := s1.trans s2
    generalize upd (upd H z (.lst [V.int 1])) M (.lst [V.ref z]) = H2 at hz2 hM2 s02 ⊢
    refine ⟨.ref L, rfl, L, _, rfl, .inl (SqL.of (s02 _ _ hL)), 1, _, rfl, ⟨by omega, by omega, by rw [List.length_map]; omega, by rw [List.length_map]; omega⟩, ?_⟩
    refine for_range (fun i σ H3 => ∃ (bs : List Addr) (o2 : Option V), σ = [some (.ref L), some (.ref M), o2] ∧ Same H H3 ∧ H3 M = some (.lst (bs.map V.ref)) ∧ Row H3 bs (rowT (h + 1) i) ∧ ∀ b ∈ bs, H b = none) ?_ ?_ ?_
    · exact ⟨[z], none, rfl, s02, hM2, .cons hz2 .nil, fun b m => by rw [List.mem_singleton.mp m]; exact nz⟩
    · rintro i _ H3 hi ⟨bs, o2, rfl, s3, hM, hr3, hnb⟩
      rw [List.length_map] at hi
      have hin : i + 1 ≤ n := by omega
      have hbl := hr3.len
      rw [rowT_len] at hbl
      obtain ⟨u, hu, htu⟩ := hr3.at (rowT_get (Nat.le_refl i))
      obtain ⟨v, hv, htv⟩ := (hp.same s3).at (rowT_get (h := h) hin)
      refine ⟨.ref M, rfl, .inl ⟨rfl, _, .inl (.inl hM)⟩, ?_⟩
      refine ⟨.ref M, rfl, _, rfl, _, _, rfl, rfl, M, _, _, .ref u, rfl, rfl, SqL.of hM, at_get (by omega) ?_, .ref L, rfl, _, rfl, L, _, _, .ref v, rfl, rfl, SqL.of (s3 _ _ hL), at_get (by omega) ?_, _, rfl, u, v, tab (h + 1) i, tab h (i + 1), i + 1, ?_, htu, htv, by omega, ?_, ?_, fun H4 t s4 nt ht => ?_⟩
      · rw [List.getElem?_map, show ((1 : Int) + (i : Int) - 1).toNat = i by omega, hu]
        rfl
      · rw [List.getElem?_map, show ((1 : Int) + (i : Int)).toNat = i + 1 by omega, hv]
        rfl
      · rw [show ((i + 1 : Nat) : Int) = 1 + (i : Int) by omega]
        rfl
      · exact Nat.le_trans (len_le (by omega) (by omega)) (by decide)
      · rw [(tab_is (h := h + 1) (w := i) (by omega) (by omega)).len, (tab_is (h := h) (w := i + 1) (by omega) (by omega)).len]
        have : (h + 1) * i = h * i + i := by rw [Nat.add_mul, Nat.one_mul]
        have : h * (i + 1) = h * i + h := by rw [Nat.mul_add, Nat.mul_one]
        omega
      · refine ⟨M, _, _, rfl, rfl, s4 _ _ hM, small_lt (by rw [List.length_map]; omega), bs ++ [t], _, rfl, fun b o e => ?_, ?_, ?_, fun b m => ?_⟩
        · rw [upd_ne (ne_of_none e nM0)]
          exact s4 _ _ (s3 _ _ e)
        · rw [upd_same, List.map_append]
          rfl
        · rw [rowT_succ]
          refine ((hr3.same s4).append (.cons ht .nil)).upd (s4 _ _ hM) ?_
          intro e
          rw [e] at hbl
          cases hbl
        · rcases List.mem_append.mp m with m | m
          · exact hnb b m
          · rw [List.mem_singleton.mp m]
            exact s3.free nt
    · rintro _ H3 ⟨bs, o2, rfl, s3, hM, hr3, hnb⟩
      rw [List.length_map, hal, show (((n + 1 : Nat) : Int) - 1).toNat = n by omega] at hr3
      exact ⟨.ref M, rfl, q _ M bs s3 nM0 hM hr3 hnb⟩
def Grid (H : Hp) (ls : List Addr) (h w : Nat) : Prop := ∀ i, i ≤ h → ∃ (L : Addr) (as : List Addr), ls[i]? = some L ∧ H L = some (.lst (as.map V.ref)) ∧ Row H as (rowT i w)
theorem Grid.same {H H' : Hp} {ls : List Addr} {h w : Nat} (g : Grid H ls h w) (s : Same H H') : Grid H' ls h w := fun i hi => by
  obtain ⟨L, as, h1, h2, h3⟩ := g i hi
  exact ⟨L, as, h1, s _ _ h2, h3.same s⟩
def sp_tables_to : Sp := fun vs H Q _ => ∃ (h w : Nat), vs = [.int (h : Int), .int (w : Int)] ∧ h < 21 ∧ w < 21 ∧
  ∀ (H' : Hp) (G : Addr) (ls : List Addr), Same H H' → H' G = some (.lst (ls.map V.ref)) → Grid H' ls h w → Q (.ref G) H'
theorem ok_tables_to (T : Txt K mg f fd) : FnOk P w K mg base CX0 3 (f 34) (fd 34) ["high", "wide"] sp_tables_to := by
  refine T.F34.ok sctables_to (fun vs H Q E h => ?_) (fun cdv A outer s H vs Q E hr h => ?_)
  · obtain ⟨h, w, rfl, _⟩ := h
    rfl
  · obtain ⟨h, w, rfl, hh, hw, q⟩ := h
    refine ⟨_, (pss_cons (ps_set (i := 2) sctables_to.nd rfl (Or.inl rfl) (pe_lst (pa_cons (pe_lc (own := [("width", 4)]) (g := (gName 4)) (tt := tYes) rfl sctables_to.nd (pi_range1 (by rfl) T.m_range (pa_cons (pe_op op_add (pv 1) pe_int) pa_nil)) (blkOk_by (N := Ntables_to) (sc := defScope sttables_to) (by decide +kernel)) (fun _ _ _ _ _ => (pg_name (i := 4) sctables_to.nd rfl (Or.inl rfl))) (fun _ _ _ _ _ => pts_nil) (fun _ _ _ _ _ => (pe_lst (pa_cons pe_int pa_nil)))) pa_nil)))
      (pss_cons (ps_for PassesOwn.never rfl (pi_range2 (by rfl) T.m_range (pa_cons pe_int (pa_cons (pe_op op_add (pv 0) pe_int) pa_nil))) (pg_name (i := 3) sctables_to.nd rfl (Or.inl rfl)) (pss_one (ps_expr (pe_bm PySem.F.plainAttrs_list PySem.F.slot_list_append PySem.F.type_list_append mt_append (pv 2) (pa_cons (pe_call (ok_higher_tables T) (hr.mono (by decide)) (by rfl) T.g35 T.F35.kp T.b35 .nil pass0 (pa_cons (pe_ix (r := rIxL K) ix_list (pv 2) (pe_op op_sub (pv 3) pe_int) (fun _ _ => rfl)) pa_nil)) pa_nil)))))
      (pss_one (ps_ret (pv 2))))), ?_⟩
    refine ⟨_, rfl, _, _, rfl, rfl, _, rfl, by omega, by omega, fun D nD => ?_⟩
    refine lc_it (walk_range (lo := 0) (n := ((w : Int) + 1).toNat)) (fun i H1 => Same H H1 ∧ ∃ as : List Addr, H1 D = some (.lst (as.map V.ref)) ∧ as.length = i ∧ Row H1 as ((List.range i).map (tab 0)) ∧ ∀ a ∈ as, H a = none) ?_ (fun _ _ _ _ => trivial) ?_ ?_
    · exact ⟨same_new nD, [], upd_same, rfl, .nil, fun a m => absurd m List.not_mem_nil⟩
    · rintro i v _ H1 hi ⟨s1, as, hD, hal, hr1, hna⟩ ⟨rfl, rfl⟩
      refine ⟨rfl, ?_⟩
      simp only [tYes, reduceIte]
      refine ⟨small_line (by show 1 ≤ 100000; omega), fun z nz => ?_⟩
      have s2 := same_new (o := .lst [V.int 1]) nz
      refine ⟨_, s2 _ _ hD, small_lt (by rw [List.length_map]; omega), fun b o e => ?_, as ++ [z], by rw [upd_same, List.map_append]; rfl, by rw [List.length_append, hal]; rfl, ?_, fun a m => ?_⟩
      · rw [upd_ne (ne_of_none e nD)]
        exact s2 _ _ (s1 _ _ e)
      · rw [List.range_succ, List.map_append]
        have hzD : z ≠ D := (ne_of_none hD nz).symm
        refine Row.append ?_ (.cons ?_ .nil)
        · cases as with
          | nil => cases i with
            | zero => exact .nil
            | succ i => cases hal
          | cons x xs => exact (hr1.same s2).upd (s2 _ _ hD) (List.cons_ne_nil _ _)
        · rw [upd_ne hzD, upd_same]
          rfl
      · rcases List.mem_append.mp m with m | m
        · exact hna a m
        · rw [List.mem_singleton.mp m]
          exact s1.free nz
    · rintro H1 ⟨s1, as, hD, hal, hr1, hna⟩
      have hr1 : Row H1 as (rowT 0 w) := by
        rw [show ((w : Int) + 1).toNat = w + 1 by omega] at hr1
        exact hr1
      refine ⟨small_line (by show 1 ≤ 100000; omega), fun G nG => ?_⟩
      have s2 := same_new (o := .lst [V.ref D]) nG
      have hG2 : (upd H1 G (.lst [V.ref D])) G = some (.lst [V.ref D]) := upd_same
      have hD2 := s2 _ _ hD
      have hr2 := hr1.same s2
      have nG0 : H G = none := s1.free nG
      have hDG : D ≠ G := ne_of_none hD nG
      have s02 := s1.trans s2
      generalize upd H1 G (.lst [V.ref D]) = H2 at hG2 hD2 hr2 s02 ⊢
      refine ⟨_, rfl, _, _, rfl, rfl, 1, _, rfl, ⟨by omega, by omega, by omega, by omega⟩, ?_⟩
      refine for_range (fun i σ H3 => ∃ (ls : List Addr) (o3 o4 : Option V), σ = [some (.int (h : Int)), some (.int (w : Int)), some (.ref G), o3, o4] ∧ Same H H3 ∧ H3 G = some (.lst (ls.map V.ref)) ∧ ls.length = i + 1 ∧ ∀ j, j ≤ i → ∃ (L : Addr) (as : List Addr), ls[j]? = some L ∧ L ≠ G ∧ H3 L = some (.lst (as.map V.ref)) ∧ Row H3 as (rowT j w)) ?_ ?_ ?_
      · refine ⟨[D], none, none, rfl, s02, hG2, rfl, fun j hj => ?_⟩
        obtain rfl : j = 0 := by omega
        exact ⟨D, as, rfl, hDG, hD2, hr2⟩
      · rintro i _ H3 hi ⟨ls, o3, o4, rfl, s3, hG, hll, hall⟩
        obtain ⟨L, as, hlL, hLG, hL, hr3⟩ := hall i (Nat.le_refl _)
        refine ⟨.ref G, rfl, .inl ⟨rfl, _, .inl (.inl hG)⟩, ?_⟩
        refine ⟨.ref G, rfl, _, rfl, _, _, rfl, rfl, G, _, _, .ref L, rfl, rfl, SqL.of hG, at_get (by omega) ?_, L, as, i, w, rfl, hL, hr3, by omega, hw, fun H4 M bs s4 nM hM hr4 hnb => ?_⟩
        · rw [List.getElem?_map, show ((1 : Int) + (i : Int) - 1).toNat = i by omega, hlL]
          rfl
        have hMG : M ≠ G := (ne_of_none hG nM).symm
        refine ⟨G, _, _, rfl, rfl, s4 _ _ hG, small_lt (by rw [List.length_map]; omega), ls ++ [M], _, _, rfl, fun b o e => ?_, ?_, by rw [List.length_append, hll]; rfl, fun j hj => ?_⟩
        · rw [upd_ne (ne_of_none e nG0)]
          exact s4 _ _ (s3 _ _ e)
        · rw [upd_same, List.map_append]
          rfl
        · have nel : ls ≠ [] := by
            intro e
            rw [e] at hll
            cases hll
          by_cases e : j = i + 1
          · subst e
            refine ⟨M, bs, ?_, hMG, ?_, hr4.upd (s4 _ _ hG) nel⟩
            · rw [List.getElem?_append_right (by omega), hll, Nat.sub_self]
              rfl
            · rw [upd_ne hMG]
              exact hM
          · obtain ⟨L', as', g1, g2, g3, g4⟩ := hall j (by omega)
            refine ⟨L', as', ?_, g2, ?_, (g4.same s4).upd (s4 _ _ hG) nel⟩
            · rw [List.getElem?_append_left (by omega)]
              exact g1
            · rw [upd_ne g2]
              exact s4 _ _ g3
      · rintro _ H3 ⟨ls, o3, o4, rfl, s3, hG, hll, hall⟩
        rw [show ((h : Int) + 1 - 1).toNat = h by omega] at hall
        refine ⟨.ref G, rfl, q _ G ls s3 hG fun i hi => ?_⟩
        obtain ⟨L, as, g1, _, g3, g4⟩ := hall i hi
        exact ⟨L, as, g1, g3, g4⟩
def sp_told_in : Sp := fun vs H Q _ => ∃ (t : Addr) (ts : List Int) (n : Int), vs = [.ref t, .int n] ∧ H t = some (.lst (ts.map V.int)) ∧ Q (.int (look ts n)) H
theorem ok_told_in (T : Txt K mg f fd) : FnOk P w K mg base CX0 1 (f 33) (fd 33) ["table", "n"] sp_told_in := by
  refine T.F33.ok sctold_in (fun vs H Q E h => ?_) (fun cdv A outer s H vs Q E hr h => ?_)
  · obtain ⟨t, ts, n, rfl, _⟩ := h
    rfl
  · obtain ⟨t, ts, n, rfl, ht, q⟩ := h
    refine ⟨_, (pss_cons (ps_if (pt_chain op_le op_lt pe_int (pv 1) (pe_callB (r := rLenS K) len_seq (by rfl) T.m_len bt_len (pa_cons (pv 0) pa_nil))) (pss_one (ps_ret (pe_ix (r := rIxL K) ix_list (pv 0) (pv 1) (fun _ _ => rfl)))) pss_nil)
      (pss_one (ps_ret pe_int))), ?_⟩
    refine ⟨_, rfl, _, _, rfl, rfl, _, rfl, ?_⟩
    unfold look at q
    by_cases h0 : n < 0
    · rw [if_pos h0] at q
      rw [decide_eq_false (by omega)]
      exact iteF ⟨_, rfl, iteF q⟩
    rw [if_neg h0] at q
    rw [decide_eq_true (show (0 : Int) ≤ n by omega)]
    refine iteT ⟨.ref t, rfl, t, _, rfl, .inl (SqL.of ht), _, _, rfl, rfl, _, rfl, ?_⟩
    by_cases h1 : n < (ts.length : Int)
    · have hn : n.toNat < ts.length := by omega
      rw [List.getElem?_eq_getElem hn] at q
      rw [decide_eq_true (show n < ((ts.map V.int).length : Int) by rw [List.length_map]; omega)]
      refine iteT ⟨.ref t, rfl, _, rfl, t, _, _, .int ts[n.toNat], rfl, rfl, SqL.of ht, at_get (by omega) ?_, q⟩
      rw [List.getElem?_map, List.getElem?_eq_getElem hn]
      rfl
    · rw [List.getElem?_eq_none (by omega)] at q
      rw [decide_eq_false (show ¬ n < ((ts.map V.int).length : Int) by rw [List.length_map]; omega)]
      exact iteF q
/-! ### lists of shares -/
inductive Ts (H : Hp) : List V → List (List Int) → Prop
  | nil : Ts H [] []
  | cons {a : Addr} {xs : List Int} {vs : List V} {xss : List (List Int)} : H a = some (.tup (xs.map V.int)) → Ts H vs xss → Ts H (.ref a :: vs) (xs :: xss)
theorem Ts.same {H H' : Hp} {vs : List V} {xss : List (List Int)} (h : Ts H vs xss) (s : Same H H') : Ts H' vs xss := by
  induction h with
  | nil => exact .nil
  | cons e _ ih => exact .cons (s _ _ e) ih
theorem Ts.kp {H H' : Hp} {p : Addr} {ys vs : List V} {xss : List (List Int)} (h : Ts H vs xss) (hp : H p = some (.lst ys)) (k : Kp p H H') : Ts H' vs xss := by
  induction h with
  | nil => exact .nil
  | cons e _ ih => exact .cons (k _ _ (ne_of e hp (by intro z; cases z)) e) ih
theorem Ts.len {H : Hp} {vs : List V} {xss : List (List Int)} (h : Ts H vs xss) : vs.length = xss.length := by
  induction h with
  | nil => rfl
  | cons _ _ ih => rw [List.length_cons, List.length_cons, ih]
theorem Ts.app {H : Hp} {vs ws : List V} {xss yss : List (List Int)} (h : Ts H vs xss) (g : Ts H ws yss) : Ts H (vs ++ ws) (xss ++ yss) := by
  induction h with
  | nil => exact g
  | cons e _ ih => exact .cons e ih
theorem Ts.drop {H : Hp} {vs : List V} {xss : List (List Int)} (h : Ts H vs xss) : ∀ n : Nat, Ts H (vs.drop n) (xss.drop n) := by
  induction h with
  | nil => intro n; rw [List.drop_nil, List.drop_nil]; exact .nil
  | cons e h ih =>
    intro n
    cases n with
    | zero => exact .cons e h
    | succ n => exact ih n
theorem Ts.take {H : Hp} {vs : List V} {xss : List (List Int)} (h : Ts H vs xss) : ∀ n : Nat, Ts H (vs.take n) (xss.take n) := by
  induction h with
  | nil => intro n; rw [List.take_nil, List.take_nil]; exact .nil
  | cons e h ih =>
    intro n
    cases n with
    | zero => exact .nil
    | succ n => exact .cons e (ih n)
theorem Ts.at {H : Hp} {vs : List V} {xss : List (List Int)} (h : Ts H vs xss) : ∀ {i : Nat} {v : V}, vs[i]? = some v → ∃ a xs, v = .ref a ∧ H a = some (.tup (xs.map V.int)) ∧ xss[i]? = some xs := by
  induction h with
  | nil => intro i v e; simp at e
  | @cons a xs vs xss e _ ih =>
    intro i v g
    cases i with
    | zero => cases g; exact ⟨a, xs, rfl, e, rfl⟩
    | succ i => exact ih (i := i) g
theorem Ts.kp2 {H H' : Hp} {vs : List V} {xss : List (List Int)} (h : Ts H vs xss) (k : ∀ c us, H c = some (.tup us) → H' c = some (.tup us)) : Ts H' vs xss := by
  induction h with
  | nil => exact .nil
  | cons e _ ih => exact .cons (k _ _ e) ih
theorem dpAll_ts {H : Hp} {vs : List V} {xss : List (List Int)} (h : Ts H vs xss) : DpAll K H vs (xss.map fun xs => PyData.tuple (xs.map PyData.int)) := by
  induction h with
  | nil => exact .nil
  | cons e _ ih => exact .cons (dp_tup (SqT.of e)) ih
/-- the ints of a tuple -/
def kH (H : Hp) : V → List Int
  | .ref t => (match H t with
    | some (.tup vs) => vs.map fun v => (match v with
      | .int i => i
      | _ => 0)
    | _ => [])
  | _ => []
theorem kH_at {H : Hp} {t : Addr} {xs : List Int} (h : H t = some (.tup (xs.map V.int))) : kH H (.ref t) = xs := by
  unfold kH
  simp only [h, List.map_map]
  conv => rhs; rw [← List.map_id xs]
  rfl
theorem Ts.map_kH {H : Hp} {vs : List V} {xss : List (List Int)} (h : Ts H vs xss) : vs.map (kH H) = xss := by
  induction h with
  | nil => rfl
  | cons e _ ih => rw [List.map_cons, ih, kH_at e]
theorem Ts.mem {H : Hp} {vs : List V} {xss : List (List Int)} (h : Ts H vs xss) : ∀ x ∈ vs, ∃ t, x = V.ref t ∧ H t = some (.tup ((kH H x).map V.int)) := by
  induction h with
  | nil => intro x m; exact absurd m List.not_mem_nil
  | cons e _ ih =>
    intro x m
    rcases List.mem_cons.mp m with rfl | m
    · exact ⟨_, rfl, by rw [kH_at e]; exact e⟩
    · exact ih x m
theorem ts_of {H : Hp} : ∀ {vs : List V}, (∀ x ∈ vs, ∃ t, x = V.ref t ∧ H t = some (.tup ((kH H x).map V.int))) → Ts H vs (vs.map (kH H))
  | [], _ => .nil
  | v :: vs, h => by
    obtain ⟨t, rfl, e⟩ := h v List.mem_cons_self
    exact .cons e (ts_of fun x m => h x (List.mem_cons_of_mem _ m))
theorem Ts.snoc {H : Hp} {vs : List V} {xss : List (List Int)} {c : Addr} {xs : List Int} (h : Ts H vs xss) (e : H c = some (.tup (xs.map V.int))) : Ts H (vs ++ [.ref c]) (xss ++ [xs]) := h.app (.cons e .nil)
def rSumT (K : PySem.W.Frag) : List V → Hp → VK → Prop := fun vs H Q => ∃ (a : Addr) (ns : List Int), vs = [V.ref a] ∧ SqT K H a (ns.map V.int) ∧ Q (.int ns.sum) H
theorem sum_tupK {X : Cx} (hc : X.calm = true) : CallR X (.builtin "sum") (rSumT X.K) := cr_sumT hc
/-! ### _law_pen, _law_draw -/
def PenA (H : Hp) (p : Addr) : Prop := ∃ f n c : Int, H p = some (.lst [.int f, .int n, .int c])
theorem PenA.same {H H' : Hp} {p : Addr} (h : PenA H p) (s : Same H H') : PenA H' p := let ⟨f, n, c, e⟩ := h; ⟨f, n, c, s _ _ e⟩
theorem PenA.new {H : Hp} {p q : Addr} (h : PenA H p) (nq : H q = none) : p ≠ q := let ⟨_, _, _, e⟩ := h; ne_of_none e nq
theorem PenA.apart {H : Hp} {p a : Addr} {xs : List V} (h : PenA H p) (ha : H a = some (.tup xs)) : a ≠ p := by
  obtain ⟨f, n, c, e⟩ := h
  exact ne_of ha e (by intro z; cases z)
def sp_law_pen (K : PySem.W.Frag) : Sp := fun vs H Q _ => ∃ (a : Addr) (ns : List Int) (k : Int), vs = [.ref a, .int k] ∧ SqL K H a (ns.map V.int) ∧ 0 ≤ k ∧ k ≤ 1000 ∧
  ∀ H' p, Same H H' → PenA H' p → H p = none → Q (.ref p) H'
theorem ok_law_pen (T : Txt K mg f fd) : FnOk P w K mg base CX0 1 (f 47) (fd 47) ["_law_script", "_law_k"] (sp_law_pen K) := by
  refine T.F47.ok sc_law_pen (fun vs H Q E h => ?_) (fun cdv A outer s H vs Q E hr h => ?_)
  · obtain ⟨a, ns, k, rfl, _⟩ := h
    rfl
  · obtain ⟨a, ns, k, rfl, hA, hk, hk2, q⟩ := h
    have hlen : ∀ j, V.int j = V.int (if (63 : Int) < ((ns.map V.int).length : Int) then 63 else ((ns.map V.int).length : Int)) → j = (if (63 : Int) < (ns.length : Int) then 63 else (ns.length : Int)) := fun j e => by
      rw [List.length_map] at e
      exact V.int.inj e
    refine ⟨_, (pss_cons (ps_set (i := 2) sc_law_pen.nd rfl (Or.inl rfl) (pe_op op_add (pe_op op_mul pe_int (pv 1)) pe_int))
      (Evl.pss_cut (ps_if (pt_cmpR op_lt (pv 1) (pe_callB (call_min2 rfl) (by rfl) T.m_min bt_min (pa_cons (pe_callB (r := rLenS K) len_seq (by rfl) T.m_len bt_len (pa_cons (pv 0) pa_nil)) (pa_cons pe_int pa_nil))) (nomark _)) (pss_one (ps_set (i := 2) sc_law_pen.nd rfl (Or.inl rfl) (pe_ix (r := rIxL K) ix_list (pv 0) (pv 1) (fun _ _ => rfl)))) (pss_one (ps_if (pt_cmpR op_gt (pe_callB (r := rLenS K) len_seq (by rfl) T.m_len bt_len (pa_cons (pv 0) pa_nil)) pe_int (nomark _)) (pss_one (ps_set (i := 2) sc_law_pen.nd rfl (Or.inl rfl) (pe_op op_add (pe_op op_mod (pe_ix (r := rIxL K) ix_list (pv 0) (pe_op op_mod (pv 1) (pe_callB (call_min2 rfl) (by rfl) T.m_min bt_min (pa_cons (pe_callB (r := rLenS K) len_seq (by rfl) T.m_len bt_len (pa_cons (pv 0) pa_nil)) (pa_cons pe_int pa_nil)))) (fun _ _ => rfl)) (pe_op op_pow pe_int pe_int)) (pe_op op_mul pe_int (pv 1))))) pss_nil)))
      (pss_cons (ps_if (pt_cmpR op_ge (pe_callB call_abs (by rfl) T.m_abs bt_abs (pa_cons (pv 2) pa_nil)) (pe_op op_pow pe_int pe_int) (nomark _)) (pss_one (ps_ret (pe_lst (pa_cons pe_int (pa_cons (pe_callB call_abs (by rfl) T.m_abs bt_abs (pa_cons (pv 2) pa_nil)) (pa_cons pe_int pa_nil)))))) pss_nil)
      (pss_one (ps_ret (pe_lst (pa_cons pe_int (pa_cons (pe_op op_add (pe_op op_mod (pv 2) pe_int) (pe_op op_mul pe_int (pv 1))) (pa_cons pe_int pa_nil))))))))), ?_⟩
    refine ⟨_, rfl, _, _, rfl, rfl, .inl ⟨by decide, by decide⟩, _, _, rfl, rfl, ?_⟩
    refine ⟨fun σ H1 => (∃ c, σ = [some (.ref a), some (.int k), some (.int c)]) ∧ H = H1, ?_, ?_⟩
    · refine ⟨_, rfl, .ref a, rfl, a, _, rfl, .inl hA, _, _, rfl, _, _, rfl, rfl, _, rfl, ite2 (fun e => ?_) (fun e => ?_)⟩
      · have e1 := of_decide_eq_true e
        rw [List.length_map] at e1
        have e2 : k < ns.length := by split at e1 <;> omega
        have hx : k.toNat < ns.length := by omega
        refine ⟨.ref a, rfl, _, rfl, a, _, _, .int ns[k.toNat], rfl, rfl, hA, at_get hk ?_, ⟨_, rfl⟩, rfl⟩
        rw [List.getElem?_map, List.getElem?_eq_getElem hx]
        rfl
      · refine ⟨.ref a, rfl, a, _, rfl, .inl hA, _, _, rfl, rfl, _, rfl, ite2 (fun e => ?_) (fun e => ⟨⟨_, rfl⟩, rfl⟩)⟩
        have e1 := of_decide_eq_true e
        rw [List.length_map] at e1
        have hp : 0 < (if (63 : Int) < (ns.length : Int) then 63 else (ns.length : Int)) := by split <;> omega
        have hq : (if (63 : Int) < (ns.length : Int) then 63 else (ns.length : Int)) ≤ ns.length := by split <;> omega
        have b0 := Int.emod_nonneg k (show (if (63 : Int) < (ns.length : Int) then 63 else (ns.length : Int)) ≠ 0 by omega)
        have b1 := Int.emod_lt_of_pos k hp
        generalize hm : (if (63 : Int) < (ns.length : Int) then 63 else (ns.length : Int)) = m at hp hq b0 b1
        have hm' : (if (63 : Int) < ((ns.map V.int).length : Int) then 63 else ((ns.map V.int).length : Int)) = m := by rw [List.length_map]; exact hm
        have hx : (k % m).toNat < ns.length := by omega
        refine ⟨.ref a, rfl, _, rfl, .ref a, rfl, a, _, rfl, .inl hA, _, _, rfl, _, _, rfl, rfl, ?_, ?_⟩
        · show (0 : Int) < _
          rw [hm']
          exact hp
        · refine ⟨a, _, _, .int ns[(k % m).toNat], rfl, rfl, hA, ?_, ?_⟩
          · rw [hm']
            refine at_get b0 ?_
            rw [List.getElem?_map, List.getElem?_eq_getElem hx]
            rfl
          · exact ⟨_, _, rfl, rfl, ⟨by decide, by decide, by decide⟩, _, _, rfl, rfl, (show (0 : Int) < 10 ^ 15 by decide), _, rfl, _, _, rfl, rfl, .inl ⟨by decide, by decide⟩, _, _, rfl, rfl, ⟨_, rfl⟩, rfl⟩
    rintro _ _ ⟨⟨c, rfl⟩, rfl⟩
    refine ⟨_, rfl, _, rfl, _, _, rfl, rfl, ⟨by decide, by decide, by decide⟩, _, _, rfl, rfl, _, rfl, ite2 (fun e => ?_) (fun e => ?_)⟩
    · exact ⟨_, rfl, _, rfl, small_line (by show 3 ≤ 100000; omega), fun p np => q _ p (same_new np) ⟨_, _, _, upd_same⟩ np⟩
    · exact ⟨_, rfl, _, _, rfl, rfl, (show (0 : Int) < 2147483587 by decide), _, rfl, _, _, rfl, rfl, .inl ⟨by decide, by decide⟩, _, _, rfl, rfl, small_line (by show 3 ≤ 100000; omega), fun p np => q _ p (same_new np) ⟨_, _, _, upd_same⟩ np⟩
def sp_law_draw : Sp := fun vs H Q _ => ∃ (p : Addr) (m : Int), vs = [.ref p, .int m] ∧ PenA H p ∧ 1 ≤ m ∧ m ≤ 1000000000 ∧
  ∀ H' d, Kp p H H' → PenA H' p → 0 ≤ d → d < m → Q (.int d) H'
theorem ok_law_draw (T : Txt K mg f fd) : FnOk P w K mg base CX0 1 (f 48) (fd 48) ["_law_pen_here", "_law_size"] sp_law_draw := by
  refine T.F48.ok sc_law_draw (fun vs H Q E h => ?_) (fun cdv A outer s H vs Q E hr h => ?_)
  · obtain ⟨p, m, rfl, _⟩ := h
    rfl
  · obtain ⟨p, m, rfl, ⟨f0, n0, c0, hp⟩, hm, hm2, q⟩ := h
    have fin : ∀ {H' : Hp} (i : Int), Kp p H H' → PenA H' p → Q (.int (i % m)) H' := fun i k1 k2 => q _ _ k1 k2 (Int.emod_nonneg _ (by omega)) (Int.emod_lt_of_pos _ (by omega))
    have hS : SqL K H p [.int f0, .int n0, .int c0] := SqL.of hp
    refine ⟨_, (Evl.pss_cut (ps_asg (pe_op op_add (pe_ix (r := rIxL K) ix_list (pv 0) pe_int (fun _ _ => rfl)) pe_int) (pg_sub (pv 0) pe_int set_list))
      (pss_cons (ps_if (pt_cmpR op_eq (pe_ix (r := rIxL K) ix_list (pv 0) pe_int (fun _ _ => rfl)) pe_int (nomark _)) (pss_cons (ps_set (i := 2) sc_law_draw.nd rfl (Or.inl rfl) (pe_op op_mod (pe_ix (r := rIxL K) ix_list (pv 0) pe_int (fun _ _ => rfl)) (pv 1)))
      (pss_cons (ps_asg (pe_op op_fdiv (pe_ix (r := rIxL K) ix_list (pv 0) pe_int (fun _ _ => rfl)) (pv 1)) (pg_sub (pv 0) pe_int set_list))
      (pss_one (ps_ret (pv 2))))) pss_nil)
      (Evl.pss_cut (ps_set (i := 3) sc_law_draw.nd rfl (Or.inl rfl) (pe_op op_mod (pe_op op_mul (pe_op op_add (pe_op op_add (pe_ix (r := rIxL K) ix_list (pv 0) pe_int (fun _ _ => rfl)) (pe_op op_mul pe_int (pe_ix (r := rIxL K) ix_list (pv 0) pe_int (fun _ _ => rfl)))) pe_int) pe_int) pe_int))
      (Evl.pss_cut (ps_set (i := 3) sc_law_draw.nd rfl (Or.inl rfl) (pe_op op_mod (pe_op op_mul (pv 3) (pe_op op_add (pe_op op_add (pe_op op_mod (pv 3) pe_int) (pe_ix (r := rIxL K) ix_list (pv 0) pe_int (fun _ _ => rfl))) pe_int)) pe_int))
      (pss_one (ps_ret (pe_op op_mod (pe_op op_fdiv (pe_op op_mod (pe_op op_mul (pv 3) (pe_op op_add (pe_op op_mod (pv 3) pe_int) pe_int)) pe_int) pe_int) (pv 1)))))))), ?_⟩
    refine ⟨fun σ H1 => σ = [some (.ref p), some (.int m), none, none] ∧ Kp p H H1 ∧ H1 p = some (.lst [.int f0, .int n0, .int (c0 + 1)]), ?_, ?_⟩
    · exact ⟨.ref p, rfl, p, _, 2, _, rfl, rfl, hS, rfl, _, _, rfl, rfl, .ref p, rfl, p, _, 2, 2, rfl, rfl, hp, rfl, rfl, kp_upd, upd_same⟩
    rintro _ H1 ⟨rfl, k1, hp1⟩
    have hS1 : SqL K H1 p [.int f0, .int n0, .int (c0 + 1)] := SqL.of hp1
    refine ⟨.ref p, rfl, p, _, 0, _, rfl, rfl, hS1, rfl, rfl, _, rfl, ite2 (fun e => ?_) (fun e => ?_)⟩
    · refine ⟨.ref p, rfl, p, _, 1, _, rfl, rfl, hS1, rfl, _, rfl, _, m, rfl, rfl, (by show (0 : Int) < m; omega), ?_⟩
      refine ⟨.ref p, rfl, p, _, 1, _, rfl, rfl, hS1, rfl, _, rfl, _, m, rfl, rfl, ⟨by omega, by omega⟩, ?_⟩
      exact ⟨.ref p, rfl, p, _, 1, 1, rfl, rfl, hp1, rfl, _, rfl, fin _ (k1.trans kp_upd) ⟨_, _, _, upd_same⟩⟩
    · refine ⟨fun σ H2 => (∃ n, 0 ≤ n ∧ n < 2147483647 ∧ σ = [some (.ref p), some (.int m), none, some (.int n)]) ∧ H1 = H2, ?_, ?_⟩
      · refine ⟨.ref p, rfl, p, _, 1, _, rfl, rfl, hS1, rfl, .ref p, rfl, p, _, 2, _, rfl, rfl, hS1, rfl, _, _, rfl, rfl, .inl ⟨by decide, by decide⟩, _, _, rfl, rfl, _, _, rfl, rfl, _, _, rfl, rfl, .inr ⟨by decide, by decide⟩, _, _, rfl, rfl, (show (0 : Int) < 2147483647 by decide), ⟨_, ?_, ?_, rfl⟩, rfl⟩
        · exact Int.emod_nonneg _ (by decide)
        · exact Int.emod_lt_of_pos _ (by decide)
      rintro _ _ ⟨⟨n, n1, n2, rfl⟩, rfl⟩
      refine ⟨fun σ H2 => (∃ n, 0 ≤ n ∧ n < 2147483647 ∧ σ = [some (.ref p), some (.int m), none, some (.int n)]) ∧ H1 = H2, ?_, ?_⟩
      · refine ⟨_, rfl, _, rfl, _, _, rfl, rfl, (show (0 : Int) < 65521 by decide), .ref p, rfl, p, _, 2, _, rfl, rfl, hS1, rfl, _, _, rfl, rfl, _, _, rfl, rfl, n, _, rfl, rfl, .inl ⟨by omega, by omega⟩, _, _, rfl, rfl, (show (0 : Int) < 2147483629 by decide), ⟨_, ?_, ?_, rfl⟩, rfl⟩
        · exact Int.emod_nonneg _ (by decide)
        · exact Int.lt_trans (Int.emod_lt_of_pos _ (by decide)) (show (2147483629 : Int) < 2147483647 by decide)
      rintro _ _ ⟨⟨n, n1, n2, rfl⟩, rfl⟩
      exact ⟨_, rfl, _, rfl, _, _, rfl, rfl, (show (0 : Int) < 8191 by decide), _, _, rfl, rfl, n, _, rfl, rfl, .inl ⟨by omega, by omega⟩, _, _, rfl, rfl, (show (0 : Int) < 2147483563 by decide), _, _, rfl, rfl, ⟨by decide, by decide⟩, _, rfl, _, _, rfl, rfl, (by show (0 : Int) < m; omega), fin _ k1 ⟨_, _, _, hp1⟩⟩
/-! ### shares_to, all_shares_to -/
def loS (h i : Nat) : List (List Int) := (List.range i).flatMap fun i => (alS h (i + 1)).map fun r => ((i + 1 : Nat) : Int) :: r
theorem loS_succ (h i : Nat) : loS h (i + 1) = loS h i ++ (alS h (i + 1)).map fun r => ((i + 1 : Nat) : Int) :: r := by
  unfold loS
  rw [List.range_succ, List.flatMap_append, List.flatMap_cons, List.flatMap_nil, List.append_nil]
theorem loS_len {h i : Nat} (hh : h ≤ 5) (hi : i ≤ 6) : (loS h i).length ≤ 924 := by
  have z := (okB_all (h := h + 1) (w := i) (by omega) hi).2.2.2.1
  have e : (alS (h + 1) i).length = (loS h i).length + 1 := rfl
  omega
theorem alS_at {h w : Nat} (hh : h ≤ 6) (hw : w ≤ 6) {xs : List Int} (m : xs ∈ alS h w) : xs.length ≤ 6 := (okB_all hh hw).2.2.2.2 xs m
theorem fn_false {k : Nat} {a : Addr} {d : FuncData} {ps : List Str} {sp : Sp} (h : ∀ vs H Q E, ¬ sp vs H Q E) : FnOk P w K mg base CX0 k a d ps sp :=
  ⟨fun vs H Q E z => absurd z (h vs H Q E), fun A outer s H args us vs Q E _ _ _ _ z => absurd z (h vs H Q E)⟩
def sp_all_n (n : Nat) : Sp := fun vs H Q _ => ∃ h w : Nat, vs = [.int (h : Int), .int (w : Int)] ∧ h < n ∧ h ≤ 6 ∧ w ≤ 6 ∧ ∀ H' L us, Same H H' → H L = none → H' L = some (.lst us) → Ts H' us (alS h w) → Q (.ref L) H'
theorem ok_all_n (T : Txt K mg f fd) : ∀ n : Nat, FnOk P w K mg base CX0 n (f 41) (fd 41) ["high", "wide"] (sp_all_n n) := by
  intro n
  induction n with
  | zero => exact fn_false fun vs H Q E ⟨h, w, _, z, _⟩ => absurd z (Nat.not_lt_zero _)
  | succ n ih =>
    refine T.F41.ok scall_shares_to (fun vs H Q E h => ?_) (fun cdv A outer s H vs Q E hr h => ?_)
    · obtain ⟨h, w, rfl, _⟩ := h
      rfl
    · obtain ⟨h, w, rfl, h1, h2, h3, q⟩ := h
      refine ⟨_, (pss_cons (ps_if (pt_cmpR op_eq (pv 0) pe_int (nomark _)) (pss_one (ps_ret (pe_lst (pa_cons (pe_tup pa_nil) pa_nil)))) pss_nil)
      (pss_cons (ps_setLc2 (i := 2) (own := [("length", 3), ("rest", 4)]) (g := (gName 3)) (tt := tYes) (g1 := (gName 4)) (tt1 := tYes) (vs1 := [4]) rfl scall_shares_to.nd rfl rfl (sw_true rfl rfl rfl (by decide +kernel)) (pi_range2 (by rfl) T.m_range (pa_cons pe_int (pa_cons (pe_op op_add (pv 1) pe_int) pa_nil))) (blkOk_by (N := Nall_shares_to) (sc := defScope stall_shares_to) (by decide +kernel)) (by decide) (fun _ _ _ _ _ => (pg_name (i := 3) scall_shares_to.nd rfl (Or.inl rfl))) (fun _ _ _ _ _ => pts_nil) (fun _ _ _ _ _ => (pi_listK (K := K) rfl (pe_call ih (hr.mono (Nat.le_refl _)) (by rfl) T.g41 T.F41.kp T.b41 .nil pass0 (pa_cons (pe_op op_sub (pv 0) pe_int) (pa_cons (pv 3) pa_nil))))) (fun _ _ _ _ _ => (pg_name (i := 4) scall_shares_to.nd rfl (Or.inl rfl))) (fun _ _ _ _ _ => pts_nil) (fun _ _ _ _ _ => (pe_op (r := rCatA K) op_catA (pe_tup (pa_cons (pv 3) pa_nil)) (pv 4))))
      (pss_one (ps_ret (pe_op op_cat (pe_lst (pa_cons (pe_tup pa_nil) pa_nil)) (pv 2)))))), ?_⟩
      refine ⟨_, rfl, rfl, _, rfl, ?_⟩
      cases h with
      | zero =>
        refine iteT ⟨Nat.zero_le _, fun c nc => ⟨small_line (by show 1 ≤ 100000; omega), fun L nL => ?_⟩⟩
        have s1 := same_new (o := .tup []) nc
        have s2 := same_new (o := .lst [V.ref c]) nL
        have n0 : H L = none := by
          cases e : H L with
          | none => rfl
          | some o => rw [s1 _ _ e] at nL; cases nL
        exact q _ L _ (s1.trans s2) n0 upd_same (.cons (xs := []) (s2 _ _ upd_same) .nil)
      | succ h =>
        rw [show decide (V.int ((h + 1 : Nat) : Int) = V.int 0) = false from decide_eq_false (fun z => by have := V.int.inj z; omega)]
        refine iteF ⟨_, rfl, _, _, rfl, rfl, _, _, rfl, ⟨by decide, by decide, by omega, by omega⟩, fun D nD => ?_⟩
        have en : ((w : Int) + 1 - 1).toNat = w := by omega
        rw [en]
        refine wit (walk_range (lo := 1) (n := w)) (fun i H1 => Same H H1 ∧ ∃ us : List V, H1 D = some (.lst us) ∧ Ts H1 us (loS h i)) ⟨same_new nD, [], upd_same, .nil⟩ (fun _ _ _ _ => trivial) ?_ ?_
        · rintro i v _ H1 hi ⟨s1, us, hD, hu⟩ ⟨rfl, rfl⟩
          refine ⟨rfl, ?_⟩
          simp only [tYes, reduceIte]
          have ei : (1 : Int) + (i : Int) = ((i + 1 : Nat) : Int) := by omega
          refine ⟨_, rfl, _, _, rfl, rfl, _, rfl, h, i + 1, ?_, by omega, by omega, by omega, fun H2 L vs s2 nL hL hv => ?_⟩
          · show [V.int (((h + 1 : Nat) : Int) - 1), V.int (1 + (i : Int))] = _
            rw [ei, show ((h + 1 : Nat) : Int) - 1 = (h : Int) by omega]
          refine ⟨L, rfl, ⟨_, SqL.of hL⟩, ?_⟩
          have hul := hu.len
          have hvl := hv.len
          have l1 := loS_len (h := h) (i := i) (by omega) (by omega)
          have l2 := (okB_all (h := h) (w := i + 1) (by omega) (by omega)).2.2.2.1
          have nLD : L ≠ D := fun z => by rw [z, hD] at nL; cases nL
          refine wit (walk_list (xs := vs)) (fun j H3 => Same H H3 ∧ H3 L = some (.lst vs) ∧ Ts H3 vs (alS h (i + 1)) ∧ ∃ ws : List V, H3 D = some (.lst (us ++ ws)) ∧ Ts H3 us (loS h i) ∧ Ts H3 ws (((alS h (i + 1)).take j).map fun r => ((i + 1 : Nat) : Int) :: r)) ⟨s1.trans s2, hL, hv, [], by rw [List.append_nil]; exact s2 _ _ hD, hu.same s2, .nil⟩ (fun j H3 _ g => SqL.of g.2.1) ?_ ?_
          · rintro j v _ H3 hj ⟨s3, hL3, hv3, ws, hD3, hu3, hw3⟩ ⟨rfl, hvj⟩
            obtain ⟨c, xs, rfl, hc, hx⟩ := hv3.at hvj
            have hxl := alS_at (by omega) (by omega) (List.mem_of_getElem? hx)
            have hwl := hw3.len
            rw [List.length_map, List.length_take] at hwl
            refine ⟨rfl, ?_⟩
            simp only [tYes, reduceIte]
            refine ⟨_, rfl, small_line (by show 1 ≤ 100000; omega), fun t nt => ?_⟩
            have s4 := same_new (o := .tup [V.int (1 + (i : Int))]) nt
            have ht : (upd H3 t (.tup [V.int (1 + (i : Int))])) t = some (.tup [V.int (1 + (i : Int))]) := upd_same
            generalize upd H3 t (.tup [V.int (1 + (i : Int))]) = H4 at s4 ht ⊢
            refine ⟨_, rfl, rd_catA ht (s4 _ _ hc) (small_line (by rw [List.length_map]; show 1 + _ ≤ 100000; omega)) fun H5 d s5 hd => ?_⟩
            have s45 := s4.trans s5
            have hD5 := s45 _ _ hD3
            refine ⟨_, hD5, small_lt (by rw [List.length_append]; omega), ?_⟩
            have kt : ∀ c us', H5 c = some (.tup us') → (upd H5 D (.lst (us ++ ws ++ [V.ref d]))) c = some (.tup us') := fun c us' e => by
              rw [upd_ne (fun z => by subst z; rw [hD5] at e; cases e)]
              exact e
            refine ⟨fun b o e => ?_, ?_, (hv3.same s45).kp2 kt, ws ++ [V.ref d], by rw [upd_same, List.append_assoc], (hu3.same s45).kp2 kt, ?_⟩
            · rw [upd_ne (ne_of_none e nD)]
              exact s45 _ _ (s3 _ _ e)
            · rw [upd_ne nLD]
              exact s45 _ _ hL3
            · rw [List.take_add_one, hx, List.map_append]
              refine Ts.snoc ((hw3.same s45).kp2 kt) (kt _ _ ?_)
              rw [hd, ei]
              rfl
          · rintro H3 ⟨s3, hL3, hv3, ws, hD3, hu3, hw3⟩
            refine ⟨s3, us ++ ws, hD3, ?_⟩
            rw [loS_succ]
            rw [hvl, List.take_length] at hw3
            exact hu3.app hw3
        · rintro H1 ⟨s1, us, hD, hu⟩
          have hul := hu.len
          have l1 := loS_len (h := h) (i := w) (by omega) h3
          refine ⟨Nat.zero_le _, fun c nc => ⟨small_line (by show 1 ≤ 100000; omega), fun b nb => ?_⟩⟩
          have s2 := same_new (o := .tup []) nc
          have hc : (upd H1 c (.tup [])) c = some (.tup []) := upd_same
          generalize upd H1 c (.tup []) = H2 at s2 hc nb ⊢
          have s3 := same_new (o := .lst [V.ref c]) nb
          have hb : (upd H2 b (.lst [V.ref c])) b = some (.lst [V.ref c]) := upd_same
          generalize upd H2 b (.lst [V.ref c]) = H3 at s3 hb ⊢
          have s13 := (s1.trans s2).trans s3
          refine ⟨.ref D, rfl, b, D, _, _, rfl, rfl, hb, s3 _ _ (s2 _ _ hD), small_line (by show 1 + us.length ≤ 100000; omega), fun L nL => ?_⟩
          have s4 := same_new (o := .lst ([V.ref c] ++ us)) nL
          have n0 : H L = none := by
            cases e : H L with
            | none => rfl
            | some o => rw [s13 _ _ e] at nL; cases nL
          exact q _ L _ (s13.trans s4) n0 upd_same (.cons (xs := []) (s4 _ _ (s3 _ _ hc)) (hu.same ((s2.trans s3).trans s4)))
abbrev sp_all_shares_to : Sp := sp_all_n 8
theorem ok_all_shares_to (T : Txt K mg f fd) : FnOk P w K mg base CX0 8 (f 41) (fd 41) ["high", "wide"] sp_all_shares_to := ok_all_n T 8
def lsT (h : Nat) (m : Int) (i : Nat) : List (List Int) := (List.range i).flatMap fun i => (shT h (i + 1) (m - ((i + 1 : Nat) : Int))).map fun r => ((i + 1 : Nat) : Int) :: r
theorem lsT_succ (h : Nat) (m : Int) (i : Nat) : lsT h m (i + 1) = lsT h m i ++ (shT h (i + 1) (m - ((i + 1 : Nat) : Int))).map fun r => ((i + 1 : Nat) : Int) :: r := by
  unfold lsT
  rw [List.range_succ, List.flatMap_append, List.flatMap_cons, List.flatMap_nil, List.append_nil]
theorem lsT_mono (h : Nat) (m : Int) {i : Nat} : ∀ {j : Nat}, i ≤ j → (lsT h m i).length ≤ (lsT h m j).length := by
  intro j hij
  induction hij with
  | refl => exact Nat.le_refl _
  | step _ ih =>
    rw [lsT_succ, List.length_append]
    omega
theorem shT_sub {h w : Nat} (hh : h ≤ 6) (hw : w ≤ 6) {n : Int} {xs : List Int} (m : xs ∈ shT h w n) : xs ∈ alS h w := by
  rw [← of_n hh hw] at m
  exact (List.mem_filter.mp m).1
theorem shT_len {h w : Nat} (hh : h ≤ 6) (hw : w ≤ 6) (n : Int) : (shT h w n).length ≤ 924 := by
  rw [← of_n hh hw]
  exact Nat.le_trans (List.length_filter_le _ _) (okB_all hh hw).2.2.2.1
def sp_sh_n (n : Nat) : Sp := fun vs H Q _ => ∃ (h w : Nat) (m : Int), vs = [.int (h : Int), .int (w : Int), .int m] ∧ h < n ∧ h ≤ 6 ∧ w ≤ 6 ∧ ∀ H' L us, Same H H' → H L = none → H' L = some (.lst us) → Ts H' us (shT h w m) → Q (.ref L) H'
theorem ok_sh_n (T : Txt K mg f fd) : ∀ n : Nat, FnOk P w K mg base CX0 n (f 40) (fd 40) ["high", "wide", "n"] (sp_sh_n n) := by
  intro n
  induction n with
  | zero => exact fn_false fun vs H Q E ⟨h, w, m, _, z, _⟩ => absurd z (Nat.not_lt_zero _)
  | succ n ih =>
    refine T.F40.ok scshares_to (fun vs H Q E h => ?_) (fun cdv A outer s H vs Q E hr h => ?_)
    · obtain ⟨h, w, m, rfl, _⟩ := h
      rfl
    · obtain ⟨h, w, m, rfl, h1, h2, h3, q⟩ := h
      refine ⟨_, (pss_cons (ps_if (pt_cmpR op_eq (pv 2) pe_int (nomark _)) (pss_one (ps_ret (pe_lst (pa_cons (pe_tup pa_nil) pa_nil)))) pss_nil)
      (pss_cons (ps_if (PW.pt (pw_or (pt_cmpR op_lt (pv 2) pe_int (nomark _)) (pw_or1 (pt_cmpR op_gt (pv 2) (pe_op op_mul (pv 0) (pv 1)) (nomark _))))) (pss_one (ps_ret (pe_lst pa_nil))) pss_nil)
      (pss_one (ps_ret (pe_lc2 (own := [("length", 3), ("rest", 4)]) (g := (gName 3)) (tt := tYes) (g1 := (gName 4)) (tt1 := tYes) (vs1 := [4]) rfl scshares_to.nd (pi_range2 (by rfl) T.m_range (pa_cons pe_int (pa_cons (pe_op op_add (pe_callB (call_min2 rfl) (by rfl) T.m_min bt_min (pa_cons (pv 1) (pa_cons (pv 2) pa_nil))) pe_int) pa_nil))) (blkOk_by (N := Nshares_to) (sc := defScope stshares_to) (by decide +kernel)) (by decide) (fun _ _ _ _ _ => (pg_name (i := 3) scshares_to.nd rfl (Or.inl rfl))) (fun _ _ _ _ _ => pts_nil) (fun _ _ _ _ _ => (pi_listK (K := K) rfl (pe_call ih (hr.mono (Nat.le_refl _)) (by rfl) T.g40 T.F40.kp T.b40 .nil pass0 (pa_cons (pe_op op_sub (pv 0) pe_int) (pa_cons (pv 3) (pa_cons (pe_op op_sub (pv 2) (pv 3)) pa_nil)))))) (fun _ _ _ _ _ => (pg_name (i := 4) scshares_to.nd rfl (Or.inl rfl))) (fun _ _ _ _ _ => pts_nil) (fun _ _ _ _ _ => (pe_op (r := rCatA K) op_catA (pe_tup (pa_cons (pv 3) pa_nil)) (pv 4)))))))), ?_⟩
      refine ⟨_, rfl, rfl, _, rfl, ?_⟩
      by_cases c0 : m = 0
      · subst c0
        have e : shT h w 0 = [[]] := by cases h <;> (unfold shT; rw [if_pos rfl])
        rw [e] at q
        refine iteT ⟨Nat.zero_le _, fun c nc => ⟨small_line (by show 1 ≤ 100000; omega), fun L nL => ?_⟩⟩
        have s1 := same_new (o := .tup []) nc
        have s2 := same_new (o := .lst [V.ref c]) nL
        have n0 : H L = none := by
          cases e : H L with
          | none => rfl
          | some o => rw [s1 _ _ e] at nL; cases nL
        exact q _ L _ (s1.trans s2) n0 upd_same (.cons (xs := []) (s2 _ _ upd_same) .nil)
      · rw [show decide (V.int m = V.int 0) = false from decide_eq_false (fun z => c0 (V.int.inj z))]
        refine iteF ⟨_, rfl, _, _, rfl, rfl, _, rfl, ?_⟩
        have nil : m < 0 ∨ m > (h : Int) * (w : Int) → ∀ H1, Same H H1 → ∀ L, H1 L = none → Q (.ref L) (upd H1 L (.lst [])) := fun c H1 s1 L nL => by
          rw [shT_neg c] at q
          have n0 : H L = none := by
            cases e : H L with
            | none => rfl
            | some o => rw [s1 _ _ e] at nL; cases nL
          exact q _ L _ (s1.trans (same_new nL)) n0 upd_same .nil
        by_cases c1 : m < 0
        · rw [decide_eq_true c1]
          exact iteT (iteT ⟨Nat.zero_le _, fun L nL => nil (.inl c1) _ (Same.refl _) L nL⟩)
        rw [decide_eq_false c1]
        refine iteF ⟨_, rfl, _, rfl, _, rfl, _, _, rfl, rfl, .inl ⟨by omega, by omega⟩, _, _, rfl, rfl, _, rfl, ?_⟩
        by_cases c2 : m > (h : Int) * (w : Int)
        · rw [decide_eq_true c2]
          exact iteT ⟨Nat.zero_le _, fun L nL => nil (.inr c2) _ (Same.refl _) L nL⟩
        rw [decide_eq_false c2]
        refine iteF ?_
        cases h with
        | zero =>
          exfalso
          have : ((0 : Nat) : Int) * (w : Int) = 0 := by simp
          omega
        | succ h =>
        have hm36 : m ≤ 36 := by
          have a1 : ((h + 1 : Nat) : Int) * (w : Int) ≤ 6 * (w : Int) := Int.mul_le_mul_of_nonneg_right (by omega) (by omega)
          omega
        have eS : shT (h + 1) w m = lsT h m (min w m.toNat) := by
          unfold shT
          rw [if_neg c0, if_neg (by rintro (z | z); exact c1 z; exact c2 z)]
          rfl
        have lT := shT_len (h := h + 1) (w := w) h2 h3 m
        rw [eS] at q lT
        refine ⟨_, rfl, _, rfl, _, _, rfl, _, _, rfl, rfl, _, _, rfl, ⟨by decide, by decide, ?_, ?_⟩, fun D nD => ?_⟩
        · show -(2 ^ 62) ≤ (if m < (w : Int) then m else (w : Int)) + 1
          split <;> omega
        · show (if m < (w : Int) then m else (w : Int)) + 1 < 2 ^ 62
          split <;> omega
        have en : ((if m < (w : Int) then m else (w : Int)) + 1 - 1).toNat = min w m.toNat := by split <;> omega
        rw [en]
        generalize hW : min w m.toNat = W at q lT ⊢
        have hW6 : W ≤ 6 := by omega
        refine wit (walk_range (lo := 1) (n := W)) (fun i H1 => Same H H1 ∧ ∃ us : List V, H1 D = some (.lst us) ∧ Ts H1 us (lsT h m i)) ⟨same_new nD, [], upd_same, .nil⟩ (fun _ _ _ _ => trivial) ?_ ?_
        · rintro i v _ H1 hi ⟨s1, us, hD, hu⟩ ⟨rfl, rfl⟩
          refine ⟨rfl, ?_⟩
          simp only [tYes, reduceIte]
          have ei : (1 : Int) + (i : Int) = ((i + 1 : Nat) : Int) := by omega
          refine ⟨_, rfl, _, _, rfl, rfl, _, rfl, _, rfl, _, rfl, _, _, rfl, rfl, h, i + 1, m - ((i + 1 : Nat) : Int), ?_, by omega, by omega, by omega, fun H2 L vs s2 nL hL hv => ?_⟩
          · show [V.int (((h + 1 : Nat) : Int) - 1), V.int (1 + (i : Int)), V.int (m - (1 + (i : Int)))] = _
            rw [ei, show ((h + 1 : Nat) : Int) - 1 = (h : Int) by omega]
          refine ⟨L, rfl, ⟨_, SqL.of hL⟩, ?_⟩
          have hul := hu.len
          have hvl := hv.len
          have l1 := lsT_mono h m (Nat.le_of_lt hi)
          have l2 := shT_len (h := h) (w := i + 1) (by omega) (by omega) (m - ((i + 1 : Nat) : Int))
          have nLD : L ≠ D := fun z => by rw [z, hD] at nL; cases nL
          refine wit (walk_list (xs := vs)) (fun j H3 => Same H H3 ∧ H3 L = some (.lst vs) ∧ Ts H3 vs (shT h (i + 1) (m - ((i + 1 : Nat) : Int))) ∧ ∃ ws : List V, H3 D = some (.lst (us ++ ws)) ∧ Ts H3 us (lsT h m i) ∧ Ts H3 ws (((shT h (i + 1) (m - ((i + 1 : Nat) : Int))).take j).map fun r => ((i + 1 : Nat) : Int) :: r)) ⟨s1.trans s2, hL, hv, [], by rw [List.append_nil]; exact s2 _ _ hD, hu.same s2, .nil⟩ (fun j H3 _ g => SqL.of g.2.1) ?_ ?_
          · rintro j v _ H3 hj ⟨s3, hL3, hv3, ws, hD3, hu3, hw3⟩ ⟨rfl, hvj⟩
            obtain ⟨c, xs, rfl, hc, hx⟩ := hv3.at hvj
            have hxl := alS_at (by omega) (by omega) (shT_sub (by omega) (by omega) (List.mem_of_getElem? hx))
            have hwl := hw3.len
            rw [List.length_map, List.length_take] at hwl
            refine ⟨rfl, ?_⟩
            simp only [tYes, reduceIte]
            refine ⟨_, rfl, small_line (by show 1 ≤ 100000; omega), fun t nt => ?_⟩
            have s4 := same_new (o := .tup [V.int (1 + (i : Int))]) nt
            have ht : (upd H3 t (.tup [V.int (1 + (i : Int))])) t = some (.tup [V.int (1 + (i : Int))]) := upd_same
            generalize upd H3 t (.tup [V.int (1 + (i : Int))]) = H4 at s4 ht ⊢
            refine ⟨_, rfl, rd_catA ht (s4 _ _ hc) (small_line (by rw [List.length_map]; show 1 + _ ≤ 100000; omega)) fun H5 d s5 hd => ?_⟩
            have s45 := s4.trans s5
            have hD5 := s45 _ _ hD3
            refine ⟨_, hD5, small_lt (by rw [List.length_append]; omega), ?_⟩
            have kt : ∀ c us', H5 c = some (.tup us') → (upd H5 D (.lst (us ++ ws ++ [V.ref d]))) c = some (.tup us') := fun c us' e => by
              rw [upd_ne (fun z => by subst z; rw [hD5] at e; cases e)]
              exact e
            refine ⟨fun b o e => ?_, ?_, (hv3.same s45).kp2 kt, ws ++ [V.ref d], by rw [upd_same, List.append_assoc], (hu3.same s45).kp2 kt, ?_⟩
            · rw [upd_ne (ne_of_none e nD)]
              exact s45 _ _ (s3 _ _ e)
            · rw [upd_ne nLD]
              exact s45 _ _ hL3
            · rw [List.take_add_one, hx, List.map_append]
              refine Ts.snoc ((hw3.same s45).kp2 kt) (kt _ _ ?_)
              rw [hd, ei]
              rfl
          · rintro H3 ⟨s3, hL3, hv3, ws, hD3, hu3, hw3⟩
            refine ⟨s3, us ++ ws, hD3, ?_⟩
            rw [lsT_succ]
            rw [hvl, List.take_length] at hw3
            exact hu3.app hw3
        · rintro H1 ⟨s1, us, hD, hu⟩
          exact q _ D us s1 nD hD hu
abbrev sp_shares_to : Sp := sp_sh_n 8
theorem ok_shares_to (T : Txt K mg f fd) : FnOk P w K mg base CX0 8 (f 40) (fd 40) ["high", "wide", "n"] sp_shares_to := ok_sh_n T 8
theorem none_of {H H' : Hp} (s : Same H H') {L : Addr} (n : H' L = none) : H L = none := by
  cases e : H L with
  | none => rfl
  | some o => rw [s _ _ e] at n; cases n
/-- a box of two numbers, or none -/
abbrev BxN (H : Hp) (v : V) (h w : Nat) : Prop := ∃ b : Addr, v = .ref b ∧ H b = some (.tup [.int (h : Int), .int (w : Int)]) ∧ h ≤ 6 ∧ w ≤ 6
theorem BxN.bx {H : Hp} {v : V} {h w : Nat} (b : BxN H v h w) : Bx H v (h : Int) (w : Int) := by
  obtain ⟨a, rfl, e, h1, h2⟩ := b
  exact ⟨a, rfl, e, by omega, by omega, by omega, by omega⟩
def sp_shares_of (C : Addr) : Sp := fun vs H Q E => ∃ (v : V) (m : Int), vs = [v, .int m] ∧ ((∃ h w : Nat, BxN H v h w ∧ ∀ H' L us, Same H H' → H' L = some (.lst us) → Ts H' us (shT h w m) → Q (.ref L) H') ∨ (NoBx H v ∧ ∀ H', Same H H' → E (.ref C) none H'))
theorem ok_shares_of (T : Txt K mg f fd) : FnOk P w K mg base (L2.CX P w) 9 (f 38) (fd 38) ["box", "n"] (sp_shares_of (f 3)) := by
  refine T.F38.okX scshares_of (fun vs H Q E h => ?_) (fun cdv A outer s H vs Q E hr h => ?_)
  · obtain ⟨v, m, rfl, _⟩ := h
    rfl
  · obtain ⟨v, m, rfl, h⟩ := h
    refine ⟨_, (pss_cons (ps_expr (pe_callS (ok_need_box T) (hr.mono (by decide)) (by rfl) T.g26 T.F26.kp T.b26 (fun σ => passAt (takes_of rfl rfl rfl rfl) σ) (pa_cons (pv 0) pa_nil)))
      (pss_cons (ps_asg (pv 0) (pg_tup rfl (pgs_cons (pg_name (i := 2) scshares_of.nd rfl (Or.inl rfl)) (pgs_cons (pg_name (i := 3) scshares_of.nd rfl (Or.inl rfl)) pgs_nil))))
      (pss_one (ps_ret (pe_call (ok_shares_to T) (hr.mono (by decide)) (by rfl) T.g40 T.F40.kp T.b40 .nil pass0 (pa_cons (pv 2) (pa_cons (pv 3) (pa_cons (pv 1) pa_nil)))))))), ?_⟩
    rcases h with ⟨h, w, hb, q⟩ | ⟨hb, q⟩
    · obtain ⟨b, rfl, hbx, h1, h2⟩ := id hb
      refine ⟨_, rfl, .ref b, rfl, .inl ⟨_, _, hb.bx, fun H1 s1 => ?_⟩⟩
      refine ⟨.ref b, rfl, b, _, rfl, SqT.of (s1 _ _ hbx), rfl, _, _, rfl, _, _, rfl, rfl, ?_⟩
      exact ⟨_, rfl, _, rfl, _, rfl, h, w, m, rfl, by omega, h1, h2, fun H2 L us s2 nL hL hu => q _ L us (s1.trans s2) hL hu⟩
    · exact ⟨_, rfl, v, rfl, .inr ⟨hb, q⟩⟩
def sp_shares_in (C : Addr) : Sp := fun vs H Q E => ∃ (v : V), vs = [v] ∧ ((∃ h w : Nat, BxN H v h w ∧ ∀ H' L, Same H H' → Q (.ref L) H') ∨ (NoBx H v ∧ ∀ H', Same H H' → E (.ref C) none H'))
theorem ok_shares_in (T : Txt K mg f fd) : FnOk P w K mg base (L2.CX P w) 9 (f 39) (fd 39) ["box"] (sp_shares_in (f 3)) := by
  refine T.F39.okX scshares_in (fun vs H Q E h => ?_) (fun cdv A outer s H vs Q E hr h => ?_)
  · obtain ⟨v, rfl, _⟩ := h
    rfl
  · obtain ⟨v, rfl, h⟩ := h
    refine ⟨_, (pss_cons (ps_expr (pe_callS (ok_need_box T) (hr.mono (by decide)) (by rfl) T.g26 T.F26.kp T.b26 (fun σ => passAt (takes_of rfl rfl rfl rfl) σ) (pa_cons (pv 0) pa_nil)))
      (pss_cons (ps_asg (pv 0) (pg_tup rfl (pgs_cons (pg_name (i := 1) scshares_in.nd rfl (Or.inl rfl)) (pgs_cons (pg_name (i := 2) scshares_in.nd rfl (Or.inl rfl)) pgs_nil))))
      (pss_one (ps_ret (pe_call (ok_all_shares_to T) (hr.mono (by decide)) (by rfl) T.g41 T.F41.kp T.b41 .nil pass0 (pa_cons (pv 1) (pa_cons (pv 2) pa_nil))))))), ?_⟩
    rcases h with ⟨h, w, hb, q⟩ | ⟨hb, q⟩
    · obtain ⟨b, rfl, hbx, h1, h2⟩ := id hb
      refine ⟨_, rfl, .ref b, rfl, .inl ⟨_, _, hb.bx, fun H1 s1 => ?_⟩⟩
      refine ⟨.ref b, rfl, b, _, rfl, SqT.of (s1 _ _ hbx), rfl, _, _, rfl, _, _, rfl, rfl, ?_⟩
      exact ⟨_, rfl, _, rfl, h, w, rfl, by omega, h1, h2, fun H2 L us s2 nL hL hu => q _ L (s1.trans s2)⟩
    · exact ⟨_, rfl, v, rfl, .inr ⟨hb, q⟩⟩
/-! ### cell_table, how_many, all_in -/
def sp_cell_table (C : Addr) : Sp := fun vs H Q E => ∃ (v : V), vs = [v] ∧ ((∃ h w : Nat, BxN H v h w ∧ ∀ H' t, Same H H' → H' t = some (.lst ((tab h w).map V.int)) → Q (.ref t) H') ∨ (NoBx H v ∧ ∀ H', Same H H' → E (.ref C) none H'))
theorem ok_cell_table (T : Txt K mg f fd) : FnOk P w K mg base (L2.CX P w) 5 (f 31) (fd 31) ["box"] (sp_cell_table (f 3)) := by
  refine T.F31.okX sccell_table (fun vs H Q E h => ?_) (fun cdv A outer s H vs Q E hr h => ?_)
  · obtain ⟨v, rfl, _⟩ := h
    rfl
  · obtain ⟨v, rfl, h⟩ := h
    refine ⟨_, (pss_cons (ps_expr (pe_callS (ok_need_box T) (hr.mono (by decide)) (by rfl) T.g26 T.F26.kp T.b26 (fun σ => passAt (takes_of rfl rfl rfl rfl) σ) (pa_cons (pv 0) pa_nil)))
      (pss_cons (ps_asg (pv 0) (pg_tup rfl (pgs_cons (pg_name (i := 1) sccell_table.nd rfl (Or.inl rfl)) (pgs_cons (pg_name (i := 2) sccell_table.nd rfl (Or.inl rfl)) pgs_nil))))
      (pss_one (ps_ret (pe_ix (r := rIxL K) ix_list (pe_ix (r := rIxL K) ix_list (pe_call (ok_tables_to T) (hr.mono (by decide)) (by rfl) T.g34 T.F34.kp T.b34 .nil pass0 (pa_cons (pv 1) (pa_cons (pv 2) pa_nil))) (pv 1) (fun _ _ => rfl)) (pv 2) (fun _ _ => rfl)))))), ?_⟩
    rcases h with ⟨h, w, hb, q⟩ | ⟨hb, q⟩
    · obtain ⟨b, rfl, hbx, h1, h2⟩ := id hb
      refine ⟨_, rfl, .ref b, rfl, .inl ⟨_, _, hb.bx, fun H1 s1 => ?_⟩⟩
      refine ⟨.ref b, rfl, b, _, rfl, SqT.of (s1 _ _ hbx), rfl, _, _, rfl, _, _, rfl, rfl, ?_⟩
      refine ⟨_, rfl, _, rfl, h, w, rfl, by omega, by omega, fun H2 G ls s2 hG hgr => ?_⟩
      obtain ⟨L, as, gl, gL, gr⟩ := hgr h (Nat.le_refl _)
      obtain ⟨u, hu, htu⟩ := gr.at (rowT_get (Nat.le_refl w))
      refine ⟨_, rfl, G, _, _, .ref L, rfl, rfl, SqL.of hG, at_get (by omega) ?_, _, rfl, L, _, _, .ref u, rfl, rfl, SqL.of gL, at_get (by omega) ?_, q _ u (s1.trans s2) htu⟩
      · rw [List.getElem?_map, Int.toNat_natCast, gl]
        rfl
      · rw [List.getElem?_map, Int.toNat_natCast, hu]
        rfl
    · exact ⟨_, rfl, v, rfl, .inr ⟨hb, q⟩⟩
def sp_how_many (C : Addr) : Sp := fun vs H Q E => ∃ (v : V) (n : Int), vs = [v, .int n] ∧ ((∃ h w : Nat, BxN H v h w ∧ ∀ H' z, Same H H' → Q (.int z) H') ∨ (NoBx H v ∧ ∀ H', Same H H' → E (.ref C) none H'))
theorem ok_how_many (T : Txt K mg f fd) : FnOk P w K mg base (L2.CX P w) 6 (f 30) (fd 30) ["box", "n"] (sp_how_many (f 3)) := by
  refine T.F30.okX schow_many (fun vs H Q E h => ?_) (fun cdv A outer s H vs Q E hr h => ?_)
  · obtain ⟨v, n, rfl, _⟩ := h
    rfl
  · obtain ⟨v, n, rfl, h⟩ := h
    refine ⟨_, (pss_one (ps_ret (pe_call (ok_told_in T) (hr.mono (by decide)) (by rfl) T.g33 T.F33.kp T.b33 .nil pass0 (pa_cons (pe_callS (ok_cell_table T) (hr.mono (by decide)) (by rfl) T.g31 T.F31.kp T.b31 (fun σ => passAt (takes_of rfl rfl rfl rfl) σ) (pa_cons (pv 0) pa_nil)) (pa_cons (pv 1) pa_nil))))), ?_⟩
    rcases h with ⟨h, w, hb, q⟩ | ⟨hb, q⟩
    · exact ⟨_, rfl, v, rfl, .inl ⟨h, w, hb, fun H1 t s1 ht => ⟨_, rfl, t, _, n, rfl, ht, q _ _ s1⟩⟩⟩
    · exact ⟨_, rfl, v, rfl, .inr ⟨hb, q⟩⟩
def sp_all_in (C : Addr) : Sp := fun vs H Q E => ∃ (v : V), vs = [v] ∧ ((∃ h w : Nat, BxN H v h w ∧ ∀ H' z, Same H H' → Q (.int z) H') ∨ (NoBx H v ∧ ∀ H', Same H H' → E (.ref C) none H'))
theorem ok_all_in (T : Txt K mg f fd) : FnOk P w K mg base (L2.CX P w) 6 (f 32) (fd 32) ["box"] (sp_all_in (f 3)) := by
  refine T.F32.okX scall_in (fun vs H Q E h => ?_) (fun cdv A outer s H vs Q E hr h => ?_)
  · obtain ⟨v, rfl, _⟩ := h
    rfl
  · obtain ⟨v, rfl, h⟩ := h
    refine ⟨_, (pss_one (ps_ret (pe_callB (cr_sum rfl) (by rfl) T.m_sum bt_sum (pa_cons (pe_callS (ok_cell_table T) (hr.mono (by decide)) (by rfl) T.g31 T.F31.kp T.b31 (fun σ => passAt (takes_of rfl rfl rfl rfl) σ) (pa_cons (pv 0) pa_nil)) pa_nil)))), ?_⟩
    rcases h with ⟨h, w, hb, q⟩ | ⟨hb, q⟩
    · exact ⟨_, rfl, v, rfl, .inl ⟨h, w, hb, fun H1 t s1 ht => ⟨t, _, rfl, SqL.of ht, q _ _ s1⟩⟩⟩
    · exact ⟨_, rfl, v, rfl, .inr ⟨hb, q⟩⟩
theorem fits_len : ∀ {h : Nat} {w : Int} {xs : List Int}, Fits h w xs → xs.length ≤ h
  | _, _, [], _ => Nat.zero_le _
  | 0, _, _ :: _, f => f.elim
  | h + 1, w, x :: xs, f => by
    have := fits_len f.2.2
    rw [List.length_cons]
    omega
/-! ### cells_in, rows_beyond, turned_share -/
def sp_cells_in : Sp := fun vs H Q _ => ∃ (a : Addr) (xs : List Int), vs = [.ref a] ∧ H a = some (.tup (xs.map V.int)) ∧ Q (.int xs.sum) H
theorem ok_cells_in (T : Txt K mg f fd) : FnOk P w K mg base CX0 1 (f 22) (fd 22) ["share"] sp_cells_in := by
  refine T.F22.ok sccells_in (fun vs H Q E h => ?_) (fun cdv A outer s H vs Q E hr h => ?_)
  · obtain ⟨a, xs, rfl, _⟩ := h
    rfl
  · obtain ⟨a, xs, rfl, ha, q⟩ := h
    exact ⟨_, (pss_one (ps_ret (pe_callB (cr_sumT rfl) (by rfl) T.m_sum bt_sum (pa_cons (pv 0) pa_nil)))), ⟨.ref a, rfl, a, xs, rfl, SqT.of ha, q⟩⟩
theorem fits_drop : ∀ {h : Nat} {w : Int} {xs : List Int} (i : Nat) {x : Int}, Fits h w xs → xs[i]? = some x → ∃ k, h = i + (k + 1) ∧ 1 ≤ x ∧ x ≤ w ∧ xs.drop i = x :: xs.drop (i + 1)
  | _, _, [], i, x, _, e => by simp at e
  | 0, _, _ :: _, _, _, f, _ => f.elim
  | h + 1, w, y :: ys, 0, x, f, e => by
    cases e
    exact ⟨h, by omega, f.1, f.2.1, rfl⟩
  | h + 1, w, y :: ys, i + 1, x, f, e => by
    rw [List.getElem?_cons_succ] at e
    obtain ⟨k, h1, h2, h3, h4⟩ := fits_drop i f.2.2 e
    have := f.2.1
    exact ⟨k, by omega, h2, by omega, by rw [List.drop_succ_cons, List.drop_succ_cons]; exact h4⟩
theorem pl_nil {h : Nat} {n : Int} : pl h [] n = 0 := by cases h <;> rfl
/-! ### row_at, share_at -/
def sp_row_at : Sp := fun vs H Q _ => ∃ (L : Addr) (as : List Addr) (h w : Nat) (n number : Int), vs = [.ref L, .int n, .int number] ∧ H L = some (.lst (as.map V.ref)) ∧ Row H as (rowT h w) ∧ 0 < n ∧ 0 ≤ number ∧ number < cz h (w : Int) n ∧
  ∀ l : Int, 1 ≤ l → l ≤ w → cz h (l - 1) n ≤ number → number < cz h l n → Q (.int l) H
theorem ok_row_at (T : Txt K mg f fd) : FnOk P w K mg base CX0 2 (f 44) (fd 44) ["tables", "n", "number"] sp_row_at := by
  refine T.F44.ok scrow_at (fun vs H Q E h => ?_) (fun cdv A outer s H vs Q E hr h => ?_)
  · obtain ⟨L, as, h, w, n, number, rfl, _⟩ := h
    rfl
  · obtain ⟨L, as, h, w, n, number, rfl, hL, hrow, hn, h0, hlt, q⟩ := h
    refine ⟨_, (pss_cons (ps_set (i := 3) scrow_at.nd rfl (Or.inl rfl) pe_int)
      (pss_cons (ps_while PassesOwn.never (pt_cmpR op_le (pe_call (ok_told_in T) (hr.mono (by decide)) (by rfl) T.g33 T.F33.kp T.b33 .nil pass0 (pa_cons (pe_ix (r := rIxL K) ix_list (pv 0) (pv 3) (fun _ _ => rfl)) (pa_cons (pv 1) pa_nil))) (pv 2) (nomark _)) (pss_one (ps_aug (i := 3) scrow_at.nd rfl (Or.inl rfl) pe_int ip_add)))
      (pss_one (ps_ret (pv 3))))), ?_⟩
    refine ⟨fun m σ H1 => ∃ l : Int, σ = [some (.ref L), some (.int n), some (.int number), some (.int l)] ∧ H = H1 ∧ 1 ≤ l ∧ l ≤ w ∧ cz h (l - 1) n ≤ number ∧ m = ((w : Int) - l).toNat, ?_, ?_⟩
    · refine ⟨_, 1, rfl, rfl, Int.le_refl _, ?_, ?_, rfl⟩
      · cases w with
        | zero =>
          have : cz h ((0 : Nat) : Int) n = 0 := cz_zero_w hn
          omega
        | succ w => omega
      · have : cz h (1 - 1) n = 0 := cz_zero_w hn
        omega
    · rintro m _ _ ⟨l, rfl, rfl, l1, l2, l3, rfl⟩
      obtain ⟨t, ht, htt⟩ := hrow.at (rowT_get (h := h) (n := w) (i := l.toNat) (by omega))
      refine ⟨.ref L, rfl, _, rfl, L, _, _, .ref t, rfl, rfl, SqL.of hL, at_get (by omega) ?_, _, rfl, t, _, n, rfl, htt, _, rfl, _, _, rfl, rfl, _, rfl, ite2 (fun e => ?_) (fun e => ?_)⟩
      · rw [List.getElem?_map, ht]
        rfl
      · have e1 : cz h l n ≤ number := of_decide_eq_true e
        have l4 : l ≠ w := fun z => by
          rw [z] at e1
          omega
        refine ⟨fun σ' H' => ∃ m', m' < ((w : Int) - l).toNat ∧ ∃ l : Int, σ' = [some (.ref L), some (.int n), some (.int number), some (.int l)] ∧ H = H' ∧ 1 ≤ l ∧ l ≤ w ∧ cz h (l - 1) n ≤ number ∧ m' = ((w : Int) - l).toNat, fun σ' H' z => z, ?_⟩
        refine ⟨_, rfl, _, _, rfl, rfl, ((w : Int) - (l + 1)).toNat, by omega, l + 1, rfl, rfl, by omega, by omega, ?_, rfl⟩
        rw [show l + 1 - 1 = l by omega]
        exact e1
      · have e1 : ¬ cz h l n ≤ number := fun z => e (decide_eq_true z)
        exact ⟨_, rfl, q l l1 l2 l3 (by omega)⟩
def sp_share_at (C D : Addr) : Sp := fun vs H Q E => ∃ (v0 : V) (n : Int) (v : V), vs = [v0, .int n, v] ∧ ((∃ h w : Nat, BxN H v0 h w ∧
  ((∃ number : Int, v = .int number ∧ 0 ≤ n ∧ 0 ≤ number ∧ number < cz h (w : Int) n ∧ ∀ H' a xs, Same H H' → H' a = some (.tup (xs.map V.int)) → Fits h (w : Int) xs → xs.sum = n → pl h xs n = number → Q (.ref a) H') ∨
   (((∃ number : Int, v = .int number ∧ (number < 0 ∨ cz h (w : Int) n ≤ number)) ∨ Odd H v) ∧ ∀ H', Same H H' → E (.ref D) none H'))) ∨ (NoBx H v0 ∧ ∀ H', Same H H' → E (.ref C) none H'))
theorem fits_nil {h : Nat} {w : Int} : Fits h w [] := by cases h <;> trivial
theorem ok_share_at (T : Txt K mg f fd) : FnOk P w K mg base (L2.CX P w) 5 (f 43) (fd 43) ["box", "n", "number"] (sp_share_at (f 3) (f 5)) := by
  refine T.F43.okX scshare_at (fun vs H Q E h => ?_) (fun cdv A outer s H vs Q E hr h => ?_)
  · obtain ⟨v0, n, v, rfl, _⟩ := h
    rfl
  · obtain ⟨v0, n, v, rfl, h⟩ := h
    refine ⟨_, (pss_cons (ps_expr (pe_callS (ok_need_box T) (hr.mono (by decide)) (by rfl) T.g26 T.F26.kp T.b26 (fun σ => passAt (takes_of rfl rfl rfl rfl) σ) (pa_cons (pv 0) pa_nil)))
      (pss_cons (ps_asg (pv 0) (pg_tup rfl (pgs_cons (pg_name (i := 3) scshare_at.nd rfl (Or.inl rfl)) (pgs_cons (pg_name (i := 4) scshare_at.nd rfl (Or.inl rfl)) pgs_nil))))
      (pss_cons (ps_set (i := 5) scshare_at.nd rfl (Or.inl rfl) (pe_call (ok_tables_to T) (hr.mono (by decide)) (by rfl) T.g34 T.F34.kp T.b34 .nil pass0 (pa_cons (pv 3) (pa_cons (pv 4) pa_nil))))
      (pss_cons (ps_if (pt_not (pt_val (pe_call (ok_is_whole_from T) (hr.mono (by decide)) (by rfl) T.g20 T.F20.kp T.b20 .nil pass0 (pa_cons pe_int (pa_cons (pe_op op_sub (pe_call (ok_told_in T) (hr.mono (by decide)) (by rfl) T.g33 T.F33.kp T.b33 .nil pass0 (pa_cons (pe_ix (r := rIxL K) ix_list (pe_ix (r := rIxL K) ix_list (pv 5) (pv 3) (fun _ _ => rfl)) (pv 4) (fun _ _ => rfl)) (pa_cons (pv 1) pa_nil))) pe_int) (pa_cons (pv 2) pa_nil)))))) (pss_one (ps_raise rfl (takes_of rfl rfl rfl rfl) (pmk_own PySem.F.excBase_ValueError T.x5 T.g5 T.k5 (raises_own T.e5.hs T.t5) rfl))) pss_nil)
      (pss_cons (ps_set (i := 6) scshare_at.nd rfl (Or.inl rfl) (pe_lst pa_nil))
      (Evl.pss_cut (ps_while (passes_of rfl) (pt_cmpR op_gt (pv 1) pe_int (nomark _)) (pss_cons (ps_set (i := 7) scshare_at.nd rfl (Or.inl rfl) (pe_call (ok_row_at T) (hr.mono (by decide)) (by rfl) T.g44 T.F44.kp T.b44 .nil pass0 (pa_cons (pe_ix (r := rIxL K) ix_list (pv 5) (pv 3) (fun _ _ => rfl)) (pa_cons (pv 1) (pa_cons (pv 2) pa_nil)))))
      (pss_cons (ps_aug (i := 2) scshare_at.nd rfl (Or.inl rfl) (pe_call (ok_told_in T) (hr.mono (by decide)) (by rfl) T.g33 T.F33.kp T.b33 .nil pass0 (pa_cons (pe_ix (r := rIxL K) ix_list (pe_ix (r := rIxL K) ix_list (pv 5) (pv 3) (fun _ _ => rfl)) (pe_op op_sub (pv 7) pe_int) (fun _ _ => rfl)) (pa_cons (pv 1) pa_nil))) ip_sub)
      (pss_cons (ps_expr (pe_bm PySem.F.plainAttrs_list PySem.F.slot_list_append PySem.F.type_list_append mt_append (pv 6) (pa_cons (pv 7) pa_nil)))
      (pss_cons (ps_aug (i := 1) scshare_at.nd rfl (Or.inl rfl) (pv 7) ip_sub)
      (pss_one (ps_aug (i := 3) scshare_at.nd rfl (Or.inl rfl) pe_int ip_sub)))))))
      (pss_one (ps_ret (pe_callTy (r := rTupO K) tup_of (by rfl) T.m_tuple bt_tuple (pa_cons (pv 6) pa_nil)))))))))), ?_⟩
    rcases h with ⟨h, w, hbx, hv⟩ | ⟨hb, q⟩
    rotate_left
    · exact ⟨_, rfl, v0, rfl, .inr ⟨hb, q⟩⟩
    obtain ⟨b, rfl, hb, h1, h2⟩ := id hbx
    replace h1 : h < 21 := by omega
    replace h2 : w < 21 := by omega
    refine ⟨_, rfl, .ref b, rfl, .inl ⟨_, _, hbx.bx, fun H1 s1 => ?_⟩⟩
    refine ⟨.ref b, rfl, b, _, rfl, SqT.of (s1 _ _ hb), rfl, _, _, rfl, _, _, rfl, rfl, ?_⟩
    refine ⟨_, rfl, _, rfl, h, w, rfl, h1, h2, fun H2 G ls s2 hG hgr => ?_⟩
    have s02 := s1.trans s2
    obtain ⟨L, as, gl, gL, gr⟩ := hgr h (Nat.le_refl _)
    obtain ⟨t, ht, htt⟩ := gr.at (rowT_get (h := h) (n := w) (i := w) (Nat.le_refl _))
    have gl' : (ls.map V.ref)[((h : Int)).toNat]? = some (V.ref L) := by
      rw [List.getElem?_map, Int.toNat_natCast, gl]
      rfl
    have ht' : (as.map V.ref)[((w : Int)).toNat]? = some (V.ref t) := by
      rw [List.getElem?_map, Int.toNat_natCast, ht]
      rfl
    have hlk : look (tab h w) n = cz h (w : Int) n := rfl
    refine ⟨.ref G, rfl, _, rfl, G, _, _, .ref L, rfl, rfl, SqL.of hG, at_get (by omega) gl', _, rfl, L, _, _, .ref t, rfl, rfl, SqL.of gL, at_get (by omega) ht', _, rfl, t, _, n, rfl, htt, _, _, rfl, rfl, ?_⟩
    refine ⟨_, rfl, 0, look (tab h w) n - 1, v, rfl, ?_⟩
    rcases hv with ⟨number, rfl, hn, h0, hlt, q⟩ | ⟨⟨number, rfl, hnb⟩ | ho, q⟩
    rotate_left
    · refine .inl ⟨number, rfl, _, rfl, ?_⟩
      have : (decide ((0 : Int) ≤ number) && decide (number ≤ look (tab h w) n - 1)) = false := by
        rw [Bool.and_eq_false_iff, decide_eq_false_iff_not, decide_eq_false_iff_not, hlk]
        omega
      rw [this]
      exact iteT (q _ s02)
    · exact .inr ⟨ho.same s02, _, rfl, iteT (q _ s02)⟩
    refine .inl ⟨number, rfl, _, rfl, ?_⟩
    rw [decide_eq_true h0, decide_eq_true (show number ≤ look (tab h w) n - 1 by rw [hlk]; omega), Bool.and_self]
    refine iteF ?_
    refine ⟨Nat.zero_le _, fun R nR => ?_⟩
    have s3 := same_new (o := .lst []) nR
    have nR0 : H R = none := s02.free nR
    have hR : (upd H2 R (.lst [])) R = some (.lst []) := upd_same
    have hRG : ∀ b o, H2 b = some o → b ≠ R := fun b o e => ne_of_none e nR
    generalize upd H2 R (.lst []) = H3 at s3 hR ⊢
    refine ⟨fun σ H4 => ∃ (xs : List Int) (o1 o2 o3 o7 : Option V), σ = [some (.ref b), o1, o2, o3, some (.int (w : Int)), some (.ref G), some (.ref R), o7] ∧ Same H H4 ∧ H4 R = some (.lst (xs.map V.int)) ∧ Fits h (w : Int) xs ∧ xs.sum = n ∧ pl h xs n = number, ?_, ?_⟩
    · refine ⟨fun m σ H4 => ∃ (n' num : Int) (k : Nat) (ww : Int) (ds : List Int) (o7 : Option V), σ = [some (.ref b), some (.int n'), some (.int num), some (.int (k : Int)), some (.int (w : Int)), some (.ref G), some (.ref R), o7] ∧ (∀ b o, H2 b = some o → H4 b = some o) ∧ H4 R = some (.lst (ds.map V.int)) ∧ 0 ≤ n' ∧ 0 ≤ num ∧ num < cz k ww n' ∧ 0 ≤ ww ∧ ww ≤ w ∧ k ≤ h ∧ ds.length + k = h ∧
        (∀ xs, Fits k ww xs → xs.sum = n' → pl k xs n' = num → Fits h (w : Int) (ds ++ xs) ∧ (ds ++ xs).sum = n ∧ pl h (ds ++ xs) n = number) ∧ k = m, ?_, ?_⟩
      · exact ⟨h, n, number, h, w, [], none, rfl, s3, hR, hn, h0, hlt, by omega, Int.le_refl _, Nat.le_refl _, by simp, fun xs g1 g2 g3 => ⟨g1, g2, g3⟩, rfl⟩
      · rintro m _ H4 ⟨n', num, k, ww, ds, o7, rfl, s4, hR4, n0, m0, mlt, ww0, ww1, kh, dk, comp, rfl⟩
        refine ⟨_, rfl, _, _, rfl, rfl, _, rfl, ite2 (fun e => ?_) (fun e => ?_)⟩
        · have e1 : 0 < n' := of_decide_eq_true e
          cases k with
          | zero =>
            rw [cz_zero_h e1] at mlt
            omega
          | succ k =>
            refine ⟨fun σ' H' => ∃ m', m' < k + 1 ∧ ∃ (n' num : Int) (k : Nat) (ww : Int) (ds : List Int) (o7 : Option V), σ' = [some (.ref b), some (.int n'), some (.int num), some (.int (k : Int)), some (.int (w : Int)), some (.ref G), some (.ref R), o7] ∧ (∀ b o, H2 b = some o → H' b = some o) ∧ H' R = some (.lst (ds.map V.int)) ∧ 0 ≤ n' ∧ 0 ≤ num ∧ num < cz k ww n' ∧ 0 ≤ ww ∧ ww ≤ w ∧ k ≤ h ∧ ds.length + k = h ∧
              (∀ xs, Fits k ww xs → xs.sum = n' → pl k xs n' = num → Fits h (w : Int) (ds ++ xs) ∧ (ds ++ xs).sum = n ∧ pl h (ds ++ xs) n = number) ∧ k = m', fun σ' H' z => z, ?_⟩
            obtain ⟨L, as, gl, gL, gr⟩ := (hgr.same s4) (k + 1) kh
            have hG4 := s4 _ _ hG
            refine ⟨.ref G, rfl, _, rfl, G, _, _, .ref L, rfl, rfl, SqL.of hG4, at_get (by omega) ?_, _, rfl, _, rfl, L, as, k + 1, w, n', num, rfl, gL, gr, e1, m0, Int.lt_of_lt_of_le mlt (cz_le ww0 ww1), fun l l1 l2 l3 l4 => ?_⟩
            · rw [List.getElem?_map, Int.toNat_natCast, gl]
              rfl
            have lw : l ≤ ww := by
              rcases Int.lt_or_le ww l with z | z
              · have := cz_le (h := k + 1) (n := n') (w := ww) (w' := l - 1) ww0 (by omega)
                omega
              · exact z
            have hst := cz_step (h := k) (w := l) (n := n') l1
            obtain ⟨t, ht, htt⟩ := gr.at (rowT_get (h := k + 1) (n := w) (i := (l - 1).toNat) (by omega))
            refine ⟨_, rfl, .ref G, rfl, _, rfl, G, _, _, .ref L, rfl, rfl, SqL.of hG4, at_get (by omega) ?_, _, rfl, _, _, rfl, rfl, L, _, _, .ref t, rfl, rfl, SqL.of gL, at_get (by omega) ?_, _, rfl, t, _, n', rfl, htt, _, _, rfl, rfl, ?_⟩
            · rw [List.getElem?_map, Int.toNat_natCast, gl]
              rfl
            · rw [List.getElem?_map, ht]
              rfl
            refine ⟨.ref R, rfl, .inl ⟨rfl, _, .inl (.inl hR4)⟩, _, rfl, R, _, _, rfl, rfl, hR4, small_lt (by rw [List.length_map]; omega), ?_⟩
            refine ⟨_, rfl, _, rfl, _, _, rfl, rfl, ?_⟩
            have hnl : 0 ≤ n' - l := by
              rcases Int.lt_or_le (n' - l) 0 with z | z
              · rw [cz_neg z] at hst
                omega
              · exact z
            refine ⟨_, rfl, _, _, rfl, rfl, k, by omega, n' - l, num - cz (k + 1) (l - 1) n', k, l, ds ++ [l], some (.int l), ?_, fun c o z => ?_, ?_, hnl, by omega, by omega, by omega, by omega, by omega, by rw [List.length_append]; show ds.length + 1 + k = h; omega, fun xs g1 g2 g3 => ?_, rfl⟩
            · rw [show (k : Int) = ((k + 1 : Nat) : Int) - 1 by omega]
              rfl
            · rw [upd_ne (hRG c o z)]
              exact s4 _ _ z
            · rw [upd_same, List.map_append]
              rfl
            · have g := comp (l :: xs) ⟨l1, lw, g1⟩ (by rw [List.sum_cons]; omega) (by show cz (k + 1) (l - 1) n' + pl k xs (n' - l) = num; omega)
              rw [List.append_assoc]
              exact g
        · have e1 : ¬ 0 < n' := fun z => e (decide_eq_true z)
          obtain rfl : n' = 0 := by omega
          rw [cz_none' ww0] at mlt
          obtain ⟨g1, g2, g3⟩ := comp [] fits_nil rfl (by rw [pl_nil]; omega)
          rw [List.append_nil] at g1 g2 g3
          refine ⟨ds, _, _, _, _, rfl, fun c o z => s4 _ _ (s02 _ _ z), hR4, g1, g2, g3⟩
    rintro _ H4 ⟨xs, o1, o2, o3, o7, rfl, s4, hR4, g1, g2, g3⟩
    exact ⟨.ref R, rfl, R, _, rfl, .inl ⟨SqL.of hR4, fun t nt => q _ t xs (s4.trans (same_new nt)) upd_same g1 g2 g3⟩⟩
def sp_place_of (C D : Addr) : Sp := fun vs H Q E => ∃ (v : V) (a : Addr) (xs : List Int), vs = [v, .ref a] ∧ H a = some (.tup (xs.map V.int)) ∧ ((∃ h w : Nat, BxN H v h w ∧ fitB (h : Int) (w : Int) xs = true ∧ Fits h (w : Int) xs ∧ ∀ H', Same H H' → Q (.int (pl h xs xs.sum)) H') ∨
  (∃ h w : Int, Bx H v h w ∧ fitB h w xs = false ∧ ∀ H', Same H H' → E (.ref D) none H') ∨ (NoBx H v ∧ ∀ H', Same H H' → E (.ref C) none H'))
theorem ok_place_of (T : Txt K mg f fd) : FnOk P w K mg base (L2.CX P w) 7 (f 45) (fd 45) ["box", "share"] (sp_place_of (f 3) (f 4)) := by
  refine T.F45.okX scplace_of (fun vs H Q E h => ?_) (fun cdv A outer s H vs Q E hr h => ?_)
  · obtain ⟨v, a, xs, rfl, _⟩ := h
    rfl
  · obtain ⟨v, a, xs, rfl, ha, h⟩ := h
    refine ⟨_, (pss_cons (ps_expr (pe_callS (ok_need_fit T) (hr.mono (by decide)) (by rfl) T.g28 T.F28.kp T.b28 (fun σ => passAt (takes_of rfl rfl rfl rfl) σ) (pa_cons (pv 0) (pa_cons (pv 1) pa_nil))))
      (pss_cons (ps_asg (pv 0) (pg_tup rfl (pgs_cons (pg_name (i := 2) scplace_of.nd rfl (Or.inl rfl)) (pgs_cons (pg_name (i := 3) scplace_of.nd rfl (Or.inl rfl)) pgs_nil))))
      (pss_cons (ps_set (i := 4) scplace_of.nd rfl (Or.inl rfl) (pe_call (ok_tables_to T) (hr.mono (by decide)) (by rfl) T.g34 T.F34.kp T.b34 .nil pass0 (pa_cons (pv 2) (pa_cons (pv 3) pa_nil))))
      (pss_cons (ps_set (i := 5) scplace_of.nd rfl (Or.inl rfl) (pe_call (ok_cells_in T) (hr.mono (by decide)) (by rfl) T.g22 T.F22.kp T.b22 .nil pass0 (pa_cons (pv 1) pa_nil)))
      (pss_cons (ps_set (i := 6) scplace_of.nd rfl (Or.inl rfl) pe_int)
      (pss_cons (ps_for (passes_of rfl) rfl (pi_enumT (by rfl) T.m_enumerate (pa_cons (pv 1) pa_nil)) (pg_tup rfl (pgs_cons (pg_name (i := 7) scplace_of.nd rfl (Or.inl rfl)) (pgs_cons (pg_name (i := 8) scplace_of.nd rfl (Or.inl rfl)) pgs_nil))) (pss_cons (ps_aug (i := 6) scplace_of.nd rfl (Or.inl rfl) (pe_call (ok_told_in T) (hr.mono (by decide)) (by rfl) T.g33 T.F33.kp T.b33 .nil pass0 (pa_cons (pe_ix (r := rIxL K) ix_list (pe_ix (r := rIxL K) ix_list (pv 4) (pe_op op_sub (pv 2) (pv 7)) (fun _ _ => rfl)) (pe_op op_sub (pv 8) pe_int) (fun _ _ => rfl)) (pa_cons (pv 5) pa_nil))) ip_add)
      (pss_one (ps_aug (i := 5) scplace_of.nd rfl (Or.inl rfl) (pv 8) ip_sub))))
      (pss_one (ps_ret (pv 6))))))))), ?_⟩
    rcases h with ⟨h, w, hbx, hfb, hf, q⟩ | ⟨h, w, hb, hfb, q⟩ | ⟨hb, q⟩
    rotate_left
    · exact ⟨_, rfl, .ref a, rfl, v, a, xs, rfl, ha, .inr (.inl ⟨h, w, hb, hfb, q⟩)⟩
    · exact ⟨_, rfl, .ref a, rfl, v, a, xs, rfl, ha, .inr (.inr ⟨hb, q⟩)⟩
    obtain ⟨b, rfl, hb, h1, h2⟩ := id hbx
    replace h1 : h < 21 := by omega
    replace h2 : w < 21 := by omega
    have hl := fits_len hf
    refine ⟨_, rfl, .ref a, rfl, .ref b, a, xs, rfl, ha, .inl ⟨_, _, hbx.bx, hfb, fun H1 s1 => ?_⟩⟩
    refine ⟨.ref b, rfl, b, _, rfl, SqT.of (s1 _ _ hb), rfl, _, _, rfl, _, _, rfl, rfl, ?_⟩
    refine ⟨_, rfl, _, rfl, h, w, rfl, h1, h2, fun H2 G ls s2 hG hgr => ?_⟩
    have s02 := s1.trans s2
    refine ⟨.ref a, rfl, a, xs, rfl, s02 _ _ ha, ?_⟩
    refine ⟨.ref a, rfl, a, _, rfl, SqT.of (s02 _ _ ha), ?_⟩
    refine for_it (walk_enumT (xs := xs.map V.int)) (fun i σ H3 => ∃ (left number : Int) (o7 o8 : Option V), σ = [some (.ref b), some (.ref a), some (.int (h : Int)), some (.int (w : Int)), some (.ref G), some (.int left), some (.int number), o7, o8] ∧ Same H2 H3 ∧ left = (xs.drop i).sum ∧ number + pl (h - i) (xs.drop i) left = pl h xs xs.sum) ?_ (fun i σ H3 _ ⟨_, _, _, _, _, s3, _⟩ => SqT.of (s3 _ _ (s02 _ _ ha))) ?_ ?_
    · exact ⟨_, 0, none, none, rfl, Same.refl _, rfl, by rw [List.drop_zero, Nat.sub_zero, Int.zero_add]⟩
    · rintro i v _ H3 _ hi ⟨left, number, o7, o8, rfl, s3, hleft, hnum⟩ ⟨u, x, y, rfl, nu, rfl, g1, g2⟩
      rw [List.length_map] at hi
      dsimp only at g1 g2
      cases g1
      rw [List.getElem?_map, List.getElem?_eq_getElem hi] at g2
      cases g2
      obtain ⟨k, e1, e2, e3, e4⟩ := fits_drop i hf (List.getElem?_eq_getElem hi)
      have s4 := same_new (o := .tup [V.int (i : Int), V.int xs[i]]) nu
      have s24 := s3.trans s4
      obtain ⟨L, as, gl, gL, gr⟩ := (hgr.same s24) (k + 1) (by omega)
      obtain ⟨t, ht, htt⟩ := gr.at (rowT_get (h := k + 1) (n := w) (i := (xs[i] - 1).toNat) (by omega))
      refine ⟨u, _, rfl, SqT.of upd_same, rfl, _, _, rfl, _, _, rfl, rfl, ?_⟩
      refine ⟨_, rfl, .ref G, rfl, _, rfl, _, rfl, _, _, rfl, rfl, G, _, _, .ref L, rfl, rfl, SqL.of (s24 _ _ hG), at_get (by omega) ?_, _, rfl, _, _, rfl, rfl, L, _, _, .ref t, rfl, rfl, SqL.of gL, at_get (by omega) ?_, _, rfl, t, _, left, rfl, htt, _, _, rfl, rfl, ?_⟩
      · rw [List.getElem?_map, show ((h : Int) - (i : Int)).toNat = k + 1 by omega, gl]
        rfl
      · rw [List.getElem?_map, ht]
        rfl
      refine ⟨_, rfl, _, rfl, _, _, rfl, rfl, _, _, _, _, rfl, s24, ?_, ?_⟩
      · show left - xs[i] = _
        rw [hleft, e4, List.sum_cons]
        omega
      · rw [show h - i = k + 1 by omega, e4] at hnum
        rw [show h - (i + 1) = k by omega]
        have hn : number + (cz (k + 1) (xs[i] - 1) left + pl k (xs.drop (i + 1)) (left - xs[i])) = pl h xs xs.sum := hnum
        have hc : cz (k + 1) (xs[i] - 1) left = look (tab (k + 1) (xs[i] - 1).toNat) left := rfl
        rw [← hn, hc]
        show number + look (tab (k + 1) (xs[i] - 1).toNat) left + pl k (xs.drop (i + 1)) (left - xs[i]) = _
        omega
    · rintro _ H3 ⟨left, number, o7, o8, rfl, s3, hleft, hnum⟩
      rw [List.length_map, List.drop_of_length_le (Nat.le_refl _), pl_nil, Int.add_zero] at hnum
      rw [← hnum] at q
      exact ⟨_, rfl, q _ (s02.trans s3)⟩
--SPLIT--
/-! ### _law_asked -/
def sp_law_asked (B F N : Addr) : Sp := fun vs H Q E => ∃ (way : Nat) (v0 : V) (n : Int) (v : V) (a : Addr) (xs : List Int), vs = [.int (way : Int), v0, .int n, v, .ref a] ∧ 0 ≤ n ∧ ((∃ i : Int, v = .int i) ∨ Odd H v) ∧ H a = some (.tup (xs.map V.int)) ∧
  ((∃ h w : Nat, BxN H v0 h w ∧ (fitB (h : Int) (w : Int) xs = true → Fits h (w : Int) xs) ∧ (∀ z H', Same H H' → Q z H') ∧ (∀ H', Same H H' → E (.ref F) none H') ∧ ∀ H', Same H H' → E (.ref N) none H') ∨ (NoBx H v0 ∧ ∀ H', Same H H' → E (.ref B) none H'))
theorem ok_law_asked (T : Txt K mg f fd) : FnOk P w K mg base (L2.CX P w) 10 (f 51) (fd 51) ["_law_way", "_law_box", "_law_n", "_law_number", "_law_share"] (sp_law_asked (f 3) (f 4) (f 5)) := by
  refine T.F51.okX sc_law_asked (fun vs H Q E h => ?_) (fun cdv A outer s H vs Q E hr h => ?_)
  · obtain ⟨way, v0, n, v, a, xs, rfl, _⟩ := h
    rfl
  · obtain ⟨way, v0, n, v, a, xs, rfl, hn, hv, ha, h⟩ := h
    refine ⟨_, (pss_cons (ps_if (pt_cmpR op_eq (pv 0) pe_int (nomark _)) (pss_one (ps_ret (pe_callS (ok_how_many T) (hr.mono (by decide)) (by rfl) T.g30 T.F30.kp T.b30 (fun σ => passAt (takes_of rfl rfl rfl rfl) σ) (pa_cons (pv 1) (pa_cons (pv 2) pa_nil))))) pss_nil)
      (pss_cons (ps_if (pt_cmpR op_eq (pv 0) pe_int (nomark _)) (pss_one (ps_ret (pe_callS (ok_cell_table T) (hr.mono (by decide)) (by rfl) T.g31 T.F31.kp T.b31 (fun σ => passAt (takes_of rfl rfl rfl rfl) σ) (pa_cons (pv 1) pa_nil)))) pss_nil)
      (pss_cons (ps_if (pt_cmpR op_eq (pv 0) pe_int (nomark _)) (pss_one (ps_ret (pe_callS (ok_all_in T) (hr.mono (by decide)) (by rfl) T.g32 T.F32.kp T.b32 (fun σ => passAt (takes_of rfl rfl rfl rfl) σ) (pa_cons (pv 1) pa_nil)))) pss_nil)
      (pss_cons (ps_if (pt_cmpR op_eq (pv 0) pe_int (nomark _)) (pss_one (ps_ret (pe_callS (ok_share_at T) (hr.mono (by decide)) (by rfl) T.g43 T.F43.kp T.b43 (fun σ => passAt (takes_of rfl rfl rfl rfl) σ) (pa_cons (pv 1) (pa_cons (pv 2) (pa_cons (pv 3) pa_nil)))))) pss_nil)
      (pss_cons (ps_if (pt_cmpR op_eq (pv 0) pe_int (nomark _)) (pss_one (ps_ret (pe_callS (ok_place_of T) (hr.mono (by decide)) (by rfl) T.g45 T.F45.kp T.b45 (fun σ => passAt (takes_of rfl rfl rfl rfl) σ) (pa_cons (pv 1) (pa_cons (pv 4) pa_nil))))) pss_nil)
      (pss_cons (ps_if (pt_cmpR op_eq (pv 0) pe_int (nomark _)) (pss_one (ps_ret (pe_callS (ok_shares_of T) (hr.mono (by decide)) (by rfl) T.g38 T.F38.kp T.b38 (fun σ => passAt (takes_of rfl rfl rfl rfl) σ) (pa_cons (pv 1) (pa_cons (pv 2) pa_nil))))) pss_nil)
      (pss_one (ps_ret (pe_callS (ok_shares_in T) (hr.mono (by decide)) (by rfl) T.g39 T.F39.kp T.b39 (fun σ => passAt (takes_of rfl rfl rfl rfl) σ) (pa_cons (pv 1) pa_nil)))))))))), ?_⟩
    have h1 : (∃ h w : Nat, BxN H v0 h w ∧ ∀ H' z, Same H H' → Q (.int z) H') ∨ (NoBx H v0 ∧ ∀ H', Same H H' → E (.ref (f 3)) none H') := by
      rcases h with ⟨h, w, hb, _, q, _, _⟩ | h
      · exact .inl ⟨h, w, hb, fun H' z s => q _ _ s⟩
      · exact .inr h
    refine ⟨_, rfl, rfl, _, rfl, ite2 (fun _ => ⟨v0, rfl, .int n, rfl, v0, n, rfl, h1⟩) fun _ => ?_⟩
    refine ⟨_, rfl, rfl, _, rfl, ite2 (fun _ => ?_) fun _ => ?_⟩
    · refine ⟨v0, rfl, v0, rfl, ?_⟩
      rcases h with ⟨h, w, hb, _, q, _, _⟩ | h
      · exact .inl ⟨h, w, hb, fun H' t s _ => q _ _ s⟩
      · exact .inr h
    refine ⟨_, rfl, rfl, _, rfl, ite2 (fun _ => ⟨v0, rfl, v0, rfl, h1⟩) fun _ => ?_⟩
    refine ⟨_, rfl, rfl, _, rfl, ite2 (fun _ => ?_) fun _ => ?_⟩
    · refine ⟨v0, rfl, .int n, rfl, v, rfl, v0, n, v, rfl, ?_⟩
      rcases h with ⟨h, w, hb, _, q, _, qn⟩ | h
      · refine .inl ⟨h, w, hb, ?_⟩
        rcases hv with ⟨i, rfl⟩ | ho
        · by_cases c : 0 ≤ i ∧ i < cz h (w : Int) n
          · exact .inl ⟨i, rfl, hn, c.1, c.2, fun H' a xs s _ _ _ _ => q _ _ s⟩
          · exact .inr ⟨.inl ⟨i, rfl, by omega⟩, qn⟩
        · exact .inr ⟨.inr ho, qn⟩
      · exact .inr h
    refine ⟨_, rfl, rfl, _, rfl, ite2 (fun _ => ?_) fun _ => ?_⟩
    · refine ⟨v0, rfl, .ref a, rfl, v0, a, xs, rfl, ha, ?_⟩
      rcases h with ⟨h, w, hb, hf, q, qf, _⟩ | h
      · by_cases c : fitB (h : Int) (w : Int) xs = true
        · exact .inl ⟨h, w, hb, c, hf c, fun H' s => q _ _ s⟩
        · exact .inr (.inl ⟨h, w, hb.bx, by simpa using c, qf⟩)
      · exact .inr (.inr h)
    refine ⟨_, rfl, rfl, _, rfl, ite2 (fun _ => ?_) fun _ => ?_⟩
    · refine ⟨v0, rfl, .int n, rfl, v0, n, rfl, ?_⟩
      rcases h with ⟨h, w, hb, _, q, _, _⟩ | h
      · exact .inl ⟨h, w, hb, fun H' L us s _ _ => q _ _ s⟩
      · exact .inr h
    refine ⟨v0, rfl, v0, rfl, ?_⟩
    rcases h with ⟨h, w, hb, _, q, _, _⟩ | h
    · exact .inl ⟨h, w, hb, fun H' L s => q _ _ s⟩
    · exact .inr h
/-! ### _law_no_box -/
theorem Odd.keep {H H' : Hp} {v : V} (h : Odd H v) (s : KeepN H H') : Odd H' v := by
  cases h with
  | non => exact .non
  | bl b => exact .bl b
  | str x => exact .str x
  | lst e => exact .lst (s _ _ e fun _ z => nomatch z)
  | tup e => exact .tup (s _ _ e fun _ z => nomatch z)
  | dK e => exact .dK (s _ _ e fun _ z => nomatch z)
theorem Sd.keep {H H' : Hp} {v : V} (h : Sd H v) (s : KeepN H H') : Sd H' v := h.imp (fun z => z) fun o => o.keep s
theorem NonT.keep {H H' : Hp} {v : V} (h : NonT H v) (s : KeepN H H') : NonT H' v := by
  cases h with
  | int i => exact .int i
  | non => exact .non
  | bl b => exact .bl b
  | str x => exact .str x
  | lst e => exact .lst (s _ _ e fun _ z => nomatch z)
  | dK e => exact .dK (s _ _ e fun _ z => nomatch z)
theorem NoBx.keep {H H' : Hp} {v : V} (h : NoBx H v) (s : KeepN H H') : NoBx H' v := by
  rcases h with h | ⟨a, xs, e, h1, h2⟩ | ⟨a, x, y, e, h1, h2, h3, h4⟩
  · exact .inl (h.keep s)
  · exact .inr (.inl ⟨a, xs, e, s _ _ h1 (fun _ z => nomatch z), h2⟩)
  · exact .inr (.inr ⟨a, x, y, e, s _ _ h1 (fun _ z => nomatch z), h2.keep s, h3.keep s, h4⟩)
theorem Bx.keep {H H' : Hp} {v : V} {h w : Int} (b : Bx H v h w) (s : KeepN H H') : Bx H' v h w := let ⟨a, e, h1, h2⟩ := b; ⟨a, e, s _ _ h1 (fun _ z => nomatch z), h2⟩
def At (p : Addr) (H : Hp) (c : Addr) (o : HO) : Prop := H c = some o ∧ c ≠ p
theorem At.kp {p c : Addr} {H H' : Hp} {o : HO} (h : At p H c o) (k : Kp p H H') : At p H' c o := ⟨k c _ h.2 h.1, h.2⟩
theorem At.same {p c : Addr} {H H' : Hp} {o : HO} (h : At p H c o) (s : Same H H') : At p H' c o := ⟨s _ _ h.1, h.2⟩
theorem At.new {p c : Addr} {H : Hp} {o : HO} (hP : PenA H p) (n : H c = none) : At p (upd H c o) c o := ⟨upd_same, fun e => hP.new n e.symm⟩
theorem tabs_kp {T : List (Addr × Str)} {H H' : Hp} {p : Addr} (h : LamX.Tabs T H) (hP : PenA H p) (k : Kp p H H') : LamX.Tabs T H' := by
  obtain ⟨f0, n0, c0, hp⟩ := hP
  intro z m
  obtain ⟨ps, e1, e2, e3⟩ := h z m
  refine ⟨ps, k _ _ (ne_of e1 hp (by intro z; cases z)) e1, e2, fun pos cv hc => ?_⟩
  obtain ⟨c, e4, e5⟩ := e3 pos cv hc
  exact ⟨c, e4, k _ _ (ne_of e5 hp (by intro z; cases z)) e5⟩
theorem PenA.keep {H H' : Hp} {p : Addr} (h : PenA H p) (s : KeepN H H') : PenA H' p := let ⟨f, n, c, e⟩ := h; ⟨f, n, c, s _ _ e (fun _ z => nomatch z)⟩
def NbP (p : Addr) (H : Hp) (v : V) : Prop := ∀ H', Kp p H H' → NoBx H' v
def sp_law_no_box : Sp := fun vs H Q _ => ∃ p : Addr, vs = [.ref p] ∧ PenA H p ∧ ∀ H' v, Kp p H H' → PenA H' p → NbP p H' v → Q v H'
theorem ok_law_no_box (T : Txt K mg f fd) : FnOk P w K mg base CX0 2 (f 49) (fd 49) ["_law_pen_here"] sp_law_no_box := by
  refine T.F49.ok sc_law_no_box (fun vs H Q E h => ?_) (fun cdv A outer s H vs Q E hr h => ?_)
  · obtain ⟨p, rfl, _⟩ := h
    rfl
  · obtain ⟨p, rfl, P0, q⟩ := h
    refine ⟨_, (Evl.pss_cut (ps_set (i := 1) sc_law_no_box.nd rfl (Or.inl rfl) (pe_lst (pa_cons pe_non (pa_cons pe_int (pa_cons pe_bl (pa_cons pe_str (pa_cons (pe_lst (pa_cons pe_int (pa_cons pe_int pa_nil))) (pa_cons (pe_tup (pa_cons pe_int pa_nil)) (pa_cons (pe_tup (pa_cons pe_int (pa_cons pe_int (pa_cons pe_int pa_nil)))) (pa_cons (pe_tup (pa_cons pe_int (pa_cons pe_int pa_nil))) (pa_cons (pe_tup (pa_cons pe_int (pa_cons pe_int pa_nil))) (pa_cons (pe_tup (pa_cons (pe_un un_neg pe_int) (pa_cons pe_int pa_nil))) (pa_cons (pe_tup (pa_cons pe_int (pa_cons (pe_un un_neg pe_int) pa_nil))) (pa_cons (pe_tup (pa_cons pe_bl (pa_cons pe_int pa_nil))) (pa_cons (pe_tup (pa_cons pe_int (pa_cons pe_bl pa_nil))) pa_nil)))))))))))))))
      (pss_one (ps_ret (pe_ix (r := rIxL K) ix_list (pe_op op_cat (pv 1) (pe_lst (pa_cons pe_dnewK (pa_cons (pe_tup pa_nil) (pa_cons (pe_tup (pa_cons pe_str (pa_cons pe_int pa_nil))) (pa_cons (pe_tup (pa_cons (pe_tup (pa_cons pe_int (pa_cons pe_int pa_nil))) pa_nil)) (pa_cons (pe_disp (pps_cons pe_int pe_int pps_nil) (by rfl) (by rfl) (fun z => by cases z) (by decide)) (pa_cons (pe_tup (pa_cons pe_non (pa_cons pe_int pa_nil))) (pa_cons (pe_tup (pa_cons (pe_op op_pow pe_int pe_int) (pa_cons pe_int pa_nil))) pa_nil))))))))) (pe_call (ok_law_draw T) (hr.mono (by decide)) (by rfl) T.g48 T.F48.kp T.b48 .nil pass0 (pa_cons (pv 0) (pa_cons pe_int pa_nil))) (fun _ _ => rfl))))), ?_⟩
    refine ⟨fun σ H1 => ∃ (L : Addr) (zs : List V), σ = [some (.ref p), some (.ref L)] ∧ Same H H1 ∧ At p H1 L (.lst zs) ∧ zs.length = 13 ∧ ∀ v ∈ zs, NbP p H1 v, ?_, ?_⟩
    · · have tt0 : Same H H := Same.refl _
        refine ⟨small_line (by show 2 ≤ 100000; omega), fun c1 n1 => ?_⟩
        have u1 := same_new (o := (.lst [V.int 4, V.int 4])) n1
        have x1 := At.new (o := (.lst [V.int 4, V.int 4])) P0 n1
        have Q1 := P0.same u1
        have tt0 := tt0.trans u1
        generalize upd H c1 (.lst [V.int 4, V.int 4]) = G1 at u1 Q1 tt0 x1 ⊢
        refine ⟨small_line (by show 1 ≤ 100000; omega), fun c2 n2 => ?_⟩
        have u2 := same_new (o := (.tup [V.int 4])) n2
        have x2 := At.new (o := (.tup [V.int 4])) Q1 n2
        have Q2 := Q1.same u2
        have tt0 := tt0.trans u2
        have x1 := x1.same u2
        generalize upd G1 c2 (.tup [V.int 4]) = G2 at u2 Q2 tt0 x1 x2 ⊢
        refine ⟨small_line (by show 3 ≤ 100000; omega), fun c3 n3 => ?_⟩
        have u3 := same_new (o := (.tup [V.int 4, V.int 4, V.int 4])) n3
        have x3 := At.new (o := (.tup [V.int 4, V.int 4, V.int 4])) Q2 n3
        have Q3 := Q2.same u3
        have tt0 := tt0.trans u3
        have x1 := x1.same u3
        have x2 := x2.same u3
        generalize upd G2 c3 (.tup [V.int 4, V.int 4, V.int 4]) = G3 at u3 Q3 tt0 x1 x2 x3 ⊢
        refine ⟨small_line (by show 2 ≤ 100000; omega), fun c4 n4 => ?_⟩
        have u4 := same_new (o := (.tup [V.int 21, V.int 4])) n4
        have x4 := At.new (o := (.tup [V.int 21, V.int 4])) Q3 n4
        have Q4 := Q3.same u4
        have tt0 := tt0.trans u4
        have x1 := x1.same u4
        have x2 := x2.same u4
        have x3 := x3.same u4
        generalize upd G3 c4 (.tup [V.int 21, V.int 4]) = G4 at u4 Q4 tt0 x1 x2 x3 x4 ⊢
        refine ⟨small_line (by show 2 ≤ 100000; omega), fun c5 n5 => ?_⟩
        have u5 := same_new (o := (.tup [V.int 4, V.int 21])) n5
        have x5 := At.new (o := (.tup [V.int 4, V.int 21])) Q4 n5
        have Q5 := Q4.same u5
        have tt0 := tt0.trans u5
        have x1 := x1.same u5
        have x2 := x2.same u5
        have x3 := x3.same u5
        have x4 := x4.same u5
        generalize upd G4 c5 (.tup [V.int 4, V.int 21]) = G5 at u5 Q5 tt0 x1 x2 x3 x4 x5 ⊢
        refine ⟨_, rfl, small_line (by show 2 ≤ 100000; omega), fun c6 n6 => ?_⟩
        have u6 := same_new (o := (.tup [V.int (-1), V.int 4])) n6
        have x6 := At.new (o := (.tup [V.int (-1), V.int 4])) Q5 n6
        have Q6 := Q5.same u6
        have tt0 := tt0.trans u6
        have x1 := x1.same u6
        have x2 := x2.same u6
        have x3 := x3.same u6
        have x4 := x4.same u6
        have x5 := x5.same u6
        generalize upd G5 c6 (.tup [V.int (-1), V.int 4]) = G6 at u6 Q6 tt0 x1 x2 x3 x4 x5 x6 ⊢
        refine ⟨_, rfl, small_line (by show 2 ≤ 100000; omega), fun c7 n7 => ?_⟩
        have u7 := same_new (o := (.tup [V.int 4, V.int (-1)])) n7
        have x7 := At.new (o := (.tup [V.int 4, V.int (-1)])) Q6 n7
        have Q7 := Q6.same u7
        have tt0 := tt0.trans u7
        have x1 := x1.same u7
        have x2 := x2.same u7
        have x3 := x3.same u7
        have x4 := x4.same u7
        have x5 := x5.same u7
        have x6 := x6.same u7
        generalize upd G6 c7 (.tup [V.int 4, V.int (-1)]) = G7 at u7 Q7 tt0 x1 x2 x3 x4 x5 x6 x7 ⊢
        refine ⟨small_line (by show 2 ≤ 100000; omega), fun c8 n8 => ?_⟩
        have u8 := same_new (o := (.tup [V.bl true, V.int 4])) n8
        have x8 := At.new (o := (.tup [V.bl true, V.int 4])) Q7 n8
        have Q8 := Q7.same u8
        have tt0 := tt0.trans u8
        have x1 := x1.same u8
        have x2 := x2.same u8
        have x3 := x3.same u8
        have x4 := x4.same u8
        have x5 := x5.same u8
        have x6 := x6.same u8
        have x7 := x7.same u8
        generalize upd G7 c8 (.tup [V.bl true, V.int 4]) = G8 at u8 Q8 tt0 x1 x2 x3 x4 x5 x6 x7 x8 ⊢
        refine ⟨small_line (by show 2 ≤ 100000; omega), fun c9 n9 => ?_⟩
        have u9 := same_new (o := (.tup [V.int 4, V.bl false])) n9
        have x9 := At.new (o := (.tup [V.int 4, V.bl false])) Q8 n9
        have Q9 := Q8.same u9
        have tt0 := tt0.trans u9
        have x1 := x1.same u9
        have x2 := x2.same u9
        have x3 := x3.same u9
        have x4 := x4.same u9
        have x5 := x5.same u9
        have x6 := x6.same u9
        have x7 := x7.same u9
        have x8 := x8.same u9
        generalize upd G8 c9 (.tup [V.int 4, V.bl false]) = G9 at u9 Q9 tt0 x1 x2 x3 x4 x5 x6 x7 x8 x9 ⊢
        refine ⟨small_line (by show 13 ≤ 100000; omega), fun Z nZ => ?_⟩
        have u8 := same_new (o := .lst [V.non, V.int 4, V.bl true, V.str "44", V.ref c1, V.ref c2, V.ref c3, V.ref c4, V.ref c5, V.ref c6, V.ref c7, V.ref c8, V.ref c9]) nZ
        refine ⟨Z, _, rfl, tt0.trans u8, At.new (o := .lst [V.non, V.int 4, V.bl true, V.str "44", V.ref c1, V.ref c2, V.ref c3, V.ref c4, V.ref c5, V.ref c6, V.ref c7, V.ref c8, V.ref c9]) Q9 nZ, rfl, ?_⟩
        have x1 := x1.same u8
        have x2 := x2.same u8
        have x3 := x3.same u8
        have x4 := x4.same u8
        have x5 := x5.same u8
        have x6 := x6.same u8
        have x7 := x7.same u8
        have x8 := x8.same u8
        have x9 := x9.same u8
        intro v m
        simp only [List.mem_cons, List.not_mem_nil, or_false] at m
        rcases m with rfl | rfl | rfl | rfl | rfl | rfl | rfl | rfl | rfl | rfl | rfl | rfl | rfl
        · exact fun _ _ => .inl .non
        · exact fun _ _ => .inl (.int _)
        · exact fun _ _ => .inl (.bl _)
        · exact fun _ _ => .inl (.str _)
        · exact fun _ k => .inl (.lst (x1.kp k).1)
        · exact fun _ k => .inr (.inl ⟨c2, _, rfl, (x2.kp k).1, by show 1 ≠ 2; decide⟩)
        · exact fun _ k => .inr (.inl ⟨c3, _, rfl, (x3.kp k).1, by show 3 ≠ 2; decide⟩)
        · exact fun _ k => .inr (.inr ⟨c4, _, _, rfl, (x4.kp k).1, .inl ⟨_, rfl⟩, .inl ⟨_, rfl⟩, rfl⟩)
        · exact fun _ k => .inr (.inr ⟨c5, _, _, rfl, (x5.kp k).1, .inl ⟨_, rfl⟩, .inl ⟨_, rfl⟩, rfl⟩)
        · exact fun _ k => .inr (.inr ⟨c6, _, _, rfl, (x6.kp k).1, .inl ⟨_, rfl⟩, .inl ⟨_, rfl⟩, rfl⟩)
        · exact fun _ k => .inr (.inr ⟨c7, _, _, rfl, (x7.kp k).1, .inl ⟨_, rfl⟩, .inl ⟨_, rfl⟩, rfl⟩)
        · exact fun _ k => .inr (.inr ⟨c8, _, _, rfl, (x8.kp k).1, .inr (.bl _), .inl ⟨_, rfl⟩, rfl⟩)
        · exact fun _ k => .inr (.inr ⟨c9, _, _, rfl, (x9.kp k).1, .inl ⟨_, rfl⟩, .inr (.bl _), rfl⟩)
    rintro _ H1 ⟨L, zs, rfl, s1, hL, hzl, hz⟩
    have P1 := P0.same s1
    refine ⟨.ref L, rfl, ?_⟩
    have tt0 : Same H1 H1 := Same.refl _
    refine fun c1 n1 => ?_
    have u1 := same_new (o := (.dK [])) n1
    have x1 := At.new (o := (.dK [])) P1 n1
    have Q1 := P1.same u1
    have tt0 := tt0.trans u1
    have hL := hL.same u1
    generalize upd H1 c1 (.dK []) = G1 at u1 Q1 tt0 hL x1 ⊢
    refine ⟨small_line (by show 0 ≤ 100000; omega), fun c2 n2 => ?_⟩
    have u2 := same_new (o := (.tup [])) n2
    have x2 := At.new (o := (.tup [])) Q1 n2
    have Q2 := Q1.same u2
    have tt0 := tt0.trans u2
    have hL := hL.same u2
    have x1 := x1.same u2
    generalize upd G1 c2 (.tup []) = G2 at u2 Q2 tt0 hL x1 x2 ⊢
    refine ⟨small_line (by show 2 ≤ 100000; omega), fun c3 n3 => ?_⟩
    have u3 := same_new (o := (.tup [V.str "4", V.int 4])) n3
    have x3 := At.new (o := (.tup [V.str "4", V.int 4])) Q2 n3
    have Q3 := Q2.same u3
    have tt0 := tt0.trans u3
    have hL := hL.same u3
    have x1 := x1.same u3
    have x2 := x2.same u3
    generalize upd G2 c3 (.tup [V.str "4", V.int 4]) = G3 at u3 Q3 tt0 hL x1 x2 x3 ⊢
    refine ⟨small_line (by show 2 ≤ 100000; omega), fun c4 n4 => ?_⟩
    have u4 := same_new (o := (.tup [V.int 4, V.int 4])) n4
    have x4 := At.new (o := (.tup [V.int 4, V.int 4])) Q3 n4
    have Q4 := Q3.same u4
    have tt0 := tt0.trans u4
    have hL := hL.same u4
    have x1 := x1.same u4
    have x2 := x2.same u4
    have x3 := x3.same u4
    generalize upd G3 c4 (.tup [V.int 4, V.int 4]) = G4 at u4 Q4 tt0 hL x1 x2 x3 x4 ⊢
    refine ⟨small_line (by show 1 ≤ 100000; omega), fun c5 n5 => ?_⟩
    have u5 := same_new (o := (.tup [V.ref c4])) n5
    have x5 := At.new (o := (.tup [V.ref c4])) Q4 n5
    have Q5 := Q4.same u5
    have tt0 := tt0.trans u5
    have hL := hL.same u5
    have x1 := x1.same u5
    have x2 := x2.same u5
    have x3 := x3.same u5
    have x4 := x4.same u5
    generalize upd G4 c5 (.tup [V.ref c4]) = G5 at u5 Q5 tt0 hL x1 x2 x3 x4 x5 ⊢
    refine fun c6 n6 => ⟨upd_same, [(.inl 4, .int 4)], rfl, by decide, ?_⟩
    have ee : upd (upd G5 c6 (.dK [])) c6 (.dK (mergeK [] [(.inl 4, .int 4)])) = upd G5 c6 (.dK [(.inl 4, .int 4)]) := by
      funext z
      unfold upd
      split <;> rfl
    rw [ee]
    have u6 := same_new (o := (.dK [(.inl 4, .int 4)])) n6
    have x6 := At.new (o := (.dK [(.inl 4, .int 4)])) Q5 n6
    have Q6 := Q5.same u6
    have tt0 := tt0.trans u6
    have hL := hL.same u6
    have x1 := x1.same u6
    have x2 := x2.same u6
    have x3 := x3.same u6
    have x4 := x4.same u6
    have x5 := x5.same u6
    generalize upd G5 c6 (.dK [(.inl 4, .int 4)]) = G6 at u6 Q6 tt0 hL x1 x2 x3 x4 x5 x6 ⊢
    refine ⟨small_line (by show 2 ≤ 100000; omega), fun c7 n7 => ?_⟩
    have u7 := same_new (o := (.tup [V.non, V.int 4])) n7
    have x7 := At.new (o := (.tup [V.non, V.int 4])) Q6 n7
    have Q7 := Q6.same u7
    have tt0 := tt0.trans u7
    have hL := hL.same u7
    have x1 := x1.same u7
    have x2 := x2.same u7
    have x3 := x3.same u7
    have x4 := x4.same u7
    have x5 := x5.same u7
    have x6 := x6.same u7
    generalize upd G6 c7 (.tup [V.non, V.int 4]) = G7 at u7 Q7 tt0 hL x1 x2 x3 x4 x5 x6 x7 ⊢
    refine ⟨_, _, rfl, rfl, ⟨by decide, by decide, by decide⟩, small_line (by show 2 ≤ 100000; omega), fun c8 n8 => ?_⟩
    have u8 := same_new (o := (.tup [V.int ((10 : Int) ^ (29 : Int).toNat), V.int 1])) n8
    have x8 := At.new (o := (.tup [V.int ((10 : Int) ^ (29 : Int).toNat), V.int 1])) Q7 n8
    have Q8 := Q7.same u8
    have tt0 := tt0.trans u8
    have hL := hL.same u8
    have x1 := x1.same u8
    have x2 := x2.same u8
    have x3 := x3.same u8
    have x4 := x4.same u8
    have x5 := x5.same u8
    have x6 := x6.same u8
    have x7 := x7.same u8
    generalize upd G7 c8 (.tup [V.int ((10 : Int) ^ (29 : Int).toNat), V.int 1]) = G8 at u8 Q8 tt0 hL x1 x2 x3 x4 x5 x6 x7 x8 ⊢
    refine ⟨small_line (by show 7 ≤ 100000; omega), fun Z nZ => ?_⟩
    have u9 := same_new (o := .lst [V.ref c1, V.ref c2, V.ref c3, V.ref c5, V.ref c6, V.ref c7, V.ref c8]) nZ
    have xZ := At.new (o := .lst [V.ref c1, V.ref c2, V.ref c3, V.ref c5, V.ref c6, V.ref c7, V.ref c8]) Q8 nZ
    have Q9 := Q8.same u9
    have tt0 := tt0.trans u9
    have hL := hL.same u9
    have x1 := x1.same u9
    have x2 := x2.same u9
    have x3 := x3.same u9
    have x4 := x4.same u9
    have x5 := x5.same u9
    have x6 := x6.same u9
    have x7 := x7.same u9
    have x8 := x8.same u9
    have hz2 : ∀ v ∈ [V.ref c1, V.ref c2, V.ref c3, V.ref c5, V.ref c6, V.ref c7, V.ref c8], NbP p (upd G8 Z (.lst [V.ref c1, V.ref c2, V.ref c3, V.ref c5, V.ref c6, V.ref c7, V.ref c8])) v := by
      intro v m
      simp only [List.mem_cons, List.not_mem_nil, or_false] at m
      rcases m with rfl | rfl | rfl | rfl | rfl | rfl | rfl
      · exact fun _ k => .inl (.dK (x1.kp k).1)
      · exact fun _ k => .inr (.inl ⟨c2, _, rfl, (x2.kp k).1, by show 0 ≠ 2; decide⟩)
      · exact fun _ k => .inr (.inr ⟨c3, _, _, rfl, (x3.kp k).1, .inr (.str _), .inl ⟨_, rfl⟩, rfl⟩)
      · exact fun _ k => .inr (.inl ⟨c5, _, rfl, (x5.kp k).1, by show 1 ≠ 2; decide⟩)
      · exact fun _ k => .inl (.dK (x6.kp k).1)
      · exact fun _ k => .inr (.inr ⟨c7, _, _, rfl, (x7.kp k).1, .inr .non, .inl ⟨_, rfl⟩, rfl⟩)
      · exact fun _ k => .inr (.inr ⟨c8, _, _, rfl, (x8.kp k).1, .inl ⟨_, rfl⟩, .inl ⟨_, rfl⟩, by decide +kernel⟩)
    have hzl2 : [V.ref c1, V.ref c2, V.ref c3, V.ref c5, V.ref c6, V.ref c7, V.ref c8].length = 7 := rfl
    generalize upd G8 Z (.lst [V.ref c1, V.ref c2, V.ref c3, V.ref c5, V.ref c6, V.ref c7, V.ref c8]) = G9 at u9 xZ Q9 tt0 hL hz2 ⊢
    generalize [V.ref c1, V.ref c2, V.ref c3, V.ref c5, V.ref c6, V.ref c7, V.ref c8] = ys at xZ hz2 hzl2
    have all : ∀ v ∈ zs ++ ys, NbP p G9 v := fun v m => by
      rcases List.mem_append.mp m with m | m
      · exact fun H' k => hz v m H' ((Kp.of tt0).trans k)
      · exact hz2 v m
    have hlen : (zs ++ ys).length = 20 := by rw [List.length_append, hzl, hzl2]
    refine ⟨L, Z, zs, ys, rfl, rfl, hL.1, xZ.1, small_line (by rw [hzl, hzl2]; show 20 ≤ 100000; omega), fun W nW => ?_⟩
    generalize zs ++ ys = ws at all hlen ⊢
    have u10 := same_new (o := .lst ws) nW
    have xW := At.new (o := .lst ws) Q9 nW
    refine ⟨.ref p, rfl, p, 20, rfl, Q9.same u10, by decide, by decide, fun H6 d k6 P6 d0 d1 => ?_⟩
    have hd : d.toNat < ws.length := by omega
    exact ⟨W, _, _, ws[d.toNat], rfl, rfl, SqL.of (xW.kp k6).1, at_get d0 (List.getElem?_eq_getElem hd), q _ _ (((Kp.of s1).trans (Kp.of tt0)).trans ((Kp.of u10).trans k6)) P6 fun H7 k7 => all _ (List.getElem_mem hd) _ (((Kp.of u10).trans k6).trans k7)⟩
/-! ### _law_word -/
/-- what _law_word makes of a lambda that tells, or lets one of these out -/
def TWord (C0 : Addr) (C1 : Addr) (C2 : Addr) : (XK → Hp → VK → Prop) → Hp → VK → Prop := fun tl H Q =>
  tl (fun cls d H' => d = none ∧ ((cls = .ref C0 ∧ ∀ H'' t, Same H' H'' → H'' t = some (.tup [.str "refused", .str "box"]) → Q (.ref t) H'') ∨ (cls = .ref C1 ∧ ∀ H'' t, Same H' H'' → H'' t = some (.tup [.str "refused", .str "fit"]) → Q (.ref t) H'') ∨ (cls = .ref C2 ∧ ∀ H'' t, Same H' H'' → H'' t = some (.tup [.str "refused", .str "number"]) → Q (.ref t) H''))) H
    (fun v H' => ∀ H'' t, Same H' H'' → H'' t = some (.tup [.str "told", v]) → Q (.ref t) H'')
theorem mk_law_word {X : Cx} (T : Txt X.K X.mg f fd) (cdg : Value) : Makes X N_law_word "_law_word" (defScope st_law_word) (f 50) cdg (defBody st_law_word) "_law_asked_here" (X.env.qual ++ "<lambda>") (TWord (f 3) (f 4) (f 5)) := by
  intro fn cc s H Q tl act hco hT
  refine ⟨_, (pss_cons (ps_set (i := 1) sc_law_word.nd rfl (Or.inl rfl) pe_non)
      (pss_cons (ps_set (i := 2) sc_law_word.nd rfl (Or.inl rfl) pe_non)
      (Evl.pss_cut (ps_try_keep (i := 3) rfl rfl rfl sc_law_word.nd rfl rfl ⟨rfl, by decide, .inl T.g1⟩ (fun W pn xe tk po => (pss_one (ps_set (i := 2) sc_law_word.nd rfl (Or.inl rfl) (act W pn xe _ _ tk)))) (fun a oe cls pn hz hfl => (pss_one (ps_set (i := 1) sc_law_word.nd rfl (Or.inl rfl) (pv 3)))))
      (Evl.pss_cut (ps_if (pt_cmpR op_isN (pv 1) pe_non (nomark _)) (pss_one (ps_ret (pe_tup (pa_cons pe_str (pa_cons (pv 2) pa_nil))))) pss_nil)
      (pss_cons (ps_set (i := 4) sc_law_word.nd rfl (Or.inl rfl) (pe_lst pa_nil))
      (Evl.pss_cut (ps_if (pt_val (pe_callB (r := rIsK X.K) call_isK (by rfl) T.m_isinstance bt_isinstance (pa_cons (pv 1) (pa_cons (pe_glob (v := .ref (f 3)) (by rfl) T.g3 rfl) pa_nil)))) (pss_one (ps_expr (pe_bm PySem.F.plainAttrs_list PySem.F.slot_list_append PySem.F.type_list_append mt_append (pv 4) (pa_cons pe_str pa_nil)))) pss_nil)
      (Evl.pss_cut (ps_if (pt_val (pe_callB (r := rIsK X.K) call_isK (by rfl) T.m_isinstance bt_isinstance (pa_cons (pv 1) (pa_cons (pe_glob (v := .ref (f 4)) (by rfl) T.g4 rfl) pa_nil)))) (pss_one (ps_expr (pe_bm PySem.F.plainAttrs_list PySem.F.slot_list_append PySem.F.type_list_append mt_append (pv 4) (pa_cons pe_str pa_nil)))) pss_nil)
      (Evl.pss_cut (ps_if (pt_val (pe_callB (r := rIsK X.K) call_isK (by rfl) T.m_isinstance bt_isinstance (pa_cons (pv 1) (pa_cons (pe_glob (v := .ref (f 5)) (by rfl) T.g5 rfl) pa_nil)))) (pss_one (ps_expr (pe_bm PySem.F.plainAttrs_list PySem.F.slot_list_append PySem.F.type_list_append mt_append (pv 4) (pa_cons pe_str pa_nil)))) pss_nil)
      (Evl.pss_cut (ps_if (pt_val (pe_callB (r := rIsK X.K) call_isK (by rfl) T.m_isinstance bt_isinstance (pa_cons (pv 1) (pa_cons (pe_glob (v := .ref (f 2)) (by rfl) T.g2 rfl) pa_nil)))) (pss_one (ps_expr (pe_bm PySem.F.plainAttrs_list PySem.F.slot_list_append PySem.F.type_list_append mt_append (pv 4) (pa_cons pe_str pa_nil)))) pss_nil)
      (Evl.pss_cut (ps_if (pt_val (pe_callB (r := rIsKT X.K) call_isKT (by rfl) T.m_isinstance bt_isinstance (pa_cons (pv 1) (pa_cons (pe_tup (pa_cons (pe_glob (v := .ref (f 15)) (by rfl) T.g15 rfl) (pa_cons (pe_glob (v := .ref (f 7)) (by rfl) T.g7 rfl) (pa_cons (pe_glob (v := .ref (f 8)) (by rfl) T.g8 rfl) (pa_cons (pe_glob (v := .ref (f 10)) (by rfl) T.g10 rfl) (pa_cons (pe_glob (v := .ref (f 13)) (by rfl) T.g13 rfl) (pa_cons (pe_glob (v := .ref (f 6)) (by rfl) T.g6 rfl) (pa_cons (pe_glob (v := .ref (f 9)) (by rfl) T.g9 rfl) (pa_cons (pe_glob (v := .ref (f 12)) (by rfl) T.g12 rfl) pa_nil))))))))) pa_nil)))) (pss_one (ps_expr (pe_bm PySem.F.plainAttrs_list PySem.F.slot_list_append PySem.F.type_list_append mt_append (pv 4) (pa_cons pe_str pa_nil)))) pss_nil)
      (Evl.pss_cut (ps_if (PW.pt (pw_or (pt_val (pe_callB (r := rIsKT X.K) call_isKT (by rfl) T.m_isinstance bt_isinstance (pa_cons (pv 1) (pa_cons (pe_tup (pa_cons (pe_glob (v := .ref (f 16)) (by rfl) T.g16 rfl) (pa_cons (pe_glob (v := .ref (f 11)) (by rfl) T.g11 rfl) (pa_cons (pe_glob (v := .ref (f 14)) (by rfl) T.g14 rfl) (pa_cons (pe_glob (v := .ref (f 17)) (by rfl) T.g17 rfl) pa_nil))))) pa_nil)))) (pw_or1 (pt_not (pt_val (pe_callB (r := rIsK X.K) call_isK (by rfl) T.m_isinstance bt_isinstance (pa_cons (pv 1) (pa_cons (pe_bltn (v := .ty "ValueError") (by rfl) T.m_ValueError bt_ValueError rfl) pa_nil)))))))) (pss_one (ps_expr (pe_bm PySem.F.plainAttrs_list PySem.F.slot_list_append PySem.F.type_list_append mt_append (pv 4) (pa_cons pe_str pa_nil)))) pss_nil)
      (pss_one (ps_ret (pe_tup (pa_cons pe_str (pa_cons (pe_join pe_str (pv 4)) pa_nil)))))))))))))))), ?_⟩
  refine ⟨fun σ H1 => (∃ v, σ = [some (.ref fn), some .non, some v, none, none] ∧ ∀ H'' t, Same H1 H'' → H'' t = some (.tup [.str "told", v]) → Q (.ref t) H'') ∨ (∃ x, σ = [some (.ref fn), some (.ref x), some .non, none, none] ∧ H1 x = some (ExK (.ref (f 3)) x) ∧ ∀ H'' t, Same H1 H'' → H'' t = some (.tup [.str "refused", .str "box"]) → Q (.ref t) H'') ∨ (∃ x, σ = [some (.ref fn), some (.ref x), some .non, none, none] ∧ H1 x = some (ExK (.ref (f 4)) x) ∧ ∀ H'' t, Same H1 H'' → H'' t = some (.tup [.str "refused", .str "fit"]) → Q (.ref t) H'') ∨ (∃ x, σ = [some (.ref fn), some (.ref x), some .non, none, none] ∧ H1 x = some (ExK (.ref (f 5)) x) ∧ ∀ H'' t, Same H1 H'' → H'' t = some (.tup [.str "refused", .str "number"]) → Q (.ref t) H''), ?_, ?_⟩
  · refine ⟨rfl, hco, _, _, ?_, ?_, hT⟩
    · rintro cls d G' ⟨rfl, ⟨rfl, q⟩ | ⟨rfl, q⟩ | ⟨rfl, q⟩⟩
      · exact ⟨rfl, T.m3, fun x nx => ⟨.ref x, rfl, .inr (.inl (⟨x, rfl, upd_same, fun H'' t s ht => q H'' t ((same_new nx).trans s) ht⟩))⟩⟩
      · exact ⟨rfl, T.m4, fun x nx => ⟨.ref x, rfl, .inr (.inr (.inl (⟨x, rfl, upd_same, fun H'' t s ht => q H'' t ((same_new nx).trans s) ht⟩)))⟩⟩
      · exact ⟨rfl, T.m5, fun x nx => ⟨.ref x, rfl, .inr (.inr (.inr (⟨x, rfl, upd_same, fun H'' t s ht => q H'' t ((same_new nx).trans s) ht⟩)))⟩⟩
    · intro v G' q
      exact .inl ⟨v, rfl, q⟩
  rintro _ H1 (⟨v, rfl, q⟩ | ⟨x, rfl, hx, q⟩ | ⟨x, rfl, hx, q⟩ | ⟨x, rfl, hx, q⟩)
  · refine ⟨fun _ _ => False, ?_, fun _ _ z => z.elim⟩
    refine ⟨_, rfl, rfl, _, rfl, ?_⟩
    rw [decide_eq_true rfl]
    exact iteT ⟨_, rfl, small_line (by show 2 ≤ 100000; omega), fun t nt => q _ t (same_new nt) upd_same⟩
  · refine ⟨fun σ H2 => σ = [some (.ref fn), some (.ref x), some .non, none, none] ∧ H1 = H2, ?_, ?_⟩
    · refine ⟨_, rfl, rfl, _, rfl, ?_⟩
      rw [decide_eq_false (fun z => nomatch z)]
      exact iteF ⟨rfl, rfl⟩
    rintro _ _ ⟨rfl, rfl⟩
    refine ⟨Nat.zero_le _, fun L nL => ?_⟩
    have s0 := same_new (o := .lst []) nL
    have hL : (upd H1 L (.lst [])) L = some (.lst []) := upd_same
    generalize upd H1 L (.lst []) = G0 at s0 hL ⊢
    refine ⟨fun σ G1 => σ = [some (.ref fn), some (.ref x), some .non, none, some (.ref L)] ∧ Same H1 G1 ∧ G1 L = some (.lst [V.str "box"]), ?_, ?_⟩
    · refine ⟨.ref x, rfl, x, f 3, .ref (f 3), .ref (f 3), true, rfl, s0 _ _ hx, T.e3, .own _, T.q3_3, _, rfl, ?_⟩
      refine iteT ⟨.ref L, rfl, .inl ⟨rfl, _, .inl (.inl hL)⟩, L, _, _, rfl, rfl, hL, small_lt (by show 0 ≤ 100000; omega), rfl, fun b o e => ?_, upd_same⟩
      rw [upd_ne (ne_of_none e nL)]
      exact s0 _ _ e
    clear s0 hL
    rintro _ G0 ⟨rfl, s0, hL⟩
    refine ⟨fun σ G1 => σ = [some (.ref fn), some (.ref x), some .non, none, some (.ref L)] ∧ Same H1 G1 ∧ G1 L = some (.lst [V.str "box"]), ?_, ?_⟩
    · exact ⟨.ref x, rfl, x, f 3, .ref (f 4), .ref (f 4), false, rfl, s0 _ _ hx, T.e3, .own _, T.q3_4, _, rfl, iteF ⟨rfl, s0, hL⟩⟩
    clear s0 hL
    rintro _ G0 ⟨rfl, s0, hL⟩
    refine ⟨fun σ G1 => σ = [some (.ref fn), some (.ref x), some .non, none, some (.ref L)] ∧ Same H1 G1 ∧ G1 L = some (.lst [V.str "box"]), ?_, ?_⟩
    · exact ⟨.ref x, rfl, x, f 3, .ref (f 5), .ref (f 5), false, rfl, s0 _ _ hx, T.e3, .own _, T.q3_5, _, rfl, iteF ⟨rfl, s0, hL⟩⟩
    clear s0 hL
    rintro _ G0 ⟨rfl, s0, hL⟩
    refine ⟨fun σ G1 => σ = [some (.ref fn), some (.ref x), some .non, none, some (.ref L)] ∧ Same H1 G1 ∧ G1 L = some (.lst [V.str "box"]), ?_, ?_⟩
    · exact ⟨.ref x, rfl, x, f 3, .ref (f 2), .ref (f 2), false, rfl, s0 _ _ hx, T.e3, .own _, T.q3_2, _, rfl, iteF ⟨rfl, s0, hL⟩⟩
    clear s0 hL
    rintro _ G0 ⟨rfl, s0, hL⟩
    refine ⟨fun σ H3 => σ = [some (.ref fn), some (.ref x), some .non, none, some (.ref L)] ∧ Same G0 H3, ?_, ?_⟩
    · refine ⟨.ref x, rfl, small_line (by show 8 ≤ 100000; omega), fun tp ntp => ?_⟩
      have s3 := same_new (o := .tup [V.ref (f 15), V.ref (f 7), V.ref (f 8), V.ref (f 10), V.ref (f 13), V.ref (f 6), V.ref (f 9), V.ref (f 12)]) ntp
      refine ⟨x, f 3, tp, _, _, false, rfl, s3 _ _ (s0 _ _ hx), T.e3, upd_same, (.cons (.own _) (.cons (.own _) (.cons (.own _) (.cons (.own _) (.cons (.own _) (.cons (.own _) (.cons (.own _) (.cons (.own _) .nil)))))))), ?_, _, rfl, iteF ⟨rfl, s3⟩⟩
      simp only [PySem.W.kitAny, T.q3_15, T.q3_7, T.q3_8, T.q3_10, T.q3_13, T.q3_6, T.q3_9, T.q3_12]
    rintro _ H3 ⟨rfl, s3⟩
    refine ⟨fun σ H4 => σ = [some (.ref fn), some (.ref x), some .non, none, some (.ref L)] ∧ Same H3 H4, ?_, ?_⟩
    · refine ⟨.ref x, rfl, small_line (by show 4 ≤ 100000; omega), fun tp ntp => ?_⟩
      have s4 := same_new (o := .tup [V.ref (f 16), V.ref (f 11), V.ref (f 14), V.ref (f 17)]) ntp
      refine ⟨x, f 3, tp, _, _, false, rfl, s4 _ _ (s3 _ _ (s0 _ _ hx)), T.e3, upd_same, (.cons (.own _) (.cons (.own _) (.cons (.own _) (.cons (.own _) .nil)))), ?_, _, rfl, iteF ?_⟩
      · simp only [PySem.W.kitAny, T.q3_16, T.q3_11, T.q3_14, T.q3_17]
      · exact ⟨.ref x, rfl, x, f 3, .ty "ValueError", .type "ValueError", true, rfl, s4 _ _ (s3 _ _ (s0 _ _ hx)), T.e3, .ty _, T.v3, _, rfl, iteF ⟨rfl, s4⟩⟩
    rintro _ H4 ⟨rfl, s4⟩
    have s24 := s3.trans s4
    refine ⟨⟨_, rfl⟩, .ref L, rfl, "", L, ["box"], rfl, rfl, .inl (SqL.of (s24 _ _ hL)), by decide, small_line (by show 2 ≤ 100000; omega), fun t nt => ?_⟩
    exact q _ t ((s0.trans s24).trans (same_new nt)) upd_same
  · refine ⟨fun σ H2 => σ = [some (.ref fn), some (.ref x), some .non, none, none] ∧ H1 = H2, ?_, ?_⟩
    · refine ⟨_, rfl, rfl, _, rfl, ?_⟩
      rw [decide_eq_false (fun z => nomatch z)]
      exact iteF ⟨rfl, rfl⟩
    rintro _ _ ⟨rfl, rfl⟩
    refine ⟨Nat.zero_le _, fun L nL => ?_⟩
    have s0 := same_new (o := .lst []) nL
    have hL : (upd H1 L (.lst [])) L = some (.lst []) := upd_same
    generalize upd H1 L (.lst []) = G0 at s0 hL ⊢
    refine ⟨fun σ G1 => σ = [some (.ref fn), some (.ref x), some .non, none, some (.ref L)] ∧ Same H1 G1 ∧ G1 L = some (.lst []), ?_, ?_⟩
    · exact ⟨.ref x, rfl, x, f 4, .ref (f 3), .ref (f 3), false, rfl, s0 _ _ hx, T.e4, .own _, T.q4_3, _, rfl, iteF ⟨rfl, s0, hL⟩⟩
    clear s0 hL
    rintro _ G0 ⟨rfl, s0, hL⟩
    refine ⟨fun σ G1 => σ = [some (.ref fn), some (.ref x), some .non, none, some (.ref L)] ∧ Same H1 G1 ∧ G1 L = some (.lst [V.str "fit"]), ?_, ?_⟩
    · refine ⟨.ref x, rfl, x, f 4, .ref (f 4), .ref (f 4), true, rfl, s0 _ _ hx, T.e4, .own _, T.q4_4, _, rfl, ?_⟩
      refine iteT ⟨.ref L, rfl, .inl ⟨rfl, _, .inl (.inl hL)⟩, L, _, _, rfl, rfl, hL, small_lt (by show 0 ≤ 100000; omega), rfl, fun b o e => ?_, upd_same⟩
      rw [upd_ne (ne_of_none e nL)]
      exact s0 _ _ e
    clear s0 hL
    rintro _ G0 ⟨rfl, s0, hL⟩
    refine ⟨fun σ G1 => σ = [some (.ref fn), some (.ref x), some .non, none, some (.ref L)] ∧ Same H1 G1 ∧ G1 L = some (.lst [V.str "fit"]), ?_, ?_⟩
    · exact ⟨.ref x, rfl, x, f 4, .ref (f 5), .ref (f 5), false, rfl, s0 _ _ hx, T.e4, .own _, T.q4_5, _, rfl, iteF ⟨rfl, s0, hL⟩⟩
    clear s0 hL
    rintro _ G0 ⟨rfl, s0, hL⟩
    refine ⟨fun σ G1 => σ = [some (.ref fn), some (.ref x), some .non, none, some (.ref L)] ∧ Same H1 G1 ∧ G1 L = some (.lst [V.str "fit"]), ?_, ?_⟩
    · exact ⟨.ref x, rfl, x, f 4, .ref (f 2), .ref (f 2), false, rfl, s0 _ _ hx, T.e4, .own _, T.q4_2, _, rfl, iteF ⟨rfl, s0, hL⟩⟩
    clear s0 hL
    rintro _ G0 ⟨rfl, s0, hL⟩
    refine ⟨fun σ H3 => σ = [some (.ref fn), some (.ref x), some .non, none, some (.ref L)] ∧ Same G0 H3, ?_, ?_⟩
    · refine ⟨.ref x, rfl, small_line (by show 8 ≤ 100000; omega), fun tp ntp => ?_⟩
      have s3 := same_new (o := .tup [V.ref (f 15), V.ref (f 7), V.ref (f 8), V.ref (f 10), V.ref (f 13), V.ref (f 6), V.ref (f 9), V.ref (f 12)]) ntp
      refine ⟨x, f 4, tp, _, _, false, rfl, s3 _ _ (s0 _ _ hx), T.e4, upd_same, (.cons (.own _) (.cons (.own _) (.cons (.own _) (.cons (.own _) (.cons (.own _) (.cons (.own _) (.cons (.own _) (.cons (.own _) .nil)))))))), ?_, _, rfl, iteF ⟨rfl, s3⟩⟩
      simp only [PySem.W.kitAny, T.q4_15, T.q4_7, T.q4_8, T.q4_10, T.q4_13, T.q4_6, T.q4_9, T.q4_12]
    rintro _ H3 ⟨rfl, s3⟩
    refine ⟨fun σ H4 => σ = [some (.ref fn), some (.ref x), some .non, none, some (.ref L)] ∧ Same H3 H4, ?_, ?_⟩
    · refine ⟨.ref x, rfl, small_line (by show 4 ≤ 100000; omega), fun tp ntp => ?_⟩
      have s4 := same_new (o := .tup [V.ref (f 16), V.ref (f 11), V.ref (f 14), V.ref (f 17)]) ntp
      refine ⟨x, f 4, tp, _, _, false, rfl, s4 _ _ (s3 _ _ (s0 _ _ hx)), T.e4, upd_same, (.cons (.own _) (.cons (.own _) (.cons (.own _) (.cons (.own _) .nil)))), ?_, _, rfl, iteF ?_⟩
      · simp only [PySem.W.kitAny, T.q4_16, T.q4_11, T.q4_14, T.q4_17]
      · exact ⟨.ref x, rfl, x, f 4, .ty "ValueError", .type "ValueError", true, rfl, s4 _ _ (s3 _ _ (s0 _ _ hx)), T.e4, .ty _, T.v4, _, rfl, iteF ⟨rfl, s4⟩⟩
    rintro _ H4 ⟨rfl, s4⟩
    have s24 := s3.trans s4
    refine ⟨⟨_, rfl⟩, .ref L, rfl, "", L, ["fit"], rfl, rfl, .inl (SqL.of (s24 _ _ hL)), by decide, small_line (by show 2 ≤ 100000; omega), fun t nt => ?_⟩
    exact q _ t ((s0.trans s24).trans (same_new nt)) upd_same
  · refine ⟨fun σ H2 => σ = [some (.ref fn), some (.ref x), some .non, none, none] ∧ H1 = H2, ?_, ?_⟩
    · refine ⟨_, rfl, rfl, _, rfl, ?_⟩
      rw [decide_eq_false (fun z => nomatch z)]
      exact iteF ⟨rfl, rfl⟩
    rintro _ _ ⟨rfl, rfl⟩
    refine ⟨Nat.zero_le _, fun L nL => ?_⟩
    have s0 := same_new (o := .lst []) nL
    have hL : (upd H1 L (.lst [])) L = some (.lst []) := upd_same
    generalize upd H1 L (.lst []) = G0 at s0 hL ⊢
    refine ⟨fun σ G1 => σ = [some (.ref fn), some (.ref x), some .non, none, some (.ref L)] ∧ Same H1 G1 ∧ G1 L = some (.lst []), ?_, ?_⟩
    · exact ⟨.ref x, rfl, x, f 5, .ref (f 3), .ref (f 3), false, rfl, s0 _ _ hx, T.e5, .own _, T.q5_3, _, rfl, iteF ⟨rfl, s0, hL⟩⟩
    clear s0 hL
    rintro _ G0 ⟨rfl, s0, hL⟩
    refine ⟨fun σ G1 => σ = [some (.ref fn), some (.ref x), some .non, none, some (.ref L)] ∧ Same H1 G1 ∧ G1 L = some (.lst []), ?_, ?_⟩
    · exact ⟨.ref x, rfl, x, f 5, .ref (f 4), .ref (f 4), false, rfl, s0 _ _ hx, T.e5, .own _, T.q5_4, _, rfl, iteF ⟨rfl, s0, hL⟩⟩
    clear s0 hL
    rintro _ G0 ⟨rfl, s0, hL⟩
    refine ⟨fun σ G1 => σ = [some (.ref fn), some (.ref x), some .non, none, some (.ref L)] ∧ Same H1 G1 ∧ G1 L = some (.lst [V.str "number"]), ?_, ?_⟩
    · refine ⟨.ref x, rfl, x, f 5, .ref (f 5), .ref (f 5), true, rfl, s0 _ _ hx, T.e5, .own _, T.q5_5, _, rfl, ?_⟩
      refine iteT ⟨.ref L, rfl, .inl ⟨rfl, _, .inl (.inl hL)⟩, L, _, _, rfl, rfl, hL, small_lt (by show 0 ≤ 100000; omega), rfl, fun b o e => ?_, upd_same⟩
      rw [upd_ne (ne_of_none e nL)]
      exact s0 _ _ e
    clear s0 hL
    rintro _ G0 ⟨rfl, s0, hL⟩
    refine ⟨fun σ G1 => σ = [some (.ref fn), some (.ref x), some .non, none, some (.ref L)] ∧ Same H1 G1 ∧ G1 L = some (.lst [V.str "number"]), ?_, ?_⟩
    · exact ⟨.ref x, rfl, x, f 5, .ref (f 2), .ref (f 2), false, rfl, s0 _ _ hx, T.e5, .own _, T.q5_2, _, rfl, iteF ⟨rfl, s0, hL⟩⟩
    clear s0 hL
    rintro _ G0 ⟨rfl, s0, hL⟩
    refine ⟨fun σ H3 => σ = [some (.ref fn), some (.ref x), some .non, none, some (.ref L)] ∧ Same G0 H3, ?_, ?_⟩
    · refine ⟨.ref x, rfl, small_line (by show 8 ≤ 100000; omega), fun tp ntp => ?_⟩
      have s3 := same_new (o := .tup [V.ref (f 15), V.ref (f 7), V.ref (f 8), V.ref (f 10), V.ref (f 13), V.ref (f 6), V.ref (f 9), V.ref (f 12)]) ntp
      refine ⟨x, f 5, tp, _, _, false, rfl, s3 _ _ (s0 _ _ hx), T.e5, upd_same, (.cons (.own _) (.cons (.own _) (.cons (.own _) (.cons (.own _) (.cons (.own _) (.cons (.own _) (.cons (.own _) (.cons (.own _) .nil)))))))), ?_, _, rfl, iteF ⟨rfl, s3⟩⟩
      simp only [PySem.W.kitAny, T.q5_15, T.q5_7, T.q5_8, T.q5_10, T.q5_13, T.q5_6, T.q5_9, T.q5_12]
    rintro _ H3 ⟨rfl, s3⟩
    refine ⟨fun σ H4 => σ = [some (.ref fn), some (.ref x), some .non, none, some (.ref L)] ∧ Same H3 H4, ?_, ?_⟩
    · refine ⟨.ref x, rfl, small_line (by show 4 ≤ 100000; omega), fun tp ntp => ?_⟩
      have s4 := same_new (o := .tup [V.ref (f 16), V.ref (f 11), V.ref (f 14), V.ref (f 17)]) ntp
      refine ⟨x, f 5, tp, _, _, false, rfl, s4 _ _ (s3 _ _ (s0 _ _ hx)), T.e5, upd_same, (.cons (.own _) (.cons (.own _) (.cons (.own _) (.cons (.own _) .nil)))), ?_, _, rfl, iteF ?_⟩
      · simp only [PySem.W.kitAny, T.q5_16, T.q5_11, T.q5_14, T.q5_17]
      · exact ⟨.ref x, rfl, x, f 5, .ty "ValueError", .type "ValueError", true, rfl, s4 _ _ (s3 _ _ (s0 _ _ hx)), T.e5, .ty _, T.v5, _, rfl, iteF ⟨rfl, s4⟩⟩
    rintro _ H4 ⟨rfl, s4⟩
    have s24 := s3.trans s4
    refine ⟨⟨_, rfl⟩, .ref L, rfl, "", L, ["number"], rfl, rfl, .inl (SqL.of (s24 _ _ hL)), by decide, small_line (by show 2 ≤ 100000; omega), fun t nt => ?_⟩
    exact q _ t ((s0.trans s24).trans (same_new nt)) upd_same
/-! ### law -/
abbrev lamQlaw : Str := (envOfC "law" (defScope stlaw) 0 0 .none).qual ++ "<lambda>"
abbrev TT (tp : Addr) : List (Addr × Str) := [(tp, lamQlaw)]
/-- the shares that are asked -/
def PS (xs : List Int) : Prop := ∀ h w : Nat, h ≤ 6 → w ≤ 6 → fitB (h : Int) (w : Int) xs = true → Fits h (w : Int) xs
theorem ps_nil : PS [] := fun _ _ _ _ _ => fits_nil
theorem ps_one : PS [1] := fun h w _ _ e => by
  unfold fitB at e
  rw [Bool.and_eq_true, decide_eq_true_eq] at e
  obtain ⟨e1, e2⟩ := e
  have e1 : (1 : Int) ≤ (h : Int) := e1
  have e2 : (1 : Int) ≤ (w : Int) := of_decide_eq_true e2
  obtain ⟨k, rfl⟩ : ∃ k, h = k + 1 := ⟨h - 1, by omega⟩
  exact ⟨by decide, e2, fits_nil⟩
theorem ps_two : PS [2, 1] := fun h w _ _ e => by
  unfold fitB at e
  rw [Bool.and_eq_true, decide_eq_true_eq] at e
  obtain ⟨e1, e2⟩ := e
  have e1 : (2 : Int) ≤ (h : Int) := e1
  have e2 : (2 : Int) ≤ (w : Int) := of_decide_eq_true e2
  obtain ⟨k, rfl⟩ : ∃ k, h = k + 2 := ⟨h - 2, by omega⟩
  exact ⟨by decide, e2, by decide, by decide, fits_nil⟩
theorem ps_far : PS (List.replicate ((20 : Int)).toNat (20 : Int)) := fun h w h6 _ e => by
  unfold fitB at e
  rw [Bool.and_eq_true, decide_eq_true_eq] at e
  have e1 : (20 : Int) ≤ (h : Int) := e.1
  omega
abbrev dW (x : Str) : PyData := .tuple [.str "refused", .str x]
theorem dpW {H : Hp} {t : Addr} {x : Str} (h : H t = some (.tup [.str "refused", .str x])) : Dp K H (.ref t) (dW x) := .tup (SqT.of h) (.cons (.str _) (.cons (.str _) .nil))
def sp_law (K : PySem.W.Frag) (tp : Addr) : Sp := fun vs H Q _ => ∃ (a : Addr) (ns : List Int), vs = [.ref a] ∧ SqL K H a (ns.map V.int) ∧ ns.length ≤ 63 ∧ H tp = some (.tbl #[]) ∧ ∀ H', Q (.bl true) H'
theorem oklaw {fa : Addr} {fda : FuncData} {tp : Addr} (T : Txt K mg f fd) (B : Tb base mg fda tp) (F : Fun K "law" "law" stlaw fa fda) : FnG P w K mg base 13 fa fda ["_law_script"] (sp_law K tp) := by
  refine okGT F sclaw (fun vs H Q E h => ?_) (fun cdv A outer s H vs Q E hcd hA hr h => ?_)
  · obtain ⟨a, ns, rfl, _⟩ := h
    rfl
  · obtain ⟨a, ns, rfl, hS, hn, hT, q⟩ := h
    obtain ⟨lc, hlc, tb⟩ := B.ex
    rw [hcd] at hlc
    subst hlc
    refine ⟨_, (pss_cons (ps_for PassesOwn.never rfl (pi_range1 (by rfl) T.m_range (pa_cons (pe_callB (call_max2 rfl) (by rfl) T.m_max bt_max (pa_cons pe_int (pa_cons (pe_callB (call_min2 rfl) (by rfl) T.m_min bt_min (pa_cons (pe_callB (r := rLenS K) len_seq (by rfl) T.m_len bt_len (pa_cons (pv 0) pa_nil)) (pa_cons pe_int pa_nil))) pa_nil))) pa_nil)) (pg_name (i := 1) sclaw.nd rfl (Or.inl rfl)) (Evl.pss_cut (ps_set (i := 2) sclaw.nd rfl (Or.inl rfl) (pe_call (ok_law_pen T) (hr.mono (by decide)) (by rfl) T.g47 T.F47.kp T.b47 .nil pass0 (pa_cons (pv 0) (pa_cons (pv 1) pa_nil))))
      (Evl.pss_cut (ps_set (i := 3) sclaw.nd rfl (Or.inr rfl) (pe_call (ok_law_no_box T) (hr.mono (by decide)) (by rfl) T.g49 T.F49.kp T.b49 .nil pass0 (pa_cons (pv 2) pa_nil)))
      (Evl.pss_cut (ps_set (i := 4) sclaw.nd rfl (Or.inr rfl) (pe_call (ok_law_draw T) (hr.mono (by decide)) (by rfl) T.g48 T.F48.kp T.b48 .nil pass0 (pa_cons (pv 2) (pa_cons pe_int pa_nil))))
      (Evl.pss_cut (ps_set (i := 5) sclaw.nd rfl (Or.inr rfl) (pe_ix (r := rIxL K) ix_list (pe_lst (pa_cons pe_int (pa_cons (pe_un un_neg pe_int) (pa_cons pe_int (pa_cons pe_non (pa_cons pe_bl pa_nil)))))) (pe_call (ok_law_draw T) (hr.mono (by decide)) (by rfl) T.g48 T.F48.kp T.b48 .nil pass0 (pa_cons (pv 2) (pa_cons pe_int pa_nil))) (fun _ _ => rfl)))
      (Evl.pss_cut (ps_set (i := 6) sclaw.nd rfl (Or.inr rfl) (pe_ix (r := rIxL K) ix_list (pe_lst (pa_cons (pe_tup pa_nil) (pa_cons (pe_tup (pa_cons pe_int pa_nil)) (pa_cons (pe_op (r := rRepA K) op_repA (pe_tup (pa_cons pe_int pa_nil)) pe_int) (pa_cons (pe_tup (pa_cons pe_int (pa_cons pe_int pa_nil))) pa_nil))))) (pe_call (ok_law_draw T) (hr.mono (by decide)) (by rfl) T.g48 T.F48.kp T.b48 .nil pass0 (pa_cons (pv 2) (pa_cons pe_int pa_nil))) (fun _ _ => rfl)))
      (Evl.pss_cut (ps_for PassesOwn.never rfl (pi_range1 (by rfl) T.m_range (pa_cons pe_int pa_nil)) (pg_name (i := 7) sclaw.nd rfl (Or.inr rfl)) (Evl.pss_cut (ps_for PassesOwn.never rfl (pi_tup (pe_tup (pa_cons (pe_tup (pa_cons pe_int (pa_cons pe_int pa_nil))) (pa_cons (pe_tup (pa_cons pe_int (pa_cons pe_int pa_nil))) (pa_cons (pe_tup (pa_cons pe_int (pa_cons pe_int pa_nil))) pa_nil))))) (pg_name (i := 8) sclaw.nd rfl (Or.inr rfl)) (pss_one (ps_expr (pe_lamW (k := 10) (nm := "_law_asked_here") (T := [(tp, lamQlaw)]) T.F50 (by rfl) T.g50 T.b50 sc_law_word rfl (Or.inl rfl) (fun cdg => mk_law_word T cdg) tb rfl (List.mem_singleton.mpr rfl) (fun z m _ => by cases List.mem_singleton.mp m; rfl) (hr.mono (by decide)) (LamX.lamS_by (sc := defScope stlaw) (by decide +kernel)) rfl (fun _ _ _ _ _ => rfl) (fun E A fr s H fn cc hr => (pe_callS (ok_law_asked T) (hr.mono (by decide)) (by rfl) T.g51 T.F51.kp T.b51 (fun σ => passAt (takes_of rfl rfl rfl rfl) σ) (pa_cons (pv 7) (pa_cons (pv 8) (pa_cons (pv 4) (pa_cons (pv 5) (pa_cons (pv 6) pa_nil)))))))))))
      (pss_one (ps_if (pt_cmpR (op_neD hr.units) (pe_lamW (k := 10) (nm := "_law_asked_here") (T := [(tp, lamQlaw)]) T.F50 (by rfl) T.g50 T.b50 sc_law_word rfl (Or.inl rfl) (fun cdg => mk_law_word T cdg) tb rfl (List.mem_singleton.mpr rfl) (fun z m _ => by cases List.mem_singleton.mp m; rfl) (hr.mono (by decide)) (LamX.lamS_by (sc := defScope stlaw) (by decide +kernel)) rfl (fun _ _ _ _ _ => rfl) (fun E A fr s H fn cc hr => (pe_callS (ok_law_asked T) (hr.mono (by decide)) (by rfl) T.g51 T.F51.kp T.b51 (fun σ => passAt (takes_of rfl rfl rfl rfl) σ) (pa_cons (pv 7) (pa_cons (pv 3) (pa_cons (pv 4) (pa_cons (pv 5) (pa_cons (pv 6) pa_nil)))))))) (pe_tup (pa_cons pe_str (pa_cons pe_str pa_nil))) (nomark _)) (pss_one (ps_ret pe_bl)) pss_nil))))
      (Evl.pss_cut (ps_set (i := 9) sclaw.nd rfl (Or.inr rfl) (pe_tup (pa_cons (pe_call (ok_law_draw T) (hr.mono (by decide)) (by rfl) T.g48 T.F48.kp T.b48 .nil pass0 (pa_cons (pv 2) (pa_cons pe_int pa_nil))) (pa_cons (pe_call (ok_law_draw T) (hr.mono (by decide)) (by rfl) T.g48 T.F48.kp T.b48 .nil pass0 (pa_cons (pv 2) (pa_cons pe_int pa_nil))) pa_nil))))
      (Evl.pss_cut (ps_for PassesOwn.never rfl (pi_tup (pe_tup (pa_cons (pe_op (r := rRepA K) op_repA (pe_tup (pa_cons pe_int pa_nil)) (pe_op op_add (pe_ix (r := rIxT K) ix_tup (pv 9) pe_int (fun _ _ => rfl)) pe_int)) (pa_cons (pe_tup (pa_cons (pe_op op_add (pe_ix (r := rIxT K) ix_tup (pv 9) pe_int (fun _ _ => rfl)) pe_int) pa_nil)) (pa_cons (pe_op (r := rRepA K) op_repA (pe_tup (pa_cons (pe_op op_add (pe_ix (r := rIxT K) ix_tup (pv 9) pe_int (fun _ _ => rfl)) pe_int) pa_nil)) (pe_op op_add (pe_ix (r := rIxT K) ix_tup (pv 9) pe_int (fun _ _ => rfl)) pe_int)) pa_nil))))) (pg_name (i := 10) sclaw.nd rfl (Or.inr rfl)) (pss_one (ps_if (pt_cmpR (op_neD hr.units) (pe_lamW (k := 10) (nm := "_law_asked_here") (T := [(tp, lamQlaw)]) T.F50 (by rfl) T.g50 T.b50 sc_law_word rfl (Or.inl rfl) (fun cdg => mk_law_word T cdg) tb rfl (List.mem_singleton.mpr rfl) (fun z m _ => by cases List.mem_singleton.mp m; rfl) (hr.mono (by decide)) (LamX.lamS_by (sc := defScope stlaw) (by decide +kernel)) rfl (fun _ _ _ _ _ => rfl) (fun E A fr s H fn cc hr => (pe_callS (ok_place_of T) (hr.mono (by decide)) (by rfl) T.g45 T.F45.kp T.b45 (fun σ => passAt (takes_of rfl rfl rfl rfl) σ) (pa_cons (pv 9) (pa_cons (pv 10) pa_nil))))) (pe_tup (pa_cons pe_str (pa_cons pe_str pa_nil))) (nomark _)) (pss_one (ps_ret pe_bl)) pss_nil)))
      (pss_one (ps_if (PW.pt (pw_or (pt_cmpR op_ne (pe_call (ok_place_of T) (hr.mono (by decide)) (by rfl) T.g45 T.F45.kp T.b45 .nil passL (pa_cons (pv 9) (pa_cons (pe_tup pa_nil) pa_nil))) pe_int (nomark _)) (pw_or (pt_cmpR (op_neD hr.units) (pe_call (ok_share_at T) (hr.mono (by decide)) (by rfl) T.g43 T.F43.kp T.b43 .nil passL (pa_cons (pv 9) (pa_cons pe_int (pa_cons pe_int pa_nil)))) (pe_tup pa_nil) (nomark _)) (pw_or1 (pt_cmpR (op_neD hr.units) (pe_call (ok_shares_of T) (hr.mono (by decide)) (by rfl) T.g38 T.F38.kp T.b38 .nil passL (pa_cons (pv 9) (pa_cons pe_int pa_nil))) (pe_lst (pa_cons (pe_tup pa_nil) pa_nil)) (nomark _)))))) (pss_one (ps_ret pe_bl)) pss_nil)))))))))))
      (pss_one (ps_ret pe_bl))), ?_⟩
    refine ⟨.ref a, rfl, a, _, rfl, .inl hS, _, _, rfl, _, _, rfl, _, rfl, ?_, ?_, ?_⟩
    · split <;> omega
    · rw [List.length_map]
      split <;> (try split) <;> omega
    have T0 : LamX.Tabs (TT tp) H := fun z m => by
      rw [List.mem_singleton.mp m]
      exact LamX.TabS.nil hT
    refine for_range (fun i σ H1 => ∃ o1 o2 o3 o4 o5 o6 o7 o8 o9 o10, σ = [some (.ref a), o1, o2, o3, o4, o5, o6, o7, o8, o9, o10] ∧ KeepN H H1 ∧ LamX.Tabs (TT tp) H1) ⟨_, _, _, _, _, _, _, _, _, _, rfl, kpn (Same.refl _), T0⟩ ?_ ?_
    · rintro i _ H1 hi ⟨o1, o2, o3, o4, o5, o6, o7, o8, o9, o10, rfl, k1, T1⟩
      have hi' : i < 12 := by
        rw [List.length_map] at hi
        revert hi
        split <;> (try split) <;> omega
      -- pen
      refine ⟨fun σ H2 => ∃ p, σ = [some (.ref a), some (.int (0 + (i : Int))), some (.ref p), o3, o4, o5, o6, o7, o8, o9, o10] ∧ KeepN H H2 ∧ LamX.Tabs (TT tp) H2 ∧ PenA H2 p ∧ H1 p = none ∧ Same H1 H2, ?_, ?_⟩
      · exact ⟨.ref a, rfl, _, rfl, a, ns, _, rfl, sqL_keep hS k1, by omega, by omega, fun H2 p s2 P2 np => ⟨p, rfl, k1.trans (kpn s2), T1.ext s2, P2, np, s2⟩⟩
      rintro _ H2 ⟨p, rfl, k2, T2, P2, np, s12⟩
      have hne : ∀ b o, H b = some o → (∀ ps, o ≠ .tbl ps) → b ≠ p := fun b o e n z => by
        have := k1 b o e n
        rw [z, np] at this
        cases this
      have kkp : ∀ {H7 H8 : Hp}, KeepN H H7 → Kp p H7 H8 → KeepN H H8 := fun k7 kp b o e n => kp b o (hne b o e n) (k7 b o e n)
      -- odd
      refine ⟨fun σ H3 => ∃ v, σ = [some (.ref a), some (.int (0 + (i : Int))), some (.ref p), some v, o4, o5, o6, o7, o8, o9, o10] ∧ Kp p H2 H3 ∧ PenA H3 p ∧ NbP p H3 v, ?_, ?_⟩
      · exact ⟨.ref p, rfl, p, rfl, P2, fun H3 v k3 P3 hv => ⟨v, rfl, k3, P3, hv⟩⟩
      rintro _ H3 ⟨v, rfl, k3, P3, hv⟩
      -- n
      refine ⟨fun σ H4 => ∃ n : Int, σ = [some (.ref a), some (.int (0 + (i : Int))), some (.ref p), some v, some (.int n), o5, o6, o7, o8, o9, o10] ∧ Kp p H3 H4 ∧ PenA H4 p ∧ 0 ≤ n, ?_, ?_⟩
      · exact ⟨.ref p, rfl, p, 5, rfl, P3, by decide, by decide, fun H4 d k4 P4 d0 d1 => ⟨d, rfl, k4, P4, d0⟩⟩
      rintro _ H4 ⟨n, rfl, k4, P4, n0⟩
      -- number
      refine ⟨fun σ H5 => ∃ u : V, σ = [some (.ref a), some (.int (0 + (i : Int))), some (.ref p), some v, some (.int n), some u, o6, o7, o8, o9, o10] ∧ Kp p H4 H5 ∧ PenA H5 p ∧ ∀ H', (∃ i : Int, u = .int i) ∨ Odd H' u, ?_, ?_⟩
      · refine ⟨_, rfl, small_line (by show 5 ≤ 100000; omega), fun Z nZ => ?_⟩
        have all : ∀ v ∈ [V.int 0, V.int (-1), V.int 99, V.non, V.bl true], ∀ H', (∃ i : Int, v = .int i) ∨ Odd H' v := by
          intro v m H'
          simp only [List.mem_cons, List.not_mem_nil, or_false] at m
          rcases m with rfl | rfl | rfl | rfl | rfl
          · exact .inl ⟨_, rfl⟩
          · exact .inl ⟨_, rfl⟩
          · exact .inl ⟨_, rfl⟩
          · exact .inr .non
          · exact .inr (.bl _)
        have hlen : [V.int 0, V.int (-1), V.int 99, V.non, V.bl true].length = 5 := rfl
        have u1 := same_new (o := .lst [V.int 0, V.int (-1), V.int 99, V.non, V.bl true]) nZ
        have x1 := At.new (o := .lst [V.int 0, V.int (-1), V.int 99, V.non, V.bl true]) P4 nZ
        generalize [V.int 0, V.int (-1), V.int 99, V.non, V.bl true] = zs at all hlen u1 x1 ⊢
        refine ⟨.ref p, rfl, p, 5, rfl, P4.same u1, by decide, by decide, fun H6 d k6 P6 d0 d1 => ?_⟩
        have hd : d.toNat < zs.length := by omega
        exact ⟨Z, _, _, zs[d.toNat], rfl, rfl, SqL.of (x1.kp k6).1, at_get d0 (List.getElem?_eq_getElem hd), zs[d.toNat], rfl, (Kp.of u1).trans k6, P6, all _ (List.getElem_mem hd)⟩
      rintro _ H5 ⟨u, rfl, k5, P5, hu⟩
      -- share
      refine ⟨fun σ H6 => ∃ (c : Addr) (xs : List Int), σ = [some (.ref a), some (.int (0 + (i : Int))), some (.ref p), some v, some (.int n), some u, some (.ref c), o7, o8, o9, o10] ∧ Kp p H5 H6 ∧ PenA H6 p ∧ H6 c = some (.tup (xs.map V.int)) ∧ PS xs, ?_, ?_⟩
      · have tt0 : Same H5 H5 := Same.refl _
        refine ⟨small_line (by show 0 ≤ 100000; omega), fun c1 n1 => ?_⟩
        have u1 := same_new (o := .tup []) n1
        have x1 : At p (upd H5 c1 (.tup [])) c1 (.tup (([] : List Int).map V.int)) := At.new (o := .tup []) P5 n1
        have Q1 := P5.same u1
        have tt0 := tt0.trans u1
        generalize upd H5 c1 (.tup []) = G1 at u1 Q1 tt0 x1 ⊢
        refine ⟨small_line (by show 1 ≤ 100000; omega), fun c2 n2 => ?_⟩
        have u2 := same_new (o := .tup [V.int 1]) n2
        have x2 : At p (upd G1 c2 (.tup [V.int 1])) c2 (.tup (([1] : List Int).map V.int)) := At.new (o := .tup [V.int 1]) Q1 n2
        have Q2 := Q1.same u2
        have tt0 := tt0.trans u2
        have x1 := x1.same u2
        generalize upd G1 c2 (.tup [V.int 1]) = G2 at u2 Q2 tt0 x1 x2 ⊢
        refine ⟨small_line (by show 1 ≤ 100000; omega), fun c3 n3 => ?_⟩
        have u3 := same_new (o := .tup [V.int 20]) n3
        have x3 : (upd G2 c3 (.tup [V.int 20])) c3 = some (.tup [V.int 20]) := upd_same
        have Q3 := Q2.same u3
        have tt0 := tt0.trans u3
        have x1 := x1.same u3
        have x2 := x2.same u3
        generalize upd G2 c3 (.tup [V.int 20]) = G3 at u3 Q3 tt0 x1 x2 x3 ⊢
        refine ⟨c3, _, [V.int 20], rfl, rfl, x3, by simp, by omega, by omega, by show 1 ≤ 1000; omega, fun G4 c4 u4 e4 => ?_⟩
        have e4' : (List.replicate ((20 : Int)).toNat [V.int 20]).flatten = (List.replicate ((20 : Int)).toNat (20 : Int)).map V.int := by
          rw [List.flatten_replicate_singleton, List.map_replicate]
        rw [e4'] at e4
        have Q4 := Q3.same u4
        have tt0 := tt0.trans u4
        have x1 := x1.same u4
        have x2 := x2.same u4
        have x4 : At p G4 c4 (.tup ((List.replicate ((20 : Int)).toNat (20 : Int)).map V.int)) := ⟨e4, Q4.apart e4⟩
        refine ⟨small_line (by show 2 ≤ 100000; omega), fun c5 n5 => ?_⟩
        have u5 := same_new (o := .tup [V.int 2, V.int 1]) n5
        have x5 : At p (upd G4 c5 (.tup [V.int 2, V.int 1])) c5 (.tup (([2, 1] : List Int).map V.int)) := At.new (o := .tup [V.int 2, V.int 1]) Q4 n5
        have Q5 := Q4.same u5
        have tt0 := tt0.trans u5
        have x1 := x1.same u5
        have x2 := x2.same u5
        have x4 := x4.same u5
        generalize upd G4 c5 (.tup [V.int 2, V.int 1]) = G5 at u5 Q5 tt0 x1 x2 x4 x5 ⊢
        refine ⟨small_line (by show 4 ≤ 100000; omega), fun Z nZ => ?_⟩
        have all : ∀ w ∈ [V.ref c1, V.ref c2, V.ref c4, V.ref c5], ∃ (c : Addr) (xs : List Int), w = .ref c ∧ At p G5 c (.tup (xs.map V.int)) ∧ PS xs := by
          intro w m
          simp only [List.mem_cons, List.not_mem_nil, or_false] at m
          rcases m with rfl | rfl | rfl | rfl
          · exact ⟨c1, _, rfl, x1, ps_nil⟩
          · exact ⟨c2, _, rfl, x2, ps_one⟩
          · exact ⟨c4, _, rfl, x4, ps_far⟩
          · exact ⟨c5, _, rfl, x5, ps_two⟩
        have hlen : [V.ref c1, V.ref c2, V.ref c4, V.ref c5].length = 4 := rfl
        have u6 := same_new (o := .lst [V.ref c1, V.ref c2, V.ref c4, V.ref c5]) nZ
        have x6 := At.new (o := .lst [V.ref c1, V.ref c2, V.ref c4, V.ref c5]) Q5 nZ
        generalize [V.ref c1, V.ref c2, V.ref c4, V.ref c5] = zs at all hlen u6 x6 ⊢
        refine ⟨.ref p, rfl, p, 4, rfl, Q5.same u6, by decide, by decide, fun H6 d k6 P6 d0 d1 => ?_⟩
        have hd : d.toNat < zs.length := by omega
        obtain ⟨c, xs, ec, xc, hp⟩ := all _ (List.getElem_mem hd)
        refine ⟨Z, _, _, zs[d.toNat], rfl, rfl, SqL.of (x6.kp k6).1, at_get d0 (List.getElem?_eq_getElem hd), c, xs, ?_, (Kp.of tt0).trans ((Kp.of u6).trans k6), P6, ((xc.same u6).kp k6).1, hp⟩
        rw [ec]
        rfl
      rintro _ H6 ⟨c, xs, rfl, k6, P6, hc, hps⟩
      have k26 := ((k3.trans k4).trans k5).trans k6
      have hv6 : NoBx H6 v := hv _ ((k4.trans k5).trans k6)
      have T6 := tabs_kp T2 P2 k26
      have kk6 := kkp k2 k26
      -- ways
      refine ⟨fun σ H7 => ∃ o7 o8, σ = [some (.ref a), some (.int (0 + (i : Int))), some (.ref p), some v, some (.int n), some u, some (.ref c), o7, o8, o9, o10] ∧ KeepN H6 H7 ∧ LamX.Tabs (TT tp) H7, ?_, ?_⟩
      · refine ⟨7, rfl, by decide, by decide, ?_⟩
        refine for_range (fun j σ H7 => ∃ o7 o8, σ = [some (.ref a), some (.int (0 + (i : Int))), some (.ref p), some v, some (.int n), some u, some (.ref c), o7, o8, o9, o10] ∧ KeepN H6 H7 ∧ LamX.Tabs (TT tp) H7) ⟨o7, o8, rfl, kpn (Same.refl _), T6⟩ ?_ ?_
        · rintro j _ H7 hj ⟨o7, o8, rfl, k7, T7⟩
          refine ⟨fun σ H8 => ∃ o8, σ = [some (.ref a), some (.int (0 + (i : Int))), some (.ref p), some v, some (.int n), some u, some (.ref c), some (.int (0 + (j : Int))), o8, o9, o10] ∧ KeepN H6 H8 ∧ LamX.Tabs (TT tp) H8, ?_, ?_⟩
          · refine ⟨small_line (by show 2 ≤ 100000; omega), fun c1 n1 => ?_⟩
            have u1 := same_new (o := .tup [V.int 1, V.int 4]) n1
            have x1 : (upd H7 c1 (.tup [V.int 1, V.int 4])) c1 = some (.tup [V.int 1, V.int 4]) := upd_same
            generalize upd H7 c1 (.tup [V.int 1, V.int 4]) = G1 at u1 x1 ⊢
            refine ⟨small_line (by show 2 ≤ 100000; omega), fun c2 n2 => ?_⟩
            have u2 := same_new (o := .tup [V.int 4, V.int 0]) n2
            have x2 : (upd G1 c2 (.tup [V.int 4, V.int 0])) c2 = some (.tup [V.int 4, V.int 0]) := upd_same
            have x1 := u2 _ _ x1
            generalize upd G1 c2 (.tup [V.int 4, V.int 0]) = G2 at u2 x1 x2 ⊢
            refine ⟨small_line (by show 2 ≤ 100000; omega), fun c3 n3 => ?_⟩
            have u3 := same_new (o := .tup [V.int 4, V.int 4]) n3
            have x3 : (upd G2 c3 (.tup [V.int 4, V.int 4])) c3 = some (.tup [V.int 4, V.int 4]) := upd_same
            have x1 := u3 _ _ x1
            have x2 := u3 _ _ x2
            generalize upd G2 c3 (.tup [V.int 4, V.int 4]) = G3 at u3 x1 x2 x3 ⊢
            refine ⟨small_line (by show 3 ≤ 100000; omega), fun tt ntt => ?_⟩
            have u4 := same_new (o := .tup [V.ref c1, V.ref c2, V.ref c3]) ntt
            have x4 : (upd G3 tt (.tup [V.ref c1, V.ref c2, V.ref c3])) tt = some (.tup [V.ref c1, V.ref c2, V.ref c3]) := upd_same
            have x1 := u4 _ _ x1
            have x2 := u4 _ _ x2
            have x3 := u4 _ _ x3
            generalize upd G3 tt (.tup [V.ref c1, V.ref c2, V.ref c3]) = G4 at u4 x1 x2 x3 x4 ⊢
            have u04 := ((u1.trans u2).trans u3).trans u4
            have all : ∀ b ∈ [V.ref c1, V.ref c2, V.ref c3], ∃ h w : Nat, ∀ H', KeepN G4 H' → BxN H' b h w := by
              intro b m
              simp only [List.mem_cons, List.not_mem_nil, or_false] at m
              rcases m with rfl | rfl | rfl
              · exact ⟨1, 4, fun H' k => ⟨c1, rfl, k _ _ x1 (fun _ z => nomatch z), by decide, by decide⟩⟩
              · exact ⟨4, 0, fun H' k => ⟨c2, rfl, k _ _ x2 (fun _ z => nomatch z), by decide, by decide⟩⟩
              · exact ⟨4, 4, fun H' k => ⟨c3, rfl, k _ _ x3 (fun _ z => nomatch z), by decide, by decide⟩⟩
            have k4 : KeepN H6 G4 := k7.trans (kpn u04)
            refine ⟨tt, rfl, ⟨_, SqT.of x4⟩, ?_⟩
            refine for_it (walk_tup (xs := [V.ref c1, V.ref c2, V.ref c3])) (fun m σ H8 => ∃ o8, σ = [some (.ref a), some (.int (0 + (i : Int))), some (.ref p), some v, some (.int n), some u, some (.ref c), some (.int (0 + (j : Int))), o8, o9, o10] ∧ KeepN G4 H8 ∧ LamX.Tabs (TT tp) H8) ⟨o8, rfl, kpn (Same.refl _), T7.ext u04⟩ (fun m σ H8 _ g => by obtain ⟨_, _, g, _⟩ := g; exact SqT.of (g _ _ x4 (fun _ z => nomatch z))) ?_ ?_
            · rintro m b _ H8 H8 hm ⟨o8, rfl, k8, T8⟩ ⟨rfl, hb⟩
              obtain ⟨h, w, hbx⟩ := all b (List.mem_of_getElem? hb)
              refine ⟨T8, fun H9 x9 T9 => ?_⟩
              have k9 : KeepN G4 H9 := k8.trans x9
              refine ⟨_, rfl, b, rfl, _, rfl, u, rfl, .ref c, rfl, j, b, n, u, c, xs, ?_, n0, hu H9, (k4.trans k9) _ _ hc (fun _ z => nomatch z), .inl ⟨h, w, hbx _ k9, hps h w (hbx _ k9).choose_spec.2.2.1 (hbx _ k9).choose_spec.2.2.2, ?_, ?_, ?_⟩⟩
              · rw [Int.zero_add]
              · exact fun z H10 s10 H11 t s11 _ => ⟨_, rfl, k9.trans (kpn (s10.trans s11)), T9.ext (s10.trans s11)⟩
              · exact fun H10 s10 => ⟨rfl, .inr (.inl ⟨rfl, fun H11 t s11 _ => ⟨_, rfl, k9.trans (kpn (s10.trans s11)), T9.ext (s10.trans s11)⟩⟩)⟩
              · exact fun H10 s10 => ⟨rfl, .inr (.inr ⟨rfl, fun H11 t s11 _ => ⟨_, rfl, k9.trans (kpn (s10.trans s11)), T9.ext (s10.trans s11)⟩⟩)⟩
            · rintro _ H8 ⟨o8, rfl, k8, T8⟩
              exact ⟨_, rfl, k4.trans k8, T8⟩
          rintro _ H8 ⟨o8, rfl, k8, T8⟩
          refine ⟨T8, fun H9 x9 T9 => ?_⟩
          refine ⟨_, rfl, v, rfl, _, rfl, u, rfl, .ref c, rfl, j, v, n, u, c, xs, by rw [Int.zero_add], n0, hu H9, (k8.trans x9) _ _ hc (fun _ z => nomatch z), .inr ⟨hv6.keep (k8.trans x9), fun H10 s10 => ⟨rfl, .inl ⟨rfl, fun H11 t s11 e11 => ?_⟩⟩⟩⟩
          refine ⟨small_line (by show 2 ≤ 100000; omega), fun t14 n14 => ?_⟩
          have s14 := same_new (o := .tup [V.str "refused", V.str "box"]) n14
          refine ⟨dW "box", dW "box", dpW (s14 _ _ e11), dpW upd_same, by decide +kernel, by decide +kernel, _, rfl, ?_⟩
          rw [SeqAt.eqv_refl (dW "box") (by decide +kernel)]
          have s1 := (s10.trans s11).trans s14
          exact iteF ⟨_, _, rfl, (k8.trans x9).trans (kpn s1), T9.ext s1⟩
        · rintro _ H7 ⟨o7, o8, rfl, k7, T7⟩
          exact ⟨_, _, rfl, k7, T7⟩
      rintro _ H7 ⟨o7, o8, rfl, k7, T7⟩
      have P7 := P6.keep k7
      have kk7 := kk6.trans k7
      -- box
      refine ⟨fun σ H8 => ∃ (b : Addr) (h W : Nat), σ = [some (.ref a), some (.int (0 + (i : Int))), some (.ref p), some v, some (.int n), some u, some (.ref c), o7, o8, some (.ref b), o10] ∧ Kp p H7 H8 ∧ PenA H8 p ∧ H8 b = some (.tup [.int (h : Int), .int (W : Int)]) ∧ h ≤ 4 ∧ W ≤ 4, ?_, ?_⟩
      · refine ⟨.ref p, rfl, p, 5, rfl, P7, by decide, by decide, fun G1 d g1 Q1 d0 d1 => ?_⟩
        refine ⟨.ref p, rfl, p, 5, rfl, Q1, by decide, by decide, fun G2 e g2 Q2 e0 e1 => ?_⟩
        refine ⟨small_line (by show 2 ≤ 100000; omega), fun b nb => ?_⟩
        obtain ⟨h, rfl⟩ : ∃ m : Nat, d = m := ⟨d.toNat, by omega⟩
        obtain ⟨W, rfl⟩ : ∃ m : Nat, e = m := ⟨e.toNat, by omega⟩
        have s1 := same_new (o := .tup [V.int (h : Int), V.int (W : Int)]) nb
        exact ⟨b, h, W, rfl, (g1.trans g2).trans (Kp.of s1), Q2.same s1, upd_same, by omega, by omega⟩
      rintro _ H8 ⟨b, h, W, rfl, k8, P8, hb, h4, W4⟩
      have T8 := tabs_kp T7 P7 k8
      have kk8 := kkp kk7 k8
      -- ones
      refine ⟨fun σ H9 => ∃ o10, σ = [some (.ref a), some (.int (0 + (i : Int))), some (.ref p), some v, some (.int n), some u, some (.ref c), o7, o8, some (.ref b), o10] ∧ KeepN H8 H9 ∧ LamX.Tabs (TT tp) H9, ?_, ?_⟩
      · refine ⟨small_line (by show 1 ≤ 100000; omega), fun c2 n2 => ?_⟩
        have t1 := same_new (o := .tup [V.int 1]) n2
        have e2 : (upd H8 c2 (.tup [V.int 1])) c2 = some (.tup [V.int 1]) := upd_same
        generalize upd H8 c2 (.tup [V.int 1]) = G2 at t1 e2 ⊢
        refine ⟨.ref b, rfl, b, _, 0, .int (h : Int), rfl, rfl, SqT.of (t1 _ _ hb), rfl, _, _, rfl, rfl, c2, _, [V.int 1], rfl, rfl, e2, by simp, by omega, by omega, by show 1 ≤ 1000; omega, fun G3 c3 t3 e3 => ?_⟩
        have e3' : (List.replicate ((h : Int) + 1).toNat [V.int 1]).flatten = (List.replicate ((h : Int) + 1).toNat (1 : Int)).map V.int := by
          rw [List.flatten_replicate_singleton, List.map_replicate]
        rw [e3'] at e3
        have t13 := t1.trans t3
        refine ⟨.ref b, rfl, b, _, 1, .int (W : Int), rfl, rfl, SqT.of (t13 _ _ hb), rfl, _, _, rfl, rfl, small_line (by show 1 ≤ 100000; omega), fun c4 n4 => ?_⟩
        have t4 := same_new (o := .tup [V.int ((W : Int) + 1)]) n4
        have e4 : (upd G3 c4 (.tup [V.int ((W : Int) + 1)])) c4 = some (.tup (([(W : Int) + 1] : List Int).map V.int)) := upd_same
        generalize upd G3 c4 (.tup [V.int ((W : Int) + 1)]) = G4 at t4 e4 ⊢
        have t14 := t13.trans t4
        refine ⟨.ref b, rfl, b, _, 1, .int (W : Int), rfl, rfl, SqT.of (t14 _ _ hb), rfl, _, _, rfl, rfl, small_line (by show 1 ≤ 100000; omega), fun c5 n5 => ?_⟩
        have t5 := same_new (o := .tup [V.int ((W : Int) + 1)]) n5
        have e5 : (upd G4 c5 (.tup [V.int ((W : Int) + 1)])) c5 = some (.tup [V.int ((W : Int) + 1)]) := upd_same
        generalize upd G4 c5 (.tup [V.int ((W : Int) + 1)]) = G5 at t5 e5 ⊢
        have t15 := t14.trans t5
        refine ⟨.ref b, rfl, b, _, 0, .int (h : Int), rfl, rfl, SqT.of (t15 _ _ hb), rfl, _, _, rfl, rfl, c5, _, [V.int ((W : Int) + 1)], rfl, rfl, e5, by simp, by omega, by omega, by show 1 ≤ 1000; omega, fun G6 c6 t6 e6 => ?_⟩
        have e6' : (List.replicate ((h : Int) + 1).toNat [V.int ((W : Int) + 1)]).flatten = (List.replicate ((h : Int) + 1).toNat ((W : Int) + 1)).map V.int := by
          rw [List.flatten_replicate_singleton, List.map_replicate]
        rw [e6'] at e6
        have t16 := t15.trans t6
        refine ⟨small_line (by show 3 ≤ 100000; omega), fun tt ntt => ?_⟩
        have t7 := same_new (o := .tup [V.ref c3, V.ref c4, V.ref c6]) ntt
        have e7 : (upd G6 tt (.tup [V.ref c3, V.ref c4, V.ref c6])) tt = some (.tup [V.ref c3, V.ref c4, V.ref c6]) := upd_same
        generalize upd G6 tt (.tup [V.ref c3, V.ref c4, V.ref c6]) = G7 at t7 e7 ⊢
        have t17 := t16.trans t7
        have far : ∀ x : Int, fitB (h : Int) (W : Int) (List.replicate ((h : Int) + 1).toNat x) = false := fun x => by
          unfold fitB
          rw [List.length_replicate, decide_eq_false (show ¬ ((((h : Int) + 1).toNat : Nat) : Int) ≤ (h : Int) by omega), Bool.false_and]
        have wid : fitB (h : Int) (W : Int) [(W : Int) + 1] = false := by
          unfold fitB
          rw [show gd [(W : Int) + 1] 0 = (W : Int) + 1 from rfl, decide_eq_false (show ¬ (W : Int) + 1 ≤ (W : Int) by omega), show ([(W : Int) + 1] : List Int).isEmpty = false from rfl, Bool.or_self, Bool.and_false]
        have all : ∀ z ∈ [V.ref c3, V.ref c4, V.ref c6], ∃ (d : Addr) (ys : List Int), z = .ref d ∧ G7 d = some (.tup (ys.map V.int)) ∧ fitB (h : Int) (W : Int) ys = false := by
          intro z m
          simp only [List.mem_cons, List.not_mem_nil, or_false] at m
          rcases m with rfl | rfl | rfl
          · exact ⟨c3, _, rfl, (((t4.trans t5).trans t6).trans t7) _ _ e3, far _⟩
          · exact ⟨c4, _, rfl, ((t5.trans t6).trans t7) _ _ e4, wid⟩
          · exact ⟨c6, _, rfl, t7 _ _ e6, far _⟩
        refine ⟨tt, rfl, ⟨_, SqT.of e7⟩, ?_⟩
        refine for_it (walk_tup (xs := [V.ref c3, V.ref c4, V.ref c6])) (fun j σ H9 => ∃ o10, σ = [some (.ref a), some (.int (0 + (i : Int))), some (.ref p), some v, some (.int n), some u, some (.ref c), o7, o8, some (.ref b), o10] ∧ KeepN G7 H9 ∧ LamX.Tabs (TT tp) H9) ⟨o10, rfl, kpn (Same.refl _), T8.ext t17⟩ (fun j σ H9 _ g => by obtain ⟨_, _, g, _⟩ := g; exact SqT.of (g _ _ e7 (fun _ z => nomatch z))) ?_ ?_
        · rintro j z _ H9 H9 hj ⟨o10, rfl, k9, T9⟩ ⟨rfl, hz⟩
          obtain ⟨d, ys, rfl, ed, ff⟩ := all z (List.mem_of_getElem? hz)
          refine ⟨T9, fun H11 x11 T11 => ?_⟩
          have k11 : KeepN G7 H11 := k9.trans x11
          refine ⟨.ref b, rfl, .ref d, rfl, .ref b, d, ys, rfl, k11 _ _ ed (fun _ z => nomatch z), .inr (.inl ⟨(h : Int), (W : Int), ⟨b, rfl, k11 _ _ (t17 _ _ hb) (fun _ z => nomatch z), by omega, by omega, by omega, by omega⟩, ff, fun H12 s12 => ⟨rfl, .inr (.inl ⟨rfl, fun H13 t13 s13 e13 => ?_⟩)⟩⟩)⟩
          refine ⟨small_line (by show 2 ≤ 100000; omega), fun t14 n14 => ?_⟩
          have s14 := same_new (o := .tup [V.str "refused", V.str "fit"]) n14
          refine ⟨dW "fit", dW "fit", dpW (s14 _ _ e13), dpW upd_same, by decide +kernel, by decide +kernel, _, rfl, ?_⟩
          rw [SeqAt.eqv_refl (dW "fit") (by decide +kernel)]
          have s1 := (s12.trans s13).trans s14
          exact iteF ⟨_, rfl, k11.trans (kpn s1), T11.ext s1⟩
        · rintro _ H9 ⟨o10, rfl, k9, T9⟩
          exact ⟨_, rfl, (kpn t17).trans k9, T9⟩
      rintro _ H9 ⟨o10, rfl, k9, T9⟩
      have hb9 : H9 b = some (.tup [.int (h : Int), .int (W : Int)]) := k9 _ _ hb (fun _ z => nomatch z)
      refine ⟨.ref b, rfl, Nat.zero_le _, fun z nz => ?_⟩
      have s1 := same_new (o := .tup []) nz
      refine ⟨.ref b, z, [], rfl, upd_same, .inl ⟨h, W, ⟨b, rfl, s1 _ _ hb9, by omega, by omega⟩, ?_, fits_nil, fun G1 g1 => ?_⟩⟩
      · unfold fitB
        rw [decide_eq_true (show ((([] : List Int).length : Nat) : Int) ≤ (h : Int) by show (0 : Int) ≤ _; omega)]
        rfl
      refine ⟨rfl, _, rfl, ?_⟩
      rw [show (!decide (V.int (pl h [] ([] : List Int).sum) = V.int 0)) = false by rw [pl_nil]; rfl]
      have k10 := (kpn s1).trans (kpn g1)
      have s10 := s1.trans g1
      have hb10 := s10 _ _ hb9
      have T10 := T9.ext s10
      refine iteF ⟨.ref b, rfl, .ref b, 0, .int 0, rfl, .inl ⟨h, W, ⟨b, rfl, hb10, by omega, by omega⟩, .inl ⟨0, rfl, Int.le_refl _, Int.le_refl _, by rw [cz_none' (by omega)]; decide, fun G2 d xs2 g2 ed hf hs _ => ?_⟩⟩⟩
      obtain rfl : xs2 = [] := by
        cases xs2 with
        | nil => rfl
        | cons x ys =>
          cases h with
          | zero => exact hf.elim
          | succ h =>
            have := fits_sum hf.2.2
            rw [List.sum_cons] at hs
            have := hf.1
            omega
      refine ⟨Nat.zero_le _, fun z2 nz2 => ?_⟩
      have s2 := same_new (o := .tup []) nz2
      refine ⟨.tuple [], .tuple [], .tup (SqT.of (s2 _ _ ed)) .nil, .tup (SqT.of upd_same) .nil, by decide +kernel, by decide +kernel, _, rfl, ?_⟩
      rw [SeqAt.eqv_refl (.tuple []) (by decide +kernel)]
      have s11 := (s10.trans g2).trans s2
      have hb11 := s11 _ _ hb9
      refine iteF ⟨.ref b, rfl, .ref b, 0, rfl, .inl ⟨h, W, ⟨b, rfl, hb11, by omega, by omega⟩, fun G3 L us g3 hL hu => ?_⟩⟩
      have e0 : shT h W 0 = [[]] := by cases h <;> rfl
      rw [e0] at hu
      cases hu with
      | cons e1 hu =>
        cases hu
        refine ⟨Nat.zero_le _, fun z3 nz3 => ?_⟩
        have s3 := same_new (o := .tup []) nz3
        have x3 : (upd G3 z3 (.tup [])) z3 = some (.tup []) := upd_same
        generalize upd G3 z3 (.tup []) = G4 at s3 x3 ⊢
        refine ⟨small_line (by show 1 ≤ 100000; omega), fun z4 nz4 => ?_⟩
        have s4 := same_new (o := .lst [V.ref z3]) nz4
        have s34 := s3.trans s4
        refine ⟨.list [.tuple []], .list [.tuple []], .lst (SqL.of (s34 _ _ hL)) (.cons (.tup (SqT.of (s34 _ _ e1)) .nil) .nil), .lst (SqL.of upd_same) (.cons (.tup (SqT.of (s4 _ _ x3)) .nil) .nil), by decide +kernel, by decide +kernel, _, rfl, ?_⟩
        rw [SeqAt.eqv_refl (.list [.tuple []]) (by decide +kernel)]
        have s14 := (s11.trans g3).trans s34
        exact iteF ⟨_, _, _, _, _, _, _, _, _, _, rfl, (kk8.trans k9).trans (kpn s14), T9.ext s14⟩
    · rintro _ H1 ⟨o1, o2, o3, o4, o5, o6, o7, o8, o9, o10, rfl, k1, T1⟩
      exact q _
end
theorem all_mk {l : PySem.W.OpenLaw} {w : World} {K : PySem.W.Frag} {h : Heap} {mg : Str → Option Value} {fa : Addr} (X : K.In h) (G : h.Ns mainGlobals mg) (hfa : mg "law" = some (.ref fa))
    {f19 : Addr} {od19 an19 : Option Addr} {sl19 : Array (Option Value)} {oc19 kV19 dc19 pm19 cd19 ct19 : Value}
    (a19 : PySem.W.nsIn K mainGlobals "is_whole" = some (some (.ref f19)))
    (l19 : K.lookup f19 = some ⟨oc19, od19, .func (PySem.W.fnOf "is_whole" "is_whole" (defArgs stis_whole) (defBody stis_whole) (defScope stis_whole) .none kV19 dc19 pm19 an19 cd19 ct19), sl19⟩)
    (c19 : PySem.W.codeIn K cd19 "is_whole" = true) (k19 : PySem.W.keepIn K (.ref f19) = true)
    {f20 : Addr} {od20 an20 : Option Addr} {sl20 : Array (Option Value)} {oc20 kV20 dc20 pm20 cd20 ct20 : Value}
    (a20 : PySem.W.nsIn K mainGlobals "is_whole_from" = some (some (.ref f20)))
    (l20 : K.lookup f20 = some ⟨oc20, od20, .func (PySem.W.fnOf "is_whole_from" "is_whole_from" (defArgs stis_whole_from) (defBody stis_whole_from) (defScope stis_whole_from) .none kV20 dc20 pm20 an20 cd20 ct20), sl20⟩)
    (c20 : PySem.W.codeIn K cd20 "is_whole_from" = true) (k20 : PySem.W.keepIn K (.ref f20) = true)
    {f22 : Addr} {od22 an22 : Option Addr} {sl22 : Array (Option Value)} {oc22 kV22 dc22 pm22 cd22 ct22 : Value}
    (a22 : PySem.W.nsIn K mainGlobals "cells_in" = some (some (.ref f22)))
    (l22 : K.lookup f22 = some ⟨oc22, od22, .func (PySem.W.fnOf "cells_in" "cells_in" (defArgs stcells_in) (defBody stcells_in) (defScope stcells_in) .none kV22 dc22 pm22 an22 cd22 ct22), sl22⟩)
    (c22 : PySem.W.codeIn K cd22 "cells_in" = true) (k22 : PySem.W.keepIn K (.ref f22) = true)
    {f25 : Addr} {od25 an25 : Option Addr} {sl25 : Array (Option Value)} {oc25 kV25 dc25 pm25 cd25 ct25 : Value}
    (a25 : PySem.W.nsIn K mainGlobals "is_box" = some (some (.ref f25)))
    (l25 : K.lookup f25 = some ⟨oc25, od25, .func (PySem.W.fnOf "is_box" "is_box" (defArgs stis_box) (defBody stis_box) (defScope stis_box) .none kV25 dc25 pm25 an25 cd25 ct25), sl25⟩)
    (c25 : PySem.W.codeIn K cd25 "is_box" = true) (k25 : PySem.W.keepIn K (.ref f25) = true)
    {f26 : Addr} {od26 an26 : Option Addr} {sl26 : Array (Option Value)} {oc26 kV26 dc26 pm26 cd26 ct26 : Value}
    (a26 : PySem.W.nsIn K mainGlobals "need_box" = some (some (.ref f26)))
    (l26 : K.lookup f26 = some ⟨oc26, od26, .func (PySem.W.fnOf "need_box" "need_box" (defArgs stneed_box) (defBody stneed_box) (defScope stneed_box) .none kV26 dc26 pm26 an26 cd26 ct26), sl26⟩)
    (c26 : PySem.W.codeIn K cd26 "need_box" = true) (k26 : PySem.W.keepIn K (.ref f26) = true)
    {f27 : Addr} {od27 an27 : Option Addr} {sl27 : Array (Option Value)} {oc27 kV27 dc27 pm27 cd27 ct27 : Value}
    (a27 : PySem.W.nsIn K mainGlobals "fits_in" = some (some (.ref f27)))
    (l27 : K.lookup f27 = some ⟨oc27, od27, .func (PySem.W.fnOf "fits_in" "fits_in" (defArgs stfits_in) (defBody stfits_in) (defScope stfits_in) .none kV27 dc27 pm27 an27 cd27 ct27), sl27⟩)
    (c27 : PySem.W.codeIn K cd27 "fits_in" = true) (k27 : PySem.W.keepIn K (.ref f27) = true)
    {f28 : Addr} {od28 an28 : Option Addr} {sl28 : Array (Option Value)} {oc28 kV28 dc28 pm28 cd28 ct28 : Value}
    (a28 : PySem.W.nsIn K mainGlobals "need_fit" = some (some (.ref f28)))
    (l28 : K.lookup f28 = some ⟨oc28, od28, .func (PySem.W.fnOf "need_fit" "need_fit" (defArgs stneed_fit) (defBody stneed_fit) (defScope stneed_fit) .none kV28 dc28 pm28 an28 cd28 ct28), sl28⟩)
    (c28 : PySem.W.codeIn K cd28 "need_fit" = true) (k28 : PySem.W.keepIn K (.ref f28) = true)
    {f30 : Addr} {od30 an30 : Option Addr} {sl30 : Array (Option Value)} {oc30 kV30 dc30 pm30 cd30 ct30 : Value}
    (a30 : PySem.W.nsIn K mainGlobals "how_many" = some (some (.ref f30)))
    (l30 : K.lookup f30 = some ⟨oc30, od30, .func (PySem.W.fnOf "how_many" "how_many" (defArgs sthow_many) (defBody sthow_many) (defScope sthow_many) .none kV30 dc30 pm30 an30 cd30 ct30), sl30⟩)
    (c30 : PySem.W.codeIn K cd30 "how_many" = true) (k30 : PySem.W.keepIn K (.ref f30) = true)
    {f31 : Addr} {od31 an31 : Option Addr} {sl31 : Array (Option Value)} {oc31 kV31 dc31 pm31 cd31 ct31 : Value}
    (a31 : PySem.W.nsIn K mainGlobals "cell_table" = some (some (.ref f31)))
    (l31 : K.lookup f31 = some ⟨oc31, od31, .func (PySem.W.fnOf "cell_table" "cell_table" (defArgs stcell_table) (defBody stcell_table) (defScope stcell_table) .none kV31 dc31 pm31 an31 cd31 ct31), sl31⟩)
    (c31 : PySem.W.codeIn K cd31 "cell_table" = true) (k31 : PySem.W.keepIn K (.ref f31) = true)
    {f32 : Addr} {od32 an32 : Option Addr} {sl32 : Array (Option Value)} {oc32 kV32 dc32 pm32 cd32 ct32 : Value}
    (a32 : PySem.W.nsIn K mainGlobals "all_in" = some (some (.ref f32)))
    (l32 : K.lookup f32 = some ⟨oc32, od32, .func (PySem.W.fnOf "all_in" "all_in" (defArgs stall_in) (defBody stall_in) (defScope stall_in) .none kV32 dc32 pm32 an32 cd32 ct32), sl32⟩)
    (c32 : PySem.W.codeIn K cd32 "all_in" = true) (k32 : PySem.W.keepIn K (.ref f32) = true)
    {f33 : Addr} {od33 an33 : Option Addr} {sl33 : Array (Option Value)} {oc33 kV33 dc33 pm33 cd33 ct33 : Value}
    (a33 : PySem.W.nsIn K mainGlobals "told_in" = some (some (.ref f33)))
    (l33 : K.lookup f33 = some ⟨oc33, od33, .func (PySem.W.fnOf "told_in" "told_in" (defArgs sttold_in) (defBody sttold_in) (defScope sttold_in) .none kV33 dc33 pm33 an33 cd33 ct33), sl33⟩)
    (c33 : PySem.W.codeIn K cd33 "told_in" = true) (k33 : PySem.W.keepIn K (.ref f33) = true)
    {f34 : Addr} {od34 an34 : Option Addr} {sl34 : Array (Option Value)} {oc34 kV34 dc34 pm34 cd34 ct34 : Value}
    (a34 : PySem.W.nsIn K mainGlobals "tables_to" = some (some (.ref f34)))
    (l34 : K.lookup f34 = some ⟨oc34, od34, .func (PySem.W.fnOf "tables_to" "tables_to" (defArgs sttables_to) (defBody sttables_to) (defScope sttables_to) .none kV34 dc34 pm34 an34 cd34 ct34), sl34⟩)
    (c34 : PySem.W.codeIn K cd34 "tables_to" = true) (k34 : PySem.W.keepIn K (.ref f34) = true)
    {f35 : Addr} {od35 an35 : Option Addr} {sl35 : Array (Option Value)} {oc35 kV35 dc35 pm35 cd35 ct35 : Value}
    (a35 : PySem.W.nsIn K mainGlobals "higher_tables" = some (some (.ref f35)))
    (l35 : K.lookup f35 = some ⟨oc35, od35, .func (PySem.W.fnOf "higher_tables" "higher_tables" (defArgs sthigher_tables) (defBody sthigher_tables) (defScope sthigher_tables) .none kV35 dc35 pm35 an35 cd35 ct35), sl35⟩)
    (c35 : PySem.W.codeIn K cd35 "higher_tables" = true) (k35 : PySem.W.keepIn K (.ref f35) = true)
    {f36 : Addr} {od36 an36 : Option Addr} {sl36 : Array (Option Value)} {oc36 kV36 dc36 pm36 cd36 ct36 : Value}
    (a36 : PySem.W.nsIn K mainGlobals "joined_table" = some (some (.ref f36)))
    (l36 : K.lookup f36 = some ⟨oc36, od36, .func (PySem.W.fnOf "joined_table" "joined_table" (defArgs stjoined_table) (defBody stjoined_table) (defScope stjoined_table) .none kV36 dc36 pm36 an36 cd36 ct36), sl36⟩)
    (c36 : PySem.W.codeIn K cd36 "joined_table" = true) (k36 : PySem.W.keepIn K (.ref f36) = true)
    {f38 : Addr} {od38 an38 : Option Addr} {sl38 : Array (Option Value)} {oc38 kV38 dc38 pm38 cd38 ct38 : Value}
    (a38 : PySem.W.nsIn K mainGlobals "shares_of" = some (some (.ref f38)))
    (l38 : K.lookup f38 = some ⟨oc38, od38, .func (PySem.W.fnOf "shares_of" "shares_of" (defArgs stshares_of) (defBody stshares_of) (defScope stshares_of) .none kV38 dc38 pm38 an38 cd38 ct38), sl38⟩)
    (c38 : PySem.W.codeIn K cd38 "shares_of" = true) (k38 : PySem.W.keepIn K (.ref f38) = true)
    {f39 : Addr} {od39 an39 : Option Addr} {sl39 : Array (Option Value)} {oc39 kV39 dc39 pm39 cd39 ct39 : Value}
    (a39 : PySem.W.nsIn K mainGlobals "shares_in" = some (some (.ref f39)))
    (l39 : K.lookup f39 = some ⟨oc39, od39, .func (PySem.W.fnOf "shares_in" "shares_in" (defArgs stshares_in) (defBody stshares_in) (defScope stshares_in) .none kV39 dc39 pm39 an39 cd39 ct39), sl39⟩)
    (c39 : PySem.W.codeIn K cd39 "shares_in" = true) (k39 : PySem.W.keepIn K (.ref f39) = true)
    {f40 : Addr} {od40 an40 : Option Addr} {sl40 : Array (Option Value)} {oc40 kV40 dc40 pm40 cd40 ct40 : Value}
    (a40 : PySem.W.nsIn K mainGlobals "shares_to" = some (some (.ref f40)))
    (l40 : K.lookup f40 = some ⟨oc40, od40, .func (PySem.W.fnOf "shares_to" "shares_to" (defArgs stshares_to) (defBody stshares_to) (defScope stshares_to) .none kV40 dc40 pm40 an40 cd40 ct40), sl40⟩)
    (c40 : PySem.W.codeIn K cd40 "shares_to" = true) (k40 : PySem.W.keepIn K (.ref f40) = true)
    {f41 : Addr} {od41 an41 : Option Addr} {sl41 : Array (Option Value)} {oc41 kV41 dc41 pm41 cd41 ct41 : Value}
    (a41 : PySem.W.nsIn K mainGlobals "all_shares_to" = some (some (.ref f41)))
    (l41 : K.lookup f41 = some ⟨oc41, od41, .func (PySem.W.fnOf "all_shares_to" "all_shares_to" (defArgs stall_shares_to) (defBody stall_shares_to) (defScope stall_shares_to) .none kV41 dc41 pm41 an41 cd41 ct41), sl41⟩)
    (c41 : PySem.W.codeIn K cd41 "all_shares_to" = true) (k41 : PySem.W.keepIn K (.ref f41) = true)
    {f43 : Addr} {od43 an43 : Option Addr} {sl43 : Array (Option Value)} {oc43 kV43 dc43 pm43 cd43 ct43 : Value}
    (a43 : PySem.W.nsIn K mainGlobals "share_at" = some (some (.ref f43)))
    (l43 : K.lookup f43 = some ⟨oc43, od43, .func (PySem.W.fnOf "share_at" "share_at" (defArgs stshare_at) (defBody stshare_at) (defScope stshare_at) .none kV43 dc43 pm43 an43 cd43 ct43), sl43⟩)
    (c43 : PySem.W.codeIn K cd43 "share_at" = true) (k43 : PySem.W.keepIn K (.ref f43) = true)
    {f44 : Addr} {od44 an44 : Option Addr} {sl44 : Array (Option Value)} {oc44 kV44 dc44 pm44 cd44 ct44 : Value}
    (a44 : PySem.W.nsIn K mainGlobals "row_at" = some (some (.ref f44)))
    (l44 : K.lookup f44 = some ⟨oc44, od44, .func (PySem.W.fnOf "row_at" "row_at" (defArgs strow_at) (defBody strow_at) (defScope strow_at) .none kV44 dc44 pm44 an44 cd44 ct44), sl44⟩)
    (c44 : PySem.W.codeIn K cd44 "row_at" = true) (k44 : PySem.W.keepIn K (.ref f44) = true)
    {f45 : Addr} {od45 an45 : Option Addr} {sl45 : Array (Option Value)} {oc45 kV45 dc45 pm45 cd45 ct45 : Value}
    (a45 : PySem.W.nsIn K mainGlobals "place_of" = some (some (.ref f45)))
    (l45 : K.lookup f45 = some ⟨oc45, od45, .func (PySem.W.fnOf "place_of" "place_of" (defArgs stplace_of) (defBody stplace_of) (defScope stplace_of) .none kV45 dc45 pm45 an45 cd45 ct45), sl45⟩)
    (c45 : PySem.W.codeIn K cd45 "place_of" = true) (k45 : PySem.W.keepIn K (.ref f45) = true)
    {f47 : Addr} {od47 an47 : Option Addr} {sl47 : Array (Option Value)} {oc47 kV47 dc47 pm47 cd47 ct47 : Value}
    (a47 : PySem.W.nsIn K mainGlobals "_law_pen" = some (some (.ref f47)))
    (l47 : K.lookup f47 = some ⟨oc47, od47, .func (PySem.W.fnOf "_law_pen" "_law_pen" (defArgs st_law_pen) (defBody st_law_pen) (defScope st_law_pen) .none kV47 dc47 pm47 an47 cd47 ct47), sl47⟩)
    (c47 : PySem.W.codeIn K cd47 "_law_pen" = true) (k47 : PySem.W.keepIn K (.ref f47) = true)
    {f48 : Addr} {od48 an48 : Option Addr} {sl48 : Array (Option Value)} {oc48 kV48 dc48 pm48 cd48 ct48 : Value}
    (a48 : PySem.W.nsIn K mainGlobals "_law_draw" = some (some (.ref f48)))
    (l48 : K.lookup f48 = some ⟨oc48, od48, .func (PySem.W.fnOf "_law_draw" "_law_draw" (defArgs st_law_draw) (defBody st_law_draw) (defScope st_law_draw) .none kV48 dc48 pm48 an48 cd48 ct48), sl48⟩)
    (c48 : PySem.W.codeIn K cd48 "_law_draw" = true) (k48 : PySem.W.keepIn K (.ref f48) = true)
    {f49 : Addr} {od49 an49 : Option Addr} {sl49 : Array (Option Value)} {oc49 kV49 dc49 pm49 cd49 ct49 : Value}
    (a49 : PySem.W.nsIn K mainGlobals "_law_no_box" = some (some (.ref f49)))
    (l49 : K.lookup f49 = some ⟨oc49, od49, .func (PySem.W.fnOf "_law_no_box" "_law_no_box" (defArgs st_law_no_box) (defBody st_law_no_box) (defScope st_law_no_box) .none kV49 dc49 pm49 an49 cd49 ct49), sl49⟩)
    (c49 : PySem.W.codeIn K cd49 "_law_no_box" = true) (k49 : PySem.W.keepIn K (.ref f49) = true)
    {f50 : Addr} {od50 an50 : Option Addr} {sl50 : Array (Option Value)} {oc50 kV50 dc50 pm50 cd50 ct50 : Value}
    (a50 : PySem.W.nsIn K mainGlobals "_law_word" = some (some (.ref f50)))
    (l50 : K.lookup f50 = some ⟨oc50, od50, .func (PySem.W.fnOf "_law_word" "_law_word" (defArgs st_law_word) (defBody st_law_word) (defScope st_law_word) .none kV50 dc50 pm50 an50 cd50 ct50), sl50⟩)
    (c50 : PySem.W.codeIn K cd50 "_law_word" = true) (k50 : PySem.W.keepIn K (.ref f50) = true)
    {f51 : Addr} {od51 an51 : Option Addr} {sl51 : Array (Option Value)} {oc51 kV51 dc51 pm51 cd51 ct51 : Value}
    (a51 : PySem.W.nsIn K mainGlobals "_law_asked" = some (some (.ref f51)))
    (l51 : K.lookup f51 = some ⟨oc51, od51, .func (PySem.W.fnOf "_law_asked" "_law_asked" (defArgs st_law_asked) (defBody st_law_asked) (defScope st_law_asked) .none kV51 dc51 pm51 an51 cd51 ct51), sl51⟩)
    (c51 : PySem.W.codeIn K cd51 "_law_asked" = true) (k51 : PySem.W.keepIn K (.ref f51) = true)
    {f52 : Addr} {od52 an52 : Option Addr} {sl52 : Array (Option Value)} {oc52 kV52 dc52 pm52 cd52 ct52 : Value}
    (a52 : PySem.W.nsIn K mainGlobals "law" = some (some (.ref f52)))
    (l52 : K.lookup f52 = some ⟨oc52, od52, .func (PySem.W.fnOf "law" "law" (defArgs stlaw) (defBody stlaw) (defScope stlaw) .none kV52 dc52 pm52 an52 cd52 ct52), sl52⟩)
    (c52 : PySem.W.codeIn K cd52 "law" = true) (k52 : PySem.W.keepIn K (.ref f52) = true)
    {f1 : Addr} (a1 : PySem.W.nsIn K mainGlobals "GridError" = some (some (.ref f1)))
    {f2 : Addr} (a2 : PySem.W.nsIn K mainGlobals "NoShare" = some (some (.ref f2)))
    {f3 : Addr} (a3 : PySem.W.nsIn K mainGlobals "NoBox" = some (some (.ref f3)))
    {f4 : Addr} (a4 : PySem.W.nsIn K mainGlobals "NoFit" = some (some (.ref f4)))
    {f5 : Addr} (a5 : PySem.W.nsIn K mainGlobals "NoNumber" = some (some (.ref f5)))
    {f6 : Addr} (a6 : PySem.W.nsIn K mainGlobals "NoRow" = some (some (.ref f6)))
    {f7 : Addr} (a7 : PySem.W.nsIn K mainGlobals "NoCell" = some (some (.ref f7)))
    {f8 : Addr} (a8 : PySem.W.nsIn K mainGlobals "NoChain" = some (some (.ref f8)))
    {f9 : Addr} (a9 : PySem.W.nsIn K mainGlobals "NoSquare" = some (some (.ref f9)))
    {f10 : Addr} (a10 : PySem.W.nsIn K mainGlobals "NoFilling" = some (some (.ref f10)))
    {f11 : Addr} (a11 : PySem.W.nsIn K mainGlobals "NoWalk" = some (some (.ref f11)))
    {f12 : Addr} (a12 : PySem.W.nsIn K mainGlobals "NoStack" = some (some (.ref f12)))
    {f13 : Addr} (a13 : PySem.W.nsIn K mainGlobals "NoPile" = some (some (.ref f13)))
    {f14 : Addr} (a14 : PySem.W.nsIn K mainGlobals "NoWay" = some (some (.ref f14)))
    {f15 : Addr} (a15 : PySem.W.nsIn K mainGlobals "NoBack" = some (some (.ref f15)))
    {f16 : Addr} (a16 : PySem.W.nsIn K mainGlobals "NoText" = some (some (.ref f16)))
    {f17 : Addr} (a17 : PySem.W.nsIn K mainGlobals "NoWord" = some (some (.ref f17)))
    (x3_ : PySem.W.excIn K f3 [.type "ValueError", .type "Exception", .type "BaseException", .type "object"] "ValueError.__new__" = true)
    (k3_ : PySem.W.keepIn K (.ref f3) = true)
    (t3_ : PySem.W.typeIn K (.ref f3) = some (.type "type"))
    (v3_ : PySem.W.kitOne K (.ref f3) (.type "ValueError") = some true)
    (m3_ : PySem.W.exmOne K (.ref f3) (.ref f1) = some true)
    (e3_hg_ : PySem.W.findIn K (.ref f3) "__getattribute__" = some (some (.builtin "BaseException.__getattribute__")))
    (e3_hk_ : PySem.W.findIn K (.ref f3) "__getattr__" = some none)
    (e3_hs_ : PySem.W.subIn K (.ref f3) (.type "BaseException") = some true)
    (e3_hd_ : PySem.W.hasDictIn K f3 = true)
    (e3_ha_ : PySem.W.findIn K (.ref f3) "__class__" = some (some (.builtin "object.__class__")))
    (e3_hn_ : PySem.W.specialIn K (.builtin "object.__class__") "__get__" = some (some (.builtin "getset_descriptor.__get__")))
    (e3_ht_ : PySem.W.takesIn K (.builtin "object.__class__") = some true)
    (e3_hm_ : PySem.W.mroIn K f3 (.type "object") = some true)
    (q3_1_ : PySem.W.kitOne K (.ref f3) (.ref f1) = some true)
    (q3_2_ : PySem.W.kitOne K (.ref f3) (.ref f2) = some false)
    (q3_3_ : PySem.W.kitOne K (.ref f3) (.ref f3) = some true)
    (q3_4_ : PySem.W.kitOne K (.ref f3) (.ref f4) = some false)
    (q3_5_ : PySem.W.kitOne K (.ref f3) (.ref f5) = some false)
    (q3_6_ : PySem.W.kitOne K (.ref f3) (.ref f6) = some false)
    (q3_7_ : PySem.W.kitOne K (.ref f3) (.ref f7) = some false)
    (q3_8_ : PySem.W.kitOne K (.ref f3) (.ref f8) = some false)
    (q3_9_ : PySem.W.kitOne K (.ref f3) (.ref f9) = some false)
    (q3_10_ : PySem.W.kitOne K (.ref f3) (.ref f10) = some false)
    (q3_11_ : PySem.W.kitOne K (.ref f3) (.ref f11) = some false)
    (q3_12_ : PySem.W.kitOne K (.ref f3) (.ref f12) = some false)
    (q3_13_ : PySem.W.kitOne K (.ref f3) (.ref f13) = some false)
    (q3_14_ : PySem.W.kitOne K (.ref f3) (.ref f14) = some false)
    (q3_15_ : PySem.W.kitOne K (.ref f3) (.ref f15) = some false)
    (q3_16_ : PySem.W.kitOne K (.ref f3) (.ref f16) = some false)
    (q3_17_ : PySem.W.kitOne K (.ref f3) (.ref f17) = some false)
    (x4_ : PySem.W.excIn K f4 [.type "ValueError", .type "Exception", .type "BaseException", .type "object"] "ValueError.__new__" = true)
    (k4_ : PySem.W.keepIn K (.ref f4) = true)
    (t4_ : PySem.W.typeIn K (.ref f4) = some (.type "type"))
    (v4_ : PySem.W.kitOne K (.ref f4) (.type "ValueError") = some true)
    (m4_ : PySem.W.exmOne K (.ref f4) (.ref f1) = some true)
    (e4_hg_ : PySem.W.findIn K (.ref f4) "__getattribute__" = some (some (.builtin "BaseException.__getattribute__")))
    (e4_hk_ : PySem.W.findIn K (.ref f4) "__getattr__" = some none)
    (e4_hs_ : PySem.W.subIn K (.ref f4) (.type "BaseException") = some true)
    (e4_hd_ : PySem.W.hasDictIn K f4 = true)
    (e4_ha_ : PySem.W.findIn K (.ref f4) "__class__" = some (some (.builtin "object.__class__")))
    (e4_hn_ : PySem.W.specialIn K (.builtin "object.__class__") "__get__" = some (some (.builtin "getset_descriptor.__get__")))
    (e4_ht_ : PySem.W.takesIn K (.builtin "object.__class__") = some true)
    (e4_hm_ : PySem.W.mroIn K f4 (.type "object") = some true)
    (q4_1_ : PySem.W.kitOne K (.ref f4) (.ref f1) = some true)
    (q4_2_ : PySem.W.kitOne K (.ref f4) (.ref f2) = some false)
    (q4_3_ : PySem.W.kitOne K (.ref f4) (.ref f3) = some false)
    (q4_4_ : PySem.W.kitOne K (.ref f4) (.ref f4) = some true)
    (q4_5_ : PySem.W.kitOne K (.ref f4) (.ref f5) = some false)
    (q4_6_ : PySem.W.kitOne K (.ref f4) (.ref f6) = some false)
    (q4_7_ : PySem.W.kitOne K (.ref f4) (.ref f7) = some false)
    (q4_8_ : PySem.W.kitOne K (.ref f4) (.ref f8) = some false)
    (q4_9_ : PySem.W.kitOne K (.ref f4) (.ref f9) = some false)
    (q4_10_ : PySem.W.kitOne K (.ref f4) (.ref f10) = some false)
    (q4_11_ : PySem.W.kitOne K (.ref f4) (.ref f11) = some false)
    (q4_12_ : PySem.W.kitOne K (.ref f4) (.ref f12) = some false)
    (q4_13_ : PySem.W.kitOne K (.ref f4) (.ref f13) = some false)
    (q4_14_ : PySem.W.kitOne K (.ref f4) (.ref f14) = some false)
    (q4_15_ : PySem.W.kitOne K (.ref f4) (.ref f15) = some false)
    (q4_16_ : PySem.W.kitOne K (.ref f4) (.ref f16) = some false)
    (q4_17_ : PySem.W.kitOne K (.ref f4) (.ref f17) = some false)
    (x5_ : PySem.W.excIn K f5 [.type "ValueError", .type "Exception", .type "BaseException", .type "object"] "ValueError.__new__" = true)
    (k5_ : PySem.W.keepIn K (.ref f5) = true)
    (t5_ : PySem.W.typeIn K (.ref f5) = some (.type "type"))
    (v5_ : PySem.W.kitOne K (.ref f5) (.type "ValueError") = some true)
    (m5_ : PySem.W.exmOne K (.ref f5) (.ref f1) = some true)
    (e5_hg_ : PySem.W.findIn K (.ref f5) "__getattribute__" = some (some (.builtin "BaseException.__getattribute__")))
    (e5_hk_ : PySem.W.findIn K (.ref f5) "__getattr__" = some none)
    (e5_hs_ : PySem.W.subIn K (.ref f5) (.type "BaseException") = some true)
    (e5_hd_ : PySem.W.hasDictIn K f5 = true)
    (e5_ha_ : PySem.W.findIn K (.ref f5) "__class__" = some (some (.builtin "object.__class__")))
    (e5_hn_ : PySem.W.specialIn K (.builtin "object.__class__") "__get__" = some (some (.builtin "getset_descriptor.__get__")))
    (e5_ht_ : PySem.W.takesIn K (.builtin "object.__class__") = some true)
    (e5_hm_ : PySem.W.mroIn K f5 (.type "object") = some true)
    (q5_1_ : PySem.W.kitOne K (.ref f5) (.ref f1) = some true)
    (q5_2_ : PySem.W.kitOne K (.ref f5) (.ref f2) = some false)
    (q5_3_ : PySem.W.kitOne K (.ref f5) (.ref f3) = some false)
    (q5_4_ : PySem.W.kitOne K (.ref f5) (.ref f4) = some false)
    (q5_5_ : PySem.W.kitOne K (.ref f5) (.ref f5) = some true)
    (q5_6_ : PySem.W.kitOne K (.ref f5) (.ref f6) = some false)
    (q5_7_ : PySem.W.kitOne K (.ref f5) (.ref f7) = some false)
    (q5_8_ : PySem.W.kitOne K (.ref f5) (.ref f8) = some false)
    (q5_9_ : PySem.W.kitOne K (.ref f5) (.ref f9) = some false)
    (q5_10_ : PySem.W.kitOne K (.ref f5) (.ref f10) = some false)
    (q5_11_ : PySem.W.kitOne K (.ref f5) (.ref f11) = some false)
    (q5_12_ : PySem.W.kitOne K (.ref f5) (.ref f12) = some false)
    (q5_13_ : PySem.W.kitOne K (.ref f5) (.ref f13) = some false)
    (q5_14_ : PySem.W.kitOne K (.ref f5) (.ref f14) = some false)
    (q5_15_ : PySem.W.kitOne K (.ref f5) (.ref f15) = some false)
    (q5_16_ : PySem.W.kitOne K (.ref f5) (.ref f16) = some false)
    (q5_17_ : PySem.W.kitOne K (.ref f5) (.ref f17) = some false)
    {t_LONGEST_SIDE : Tok} (z_LONGEST_SIDE : PySem.W.nsIn K mainGlobals "LONGEST_SIDE" = some (some (.int 20 t_LONGEST_SIDE)))
    (z_ValueError : PySem.W.nsIn K mainGlobals "ValueError" = some none)
    (z_abs : PySem.W.nsIn K mainGlobals "abs" = some none)
    (z_all : PySem.W.nsIn K mainGlobals "all" = some none)
    (z_bool : PySem.W.nsIn K mainGlobals "bool" = some none)
    (z_enumerate : PySem.W.nsIn K mainGlobals "enumerate" = some none)
    (z_int : PySem.W.nsIn K mainGlobals "int" = some none)
    (z_isinstance : PySem.W.nsIn K mainGlobals "isinstance" = some none)
    (z_len : PySem.W.nsIn K mainGlobals "len" = some none)
    (z_max : PySem.W.nsIn K mainGlobals "max" = some none)
    (z_min : PySem.W.nsIn K mainGlobals "min" = some none)
    (z_range : PySem.W.nsIn K mainGlobals "range" = some none)
    (z_sum : PySem.W.nsIn K mainGlobals "sum" = some none)
    (z_tuple : PySem.W.nsIn K mainGlobals "tuple" = some none)
    {qp : Program} (tops : Tops qp mg h) (rc_ : ((recsOf qp).any fun e => e.name == ("law" : Str)) = true) {lc lp : Addr} {le : Value} {ld : Option Addr} {lus : Array Value} {lsl : Array (Option Value)}
    (lu_ : cd52 = .ref lc) (lv_ : K.lookup lc = some ⟨le, ld, .fields lus, lsl⟩) (ly_ : lus[11]? = some (.ref lp)) (ln_ : K.lookup lp = none)
    : ∃ (fd : FuncData) (cs : List (Addr × Addr)) (sp : Sp), (∀ (s : Shared) (v : Value), BindsTo s fd ⟨[v], []⟩ [("_law_script", v)]) ∧ (∀ p ∈ cs, h.get? p.2 = some emptyT) ∧ (∀ p ∈ cs, K.lookup p.2 = none) ∧ (∀ p ∈ cs, PySem.W.CodeHd h p.1 p.2) ∧
      (∀ base : Heap, K.In base → base.Ns mainGlobals mg → (∀ p ∈ cs, LamX.TabB base mg p.1 p.2) → FnG l.prog w K mg base 13 fa fd ["_law_script"] sp) ∧ ∀ (H : Hp) (a : Addr) (ns : List Int), ns.length ≤ 63 → (∀ p ∈ cs, H p.2 = some (.tbl #[])) → SqL K H a (ns.map V.int) → sp [.ref a] H (fun v _ => v = .bl true) E0 := by
  have e := hfa.symm.trans (PySem.W.mg_of X G a52)
  cases e
  have F19 := fun_mk (st := stis_whole) l19 c19 k19
  have F20 := fun_mk (st := stis_whole_from) l20 c20 k20
  have F22 := fun_mk (st := stcells_in) l22 c22 k22
  have F25 := fun_mk (st := stis_box) l25 c25 k25
  have F26 := fun_mk (st := stneed_box) l26 c26 k26
  have F27 := fun_mk (st := stfits_in) l27 c27 k27
  have F28 := fun_mk (st := stneed_fit) l28 c28 k28
  have F30 := fun_mk (st := sthow_many) l30 c30 k30
  have F31 := fun_mk (st := stcell_table) l31 c31 k31
  have F32 := fun_mk (st := stall_in) l32 c32 k32
  have F33 := fun_mk (st := sttold_in) l33 c33 k33
  have F34 := fun_mk (st := sttables_to) l34 c34 k34
  have F35 := fun_mk (st := sthigher_tables) l35 c35 k35
  have F36 := fun_mk (st := stjoined_table) l36 c36 k36
  have F38 := fun_mk (st := stshares_of) l38 c38 k38
  have F39 := fun_mk (st := stshares_in) l39 c39 k39
  have F40 := fun_mk (st := stshares_to) l40 c40 k40
  have F41 := fun_mk (st := stall_shares_to) l41 c41 k41
  have F43 := fun_mk (st := stshare_at) l43 c43 k43
  have F44 := fun_mk (st := strow_at) l44 c44 k44
  have F45 := fun_mk (st := stplace_of) l45 c45 k45
  have F47 := fun_mk (st := st_law_pen) l47 c47 k47
  have F48 := fun_mk (st := st_law_draw) l48 c48 k48
  have F49 := fun_mk (st := st_law_no_box) l49 c49 k49
  have F50 := fun_mk (st := st_law_word) l50 c50 k50
  have F51 := fun_mk (st := st_law_asked) l51 c51 k51
  have F52 := fun_mk (st := stlaw) l52 c52 k52
  have T : Txt K mg (fun i => match i with | 19 => f19 | 20 => f20 | 22 => f22 | 25 => f25 | 26 => f26 | 27 => f27 | 28 => f28 | 30 => f30 | 31 => f31 | 32 => f32 | 33 => f33 | 34 => f34 | 35 => f35 | 36 => f36 | 38 => f38 | 39 => f39 | 40 => f40 | 41 => f41 | 43 => f43 | 44 => f44 | 45 => f45 | 47 => f47 | 48 => f48 | 49 => f49 | 50 => f50 | 51 => f51 | 1 => f1 | 2 => f2 | 3 => f3 | 4 => f4 | 5 => f5 | 6 => f6 | 7 => f7 | 8 => f8 | 9 => f9 | 10 => f10 | 11 => f11 | 12 => f12 | 13 => f13 | 14 => f14 | 15 => f15 | 16 => f16 | 17 => f17 | _ => fa) (fun i => match i with | 19 => PySem.W.fnOf "is_whole" "is_whole" (defArgs stis_whole) (defBody stis_whole) (defScope stis_whole) .none kV19 dc19 pm19 an19 cd19 ct19 | 20 => PySem.W.fnOf "is_whole_from" "is_whole_from" (defArgs stis_whole_from) (defBody stis_whole_from) (defScope stis_whole_from) .none kV20 dc20 pm20 an20 cd20 ct20 | 22 => PySem.W.fnOf "cells_in" "cells_in" (defArgs stcells_in) (defBody stcells_in) (defScope stcells_in) .none kV22 dc22 pm22 an22 cd22 ct22 | 25 => PySem.W.fnOf "is_box" "is_box" (defArgs stis_box) (defBody stis_box) (defScope stis_box) .none kV25 dc25 pm25 an25 cd25 ct25 | 26 => PySem.W.fnOf "need_box" "need_box" (defArgs stneed_box) (defBody stneed_box) (defScope stneed_box) .none kV26 dc26 pm26 an26 cd26 ct26 | 27 => PySem.W.fnOf "fits_in" "fits_in" (defArgs stfits_in) (defBody stfits_in) (defScope stfits_in) .none kV27 dc27 pm27 an27 cd27 ct27 | 28 => PySem.W.fnOf "need_fit" "need_fit" (defArgs stneed_fit) (defBody stneed_fit) (defScope stneed_fit) .none kV28 dc28 pm28 an28 cd28 ct28 | 30 => PySem.W.fnOf "how_many" "how_many" (defArgs sthow_many) (defBody sthow_many) (defScope sthow_many) .none kV30 dc30 pm30 an30 cd30 ct30 | 31 => PySem.W.fnOf "cell_table" "cell_table" (defArgs stcell_table) (defBody stcell_table) (defScope stcell_table) .none kV31 dc31 pm31 an31 cd31 ct31 | 32 => PySem.W.fnOf "all_in" "all_in" (defArgs stall_in) (defBody stall_in) (defScope stall_in) .none kV32 dc32 pm32 an32 cd32 ct32 | 33 => PySem.W.fnOf "told_in" "told_in" (defArgs sttold_in) (defBody sttold_in) (defScope sttold_in) .none kV33 dc33 pm33 an33 cd33 ct33 | 34 => PySem.W.fnOf "tables_to" "tables_to" (defArgs sttables_to) (defBody sttables_to) (defScope sttables_to) .none kV34 dc34 pm34 an34 cd34 ct34 | 35 => PySem.W.fnOf "higher_tables" "higher_tables" (defArgs sthigher_tables) (defBody sthigher_tables) (defScope sthigher_tables) .none kV35 dc35 pm35 an35 cd35 ct35 | 36 => PySem.W.fnOf "joined_table" "joined_table" (defArgs stjoined_table) (defBody stjoined_table) (defScope stjoined_table) .none kV36 dc36 pm36 an36 cd36 ct36 | 38 => PySem.W.fnOf "shares_of" "shares_of" (defArgs stshares_of) (defBody stshares_of) (defScope stshares_of) .none kV38 dc38 pm38 an38 cd38 ct38 | 39 => PySem.W.fnOf "shares_in" "shares_in" (defArgs stshares_in) (defBody stshares_in) (defScope stshares_in) .none kV39 dc39 pm39 an39 cd39 ct39 | 40 => PySem.W.fnOf "shares_to" "shares_to" (defArgs stshares_to) (defBody stshares_to) (defScope stshares_to) .none kV40 dc40 pm40 an40 cd40 ct40 | 41 => PySem.W.fnOf "all_shares_to" "all_shares_to" (defArgs stall_shares_to) (defBody stall_shares_to) (defScope stall_shares_to) .none kV41 dc41 pm41 an41 cd41 ct41 | 43 => PySem.W.fnOf "share_at" "share_at" (defArgs stshare_at) (defBody stshare_at) (defScope stshare_at) .none kV43 dc43 pm43 an43 cd43 ct43 | 44 => PySem.W.fnOf "row_at" "row_at" (defArgs strow_at) (defBody strow_at) (defScope strow_at) .none kV44 dc44 pm44 an44 cd44 ct44 | 45 => PySem.W.fnOf "place_of" "place_of" (defArgs stplace_of) (defBody stplace_of) (defScope stplace_of) .none kV45 dc45 pm45 an45 cd45 ct45 | 47 => PySem.W.fnOf "_law_pen" "_law_pen" (defArgs st_law_pen) (defBody st_law_pen) (defScope st_law_pen) .none kV47 dc47 pm47 an47 cd47 ct47 | 48 => PySem.W.fnOf "_law_draw" "_law_draw" (defArgs st_law_draw) (defBody st_law_draw) (defScope st_law_draw) .none kV48 dc48 pm48 an48 cd48 ct48 | 49 => PySem.W.fnOf "_law_no_box" "_law_no_box" (defArgs st_law_no_box) (defBody st_law_no_box) (defScope st_law_no_box) .none kV49 dc49 pm49 an49 cd49 ct49 | 50 => PySem.W.fnOf "_law_word" "_law_word" (defArgs st_law_word) (defBody st_law_word) (defScope st_law_word) .none kV50 dc50 pm50 an50 cd50 ct50 | 51 => PySem.W.fnOf "_law_asked" "_law_asked" (defArgs st_law_asked) (defBody st_law_asked) (defScope st_law_asked) .none kV51 dc51 pm51 an51 cd51 ct51 | 52 => PySem.W.fnOf "law" "law" (defArgs stlaw) (defBody stlaw) (defScope stlaw) .none kV52 dc52 pm52 an52 cd52 ct52 | _ => PySem.W.fnOf "law" "law" (defArgs stlaw) (defBody stlaw) (defScope stlaw) .none kV52 dc52 pm52 an52 cd52 ct52) := {
    F19 := F19
    g19 := PySem.W.mg_of X G a19
    b19 := F19.binds (ps := ["thing"]) fun _ _ _ _ _ _ us hl => match us, hl with | [_], _ => rfl
    F20 := F20
    g20 := PySem.W.mg_of X G a20
    b20 := F20.binds (ps := ["least", "most", "thing"]) fun _ _ _ _ _ _ us hl => match us, hl with | [_, _, _], _ => rfl
    F22 := F22
    g22 := PySem.W.mg_of X G a22
    b22 := F22.binds (ps := ["share"]) fun _ _ _ _ _ _ us hl => match us, hl with | [_], _ => rfl
    F25 := F25
    g25 := PySem.W.mg_of X G a25
    b25 := F25.binds (ps := ["thing"]) fun _ _ _ _ _ _ us hl => match us, hl with | [_], _ => rfl
    F26 := F26
    g26 := PySem.W.mg_of X G a26
    b26 := F26.binds (ps := ["thing"]) fun _ _ _ _ _ _ us hl => match us, hl with | [_], _ => rfl
    F27 := F27
    g27 := PySem.W.mg_of X G a27
    b27 := F27.binds (ps := ["box", "share"]) fun _ _ _ _ _ _ us hl => match us, hl with | [_, _], _ => rfl
    F28 := F28
    g28 := PySem.W.mg_of X G a28
    b28 := F28.binds (ps := ["box", "share"]) fun _ _ _ _ _ _ us hl => match us, hl with | [_, _], _ => rfl
    F30 := F30
    g30 := PySem.W.mg_of X G a30
    b30 := F30.binds (ps := ["box", "n"]) fun _ _ _ _ _ _ us hl => match us, hl with | [_, _], _ => rfl
    F31 := F31
    g31 := PySem.W.mg_of X G a31
    b31 := F31.binds (ps := ["box"]) fun _ _ _ _ _ _ us hl => match us, hl with | [_], _ => rfl
    F32 := F32
    g32 := PySem.W.mg_of X G a32
    b32 := F32.binds (ps := ["box"]) fun _ _ _ _ _ _ us hl => match us, hl with | [_], _ => rfl
    F33 := F33
    g33 := PySem.W.mg_of X G a33
    b33 := F33.binds (ps := ["table", "n"]) fun _ _ _ _ _ _ us hl => match us, hl with | [_, _], _ => rfl
    F34 := F34
    g34 := PySem.W.mg_of X G a34
    b34 := F34.binds (ps := ["high", "wide"]) fun _ _ _ _ _ _ us hl => match us, hl with | [_, _], _ => rfl
    F35 := F35
    g35 := PySem.W.mg_of X G a35
    b35 := F35.binds (ps := ["lower"]) fun _ _ _ _ _ _ us hl => match us, hl with | [_], _ => rfl
    F36 := F36
    g36 := PySem.W.mg_of X G a36
    b36 := F36.binds (ps := ["narrower", "lower", "width"]) fun _ _ _ _ _ _ us hl => match us, hl with | [_, _, _], _ => rfl
    F38 := F38
    g38 := PySem.W.mg_of X G a38
    b38 := F38.binds (ps := ["box", "n"]) fun _ _ _ _ _ _ us hl => match us, hl with | [_, _], _ => rfl
    F39 := F39
    g39 := PySem.W.mg_of X G a39
    b39 := F39.binds (ps := ["box"]) fun _ _ _ _ _ _ us hl => match us, hl with | [_], _ => rfl
    F40 := F40
    g40 := PySem.W.mg_of X G a40
    b40 := F40.binds (ps := ["high", "wide", "n"]) fun _ _ _ _ _ _ us hl => match us, hl with | [_, _, _], _ => rfl
    F41 := F41
    g41 := PySem.W.mg_of X G a41
    b41 := F41.binds (ps := ["high", "wide"]) fun _ _ _ _ _ _ us hl => match us, hl with | [_, _], _ => rfl
    F43 := F43
    g43 := PySem.W.mg_of X G a43
    b43 := F43.binds (ps := ["box", "n", "number"]) fun _ _ _ _ _ _ us hl => match us, hl with | [_, _, _], _ => rfl
    F44 := F44
    g44 := PySem.W.mg_of X G a44
    b44 := F44.binds (ps := ["tables", "n", "number"]) fun _ _ _ _ _ _ us hl => match us, hl with | [_, _, _], _ => rfl
    F45 := F45
    g45 := PySem.W.mg_of X G a45
    b45 := F45.binds (ps := ["box", "share"]) fun _ _ _ _ _ _ us hl => match us, hl with | [_, _], _ => rfl
    F47 := F47
    g47 := PySem.W.mg_of X G a47
    b47 := F47.binds (ps := ["_law_script", "_law_k"]) fun _ _ _ _ _ _ us hl => match us, hl with | [_, _], _ => rfl
    F48 := F48
    g48 := PySem.W.mg_of X G a48
    b48 := F48.binds (ps := ["_law_pen_here", "_law_size"]) fun _ _ _ _ _ _ us hl => match us, hl with | [_, _], _ => rfl
    F49 := F49
    g49 := PySem.W.mg_of X G a49
    b49 := F49.binds (ps := ["_law_pen_here"]) fun _ _ _ _ _ _ us hl => match us, hl with | [_], _ => rfl
    F50 := F50
    g50 := PySem.W.mg_of X G a50
    b50 := F50.binds (ps := ["_law_asked_here"]) fun _ _ _ _ _ _ us hl => match us, hl with | [_], _ => rfl
    F51 := F51
    g51 := PySem.W.mg_of X G a51
    b51 := F51.binds (ps := ["_law_way", "_law_box", "_law_n", "_law_number", "_law_share"]) fun _ _ _ _ _ _ us hl => match us, hl with | [_, _, _, _, _], _ => rfl
    g1 := PySem.W.mg_of X G a1
    g2 := PySem.W.mg_of X G a2
    g3 := PySem.W.mg_of X G a3
    g4 := PySem.W.mg_of X G a4
    g5 := PySem.W.mg_of X G a5
    g6 := PySem.W.mg_of X G a6
    g7 := PySem.W.mg_of X G a7
    g8 := PySem.W.mg_of X G a8
    g9 := PySem.W.mg_of X G a9
    g10 := PySem.W.mg_of X G a10
    g11 := PySem.W.mg_of X G a11
    g12 := PySem.W.mg_of X G a12
    g13 := PySem.W.mg_of X G a13
    g14 := PySem.W.mg_of X G a14
    g15 := PySem.W.mg_of X G a15
    g16 := PySem.W.mg_of X G a16
    g17 := PySem.W.mg_of X G a17
    x3 := x3_
    k3 := k3_
    t3 := t3_
    v3 := v3_
    m3 := m3_
    e3 := ⟨e3_hg_, e3_hk_, e3_hs_, e3_hd_, e3_ha_, e3_hn_, e3_ht_, e3_hm_⟩
    q3_1 := q3_1_
    q3_2 := q3_2_
    q3_3 := q3_3_
    q3_4 := q3_4_
    q3_5 := q3_5_
    q3_6 := q3_6_
    q3_7 := q3_7_
    q3_8 := q3_8_
    q3_9 := q3_9_
    q3_10 := q3_10_
    q3_11 := q3_11_
    q3_12 := q3_12_
    q3_13 := q3_13_
    q3_14 := q3_14_
    q3_15 := q3_15_
    q3_16 := q3_16_
    q3_17 := q3_17_
    x4 := x4_
    k4 := k4_
    t4 := t4_
    v4 := v4_
    m4 := m4_
    e4 := ⟨e4_hg_, e4_hk_, e4_hs_, e4_hd_, e4_ha_, e4_hn_, e4_ht_, e4_hm_⟩
    q4_1 := q4_1_
    q4_2 := q4_2_
    q4_3 := q4_3_
    q4_4 := q4_4_
    q4_5 := q4_5_
    q4_6 := q4_6_
    q4_7 := q4_7_
    q4_8 := q4_8_
    q4_9 := q4_9_
    q4_10 := q4_10_
    q4_11 := q4_11_
    q4_12 := q4_12_
    q4_13 := q4_13_
    q4_14 := q4_14_
    q4_15 := q4_15_
    q4_16 := q4_16_
    q4_17 := q4_17_
    x5 := x5_
    k5 := k5_
    t5 := t5_
    v5 := v5_
    m5 := m5_
    e5 := ⟨e5_hg_, e5_hk_, e5_hs_, e5_hd_, e5_ha_, e5_hn_, e5_ht_, e5_hm_⟩
    q5_1 := q5_1_
    q5_2 := q5_2_
    q5_3 := q5_3_
    q5_4 := q5_4_
    q5_5 := q5_5_
    q5_6 := q5_6_
    q5_7 := q5_7_
    q5_8 := q5_8_
    q5_9 := q5_9_
    q5_10 := q5_10_
    q5_11 := q5_11_
    q5_12 := q5_12_
    q5_13 := q5_13_
    q5_14 := q5_14_
    q5_15 := q5_15_
    q5_16 := q5_16_
    q5_17 := q5_17_
    c_LONGEST_SIDE := ⟨_, PySem.W.mg_of X G z_LONGEST_SIDE⟩
    m_ValueError := PySem.W.mg_none_of X G z_ValueError
    m_abs := PySem.W.mg_none_of X G z_abs
    m_all := PySem.W.mg_none_of X G z_all
    m_bool := PySem.W.mg_none_of X G z_bool
    m_enumerate := PySem.W.mg_none_of X G z_enumerate
    m_int := PySem.W.mg_none_of X G z_int
    m_isinstance := PySem.W.mg_none_of X G z_isinstance
    m_len := PySem.W.mg_none_of X G z_len
    m_max := PySem.W.mg_none_of X G z_max
    m_min := PySem.W.mg_none_of X G z_min
    m_range := PySem.W.mg_none_of X G z_range
    m_sum := PySem.W.mg_none_of X G z_sum
    m_tuple := PySem.W.mg_none_of X G z_tuple }
  obtain ⟨t1, t2⟩ := tops_at X tops rc_ (PySem.W.mg_of X G a52) l52 lu_ lv_ ly_
  have one : ∀ {q : Addr × Addr → Prop}, q (lc, lp) → ∀ p ∈ [(lc, lp)], q p := fun h p m => by rw [List.mem_singleton.mp m]; exact h
  exact ⟨_, [(lc, lp)], sp_law K lp, fun s v => .of_eq rfl, one t1, one ln_, one t2, fun base _ _ tb => oklaw (tp := lp) T ⟨lc, lu_, tb (lc, lp) List.mem_cons_self⟩ F52, fun H a ns hl hT hS => ⟨a, ns, rfl, hS, hl, hT (lc, lp) List.mem_cons_self, fun _ => rfl⟩⟩
end K11
open PySem PySem.W PyProof.Rows
set_option maxHeartbeats 0 in
theorem PySem.Challenge.cw_gridshares_k11_boxes_refused_holds : PySem.Challenge.rw_gridshares_k11_boxes_refused.Holds := by
  w_on; o_law; k_head; (case hw => w_witness2)
  k_fill
  refine GS.walkGT (l := PySem.Challenge.rw_gridshares_k11_boxes_refused) (n := 63) (k := 13) (x := "_law_script") rfl (by decide) rfl ⟨rfl, by decide, by decide⟩ (fun w h Y => PySem.W.km_in_of Y) ?F
  case F =>
    intro w mg fa h KX G hmg tops
    refine' K11.all_mk KX G hmg ?a19 ?l19 ?c19 ?k19 ?a20 ?l20 ?c20 ?k20 ?a22 ?l22 ?c22 ?k22 ?a25 ?l25 ?c25 ?k25 ?a26 ?l26 ?c26 ?k26 ?a27 ?l27 ?c27 ?k27 ?a28 ?l28 ?c28 ?k28 ?a30 ?l30 ?c30 ?k30 ?a31 ?l31 ?c31 ?k31 ?a32 ?l32 ?c32 ?k32 ?a33 ?l33 ?c33 ?k33 ?a34 ?l34 ?c34 ?k34 ?a35 ?l35 ?c35 ?k35 ?a36 ?l36 ?c36 ?k36 ?a38 ?l38 ?c38 ?k38 ?a39 ?l39 ?c39 ?k39 ?a40 ?l40 ?c40 ?k40 ?a41 ?l41 ?c41 ?k41 ?a43 ?l43 ?c43 ?k43 ?a44 ?l44 ?c44 ?k44 ?a45 ?l45 ?c45 ?k45 ?a47 ?l47 ?c47 ?k47 ?a48 ?l48 ?c48 ?k48 ?a49 ?l49 ?c49 ?k49 ?a50 ?l50 ?c50 ?k50 ?a51 ?l51 ?c51 ?k51 ?a52 ?l52 ?c52 ?k52 ?a1 ?a2 ?a3 ?a4 ?a5 ?a6 ?a7 ?a8 ?a9 ?a10 ?a11 ?a12 ?a13 ?a14 ?a15 ?a16 ?a17 ?x3_ ?k3_ ?t3_ ?v3_ ?m3_ ?e3_hg_ ?e3_hk_ ?e3_hs_ ?e3_hd_ ?e3_ha_ ?e3_hn_ ?e3_ht_ ?e3_hm_ ?q3_1_ ?q3_2_ ?q3_3_ ?q3_4_ ?q3_5_ ?q3_6_ ?q3_7_ ?q3_8_ ?q3_9_ ?q3_10_ ?q3_11_ ?q3_12_ ?q3_13_ ?q3_14_ ?q3_15_ ?q3_16_ ?q3_17_ ?x4_ ?k4_ ?t4_ ?v4_ ?m4_ ?e4_hg_ ?e4_hk_ ?e4_hs_ ?e4_hd_ ?e4_ha_ ?e4_hn_ ?e4_ht_ ?e4_hm_ ?q4_1_ ?q4_2_ ?q4_3_ ?q4_4_ ?q4_5_ ?q4_6_ ?q4_7_ ?q4_8_ ?q4_9_ ?q4_10_ ?q4_11_ ?q4_12_ ?q4_13_ ?q4_14_ ?q4_15_ ?q4_16_ ?q4_17_ ?x5_ ?k5_ ?t5_ ?v5_ ?m5_ ?e5_hg_ ?e5_hk_ ?e5_hs_ ?e5_hd_ ?e5_ha_ ?e5_hn_ ?e5_ht_ ?e5_hm_ ?q5_1_ ?q5_2_ ?q5_3_ ?q5_4_ ?q5_5_ ?q5_6_ ?q5_7_ ?q5_8_ ?q5_9_ ?q5_10_ ?q5_11_ ?q5_12_ ?q5_13_ ?q5_14_ ?q5_15_ ?q5_16_ ?q5_17_ ?z_LONGEST_SIDE ?z_ValueError ?z_abs ?z_all ?z_bool ?z_enumerate ?z_int ?z_isinstance ?z_len ?z_max ?z_min ?z_range ?z_sum ?z_tuple tops ?rc_ ?lu_ ?lv_ ?ly_ ?ln_
    (case a19 => k_is); (case l19 => k_is); (case c19 => k_is); (case k19 => k_is); (case a20 => k_is); (case l20 => k_is); (case c20 => k_is); (case k20 => k_is); (case a22 => k_is); (case l22 => k_is); (case c22 => k_is); (case k22 => k_is); (case a25 => k_is); (case l25 => k_is); (case c25 => k_is); (case k25 => k_is); (case a26 => k_is); (case l26 => k_is); (case c26 => k_is); (case k26 => k_is); (case a27 => k_is); (case l27 => k_is); (case c27 => k_is); (case k27 => k_is); (case a28 => k_is); (case l28 => k_is); (case c28 => k_is); (case k28 => k_is); (case a30 => k_is); (case l30 => k_is); (case c30 => k_is); (case k30 => k_is); (case a31 => k_is); (case l31 => k_is); (case c31 => k_is); (case k31 => k_is); (case a32 => k_is); (case l32 => k_is); (case c32 => k_is); (case k32 => k_is); (case a33 => k_is); (case l33 => k_is); (case c33 => k_is); (case k33 => k_is); (case a34 => k_is); (case l34 => k_is); (case c34 => k_is); (case k34 => k_is); (case a35 => k_is); (case l35 => k_is); (case c35 => k_is); (case k35 => k_is); (case a36 => k_is); (case l36 => k_is); (case c36 => k_is); (case k36 => k_is); (case a38 => k_is); (case l38 => k_is); (case c38 => k_is); (case k38 => k_is); (case a39 => k_is); (case l39 => k_is); (case c39 => k_is); (case k39 => k_is); (case a40 => k_is); (case l40 => k_is); (case c40 => k_is); (case k40 => k_is); (case a41 => k_is); (case l41 => k_is); (case c41 => k_is); (case k41 => k_is); (case a43 => k_is); (case l43 => k_is); (case c43 => k_is); (case k43 => k_is); (case a44 => k_is); (case l44 => k_is); (case c44 => k_is); (case k44 => k_is); (case a45 => k_is); (case l45 => k_is); (case c45 => k_is); (case k45 => k_is); (case a47 => k_is); (case l47 => k_is); (case c47 => k_is); (case k47 => k_is); (case a48 => k_is); (case l48 => k_is); (case c48 => k_is); (case k48 => k_is); (case a49 => k_is); (case l49 => k_is); (case c49 => k_is); (case k49 => k_is); (case a50 => k_is); (case l50 => k_is); (case c50 => k_is); (case k50 => k_is); (case a51 => k_is); (case l51 => k_is); (case c51 => k_is); (case k51 => k_is); (case a52 => k_is); (case l52 => k_is); (case c52 => k_is); (case k52 => k_is); (case a1 => k_is); (case a2 => k_is); (case a3 => k_is); (case a4 => k_is); (case a5 => k_is); (case a6 => k_is); (case a7 => k_is); (case a8 => k_is); (case a9 => k_is); (case a10 => k_is); (case a11 => k_is); (case a12 => k_is); (case a13 => k_is); (case a14 => k_is); (case a15 => k_is); (case a16 => k_is); (case a17 => k_is); (case x3_ => k_exc); (case k3_ => first | rfl | k_is); (case t3_ => first | rfl | k_is); (case v3_ => first | rfl | k_is); (case m3_ => first | rfl | k_is); (case e3_hg_ => first | rfl | k_is); (case e3_hk_ => first | rfl | k_is); (case e3_hs_ => first | rfl | k_is); (case e3_hd_ => first | rfl | k_is); (case e3_ha_ => first | rfl | k_is); (case e3_hn_ => first | rfl | k_is); (case e3_ht_ => first | rfl | k_is); (case e3_hm_ => first | rfl | k_is); (case q3_1_ => first | rfl | k_is); (case q3_2_ => first | rfl | k_is); (case q3_3_ => first | rfl | k_is); (case q3_4_ => first | rfl | k_is); (case q3_5_ => first | rfl | k_is); (case q3_6_ => first | rfl | k_is); (case q3_7_ => first | rfl | k_is); (case q3_8_ => first | rfl | k_is); (case q3_9_ => first | rfl | k_is); (case q3_10_ => first | rfl | k_is); (case q3_11_ => first | rfl | k_is); (case q3_12_ => first | rfl | k_is); (case q3_13_ => first | rfl | k_is); (case q3_14_ => first | rfl | k_is); (case q3_15_ => first | rfl | k_is); (case q3_16_ => first | rfl | k_is); (case q3_17_ => first | rfl | k_is); (case x4_ => k_exc); (case k4_ => first | rfl | k_is); (case t4_ => first | rfl | k_is); (case v4_ => first | rfl | k_is); (case m4_ => first | rfl | k_is); (case e4_hg_ => first | rfl | k_is); (case e4_hk_ => first | rfl | k_is); (case e4_hs_ => first | rfl | k_is); (case e4_hd_ => first | rfl | k_is); (case e4_ha_ => first | rfl | k_is); (case e4_hn_ => first | rfl | k_is); (case e4_ht_ => first | rfl | k_is); (case e4_hm_ => first | rfl | k_is); (case q4_1_ => first | rfl | k_is); (case q4_2_ => first | rfl | k_is); (case q4_3_ => first | rfl | k_is); (case q4_4_ => first | rfl | k_is); (case q4_5_ => first | rfl | k_is); (case q4_6_ => first | rfl | k_is); (case q4_7_ => first | rfl | k_is); (case q4_8_ => first | rfl | k_is); (case q4_9_ => first | rfl | k_is); (case q4_10_ => first | rfl | k_is); (case q4_11_ => first | rfl | k_is); (case q4_12_ => first | rfl | k_is); (case q4_13_ => first | rfl | k_is); (case q4_14_ => first | rfl | k_is); (case q4_15_ => first | rfl | k_is); (case q4_16_ => first | rfl | k_is); (case q4_17_ => first | rfl | k_is); (case x5_ => k_exc); (case k5_ => first | rfl | k_is); (case t5_ => first | rfl | k_is); (case v5_ => first | rfl | k_is); (case m5_ => first | rfl | k_is); (case e5_hg_ => first | rfl | k_is); (case e5_hk_ => first | rfl | k_is); (case e5_hs_ => first | rfl | k_is); (case e5_hd_ => first | rfl | k_is); (case e5_ha_ => first | rfl | k_is); (case e5_hn_ => first | rfl | k_is); (case e5_ht_ => first | rfl | k_is); (case e5_hm_ => first | rfl | k_is); (case q5_1_ => first | rfl | k_is); (case q5_2_ => first | rfl | k_is); (case q5_3_ => first | rfl | k_is); (case q5_4_ => first | rfl | k_is); (case q5_5_ => first | rfl | k_is); (case q5_6_ => first | rfl | k_is); (case q5_7_ => first | rfl | k_is); (case q5_8_ => first | rfl | k_is); (case q5_9_ => first | rfl | k_is); (case q5_10_ => first | rfl | k_is); (case q5_11_ => first | rfl | k_is); (case q5_12_ => first | rfl | k_is); (case q5_13_ => first | rfl | k_is); (case q5_14_ => first | rfl | k_is); (case q5_15_ => first | rfl | k_is); (case q5_16_ => first | rfl | k_is); (case q5_17_ => first | rfl | k_is); (case z_LONGEST_SIDE => k_is); (case z_ValueError => k_is); (case z_abs => k_is); (case z_all => k_is); (case z_bool => k_is); (case z_enumerate => k_is); (case z_int => k_is); (case z_isinstance => k_is); (case z_len => k_is); (case z_max => k_is); (case z_min => k_is); (case z_range => k_is); (case z_sum => k_is); (case z_tuple => k_is); (case rc_ => rfl); (case lu_ => rfl); (case lv_ => k_is); (case ly_ => rfl); (case ln_ => first | rfl | k_is | decide)
