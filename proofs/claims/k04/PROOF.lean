import PyProof.Rows.All
import Wide.All
import OpenK.AllK
import Wide.FinOn
import HandS.ForMost
import HandS.Walk
import HandS.Conv
import HandS.Zip
import HandS.TupAny
import HandS.TupMul
import HandS.TupLe
import HandS.IsInst
import HandS.Style
import HandS.Flow
import HandS.Small
import HandS.RaiseMore
import HandS.Evl
import PyProof.ReprRoads
import KE.GoesMore
import HandS.SortRule
import HandS.ForExc
import HandS.ExcIs
import HandS.ExcValue
import KE.KIsAll
import PyProof.CallFns
import KE.KItemsList
import HandS.Lambda
import KE.KNestM
import KE.DatumOrd
import PySem.Challenge.RW_gridshares_k04_what_is_a_box
set_option Elab.async false
set_option linter.all false
set_option maxRecDepth 100000
set_option maxHeartbeats 4000000
/-! Defs that are called while nothing is being shown (repr): the stack bears no guard. -/
namespace GS
open PySem PySem.Spec PyProof.Rows L2
abbrev Clr (A : Around) : Prop := A.guards = some []
/-- a def's promise, where no repr is under way -/
structure FnG (P : Program) (w : World) (K : PySem.W.Frag) (mg : Str → Option Value) (base : Heap)
    (k : Nat) (f : Addr) (fd : FuncData) (ps : List Str) (sp : Sp) : Prop where
  num : ∀ vs H Q E, sp vs H Q E → vs.length = ps.length
  go : ∀ (A : Around) (fr : List Env) (s : Shared) (H : Hp) (ar : Args) (us : List Value) (vs : List V) (Q : VK) (E : XK),
    Clr A → Room k A → Env0 P w K mg base A fr s H → BindsTo s fd ar (ps.zip us) → Vals vs us →
    sp vs H Q E → codeAny (model P w) A (.call (.ref f) ar) (CR CX0 fr P w H s Q E) s
section
variable {X : Cx} {k : Nat} {f : Addr} {fd : FuncData} {ps : List Str} {sp : Sp} {x : Str} {p pos : Pos} {e : Expr} {es : List Expr} {t : TA}
/-- f(e, ..) of such a def -/
theorem pe_callG (F : FnG X.prog X.w X.K X.mg X.base k f fd ps sp) (hA : Clr X.A) (hr : Room k X.A) (hg : Gl X x)
    (hm : X.mg x = some (.ref f)) (hk : PySem.W.keepIn X.K (.ref f) = true) (hb : Binds X.K fd ps []) (ha : PA X (e :: es) t)
    (hdb : (x == ("__debug__" : Str)) = false := by decide)
    (he : starEach (e :: es) X.env = (false, eval e X.env) :: starEach es X.env := by rfl)
    (hpl : (backTo pos (starEach es X.env)).any (·.1) = false := by rfl) :
    PE X (.Call (.Name x p) (e :: es) [] pos) (tCall sp [] E0 t) := by
  constructor
  intro pins s σ H Q I h
  apply wpAny_Call_Name_kw
  apply ld_glob I hg hm _ hdb
  apply PySem.W.callWith_K (h₀ := X.base) I.ok.mod.kin hk _ he hpl
  apply thn (ha.run pos pins s σ H _ I h)
  rintro us s1 ⟨vs, H1, J, r, q⟩
  refine ⟨J.kIn, wpAny_call ?_⟩
  have q' : sp vs H1 Q E0 := by rw [List.append_nil] at q; exact q
  have hl : (us ++ []).length = ps.length := by rw [List.append_nil, ← r.length]; exact F.num _ _ _ _ q'
  have hbd := hb s1 us J.kIn hl
  rw [List.append_nil] at hbd
  apply codeAny_mono (F.go X.A X.stack s1 H1 ⟨us, []⟩ us vs Q E0 hA hr J.env0 hbd r q')
  intro r' s' z
  match r', z with
  | .error _, z => exact z.elim
  | .ok (.ret u), z => exact J.after z
  | .ok .next, z => exact z.elim
  | .ok .brk, z => exact z.elim
  | .ok .cont, z => exact z.elim
/-- repr(a list or tuple of data) -/
def rShown (K : PySem.W.Frag) : List V → Hp → VK → Prop := fun xs H Q => ∃ (v : V) (d : PyData), xs = [v] ∧ (∃ a, v = .ref a) ∧
    Dp K H v d ∧ d.showable = true ∧ d.hasDict = false ∧ d.depth ≤ 60 ∧ d.shown.length ≤ sizeLine ∧ Q (.str d.shown) H
theorem call_shown (hA : Clr X.A) (hu : X.A.units + 64 < cLine) : CallR X (.builtin "repr") (rShown X.K) := by
  intro pn s σ H xs us Q J r h
  obtain ⟨v, d, rfl, ⟨a, rfl⟩, hd, h1, h2, h3, h4, q⟩ := h
  cases r with
  | cons r1 r2 =>
    cases r2
    cases r1
    obtain ⟨as, rd⟩ := Dp.reads J d _ _ hd rfl
    exact repr_of_reads' rd h1 (PyData.noDict_hsm h2) hA (by omega) (fun _ _ z => z) (fun h' u tk hk => ⟨.str _, H, J.kept hk, ⟨_, rfl⟩, q⟩) h4
/-- what e gives stays locked from there on -/
theorem pe_frz {te : TE} (h : PE X e te) : PE X e (fun σ H Q => te σ H fun v H1 => ∃ d u, H1 d = some u ∧ Mut (some u) ∧ ∀ od, Q v (upd H1 d (.frz od u))) := by
  constructor
  intro pins s σ H Q I hw
  apply thn (h.run pins s σ H _ I hw)
  rintro v s1 ⟨x, H1, J, r, d, u, hd, mu, q⟩
  obtain ⟨od, J2⟩ := J.lock hd mu
  exact ⟨x, _, J2, r, q od⟩
end
section
variable {P : Program} {w : World} {K : PySem.W.Frag} {mg : Str → Option Value} {base : Heap}
/-- such a def by its body -/
theorem okG {x qual : Str} {st : Stmt} {f : Addr} {fd : FuncData} {N ps : List Str} {k : Nat} {sp : Sp} (F : Fun K x qual st f fd)
    (S : FnScope N ps (defScope st)) (num : ∀ vs H Q E, sp vs H Q E → vs.length = ps.length)
    (hb : ∀ (cdv : Value) (A : Around) (fr : List Env) (s : Shared) (H : Hp) (vs : List V) (Q : VK) (E : XK), Clr A →
      Room k (A.deeper (envOfC qual (defScope st) s.heap.objs.size f cdv)) → sp vs H Q E →
      ∃ t, PSs (cxOf CX0 P w K mg base N qual (defScope st) f cdv A fr s H E).nox (defBody st) t ∧ t { nx := fun _ H' => Q .non H', rt := Q } (start N vs) H) :
    FnG P w K mg base (k + 1) f fd ps sp := by
  obtain ⟨oc, od, kV, doc, pm, an, cdv, ct, osl, rfl, lk, hcd⟩ := F.ex
  refine ⟨num, ?_⟩
  intro A fr s H ar us vs Q E hA hr e0 hbd r hsp
  have kept : ∀ b o, base.get? b = some o → s.heap.get? b = some o := fun b o z => (e0.bs b o z).1
  have hK := e0.mod.kin.keeps kept
  refine codeAny_call_function hr.depth (hK _ _ lk) rfl S.co S.gen rfl (PySem.W.codeRec_of hK hcd) (hbd _ _ _ _ ?_)
  refine wpAny_newFunctionEnv_cells S.kind ?_ ?_
  · rintro ⟨n, v⟩ hy
    exact (S.par n (List.of_mem_zip hy).1).imp (fun z => z) fun z => ⟨z, PySem.W.cellsFrom_some _ _ _ (.inl z)⟩
  intro env he s1 ic
  subst he
  refine ⟨(e0.mod.nolimit.keeps kept).keeps ic.toInCall.keep, codeAny_func ?_⟩
  obtain ⟨t, ht, hq⟩ := hb cdv A fr s H vs Q E hA (hr.deeper _) hsp
  have J : Inv (cxOf CX0 P w K mg base N qual (defScope st) f cdv A fr s H E) [] (start N vs) H s1 := inv_start S hr.hd e0 (num _ _ _ _ hsp) r ic
  apply wpAny_mono (ht.nox.run [] s1 (start N vs) H _ J hq) _ fun _ _ z => z
  intro fl s' z
  match fl, z with
  | .ret u, ⟨v, σ', H', J', rv, q⟩ => exact ⟨v, H', J'.os, J'.bare, J'.base, J'.hok, rv, q⟩
  | .next, ⟨σ', H', J', q⟩ => exact ⟨.non, H', J'.os, J'.bare, J'.base, J'.hok, rfl, q⟩
  | .brk, ⟨_, _, _, q⟩ => exact q.elim
  | .cont, ⟨_, _, _, q⟩ => exact q.elim
end
/-- the script alone is tracked, locked, unless the module itself holds it -/
def scriptH (K : PySem.W.Frag) (a : Addr) (vs : List Value) (ns : List Int) : Hp := fun b =>
  if b = a ∧ K.lookup a = none then some (.frz { cls := .type "list", data := .seq vs.toArray } (.lst (ns.map V.int))) else none
theorem scriptH_some {K : PySem.W.Frag} {a b : Addr} {vs : List Value} {ns : List Int} {o : HO} (h : scriptH K a vs ns b = some o) :
    b = a ∧ K.lookup a = none ∧ o = .frz { cls := .type "list", data := .seq vs.toArray } (.lst (ns.map V.int)) := by
  unfold scriptH at h
  by_cases c : b = a ∧ K.lookup a = none
  · rw [if_pos c] at h
    exact ⟨c.1, c.2, (Option.some.inj h).symm⟩
  · rw [if_neg c] at h
    cases h
theorem lawG {P : Program} {w : World} {K : PySem.W.Frag} {mg mb : Str → Option Value} {k : Nat} {fa a : Addr} {fd : FuncData} {x : Str} {sp : Sp} {s₁ : Shared} {vs : List Value} {ns : List Int}
    (KX : K.In s₁.heap) (g1 : s₁.heap.Ns mainGlobals mg) (g2 : s₁.heap.Ns builtinsNs mb) (g3 : ∀ x : Str, x ≠ "__name__" → mb x = bootBuiltins x) (g4 : s₁.heap.NoLimit) (g5 : s₁.gens = #[])
    (ha : s₁.heap.get? a = some { cls := .type "list", data := .seq vs.toArray }) (hi : IntsAre vs ns) (hl : ns.length ≤ sizeLine) (hr : Room k callerA)
    (F : ∀ base : Heap, K.In base → base.Ns mainGlobals mg → FnG P w K mg base k fa fd [x] sp) (hbd : ∀ (s : Shared) (u : Value), BindsTo s fd ⟨[u], []⟩ [(x, u)])
    (hsp : ∀ H : Hp, SqL K H a (ns.map V.int) → sp [.ref a] H (fun v _ => v = .bl true) E0) :
    codeAny (model P w) callerA (.call (.ref fa) ⟨[.ref a], []⟩) (fun r s' => r = .ok (.ret (.bool true)) ∧ OldK s₁.heap s'.heap ∧ s'.os = s₁.os ∧ AllBare s'.gens) s₁ := by
  have rv : Vals (ns.map V.int) vs := vals_ints hi
  have n1 : vs.length = ns.length := hi.length
  let H := scriptH K a vs ns
  have hok : HOk P w H s₁.heap := by
    intro b o z
    obtain ⟨rfl, _, rfl⟩ := scriptH_some z
    exact ⟨ha, by rw [List.length_map]; exact hl, vs, _, rv, ha⟩
  have hS : SqL K H a (ns.map V.int) := by
    cases c : K.lookup a with
    | none => exact .inl (.inr ⟨_, if_pos ⟨rfl, c⟩⟩)
    | some o =>
      have z := KX a o c
      rw [ha] at z
      cases z
      exact .inr ⟨_, vs.toArray, _, c, rfl, rfl, rfl, by rw [List.size_toArray, n1]; exact hl, by simpa using rv⟩
  have away : ∀ {b : Addr} {o : Obj}, s₁.heap.get? b = some o → (∀ q n, o.data ≠ .seq q n) ∨ K.lookup b ≠ none → H b = none := by
    intro b o z hb
    cases q : H b with
    | none => rfl
    | some u =>
      obtain ⟨rfl, c, rfl⟩ := scriptH_some q
      rw [ha] at z
      cases z
      rcases hb with hb | hb
      · exact absurd rfl (hb _ _)
      · exact absurd c hb
  have nsK : ∀ {b : Addr} {m : Str → Option Value}, s₁.heap.Ns b m → (hidT s₁.heap H).Ns b m := by
    rintro b m ⟨o, es, ep, z, d, r⟩
    exact ⟨o, es, ep, hidT_get z (away z (.inl fun q n y => by rw [d] at y; cases y)), d, r⟩
  have hKb : K.In (hidT s₁.heap H) := fun b o z => hidT_get (KX b o z) (away (KX b o z) (.inr (by rw [z]; exact Option.some_ne_none _)))
  obtain ⟨mc, g6, g7⟩ := g4
  have e0 : Env0 P w K mg (hidT s₁.heap H) callerA [] s₁ H := {
    frames := rfl
    mod := ⟨hKb, nsK g1, ⟨mb, nsK g2, g3⟩, ⟨mc, nsK g6, g7⟩⟩
    bs := fun b o z => of_hidT z
    bsz := Nat.le_of_eq (hidT_size _ _)
    funs := trivial
    frf := fun b z => absurd (show b ∈ ([] : List Addr) from z) List.not_mem_nil
    hok := hok
    bare := .of_eq g5 }
  apply codeAny_mono ((F _ hKb (nsK g1)).go callerA [] s₁ H ⟨[.ref a], []⟩ [.ref a] [.ref a] _ _ rfl hr e0 (hbd s₁ (.ref a)) (.cons rfl .nil) (hsp H hS))
  intro r s' z
  match r, z with
  | .error _, z => exact z.elim
  | .ok .next, z => exact z.elim
  | .ok .brk, z => exact z.elim
  | .ok .cont, z => exact z.elim
  | .ok (.ret u), ⟨v, H', os, bare, un, hok', r', q⟩ =>
    obtain rfl : v = .bl true := q
    obtain rfl : u = Value.bool true := r'
    refine ⟨rfl, OldK.of_keep ?_, os, bare⟩
    intro b o z
    cases c : H b with
    | none => exact un.keep b o z c (fun y => absurd (show b ∈ ([] : List Addr) from y) List.not_mem_nil) List.not_mem_nil
    | some o' =>
      obtain ⟨_, _, rfl⟩ := scriptH_some c
      have c1 := (hok b _ c).1
      have c2 := (hok' b _ (un.frzs b _ _ c)).1
      rw [z] at c1
      cases c1
      exact c2
/-- the goal behind k_head -/
theorem walkG {l : PySem.W.OpenLaw} {n k : Nat} {q : Program} {loose : List Str} {XP : (Str → Option Value) → Heap → Prop} {YP : World → Heap → Prop} {d : DefRec} {K : Params → PySem.W.Frag} {sp : World → Sp} {x : Str}
    (hn : l.most = some n) (hn2 : n ≤ sizeLine) (hdf : d.params.defaults = []) (hr : Room k callerA) (hY : ∀ (w : World) (h : Heap), YP w h → (K w.params).In h)
    (F : ∀ (w : World) (mg : Str → Option Value) (fa : Addr) (h : Heap), (K w.params).In h → h.Ns mainGlobals mg → mg d.name = some (.ref fa) →
      ∃ fd : FuncData, (∀ (s : Shared) (u : Value), BindsTo s fd ⟨[u], []⟩ [(x, u)]) ∧ ∀ base : Heap, (K w.params).In base → base.Ns mainGlobals mg → FnG l.prog w (K w.params) mg base k fa fd [x] (sp w))
    (hsp : ∀ (w : World) (H : Hp) (a : Addr) (ns : List Int), ns.length ≤ n → SqL (K w.params) H a (ns.map V.int) → sp w [.ref a] H (fun v _ => v = .bl true) E0) :
    PySem.W.WalkO q loose XP YP l.row.toRowW d [] (fun f vs => PySem.call f vs) := by
  apply Att.attach_call hn hdf
  intro w s₀ s₁ mg mb fa o pm cd doc a vs ns G Y ho hd hcd hmg hobj hints hlen hg
  obtain ⟨fd, hb, hF⟩ := F w mg fa _ (hY w _ Y) G.T.g hmg
  exact lawG (hY w _ Y) G.T.g G.T.b G.T.builtins G.T.nolimit hg hobj hints (Nat.le_trans hlen hn2) hr hF hb fun H hS => hsp w H a ns hlen hS
end GS
namespace GS
open PySem PySem.Spec PyProof.Rows L2 RZ
/-! what the built-in names stand for -/
theorem bt_len : bootBuiltins "len" = some (.builtin "len") := by decide +kernel
theorem bt_abs : bootBuiltins "abs" = some (.builtin "abs") := by decide +kernel
theorem bt_max : bootBuiltins "max" = some (.builtin "max") := by decide +kernel
theorem bt_min : bootBuiltins "min" = some (.builtin "min") := by decide +kernel
theorem bt_sum : bootBuiltins "sum" = some (.builtin "sum") := by decide +kernel
theorem bt_all : bootBuiltins "all" = some (.builtin "all") := by decide +kernel
theorem bt_any : bootBuiltins "any" = some (.builtin "any") := by decide +kernel
theorem bt_repr : bootBuiltins "repr" = some (.builtin "repr") := by decide +kernel
theorem bt_isinstance : bootBuiltins "isinstance" = some (.builtin "isinstance") := by decide +kernel
theorem bt_int : bootBuiltins "int" = some (.type "int") := by decide +kernel
theorem bt_bool : bootBuiltins "bool" = some (.type "bool") := by decide +kernel
theorem bt_tuple : bootBuiltins "tuple" = some (.type "tuple") := by decide +kernel
theorem bt_list : bootBuiltins "list" = some (.type "list") := by decide +kernel
theorem bt_str : bootBuiltins "str" = some (.type "str") := by decide +kernel
theorem bt_dict : bootBuiltins "dict" = some (.type "dict") := by decide +kernel
/-! heaps: all but p is kept -/
def Kp (p : Addr) (H H' : Hp) : Prop := ∀ b o, b ≠ p → H b = some o → H' b = some o
theorem Kp.refl (p : Addr) (H : Hp) : Kp p H H := fun _ _ _ h => h
theorem Kp.trans {p : Addr} {H H1 H2 : Hp} (a : Kp p H H1) (b : Kp p H1 H2) : Kp p H H2 := fun c o n h => b c o n (a c o n h)
theorem Kp.of {p : Addr} {H H' : Hp} (s : Same H H') : Kp p H H' := fun b o _ h => s b o h
theorem kp_upd {p : Addr} {H : Hp} {o : HO} : Kp p H (upd H p o) := fun b u n h => by rw [upd_ne n]; exact h
theorem kp_new {p q : Addr} {H : Hp} {o : HO} (h : H q = none) : Kp p H (upd H q o) := fun b u n e => by rw [upd_ne (ne_of_none e h)]; exact e
theorem same_new {q : Addr} {H : Hp} {o : HO} (h : H q = none) : Same H (upd H q o) := fun b u e => by rw [upd_ne (ne_of_none e h)]; exact e
theorem sameT {K : PySem.W.Frag} {H H' : Hp} {a : Addr} {xs : List V} (e : Same H H') (h : SqT K H a xs) : SqT K H' a xs := by
  rcases h with (h | ⟨o, h⟩) | h
  · exact .inl (.inl (e _ _ h))
  · exact .inl (.inr ⟨o, e _ _ h⟩)
  · exact .inr h
/-! zip of two tuples -/
theorem walk_zipT {K : PySem.W.Frag} {a b : Addr} {xs ys : List V} : Walk (ItzT K a b) (min xs.length ys.length) (fun H => SqT K H a xs ∧ SqT K H b ys) (YPair (fun i => xs[i]?) (fun i => ys[i]?)) := by
  constructor
  · intro i H hi q
    exact ⟨xs, ys, xs[i]'(by omega), ys[i]'(by omega), q.1, q.2, by simp [show i < xs.length by omega], by simp [show i < ys.length by omega]⟩
  · intro H q
    exact ⟨xs, ys, q.1, q.2, by omega⟩
  · rintro i H v H' hi q ⟨T, x, y, h1, h2, h3, h4, h5⟩
    exact ⟨T, x, y, h1, h2, h3, h4 xs q.1, h5 ys q.2⟩
/-! a list that a comprehension makes: its turns so far -/
def Grow (H0 : Hp) (D : Addr) (acc : Nat → List V) (i : Nat) (H : Hp) : Prop := Same H0 H ∧ H D = some (.lst (acc i))
theorem Grow.start {H0 : Hp} {D : Addr} {acc : Nat → List V} (nD : H0 D = none) (h : acc 0 = []) : Grow H0 D acc 0 (upd H0 D (.lst [])) :=
  ⟨same_new nD, by rw [upd_same, h]⟩
theorem Grow.put {H0 H H4 : Hp} {D : Addr} {acc : Nat → List V} {i : Nat} {y : V} (g : Grow H0 D acc i H) (nD : H0 D = none) (s : Same H H4) (h : acc (i + 1) = acc i ++ [y]) :
    Grow H0 D acc (i + 1) (upd H4 D (.lst (acc i ++ [y]))) := by
  refine ⟨fun b o e => ?_, by rw [upd_same, h]⟩
  rw [upd_ne (ne_of_none e nD)]
  exact s _ _ (g.1 _ _ e)
theorem Grow.skip {H0 H H4 : Hp} {D : Addr} {acc : Nat → List V} {i : Nat} (g : Grow H0 D acc i H) (s : Same H H4) (h : acc (i + 1) = acc i) : Grow H0 D acc (i + 1) H4 :=
  ⟨g.1.trans s, by rw [h]; exact s _ _ g.2⟩
/-! data that is shown: of at most n signs, at most k deep -/
structure Sm (n k : Nat) (d : PyData) : Prop where
  a : d.showable = true
  b : d.hasDict = false
  c : d.depth ≤ k
  d : d.shown.length ≤ n
theorem Sm.int {i : Int} (h : i.natAbs < 10 ^ 12) : Sm 13 0 (.int i) := by
  refine ⟨?_, rfl, Nat.le_refl _, PyData.shown_int_le h⟩
  show decide (i.natAbs.log2 < 1920) = true
  exact decide_eq_true (log2_small (Nat.lt_of_lt_of_le h (Nat.le_trans (show 10 ^ 12 ≤ 2 ^ 40 by decide) (Nat.pow_le_pow_right (by decide) (by decide)))))
theorem Sm.more {n n' k k' : Nat} {d : PyData} (h : Sm n k d) (h1 : n ≤ n') (h2 : k ≤ k') : Sm n' k' d := ⟨h.a, h.b, Nat.le_trans h.c h2, Nat.le_trans h.d h1⟩
theorem sm_all {n k : Nat} : ∀ {ds : List PyData}, (∀ d ∈ ds, Sm n k d) → PyData.showableAll ds = true ∧ PyData.hasDictAll ds = false ∧ PyData.depthAll ds ≤ k ∧ ((PyData.shownAll ds).map (·.length)).sum ≤ n * ds.length ∧ (PyData.shownAll ds).length = ds.length
  | [], _ => ⟨rfl, rfl, Nat.zero_le _, Nat.zero_le _, rfl⟩
  | d :: ds, h => by
    obtain ⟨h1, h2, h3, h4, h5⟩ := sm_all (ds := ds) fun e m => h e (List.mem_cons_of_mem _ m)
    have q := h d List.mem_cons_self
    refine ⟨by simp only [PyData.showableAll, q.a, h1, Bool.and_self], by simp only [PyData.hasDictAll, q.b, h2, Bool.or_self], ?_, ?_, by simp only [PyData.shownAll, List.length_cons, h5]⟩
    · simp only [PyData.depthAll]
      have := q.c
      omega
    · simp only [PyData.shownAll, List.map_cons, List.sum_cons, List.length_cons]
      have e := q.d
      rw [Nat.mul_add]
      omega
theorem Sm.tuple {n k : Nat} {ds : List PyData} (h : ∀ d ∈ ds, Sm n k d) : Sm (n * ds.length + 2 * ds.length + 3) (k + 1) (.tuple ds) := by
  obtain ⟨h1, h2, h3, h4, h5⟩ := sm_all h
  refine ⟨by simpa only [PyData.showable] using h1, by simpa only [PyData.hasDict] using h2, by simp only [PyData.depth]; omega, ?_⟩
  simp only [PyData.shown]
  have := tupleText_len_le (PyData.shownAll ds)
  rw [h5] at this
  omega
theorem Sm.list {n k : Nat} {ds : List PyData} (h : ∀ d ∈ ds, Sm n k d) : Sm (n * ds.length + 2 * ds.length + 3) (k + 1) (.list ds) := by
  obtain ⟨h1, h2, h3, h4, h5⟩ := sm_all h
  refine ⟨by simpa only [PyData.showable] using h1, by simpa only [PyData.hasDict] using h2, by simp only [PyData.depth]; omega, ?_⟩
  simp only [PyData.shown]
  have := listText_len_le (PyData.shownAll ds)
  rw [h5] at this
  omega
theorem sm_ints {B : Nat} {xs : List Int} (h : ∀ x ∈ xs, x.natAbs ≤ B) (hB : B < 10 ^ 12) : ∀ d ∈ xs.map PyData.int, Sm 13 0 d := by
  intro d m
  obtain ⟨x, hx, rfl⟩ := List.mem_map.mp m
  exact Sm.int (Nat.lt_of_le_of_lt (h x hx) hB)
theorem dpAll_ints {K : PySem.W.Frag} {H : Hp} : ∀ xs : List Int, DpAll K H (xs.map V.int) (xs.map PyData.int)
  | [] => .nil
  | x :: xs => .cons (.int x) (dpAll_ints xs)
theorem dp_tup {K : PySem.W.Frag} {H : Hp} {a : Addr} {xs : List Int} (h : SqT K H a (xs.map V.int)) : Dp K H (.ref a) (.tuple (xs.map PyData.int)) := .tup h (dpAll_ints xs)
theorem dp_lst {K : PySem.W.Frag} {H : Hp} {a : Addr} {xs : List Int} (h : SqL K H a (xs.map V.int)) : Dp K H (.ref a) (.list (xs.map PyData.int)) := .lst h (dpAll_ints xs)
theorem canLay_ints : ∀ xs : List Int, PyData.canLayAll0 (xs.map PyData.int) = true ∧ PyData.depthAll (xs.map PyData.int) = 0
  | [] => ⟨rfl, rfl⟩
  | x :: xs => by
    obtain ⟨h1, h2⟩ := canLay_ints xs
    constructor
    · simp only [List.map_cons, PyData.canLayAll0, PyData.canLay0, h1, Bool.and_self]
    · simp only [List.map_cons, PyData.depthAll, PyData.depth, h2, Nat.max_self]
theorem shaped_lst (xs : List Int) : SeqAt.shaped (.list (xs.map PyData.int)) = true := by
  obtain ⟨h1, h2⟩ := canLay_ints xs
  unfold SeqAt.shaped
  rw [Bool.and_eq_true, decide_eq_true_eq]
  exact ⟨by simp only [PyData.canLay0, h1], by simp only [PyData.depth, h2]; omega⟩
theorem shaped_tup (xs : List Int) : SeqAt.shaped (.tuple (xs.map PyData.int)) = true := by
  obtain ⟨h1, h2⟩ := canLay_ints xs
  unfold SeqAt.shaped
  rw [Bool.and_eq_true, decide_eq_true_eq]
  exact ⟨by simp only [PyData.canLay0, h1], by simp only [PyData.depth, h2]; omega⟩
theorem eqvAll_ints : ∀ xs ys : List Int, PyData.eqvAll (xs.map PyData.int) (ys.map PyData.int) = decide (xs = ys)
  | [], [] => by simp [PyData.eqvAll]
  | [], _ :: _ => by simp [PyData.eqvAll]
  | _ :: _, [] => by simp [PyData.eqvAll]
  | x :: xs, y :: ys => by
    simp only [List.map_cons, PyData.eqvAll, PyData.eqv, eqvAll_ints xs ys, List.cons.injEq]
    by_cases h : x = y
    · subst h; simp
    · simp [h]
theorem small_line {n : Nat} (h : n ≤ 100000) : n ≤ sizeLine := by rw [sizeLine_eq]; omega
theorem small_lt {n : Nat} (h : n ≤ 100000) : n < sizeLine := by rw [sizeLine_eq]; omega
theorem at_get {xs : List V} {i : Int} {v : V} (h0 : 0 ≤ i) (h : xs[i.toNat]? = some v) : atI xs i = some v := by
  have e : i = ((i.toNat : Nat) : Int) := by omega
  rw [e]
  exact atI_nat h
theorem ix_in {n : Nat} {i : Int} (h0 : 0 ≤ i) (h1 : i < n) : ixN n i = some i.toNat := by
  unfold ixN
  rw [if_pos h0, if_pos h1]
end GS
namespace GS
open PySem PySem.Spec PyProof.Rows L2 RZ
/-! t * k: the same tuple for 1, an empty one for 0 -/
theorem tmul_same (l : Addr) (items : Array Value) (n : Nat) (dd : Option Addr) (sl : Array (Option Value)) (u : Tok) :
    Meets (Builtin.«tuple.__mul__» ⟨[.ref l, .int 1 u], []⟩) (fun _ R s => s.heap.get? l = some { cls := .type "tuple", dict := dd, data := .seq items n, slots := sl } ∧ R (.ok (.ret (Value.ref l))) s) :=
  .of_wp fun prog w A R s h => by
    obtain ⟨hp, g, d, tk, os⟩ := s
    obtain ⟨hl, h⟩ := h
    have f1 := AutoSeq1.idx_int
    wp_walk using wpAny_loadPart' hl
    repeat (first
      | (refine wpAny_ite_false (by decide) ?_; wp_walk using wpAny_loadPart' hl)
      | (refine wpAny_ite_true (decide_eq_true (Bool.or_true _)) ?_; wp_walk using wpAny_loadPart' hl)
      | (refine wpAny_ite_true (by decide) ?_; wp_walk using wpAny_loadPart' hl))
    exact ⟨_, rfl, h⟩
theorem tmul_none (l : Addr) (items : Array Value) (n : Nat) (dd : Option Addr) (sl : Array (Option Value)) (u : Tok) (c1 : items.isEmpty = false) :
    Meets (Builtin.«tuple.__mul__» ⟨[.ref l, .int 0 u], []⟩) (fun _ R s => s.heap.get? l = some { cls := .type "tuple", dict := dd, data := .seq items n, slots := sl } ∧
      R (.ok (.ret (Value.ref s.heap.objs.size))) { s with heap := s.heap.push { cls := Value.type "tuple", data := Data.seq #[] }, toks := s.toks }) :=
  .of_wp fun prog w A R s h => by
    obtain ⟨hp, g, d, tk, os⟩ := s
    obtain ⟨hl, h⟩ := h
    have f1 := AutoSeq1.idx_int
    wp_walk using wpAny_loadPart' hl
    repeat (first
      | (refine wpAny_ite_false (by decide) ?_; wp_walk using wpAny_loadPart' hl)
      | (refine wpAny_ite_false (decide_eq_false (by rw [c1]; decide)) ?_; wp_walk using wpAny_loadPart' hl)
      | (refine wpAny_ite_true (by decide) ?_; wp_walk using wpAny_loadPart' hl))
    exact ⟨_, rfl, h⟩
def rRepA (K : PySem.W.Frag) : R2 := fun x y H Q => ∃ l k xs, x = .ref l ∧ y = .int k ∧ H l = some (.tup xs) ∧ xs ≠ [] ∧ 0 ≤ k ∧ k ≤ 1000 ∧ xs.length ≤ 1000 ∧
  ∀ H' c, Same H H' → H' c = some (.tup (List.replicate k.toNat xs).flatten) → Q (.ref c) H'
section
variable {X : Cx}
theorem op_repA : OpR X (binaryOp .Mult) (rRepA X.K) := by
  intro pn s σ H x y v u Q J rx ry h
  obtain ⟨l, k, xs, rfl, rfl, hl, hne, h0, h2, hz, q⟩ := h
  have hT : SqT X.K H l xs := SqT.of hl
  by_cases hk : 2 ≤ k
  · exact op_repT pn s σ H _ _ v u Q J rx ry ⟨l, k, xs, rfl, rfl, hT, hne, hk, h2, hz, fun p np => q _ p (same_new np) upd_same⟩
  cases rx
  obtain ⟨t, rfl⟩ := ry
  obtain ⟨its, r, ⟨⟨cls, dd, data, sl⟩, ho, hc, n, hd⟩, hs⟩ := J.tuple hT
  simp only at hc hd
  subst hc hd
  have hi : its.toArray.isEmpty = false := by
    cases its with
    | nil => exact absurd (List.eq_nil_of_length_eq_zero r.length) hne
    | cons a b => rfl
  rcases (show k = 0 ∨ k = 1 by omega) with rfl | rfl
  · refine wpAny_binaryOp_repeat_ref (T := "tuple") (U := "int") (by decide) ⟨_, ho, rfl⟩ (fun s' => typeIs_int s' 0 t) noFill_tuple_mul F.fills_int_mul F.slot_int_rmul repeat_tuple F.slot_int_index.lookup
      (call_meets F.slot_int_rmul (typeIs_int s 0 t) F.entry_int_rmul (F.args_int_rmul_2 _ _) (int_rmul_tuple 0 t l its.toArray n dd sl)
        ⟨ho, rfl, ⟨_, ho, rfl⟩, call_meets F.slot_tuple_mul ⟨_, ho, rfl⟩ F.entry_tuple_mul (F.args_tuple_mul_2 _ _) (tmul_none l its.toArray n dd sl t hi) ⟨ho, ?_⟩⟩)
    refine ⟨.ref s.heap.objs.size, _, J.laid (t' := s.toks) (o := .tup []) (fun b ob z => Heap.get?_push_of_some _ z) (Nat.le_refl _) ?_, rfl, q _ _ (same_new (J.hok.fresh (Nat.le_refl _))) upd_same⟩
    exact ⟨Nat.zero_le _, [], .nil, IsTup.new _ _⟩
  · refine wpAny_binaryOp_repeat_ref (T := "tuple") (U := "int") (by decide) ⟨_, ho, rfl⟩ (fun s' => typeIs_int s' 1 t) noFill_tuple_mul F.fills_int_mul F.slot_int_rmul repeat_tuple F.slot_int_index.lookup
      (call_meets F.slot_int_rmul (typeIs_int s 1 t) F.entry_int_rmul (F.args_int_rmul_2 _ _) (int_rmul_tuple 1 t l its.toArray n dd sl)
        ⟨ho, rfl, ⟨_, ho, rfl⟩, call_meets F.slot_tuple_mul ⟨_, ho, rfl⟩ F.entry_tuple_mul (F.args_tuple_mul_2 _ _) (tmul_same l its.toArray n dd sl t) ⟨ho, ?_⟩⟩)
    refine ⟨.ref l, H, J, rfl, q H l (Same.refl _) ?_⟩
    have e : (List.replicate (1 : Int).toNat xs).flatten = xs := by simp
    rw [e]
    exact hl
/-- sum of a tuple of ints -/
theorem cr_sumT (hc : X.calm = true) : CallR X (.builtin "sum") (fun vs H Q => ∃ (a : Addr) (ns : List Int), vs = [V.ref a] ∧ SqT X.K H a (ns.map V.int) ∧ Q (.int ns.sum) H) := by
  intro pn s σ H vs us Q J r h
  obtain ⟨a, ns, rfl, hs, q⟩ := h
  obtain ⟨its, rv, p, _⟩ := J.tuple hs
  rw [Vals.ref1 r]
  have hn : its.length = ns.length := by rw [← rv.length, List.length_map]
  have hT : s.heap.IsTuple a its.toArray := p
  refine call_sum_walkG (wpAny_pyIter_tuple hT ?_)
  have hlt : a < s.heap.objs.size := by obtain ⟨o, ho, _⟩ := hT; exact Heap.lt_size ho
  refine ⟨s.heap.objs.size, _, _, _, _, _, fun i => ns.getD i 0, rfl, Walks.tuple (A := X.A.in1) (J.ok.hd hc) _ a (Nat.ne_of_lt hlt) its.toArray, ⟨⟨_, Heap.get?_push_size _ rfl, rfl, rfl⟩, ?_⟩, ?_, ?_, ?_⟩
  · obtain ⟨o, ho, z⟩ := hT
    exact ⟨o, Heap.get?_push_of_some _ ho, z⟩
  · intro b hb
    have e : b = s.heap.objs.size ∨ b = a := by simpa using hb
    have : (s.heap.push { cls := .type "tuple_iterator", data := .fields #[.ref a, .int 0 0] }).objs.size = s.heap.objs.size + 1 := Heap.size_push ..
    show b < (s.heap.push { cls := .type "tuple_iterator", data := .fields #[.ref a, .int 0 0] }).objs.size
    rw [this]
    rcases e with e | e
    · rw [e]
      exact Nat.lt_succ_self _
    · rw [e]
      exact Nat.lt_succ_of_lt hlt
  · intro i v hv
    have hv' : its[i]? = some v := by simpa using hv
    have hi : i < ns.length := by
      have := (List.getElem?_eq_some_iff.mp hv').1
      omega
    obtain ⟨u, hu, ru⟩ := rv.get (i := i) (x := .int ns[i]) (by rw [List.getElem?_map, List.getElem?_eq_getElem hi]; rfl)
    rw [hv'] at hu
    cases hu
    obtain ⟨t, rfl⟩ := ru
    refine ⟨t, ?_⟩
    show Value.int ns[i] t = Value.int (ns.getD i 0) t
    rw [List.getD_eq_getElem?_getD, List.getElem?_eq_getElem hi]
    rfl
  · intro h' tk t' hk
    have e : preSum (fun i => ns.getD i 0) its.toArray.size = ns.sum := by
      rw [preSum_getD, List.size_toArray, hn, List.take_of_length_le (Nat.le_refl _)]
    rw [e]
    refine ⟨.int _, H, J.kept fun b o z => hk b o ?_ (Heap.get?_push_of_some _ z), ⟨_, rfl⟩, q⟩
    intro y
    have : b = s.heap.objs.size := by simpa using y
    exact absurd (Heap.lt_size z) (by rw [this]; exact Nat.lt_irrefl _)
end
theorem cut_take {xs : List V} {i : Int} (h : 0 ≤ i) : cutV xs none (some i) = xs.take i.toNat := by
  obtain ⟨k, rfl⟩ : ∃ k : Nat, i = k := ⟨i.toNat, by omega⟩
  unfold cutV
  rw [HT.sIx_none, HT.sIx_nat, Int.toNat_natCast, List.drop_zero, Nat.sub_zero]
  rcases Nat.le_total k xs.length with z | z
  · rw [Nat.min_eq_left z]
  · rw [Nat.min_eq_right z, List.take_of_length_le (Nat.le_refl _), List.take_of_length_le z]
theorem cut_drop {xs : List V} {i : Int} (h : 0 ≤ i) : cutV xs (some i) none = xs.drop i.toNat := by
  obtain ⟨k, rfl⟩ : ∃ k : Nat, i = k := ⟨i.toNat, by omega⟩
  unfold cutV
  rw [HT.sIx_none, HT.sIx_nat, Int.toNat_natCast]
  rcases Nat.le_total k xs.length with z | z
  · rw [Nat.min_eq_left z]
    exact List.take_of_length_le (by rw [List.length_drop]; exact Nat.le_refl _)
  · rw [Nat.min_eq_right z, List.drop_of_length_le (Nat.le_refl _), List.drop_of_length_le z]
    simp
theorem rd_slA {K : PySem.W.Frag} {H : Hp} {a : Addr} {xs : List V} {lo hi : Option Int} {Q : VK} (ha : H a = some (.tup xs)) (h : ∀ H' c, Same H H' → H' c = some (.tup (cutV xs lo hi)) → Q (.ref c) H') :
    rSlA K (.ref a) lo hi H Q := by
  refine ⟨a, xs, rfl, SqT.of ha, fun z => h H a (Same.refl _) ?_, fun _ p np => h _ p (same_new np) upd_same⟩
  rw [ha]
  unfold cutV
  rw [z.1, z.2, List.drop_zero, Nat.sub_zero, List.take_of_length_le (Nat.le_refl _)]
theorem rd_catA {K : PySem.W.Frag} {H : Hp} {a b : Addr} {xs ys : List V} {Q : VK} (ha : H a = some (.tup xs)) (hb : H b = some (.tup ys)) (hl : xs.length + ys.length ≤ sizeLine) (h : ∀ H' c, Same H H' → H' c = some (.tup (xs ++ ys)) → Q (.ref c) H') :
    rCatA K (.ref a) (.ref b) H Q :=
  ⟨a, b, xs, ys, rfl, rfl, SqT.of ha, SqT.of hb, hl, fun z => h H b (Same.refl _) (by rw [hb, z]; rfl), fun _ z => h H a (Same.refl _) (by rw [ha, z, List.append_nil]), fun _ _ p np => h _ p (same_new np) upd_same⟩
/-! by named readings, for comprehensions' blocks -/
def rLenS (K : PySem.W.Frag) : List V → Hp → VK → Prop := fun xs H Q => ∃ p ys, xs = [.ref p] ∧ (SqL K H p ys ∨ SqT K H p ys) ∧ Q (.int ys.length) H
theorem len_seq {X : Cx} : CallR X (.builtin "len") (rLenS X.K) := call_len_seq
def rTupO (K : PySem.W.Frag) : List V → Hp → VK → Prop := fun xs H Q => ∃ p ys, xs = [.ref p] ∧ ((SqL K H p ys ∧ ∀ l, H l = none → Q (.ref l) (upd H l (.tup ys))) ∨ (SqT K H p ys ∧ Q (.ref p) H))
theorem tup_of {X : Cx} : CallR X (.type "tuple") (rTupO X.K) := call_tuple_of
def rLstO (K : PySem.W.Frag) : List V → Hp → VK → Prop := fun xs H Q => ∃ p ys, xs = [.ref p] ∧ (SqL K H p ys ∨ SqT K H p ys) ∧ ∀ l, H l = none → Q (.ref l) (upd H l (.lst ys))
theorem lst_of {X : Cx} : CallR X (.type "list") (rLstO X.K) := call_list_of
/-- what is new may change -/
theorem kp_same {p : Addr} {H H1 H2 : Hp} (np : H p = none) (s : Same H H1) (k : Kp p H1 H2) : Same H H2 := fun b o e => k b o (ne_of_none e np) (s b o e)
/-- a constant of the module -/
theorem pe_cst {X : Cx} {x : Str} {i : Int} {pos : Pos} (hg : Gl X x) (h : ∃ t, X.mg x = some (.int i t)) (hd : (x == ("__debug__" : Str)) = false := by decide) : PE X (.Name x pos) (tC (.int i)) := by
  obtain ⟨t, e⟩ := h
  exact pe_glob (v := .int i) hg e ⟨t, rfl⟩ hd
end GS
namespace GS
open PySem PySem.Spec PyProof.Rows L2 RZ
open AutoSeq1 (wpAny_loadPart')
/-! enumerate(tuple) -/
theorem meets_enumT (l : Addr) (items : Array Value) (n : Nat) (dct : Option Addr) (sl : Array (Option Value)) :
    Meets (Builtin.«enumerate.__new__» ⟨[.type "enumerate", .ref l], []⟩) (fun _ R s => s.heap.get? l = some { cls := .type "tuple", dict := dct, data := .seq items n, slots := sl } ∧
      R (.ok (.ret (.ref (s.heap.push { cls := .type "tuple_iterator", data := .fields #[.ref l, .int 0 0] }).objs.size)))
        { s with heap := (s.heap.push { cls := .type "tuple_iterator", data := .fields #[.ref l, .int 0 0] }).push { cls := .type "enumerate", data := .fields #[.none, .bool false, .ref s.heap.objs.size, rawInt 0, .none, .none] } }) :=
  .of_wp fun prog w A R s h => by
    obtain ⟨hp, g, d, tk, os⟩ := s
    obtain ⟨hl, h⟩ := h
    have hsub := sub_enumerate
    have hT : Heap.IsTuple (Shared.heap ⟨hp, g, d, tk, os⟩) l items := ⟨_, hl, rfl, n, rfl⟩
    wp_walk using wpAny_loadPart' hl
    refine wpAny_stack_any fun st => wpAny_pure ?_
    split
    · rename_i c _ _ _ _ _
      cases (c == Value.type "enumerate") <;> (wp_walk using wpAny_loadPart' hl, wpAny_pyIter_tuple hT) <;> exact ⟨_, rfl, h⟩
    · wp_walk using wpAny_loadPart' hl, wpAny_pyIter_tuple hT
      exact ⟨_, rfl, h⟩
section
variable {prog : Program} {w : World} {A : Around} {E : Value → Shared → Prop} {s : Shared}
theorem call_enumT {l : Addr} {items : Array Value} {Q : Value → Shared → Prop} (hL : s.heap.IsTuple l items)
    (h : ∀ h', IsEnum h' (s.heap.objs.size + 1) s.heap.objs.size 0 .none → h'.IsTupleIter s.heap.objs.size l 0 → (∀ b o, s.heap.get? b = some o → h'.get? b = some o) → Q (.ref (s.heap.objs.size + 1)) { s with heap := h' }) :
    wpAny (model prog w) A (call (.type "enumerate") [.ref l]) Q E s := by
  obtain ⟨⟨c, dct, dt, sl⟩, hl, hc, n, hd⟩ := hL
  obtain rfl : c = .type "tuple" := hc
  obtain rfl : dt = .seq items n := hd
  refine callType_new F.called_enumerate (by decide) (F.typeCall_enumerate_1 _) (F.newCall_enumerate_1 _) (fun obj => F.args_object_init_2 obj _) F.entry_enumerate_new (meets_enumT l items n dct sl) ⟨hl, ?_⟩
  let g1 := s.heap.push { cls := .type "tuple_iterator", data := .fields #[.ref l, .int 0 0] }
  let o2 : Obj := { cls := .type "enumerate", data := .fields #[.none, .bool false, .ref s.heap.objs.size, rawInt 0, .none, .none] }
  have hz : g1.objs.size = s.heap.objs.size + 1 := Heap.size_push ..
  have he : (g1.push o2).get? (s.heap.objs.size + 1) = some o2 := by rw [← hz]; exact Heap.get?_push_size _ rfl
  show Shared.TypeIs { s with heap := g1.push o2 } (.ref g1.objs.size) "enumerate" ∧ _
  rw [hz]
  exact ⟨⟨o2, he, rfl⟩, h _ he ⟨_, Heap.get?_push_of_some _ (Heap.get?_push_size _ rfl), rfl, rfl⟩ fun b o x => Heap.get?_push_of_some _ (Heap.get?_push_of_some _ x)⟩
end
section
variable {prog : Program} {w : World} {A : Around} {E : Value → Shared → Prop} {s : Shared}
theorem enumT_end {e it l : Addr} {i : Int} {j : Nat} {items : Array Value} {old : Value} {Q : Option Value → Shared → Prop} (hh : A.handled = none)
    (he : IsEnum s.heap e it i old) (hit : s.heap.IsTupleIter it l j) (hl : s.heap.IsTuple l items) (hx : items[j]? = none)
    (hQ : ∀ h', Heap.ExtBut it s.heap h' → Q none { s with heap := h' }) : wpAny (model prog w) A (pyNext (.ref e)) Q E s := by
  have tE : s.TypeIs (.ref e) "enumerate" := ⟨_, he, rfl⟩
  unfold pyNext
  apply wpAny_bind
  apply wpAny_attempt
  apply wpAny_callSpecial?_slot (name := Str.ofString "__next__") tE F.slot_enumerate_next
  apply wpAny_call_entry F.slot_enumerate_next tE F.entry_enumerate_next _ (F.args_enumerate_next_1 _)
  show wpAny _ _ (field (.ref e) 2 >>= _) _ _ _
  apply wpAny_bind
  apply wpAny_field he rfl (x := .ref it) rfl
  apply wpAny_bind
  apply wpAny_nextOf_tuple_end (A := A.in1) (show A.in1.handled = none from hh) hit hl hx
  rintro h' x eb ⟨o, ho, hc⟩
  refine wpAny_bind ?_
  refine wpAny_isInstance (T := "StopIteration") (b := true) (v := .ref x) ⟨o, ho, hc⟩ isSubtype_stop ?_
  exact wpAny_pure (hQ _ eb)
end
def IteT (K : PySem.W.Frag) (a : Addr) : It where
  go := fun i H => ∃ (xs : List V) (x : V), SqT K H a xs ∧ xs[i]? = some x
  yld := fun i H v H' => ∃ T x, v = .ref T ∧ H T = none ∧ H' = upd H T (.tup [.int (i : Nat), x]) ∧ ∀ xs, SqT K H a xs → xs[i]? = some x
  stop := fun i H => ∃ xs : List V, SqT K H a xs ∧ xs.length ≤ i
theorem turn_enumT {P : Program} {w : World} {K : PySem.W.Frag} {elts : List Expr} {kk : Nat} {tpos : Pos} (a e it : Addr) :
    Turn P w K (.Tuple elts kk tpos) (IteT K a) [e, it] e (fun i h => (∃ old, IsEnum h e it ((i : Nat) : Int) old) ∧ h.IsTupleIter it a i ∧ e ≠ it ∧ a ≠ it ∧ e ≠ a) where
  mem := List.mem_cons_self
  obj := fun i h st b hb => by
    obtain ⟨⟨old, he⟩, ⟨o, ho, _, hd⟩, _⟩ := st
    rcases List.mem_cons.mp hb with rfl | hb
    · exact ⟨_, he, fun v q => nomatch q⟩
    · rw [List.mem_singleton.mp hb]
      exact ⟨o, ho, fun v q => by rw [hd] at q; cases q⟩
  keep := fun i h h' ⟨⟨old, he⟩, hi, r⟩ k => ⟨⟨old, k e (by simp) _ he⟩, hi.at fun o q => k it (by simp) o q, r⟩
  item := by
    intro X hP hw hK hc i pn s σ H E J hf st hg
    subst hP hw hK
    obtain ⟨⟨old, he⟩, hit, hne, hai, hea⟩ := st
    obtain ⟨xs, x, hq, hx⟩ := hg
    obtain ⟨its, rv, p, hz⟩ := J.tuple hq
    obtain ⟨u, hu, ru⟩ := rv.get hx
    have hel : e < s.heap.objs.size := Heap.lt_size he
    have hil : it < s.heap.objs.size := by obtain ⟨_, q, _⟩ := hit; exact Heap.lt_size q
    have hlt : i < its.toArray.size := by
      have := (List.getElem?_eq_some_iff.mp hu).1
      simpa using this
    refine wpAny_pyNext_enum_itemD (Draws.tuple (A := X.A.in1) (J.ok.hd hc) it a hai its.toArray) he ⟨hit, p⟩ hlt hne (by simp [hne, hea]) fun y h' tk hy ho hst hT hsz hk => ?_
    have ey : y = u := by
      have hy' : its[i]? = some y := by simpa using hy
      rw [hu] at hy'
      exact (Option.some.inj hy').symm
    subst ey
    refine ⟨_, rfl, wpAny_letOwnedTupleGo_enum (s := { s with heap := h', toks := tk + 1 }) ho fun h'' he' sb => ?_⟩
    have hT2 : h''.get? s.heap.objs.size = some { cls := .type "tuple", data := .seq #[.int i tk, y] } := (sb.2 _ (Nat.ne_of_gt hel)).trans hT
    have new : ObjOk X.prog X.w (upd H s.heap.objs.size (.tup [.int (i : Nat), x])) h'' s.heap.objs.size (.tup [.int (i : Nat), x]) :=
      ⟨small_line (by show 2 ≤ 100000; omega), [.int i tk, y], .cons ⟨_, rfl⟩ (.cons ru .nil), ⟨_, hT2, rfl, _, rfl⟩⟩
    have J1 : Inv X pn σ (upd H s.heap.objs.size (.tup [.int (i : Nat), x])) { s with heap := h'', toks := tk + 1 } :=
      J.turnedNew (ch := [e, it]) (fun b ob hb q => (sb.2 b (fun z => hb (by simp [z]))).trans (hk b ob (fun z => hb (by simp [z])) (fun z => hb (by simp [z])) q)) hf (Nat.le_refl _) new
    refine ⟨.ref s.heap.objs.size, _, J1, rfl, ⟨_, x, rfl, J.hok.fresh (Nat.le_refl _), rfl, fun ys hy => by rw [J.tuple_inj hy hq]; exact hx⟩, ⟨⟨y, ?_⟩, hst.1.at fun o q => (sb.2 it (Ne.symm hne)).trans q, hne, hai, hea⟩, fun b hb => ?_⟩
    · rw [show ((i + 1 : Nat) : Int) = (i : Int) + 1 by omega]
      exact he'
    · have hb' : b < s.heap.objs.size := by
        rcases List.mem_cons.mp hb with z | z
        · rw [z]; exact hel
        · rw [List.mem_singleton.mp z]; exact hil
      rw [upd_ne (Nat.ne_of_lt hb')]
      exact (hf b hb).1
  done := by
    intro X hP hw hK hc i pn s σ H E J hf st hg
    subst hP hw hK
    obtain ⟨⟨old, he⟩, hit, hne, hai, hea⟩ := st
    obtain ⟨xs, hq, hx⟩ := hg
    obtain ⟨its, rv, p, hz⟩ := J.tuple hq
    obtain ⟨f0, f1, f2, f3, f4, f5⟩ := hf it (by simp)
    have hl := rv.length
    exact enumT_end (J.ok.hd hc) he hit p (by simp; omega) fun h' eb => ⟨rfl, J.turned (t' := s.toks) (fun b o hb q => eb b o hb q) f0 f1 f3 f4 f5⟩
  self := fun A i s Q E ⟨⟨_, he⟩, _⟩ h => wpAny_pyIter_enum he h
def iEnumT (K : PySem.W.Frag) (ta : TA) : TI := fun σ H R => ta σ H fun vs H1 => ∃ a xs, vs = [.ref a] ∧ SqT K H1 a xs ∧ R (IteT K a) H1
theorem pi_enumT {X : Cx} {e : Expr} {ta : TA} {p pos tpos : Pos} {elts : List Expr} {kk : Nat} (hg : Gl X "enumerate") (hm : X.mg "enumerate" = none) (ha : PA X [e] ta) (hs : starEach [e] X.env = [(false, eval e X.env)] := by rfl) :
    PI X (.Tuple elts kk tpos) (.Call (.Name "enumerate" p) [e] [] pos) (iEnumT X.K ta) := by
  constructor
  intro pn s σ H R J h
  refine Call_ (ld_blt J hg hm boot_enumerate ?_)
  refine PyProof.Rows.callWith_type1 (thn (ha.run pos pn s σ H _ J h) ?_) hs rfl
  rintro us s1 ⟨vs, H1, J1, r1, a, xs, rfl, hq, q⟩
  obtain ⟨its, rv, hT, hz⟩ := J1.tuple hq
  rw [Vals.ref1 r1]
  refine call_enumT hT fun h' he hit hk => wpAny_pyIter_enum he ?_
  have hal : a < s1.heap.objs.size := by obtain ⟨o, ho, _⟩ := hT; exact Heap.lt_size ho
  have J2 : Inv X pn σ H1 { s1 with heap := h' } := J1.kept (t' := s1.toks) hk
  refine ⟨s1.heap.objs.size + 1, [s1.heap.objs.size + 1, s1.heap.objs.size], _, _, H1, rfl, J2, turn_enumT a (s1.heap.objs.size + 1) s1.heap.objs.size, ⟨⟨.none, he⟩, hit, Nat.succ_ne_self _, Nat.ne_of_lt hal, Nat.ne_of_gt (Nat.lt_succ_of_lt hal)⟩, fun b hb => ?_, q⟩
  have hle : s1.heap.objs.size ≤ b := by
    rcases List.mem_cons.mp hb with z | z
    · rw [z]; exact Nat.le_add_right _ _
    · rw [List.mem_singleton.mp z]; exact Nat.le_refl _
  exact J1.fpOk hle (J1.hok.fresh hle)
theorem walk_enumT {K : PySem.W.Frag} {a : Addr} {xs : List V} : Walk (IteT K a) xs.length (fun H => SqT K H a xs) (YPair (fun i => some (.int (i : Nat))) (fun i => xs[i]?)) := by
  constructor
  · intro i H hi q
    exact ⟨xs, xs[i], q, by simp [hi]⟩
  · intro H q
    exact ⟨xs, q, Nat.le_refl _⟩
  · rintro i H v H' _ q ⟨T, x, h1, h2, h3, h4⟩
    exact ⟨T, .int (i : Nat), x, h1, h2, h3, rfl, h4 xs q⟩
theorem bt_sorted : bootBuiltins "sorted" = some (.builtin "sorted") := by decide +kernel
/-- a walk, by what holds behind each turn: for whatever a turn does (B) and whatever comes behind (Z) -/
theorem wit {J : It} {n : Nat} {G : Hp → Prop} {Y : Nat → Hp → V → Hp → Prop} (w : Walk J n G Y) {B : (Hp → Prop) → V → Hp → Prop} {Z : Hp → Prop} {H0 : Hp} (Pv : Nat → Hp → Prop) (h0 : Pv 0 H0)
    (hG : ∀ i H, i ≤ n → Pv i H → G H) (hs : ∀ i x H H', i < n → Pv i H → Y i H x H' → B (Pv (i + 1)) x H') (hd : ∀ H, Pv n H → Z H) :
    ∃ W : Nat → Nat → Hp → Prop, (∃ m, W 0 m H0) ∧ ∀ i m H, W i m H → (J.stop i H ∧ Z H) ∨ (J.go i H ∧ ∃ Nx : Hp → Prop, (∀ H', Nx H' → ∃ m', m' < m ∧ W (i + 1) m' H') ∧ ∀ x H', J.yld i H x H' → B Nx x H') := by
  refine ⟨fun i m H => m = n - i ∧ i ≤ n ∧ Pv i H, ⟨n, rfl, Nat.zero_le _, h0⟩, ?_⟩
  rintro i m H ⟨rfl, hi, p⟩
  by_cases h : i < n
  · right
    exact ⟨w.goes i H h (hG i H hi p), Pv (i + 1), fun H' p' => ⟨n - (i + 1), by omega, rfl, h, p'⟩, fun x H' y => hs i x H H' h p (w.yields i H x H' h (hG i H hi p) y)⟩
  · obtain rfl : i = n := by omega
    exact .inl ⟨w.stops H (hG i H hi p), hd H p⟩
theorem bt_enumerate : bootBuiltins "enumerate" = some (.type "enumerate") := boot_enumerate
end GS
namespace GS
open PySem PySem.Spec PyProof.Rows L2 RZ HT
/-! ### xs[i] by values, xs[i] += n -/
def rGetL (K : PySem.W.Frag) : V → V → Hp → VK → Prop := fun o i H Q => ∃ (p : Addr) (xs : List V) (k : Nat) (v : V), o = .ref p ∧ i = .int (k : Int) ∧ SqL K H p xs ∧ xs[k]? = some v ∧ Q v H
theorem get_list {X : Cx} : PGet X (rGetL X.K) := by
  intro pins s σ H o i ov iv Q I ro ri h
  obtain ⟨p, xs, k, z, rfl, rfl, hq, he, q⟩ := h
  cases ro
  obtain ⟨t, rfl⟩ := ri
  obtain ⟨its, r, pl, hz⟩ := I.list hq
  obtain ⟨u, eu, ru⟩ := r.get he
  have hl := r.length
  have h63 := line63
  have hk := (List.getElem?_eq_some_iff.mp he).1
  exact wpAny_getItem_list pl.isList (by omega) (by omega) (by rw [Int.toNat_natCast]; simpa using eu) ⟨z, H, I, ru, q⟩
/-! ### (x, y)[::-1] -/
section
variable {prog : Program} {w : World} {A : Around} {E : Value → Shared → Prop} {s : Shared}
theorem applied_back {sl : Addr} {vl vu vs : Value} {Q : Int × Int × Nat → Shared → Prop} (hs : s.heap.IsSliceOf sl vl vu vs) (pl : IsPart vl none) (pu : IsPart vu none) (pv : IsPart vs (some (-1)))
    (h : Q (1, -1, 2) s) : wpAny (model prog w) A (Builtin.Slice.sliceApplied (.ref sl) (pure ((2 : Nat) : Int))) Q E s := by
  obtain ⟨os, g1, g2, g3⟩ := id hs
  unfold Builtin.Slice.sliceApplied Builtin.Slice.sliceFields
  refine wpAny_bind (wpAny_bind (wpAny_field g1 g3 (x := vl) rfl (wpAny_bind (wpAny_field g1 g3 (x := vu) rfl (wpAny_bind (wpAny_field g1 g3 (x := vs) rfl (wpAny_pure ?_)))))))
  refine wpAny_bind (slicePart_ pv ?_)
  show wpAny _ _ (if ((-1 : Int) == 0) = true then _ else _) _ _ s
  rw [if_neg (show ¬ ((-1 : Int) == 0) = true by decide)]
  refine wpAny_bind (slicePart_ pl (wpAny_bind (slicePart_ pu (wpAny_bind (wpAny_pure ?_)))))
  exact wpAny_pure h
theorem getItem_back {t sl : Addr} {x y : Value} {vl vu vs : Value} {Q : Value → Shared → Prop} (tt : IsTup s.heap t #[x, y]) (hs : s.heap.IsSliceOf sl vl vu vs) (pl : IsPart vl none) (pu : IsPart vu none) (pv : IsPart vs (some (-1)))
    (h : Q (.ref s.heap.objs.size) { s with heap := s.heap.push { cls := .type "tuple", data := .seq #[y, x] } }) : wpAny (model prog w) A (getItem (.ref t) (.ref sl)) Q E s := by
  have fits : sizeOk (.seq #[y, x]) := by
    show 2 ≤ sizeLine
    rw [sizeLine_eq]
    omega
  obtain ⟨os, g1, g2, g3⟩ := id hs
  have ts : s.TypeIs (.ref sl) "slice" := ⟨os, g1, g2⟩
  unfold getItem
  try with_reducible refine wpAny_holding ?_
  first | refine wpAny_bind (wpAny_pure ?_) | skip
  refine wpAny_bind (wpAny_sequenceKey tt.typeIs (by decide) ?_)
  refine wpAny_bind (wpAny_callSpecial?_slot (name := Str.ofString "__getitem__") tt.typeIs PyProof.Rows.slot_tuple_getitem (wpAny_call_entry PyProof.Rows.slot_tuple_getitem tt.typeIs entry_tuple_getitem ?_ (args_tuple_getitem _ _)))
  refine wpAny_bind (m := Builtin.Tuple.tupleItemsOf (.ref t)) (tupleItemsOf_ tt (wpAny_bind (wpAny_typeOf ts ?_)))
  rw [if_pos (by decide)]
  refine wpAny_bind (applied_back hs pl pu pv ?_)
  show wpAny _ _ (if ((1 : Int) == 0 && (-1 : Int) == 1 && (2 : Nat) == 2) = true then _ else _) _ _ s
  rw [if_neg (show ¬ (((1 : Int) == 0 && (-1 : Int) == 1 && (2 : Nat) == 2) = true) by decide)]
  show wpAny _ _ (Builtin.Tuple.tupleExact #[y, x] >>= _) _ _ s
  first
    | exact wpAny_bind (m := Builtin.Tuple.tupleExact _) (wpAny_newObj_type (wpAny_pure ⟨_, rfl, wpAny_pure h⟩) fits)
    | exact wpAny_bind (m := Builtin.Tuple.tupleExact _) (wpAny_newObj_type (wpAny_bind (wpAny_pure (wpAny_pure ⟨_, rfl, wpAny_pure h⟩))) fits)
    | exact wpAny_bind (m := Builtin.Tuple.tupleExact _) (wpAny_newObj_type (wpAny_pure (wpAny_pure ⟨_, rfl, wpAny_pure h⟩)) fits)
end
variable {X : Cx}
def tRevP (K : PySem.W.Frag) (te : TE) : TE := fun σ H Q => te σ H fun x H1 => ∃ a u v, x = .ref a ∧ SqT K H1 a [u, v] ∧ ∀ p, H1 p = none → Q (.ref p) (upd H1 p (.tup [v, u]))
theorem pe_revT {e : Expr} {te : TE} {k : Nat} {p1 p2 p3 pos : Pos} (he : PE X e te) : PE X (.Subscript e (.Slice none none (some (.UnaryOp .USub (.Constant (.int 1) k p1) p2)) p3) pos) (tRevP X.K te) := by
  refine ⟨fun pins s σ H Q I h => ?_⟩
  refine Subscript_ (thn (he.run pins s σ H _ I h) fun v s1 ⟨x, H1, I1, r1, q1⟩ => ?_)
  obtain ⟨a, u, v', rfl, hx, q⟩ := q1
  cases r1
  have hst : PO X (some (.UnaryOp .USub (.Constant (.int 1) k p1) p2)) (tPart (tUn (rU fun i => .int (-i)) (tC (.int 1)))) := po_some (pe_un un_neg pe_int)
  refine wpAny_Slice (thn (po_none.run pins s1 σ H1 (fun o H2 => o = none ∧ H2 = H1) I1 ⟨rfl, rfl⟩) fun vl s2 ⟨l, H2, I2, pl, el, e2⟩ => ?_)
  obtain rfl := el
  obtain rfl := e2
  refine thn (po_none.run pins s2 σ H2 (fun o H3 => o = none ∧ H3 = H2) I2 ⟨rfl, rfl⟩) fun vu s3 ⟨l3, H3, I3, pu, eu, e3⟩ => ?_
  obtain rfl := eu
  obtain rfl := e3
  refine thn (hst.run pins s3 σ H3 (fun o H4 => o = some (-1) ∧ H4 = H3) I3 ⟨1, rfl, -1, rfl, rfl, rfl⟩) fun vs s4 ⟨l4, H4, I4, pv, eo, e4⟩ => ?_
  obtain rfl := eo
  obtain rfl := e4
  have I5 : Inv X pins σ H4 { s4 with heap := s4.heap.push { cls := .type "slice", data := .fields #[vl, vu, vs] } } := I4.kept (t' := s4.toks) fun _ _ z => Heap.get?_push_of_some _ z
  obtain ⟨its, r, ht, _⟩ := I5.tuple hx
  obtain ⟨y1, its1, rfl, ry1, r1⟩ : ∃ y1 its1, its = y1 :: its1 ∧ RelV u y1 ∧ Vals [v'] its1 := by
    cases r with
    | cons g t => exact ⟨_, _, rfl, g, t⟩
  obtain ⟨y2, rfl, ry2⟩ := r1.one
  show wpAny (model X.prog X.w) X.A (subscriptTail e (.Slice none none (some (.UnaryOp .USub (.Constant (.int 1) k p1) p2)) p3) (.ref a) (.ref s4.heap.objs.size)) (EP X pins σ Q) X.xe _
  refine tail_any (ops := [.ref a, .ref s4.heap.objs.size]) ht.typeIs PyProof.Rows.slot_tuple_getitem.lookup ?_ (by with_unfolding_all rfl)
  refine getItem_back ht (Heap.IsSliceOf.new _ vl vu vs) pl pu pv ?_
  refine ⟨.ref _, _, I5.laid (t' := s4.toks) (o := .tup [v', u]) (fun _ _ z => Heap.get?_push_of_some _ z) (Nat.le_refl _) ?_, rfl, q _ (I5.hok.fresh (Nat.le_refl _))⟩
  exact ⟨small_line (by show 2 ≤ 100000; omega), [y2, y1], .cons ry2 (.cons ry1 .nil), _, Heap.get?_push_size _ rfl, rfl, _, rfl⟩
end GS
namespace GS
open PySem PySem.Spec PyProof.Rows L2 RZ
/-! ### t > u of tuples of ints -/
def rGtT (K : PySem.W.Frag) : R2 := fun x y H Q => ∃ (a b : Addr) (ns ms : List Int), x = .ref a ∧ y = .ref b ∧ SqT K H a (ns.map V.int) ∧ SqT K H b (ms.map V.int) ∧
  Q (.bl (Ob.lexAt (fun j => decide (ns.getD j 0 = ms.getD j 0)) (fun j => decide (ms.getD j 0 < ns.getD j 0)) (decide (ns.length > ms.length)) 0 (min ns.length ms.length))) H
theorem op_gtT {X : Cx} (hu : X.A.units < cLine) : OpR X (compareOp .Gt) (rGtT X.K) := by
  intro pins s σ H x y v u Q I rx ry h
  obtain ⟨a, b, ns, ms, rfl, rfl, ha, hb, q⟩ := h
  cases rx
  cases ry
  obtain ⟨us, g1, p1, _⟩ := I.tuple ha
  obtain ⟨vs, g2, p2, _⟩ := I.tuple hb
  have j1 : IntsAre us ns := Vals.ints g1
  have j2 : IntsAre vs ms := Vals.ints g2
  have n1 : us.toArray.size = ns.length := by rw [List.size_toArray]; exact j1.length
  have n2 : vs.toArray.size = ms.length := by rw [List.size_toArray]; exact j2.length
  have at1 : ∀ j (hj : j < us.toArray.size), ∃ t, us.toArray[j] = .int (ns.getD j 0) t := fun j hj => PyProof.Rows.IntsAre.int_at j1 _ _ (by simp at hj; simp [hj])
  have at2 : ∀ j (hj : j < vs.toArray.size), ∃ t, vs.toArray[j] = .int (ms.getD j 0) t := fun j hj => PyProof.Rows.IntsAre.int_at j2 _ _ (by simp at hj; simp [hj])
  have R := Ob.RcOp.tuples_gt (A := X.A) (s := s) (e := fun j => decide (ns.getD j 0 = ms.getD j 0)) (r := fun j => decide (ms.getD j 0 < ns.getD j 0)) p1 p2 hu ?_ ?_
  · rw [n1, n2] at R
    exact R X.prog X.w X.xe (EP X pins σ Q) ⟨.bl _, H, I, rfl, q⟩
  · intro j hj1 hj2
    obtain ⟨t, et⟩ := at1 j hj1
    obtain ⟨t', et'⟩ := at2 j hj2
    rw [et, et']
    have z : decide (ns.getD j 0 = ms.getD j 0) = (ns.getD j 0 == ms.getD j 0) := by
      by_cases q : ns.getD j 0 = ms.getD j 0
      · rw [decide_eq_true q]
        exact (beq_iff_eq.mpr q).symm
      · rw [decide_eq_false q]
        exact (beq_eq_false_iff_ne.mpr q).symm
    show SeqAt.EqAt _ _ _ _ (decide (ns.getD j 0 = ms.getD j 0))
    rw [z]
    exact SeqAt.EqAt.int_int _ _ _ _
  · intro j hj1 hj2 _
    obtain ⟨t, et⟩ := at1 j hj1
    obtain ⟨t', et'⟩ := at2 j hj2
    rw [et, et']
    exact Ob.RcOp.gt_int _ _ _ _
/-! ### not x as a value, x of any kind -/
theorem pe_notA {X : Cx} {a : Expr} {ta : TE} {pos : Pos} (ha : PE X a ta) : PE X (.UnaryOp .Not a pos) (fun σ H Q => ta σ H fun x H1 => ∃ k, TruV X.K x H1 k ∧ Q (.bl (!k)) H1) := by
  refine ⟨fun pins s σ H Q I h => ?_⟩
  refine UnaryOp_ (thn (ha.run pins s σ H _ I h) fun v s1 ⟨x, H1, I1, r1, k, tr, q⟩ => not_of ?_)
  refine thn (tru_ok pins s1 σ H1 x v (fun b H2 => b = k ∧ H2 = H1) I1 r1 ⟨k, tr, rfl, rfl⟩) fun b s2 ⟨H2, I2, e1, e2⟩ => ?_
  obtain rfl := e1
  obtain rfl := e2
  exact ⟨.bl (!b), _, I2, rfl, q⟩
end GS
namespace GS
open PySem PySem.Spec PyProof.Rows L2 RZ
abbrev Sg := L2.St
/-! an exception that was caught and is kept behind its suite -/
def ExK (cls : Value) (a : Addr) : HO := .ext fun h => ∃ (oe : Obj) (vs : Array Value), h.get? a = some oe ∧ Zc cls none oe ∧ oe.data = .fields vs
theorem exK_ok {P : Program} {w : World} {H : Hp} {h : Heap} {a : Addr} {cls : Value} {oe : Obj} {vs : Array Value} (e : h.get? a = some oe) (z : Zc cls none oe) (d : oe.data = .fields vs) : ObjOk P w H h a (ExK cls a) :=
  ⟨⟨oe, vs, e, z, d⟩, ⟨oe, e⟩, fun _ _ ⟨o, us, e1, z1, d1⟩ k => ⟨o, us, k o e1, z1, d1⟩⟩
section
variable {X : Cx} {pins : List (Addr × Obj)} {σ : L2.St} {H : Hp} {s : Shared}
/-- an object that is in reach, but was tracked by nobody, is tracked from here on -/
theorem inv_track {a : Addr} {cls : Value} {oe : Obj} {vs : Array Value} (I : Inv X pins σ H s) (ga : s.heap.get? a = some oe) (hz : Zc cls none oe) (hd : oe.data = .fields vs) (na : H a = none)
    (nL : a ≠ X.env.locals) (n0 : X.s_0.heap.get? a = none) (np : ∀ p ∈ X.pn ++ pins, p.1 ≠ a) : Inv X pins σ (upd H a (ExK cls a)) s := by
  have other : ∀ {b : Addr}, b ≠ a → H b = none → (upd H a (ExK cls a)) b = none := fun hb hn => by
    rw [upd_ne hb]
    exact hn
  have kept : ∀ {b : Addr} {o : HO}, H b = some o → (upd H a (ExK cls a)) b = some o := fun e => by
    rw [upd_ne (ne_of_none e na)]
    exact e
  refine { ok := I.ok, os := I.os, bare := I.bare, loc := I.loc, cell := I.cell, len := I.len, base := ?_, free := other nL.symm I.free, freeC := ?_, pin := ?_, hok := ?_ }
  · refine { keep := I.base.keep, slot := I.base.slot, there := I.base.there, free := ?_, tups := fun b xs e => kept (I.base.tups b xs e), frzs := fun b o u e => kept (I.base.frzs b o u e), tbls := ?_ }
    · intro b o e n hx
      exact other (fun z => by rw [z, n0] at e; cases e) (I.base.free b o e n hx)
    · intro b ps e
      obtain ⟨more, q⟩ := I.base.tbls b ps e
      exact ⟨more, kept q⟩
  · intro x c e
    refine other (fun z => ?_) (I.freeC x c e)
    obtain ⟨v, hv⟩ := I.cell x c e
    obtain ⟨o, h1, h2⟩ := hv
    rw [z, ga] at h1
    cases h1
    rw [hd] at h2
    cases h2
  · intro p hp
    obtain ⟨g1, g2, g3⟩ := I.pin p hp
    exact ⟨g1, other (np p hp) g2, g3⟩
  · exact HOk.laidN I.hok (fun _ _ z => z) na (exK_ok ga hz hd)
end
/-- the wish behind «except c as n: suite» where the caught one is kept -/
def wKeep (K : PySem.W.Frag) (c : Value) (i : Nat) (ts : Addr → Value → TS) (D : Ends) : WX := fun cls d σ H =>
  d = none ∧ PySem.W.exmOne K cls c = some true ∧
    ∀ a, H a = none → ts a cls { nx := fun σ' H' => D.nx (σ'.set i none) (upd H' a (ExK cls a)), rt := fun _ _ => False, bk := fun _ _ => False, ct := fun _ _ => False } (σ.set i (some (.ref a))) H
section
variable {X : Cx} {x n : Str} {c : Value} {i : Nat} {body rest : List Stmt} {b₀ : Stmt} {np pos pos' : Pos} {tb : WX → TS} {ts : Addr → Value → TS}
theorem ps_try_keep (hs : X.stack = X.env :: X.outer) (hf : X.env.frame = some X.env.locals) (hex : X.ex = []) (hN : X.N.Nodup) (hi : X.N[i]? = some n) (hln : X.env.kindOf n = some .local) (hc : Names X x c)
    (hb : ∀ (W : WX) (pn : List (Addr × Obj)) (xe : Value → Shared → Prop), Takes (X.tr pn xe) W → PassesOwn (model X.prog X.w) X.A X.env xe → PSs (X.tr pn xe) body (tb W))
    (hsu : ∀ (a : Addr) (oe : Obj) (cls : Value) (pn : List (Addr × Obj)), Zc cls none oe → (∃ vs, oe.data = .fields vs) → PSs (X.suite a ((a, oe) :: pn)) (b₀ :: rest) (ts a cls)) :
    PS X (.Try body [.ExceptHandler (some (.Name x np)) (some n) (b₀ :: rest) pos'] [] [] pos) (fun D σ H => tb (wKeep X.K c i ts D) D σ H) := by
  constructor
  intro pins s σ H D I h
  have okX := I.ok
  have frames : X.A.frames = some (X.env :: X.outer) := okX.frames.trans (congrArg some hs)
  apply wpAny_Try_except
  have B := hb (wKeep X.K c i ts D) (X.pn ++ pins) (fun e s1 => wpAny (model X.prog X.w) X.A (noteFrame e X.env) (fun _ s2 => wpAny (model X.prog X.w) X.A (setFlight e none)
    (fun _ s3 => wpAny (model X.prog X.w) X.A (handleBy e X.env [.ExceptHandler (some (.Name x np)) (some n) (b₀ :: rest) pos']) (SP X pins D) X.xe s3) X.xe s2) X.xe s1)
  refine wpAny_mono ((B ?_ PassesOwn.looking).run [] s σ H D (I.toTry _) h) ?_ fun _ _ z => z
  · intro u s1 air
    obtain ⟨a, G, sI, ps, σ1, H1, cls, d, eu, I0, inG, upS, sky, na, eos, eg, ed, em, hw⟩ := air
    subst eu
    subst ed
    have J : Inv X pins σ1 H1 sI := I0.ofTry okX
    rw [show (X.tr (X.pn ++ pins) _).stack = X.env :: X.outer from hs] at sky
    change wpAny (model X.prog X.w) X.A (noteFrame (.ref a) X.env) _ _ _
    refine Sky.land Zc.steady frames hf sky fun g1 f1 u1 => ?_
    have J1 : Inv X pins σ1 H1 { s1 with heap := g1 } := J.landed inG f1.1 (upS.trans u1) eos eg
    obtain ⟨o1, v1, ga1, z1, d1⟩ := f1.there
    have away : a ∉ frs (X.env :: X.outer) := fun hm => by
      obtain ⟨_, o2, e2, nf⟩ := f1.2.2.1.mem hm
      rw [ga1] at e2
      cases e2
      exact nf _ d1
    have ne1 : a ≠ X.env.locals := fun z => away (List.mem_filterMap.mpr ⟨X.env, List.mem_cons_self, hf.trans (congrArg some z.symm)⟩)
    have ne2 : a ∉ X.fs := fun hm => by
      obtain ⟨e, me, q⟩ := List.mem_filterMap.mp hm
      exact away (List.mem_filterMap.mpr ⟨e, List.mem_cons_of_mem _ me, q⟩)
    -- it is new
    have newI : sI.heap.get? a = none := by
      cases q : sI.heap.get? a with
      | none => rfl
      | some o =>
        have := inG a o q (by rw [show (X.tr (X.pn ++ pins) _).stack = X.env :: X.outer from hs]; exact away)
        rw [f1.2.1] at this
        cases this
    have new0 : X.s_0.heap.get? a = none := by
      cases q : X.s_0.heap.get? a with
      | none => rfl
      | some o =>
        obtain ⟨o', q'⟩ := J.base.there a o q (by rw [hex]; exact List.not_mem_nil)
        rw [newI] at q'
        cases q'
    have newP : ∀ p ∈ X.pn ++ pins, p.1 ≠ a := fun p hp z => by
      have := (J.pin p hp).1
      rw [z, newI] at this
      cases this
    have S1 := J1.suite ga1 d1 na ne1 ne2
    refine wpAny_handleBy_cons (codeAny_handlers_test ?_) (by intro q; cases q)
    have look : PySem.W.Looks (model X.prog X.w) g1 (typeOf (.ref a)) cls := fun A Q E s k q => wpAny_typeOf_ref (k _ _ ga1) (by rw [z1.1]; exact q)
    have meets := PySem.W.exm_one (M := model X.prog X.w) J1.kIn look em
    have name : ∀ {Q E : Value → Shared → Prop}, Q c { s1 with heap := g1 } → wpAny (model X.prog X.w) (X.A.mark (some (.ref a))) (eval (.Name x np) X.env) Q E { s1 with heap := g1 } := by
      intro Q E q
      obtain ⟨hg, hdb, hm | ⟨hm, hv, hnn⟩⟩ := hc
      · exact ld_glob (X := X.suite a ((a, o1) :: (X.pn ++ pins))) S1 hg hm q hdb
      · exact ld_blt (X := X.suite a ((a, o1) :: (X.pn ++ pins))) S1 hg hm hv q hnn hdb
    refine name (meets.here (codeAny_handlers_suite_as ?_))
    refine HandSPX.lands_againZ f1 fun g2 f2 u2 => ?_
    have J2 : Inv X pins σ1 H1 { s1 with heap := g2 } := J.landed inG f2.1 ((upS.trans u1).trans u2) eos eg
    obtain ⟨o2, v2, ga2, z2, d2⟩ := f2.there
    have S2 := J2.suite ga2 d2 na ne1 ne2
    refine store_ok (X := X.suite a ((a, o2) :: (X.pn ++ pins))) (v := .ref a) S2 hN hi (.inl hln) rfl (fun s3 S3 => ?_) (.inr hln)
    refine wpAny_mono ((hsu a o2 cls (X.pn ++ pins) z2 ⟨_, d2⟩).run [] s3 _ H1 _ S3 (hw a na)) (fun fl s4 hq => ?_) fun _ _ z => False.elim z
    match fl, hq with
    | .next, ⟨σ4, H4, S4, q4⟩ =>
      have pn4 := S4.pin (a, o2) (List.mem_append.mpr (.inl List.mem_cons_self))
      have J4 := inv_track (S4.unsuite okX) pn4.1 z2 d2 pn4.2.1 ne1 new0 newP
      exact gone_ok J4 hN hi hln fun s5 J5 => ⟨_, _, J5, q4⟩
    | .brk, ⟨_, _, _, q4⟩ => exact q4.elim
    | .cont, ⟨_, _, _, q4⟩ => exact q4.elim
    | .ret _, ⟨_, _, _, _, _, q4⟩ => exact q4.elim
  · intro fl s1 hq
    match fl, hq with
    | .next, ⟨σ1, H1, J, q⟩ => exact wpAny_execs_nil ⟨σ1, H1, J.ofTry okX, q⟩
    | .brk, ⟨σ1, H1, J, q⟩ => exact ⟨σ1, H1, J.ofTry okX, q⟩
    | .cont, ⟨σ1, H1, J, q⟩ => exact ⟨σ1, H1, J.ofTry okX, q⟩
    | .ret u, ⟨v, σ1, H1, J, r, q⟩ => exact ⟨v, σ1, H1, J.ofTry okX, r, q⟩
end
section
variable {X : Cx}
/-- isinstance(e, c), e an exception that is kept -/
def rIsK (K : PySem.W.Frag) : List V → Hp → VK → Prop := fun xs H Q => ∃ (a D : Addr) (c : V) (u : Value) (b : Bool), xs = [.ref a, c] ∧ H a = some (ExK (.ref D) a) ∧ ExcC K D ∧ ClsV c u ∧ PySem.W.kitOne K (.ref D) u = some b ∧ Q (.bl b) H
def rIsKT (K : PySem.W.Frag) : List V → Hp → VK → Prop := fun xs H Q => ∃ (a D tp : Addr) (cs : List V) (us : List Value) (b : Bool), xs = [.ref a, .ref tp] ∧ H a = some (ExK (.ref D) a) ∧ ExcC K D ∧ H tp = some (.tup cs) ∧ Paired ClsV cs us ∧ PySem.W.kitAny K (.ref D) us = some b ∧ Q (.bl b) H
theorem exK_at {pins : List (Addr × Obj)} {σ : L2.St} {H : Hp} {s : Shared} {a D : Addr} (I : Inv X pins σ H s) (h : H a = some (ExK (.ref D) a)) : ∃ oe, PySem.W.InstAt s.heap a oe D none := by
  obtain ⟨⟨oe, vs, g, ⟨z1, z2⟩, d⟩, _, _⟩ := I.hok a _ h
  refine ⟨oe, ?_⟩
  obtain ⟨oc, od, oda, osl⟩ := oe
  dsimp only at z1 z2 d
  subst z1 z2 d
  exact ⟨g, rfl, rfl, trivial⟩
theorem call_isK : CallR X (.builtin "isinstance") (rIsK X.K) := by
  intro pins s σ H xs us Q I r h
  obtain ⟨a, D, c, u, b, rfl, ha, C, k, e, q⟩ := h
  obtain ⟨u1, u2, rfl, r1, r2⟩ := vals2 r
  cases (show u1 = Value.ref a from r1)
  have e2 := k.eq r2
  subst e2
  obtain ⟨oe, J⟩ := exK_at I ha
  exact PySem.W.kia_one (PySem.W.handS_kitx_exc C.hg C.hk C.hs C.hd C.ha C.hn C.ht C.hm) I.kIn J e (fun z => nomatch z) fun tk => ⟨.bl b, H, I.tok tk, rfl, q⟩
theorem call_isKT : CallR X (.builtin "isinstance") (rIsKT X.K) := by
  intro pins s σ H xs us Q I r h
  obtain ⟨a, D, tp, cs, ws, b, rfl, ha, C, hT, k, e, q⟩ := h
  obtain ⟨u1, u2, rfl, r1, r2⟩ := vals2 r
  cases (show u1 = Value.ref a from r1)
  cases (show u2 = Value.ref tp from r2)
  obtain ⟨oe, J⟩ := exK_at I ha
  obtain ⟨_, its, rv, o, h1, h2, n, h3⟩ := (show ObjOk X.prog X.w H s.heap tp (.tup cs) from I.hok tp _ hT)
  have e3 := ClsV.all k rv
  subst e3
  obtain ⟨oc, od, dt, sl⟩ := o
  simp only at h2 h3
  subst h2 h3
  exact PySem.W.kia_tup (PySem.W.handS_kitx_exc C.hg C.hk C.hs C.hd C.ha C.hn C.ht C.hm) I.kIn J h1 e (fun z => nomatch z) fun tk => ⟨.bl b, H, I.tok tk, rfl, q⟩
end
end GS
namespace GS
open PySem PySem.Spec PyProof.Rows L2 RZ
theorem bt_ValueError : bootBuiltins "ValueError" = some (.type "ValueError") := by decide +kernel
/-- repr of data of any kind (dicts aside) -/
def rShw (K : PySem.W.Frag) : List V → Hp → VK → Prop := fun xs H Q => ∃ (v : V) (d : PyData), xs = [v] ∧ Dp K H v d ∧ d.showable = true ∧ d.hasDict = false ∧ d.depth ≤ 60 ∧ d.shown.length ≤ sizeLine ∧ Q (.str d.shown) H
section
variable {X : Cx}
theorem call_shw (hA : Clr X.A) (hu : X.A.units + 64 < cLine) : CallR X (.builtin "repr") (rShw X.K) := by
  intro pn s σ H xs us Q J r h
  obtain ⟨v, d, rfl, hd, h1, h2, h3, h4, q⟩ := h
  obtain ⟨u, rfl, r1⟩ := vals1 r
  have big : ∀ a, v = .ref a → wpAny (model X.prog X.w) X.A (call (.builtin "repr") [u]) (EP X pn σ Q) X.xe s := by
    intro a e
    subst e
    cases r1
    obtain ⟨as, rd⟩ := Dp.reads J d _ _ hd rfl
    exact repr_of_reads' rd h1 (PyData.noDict_hsm h2) hA (by omega) (fun _ _ z => z) (fun h' u tk hk => ⟨.str _, H, J.kept hk, ⟨_, rfl⟩, q⟩) h4
  cases hd with
  | non =>
    cases r1
    exact PySem.P.repr_of_none ⟨.str _, H, J.tok _, ⟨_, rfl⟩, q⟩
  | bl b =>
    cases r1
    exact PySem.P.repr_of_bool ⟨.str _, H, J.tok _, ⟨_, rfl⟩, q⟩
  | int i =>
    obtain ⟨t, rfl⟩ := r1
    exact PySem.P.repr_of_int (of_decide_eq_true h1) ⟨.str _, H, J.tok _, ⟨_, rfl⟩, q⟩
  | str x =>
    obtain ⟨t, rfl⟩ := r1
    exact PySem.P.repr_of_str ⟨.str _, H, J.tok _, ⟨_, rfl⟩, q⟩ h4
  | lst h g => exact big _ rfl
  | tup h g => exact big _ rfl
end
end GS
namespace GS
open PySem PySem.Spec PyProof.Rows L2 RZ
/-! enumerate(zip(t, u)) of two tuples -/
/-- a zip in whatever state: what it has given out (g), and whether it knows that this is still held (b) -/
abbrev ZipF (h : Heap) (z TI TO : Addr) (g : Value) (b : Bool) : Prop :=
  h.get? z = some { cls := .type "zip", dict := none, data := .fields #[g, .bool b, .bool false, .ref TI, .ref TO], slots := #[] }
abbrev PairAt (h : Heap) (T : Addr) (a b : Value) : Prop := h.get? T = some { cls := .type "tuple", data := .seq #[a, b] }
def Gv (g : Value) : Prop := g = .none ∨ ∃ T : Addr, g = rawInt T
section
variable {prog : Program} {w : World} {A : Around} {E : Value → Shared → Prop} {s : Shared}
theorem owned_any {z TI TO : Addr} {g : Value} {b : Bool} {Q : Bool → Shared → Prop} (hz : ZipF s.heap z TI TO g b) (hg : Gv g) (yes : Q true s)
    (no : ∀ h', ZipF h' z TI TO g true → Heap.SameBut z s.heap h' → Q false { s with heap := h' }) : wpAny (model prog w) A (Builtin.SmallTypes.ownedTupleIsFree (.ref z)) Q E s := by
  unfold Builtin.SmallTypes.ownedTupleIsFree
  apply wpAny_bind
  rcases hg with rfl | ⟨T, rfl⟩
  · exact wpAny_field hz rfl (x := .none) rfl (wpAny_pure yes)
  apply wpAny_field hz rfl (x := rawInt T) rfl
  change wpAny _ _ (loadIfAlive ((T : Int).toNat) >>= _) _ _ _
  rw [Int.toNat_natCast]
  apply wpAny_bind
  cases e : s.heap.get? T with
  | none =>
    have goal : wpAny (model prog w) A (loadIfAlive T) (fun o s1 => o = none ∧ s1 = s) E s := by
      have q : (s.heap.get? T) = none ∧ s = s := ⟨e, rfl⟩
      exact fun _ _ _ => q
    refine wpAny_mono goal (fun o s1 hq => ?_) fun _ _ x => x
    obtain ⟨rfl, rfl⟩ := hq
    simp only [Option.isNone_none, if_true]
    exact wpAny_pure yes
  | some oT =>
    refine PySem.W.kdx_alive e ?_
    simp only [Option.isNone_some, Bool.false_eq_true, if_false]
    apply wpAny_bind
    apply wpAny_field hz rfl (x := .bool b) rfl
    cases b with
    | true =>
      rw [if_neg (by decide)]
      exact wpAny_pure (no _ hz (Heap.SameBut.refl _ _))
    | false =>
      rw [if_pos (by decide)]
      apply wpAny_bind
      exact wpAny_setField_rec hz (by simp) fun h1 z1 s1 => wpAny_pure (no h1 z1 s1)
/-- next of such a zip, both have an item -/
theorem zipF_item {z TI TO i1 i2 l1 l2 : Addr} {k1 k2 : Nat} {xs ys : Array Value} {x y g : Value} {b : Bool} {Q : Value → Shared → Prop} (D : ZipApart z TI TO i1 i2 l1 l2) (hz : ZipF s.heap z TI TO g b) (hg : Gv g)
    (hTI : PairAt s.heap TI (.ref i1) (.ref i2)) (hTO : ∃ u v, PairAt s.heap TO u v) (h1 : s.heap.IsTupleIter i1 l1 k1) (h2 : s.heap.IsTupleIter i2 l2 k2) (hl1 : s.heap.IsTuple l1 xs) (hl2 : s.heap.IsTuple l2 ys)
    (hx : xs[k1]? = some x) (hy : ys[k2]? = some y)
    (hQ : ∀ h' g' b', ZipF h' z TI TO g' b' → Gv g' → (∃ u v, PairAt h' TO u v) → h'.IsTupleIter i1 l1 (k1 + 1) → h'.IsTupleIter i2 l2 (k2 + 1) → PairAt h' s.heap.objs.size x y → h'.objs.size = s.heap.objs.size + 1 →
      (∀ c o, c ≠ z → c ≠ TO → c ≠ i1 → c ≠ i2 → s.heap.get? c = some o → h'.get? c = some o) → Q (.ref s.heap.objs.size) { s with heap := h' }) :
    wpAny (model prog w) A (Builtin.«zip.__next__» ⟨[.ref z], []⟩) (fun fin s' => ∃ v, fin = .done (.ret v) ∧ Q v s') E s := by
  change wpAny _ _ (field (.ref z) 2 >>= _) _ _ _
  apply wpAny_bind
  apply wpAny_field hz rfl (x := .bool false) rfl
  change wpAny _ _ (field (.ref z) 3 >>= _) _ _ _
  apply wpAny_bind
  apply wpAny_field hz rfl (x := .ref TI) rfl
  apply wpAny_bind
  apply wpAny_seqItems hTI rfl
  change wpAny _ _ (Builtin.SmallTypes.ownedTupleIsFree (.ref z) >>= _) _ _ _
  apply wpAny_bind
  obtain ⟨u0, v0, hTO⟩ := hTO
  refine owned_any hz hg ?_ fun ha za sa => ?_
  · -- the owned one again
    simp only [if_true]
    refine wpAny_bind (wpAny_rule (wpAny_bind (wpAny_field hz rfl (x := .ref TO) rfl (wpAny_bind (wpAny_setField_rec hz (by simp) fun ha za sa => ?_)))))
    replace za : ZipF ha z TI TO .ellipsis b := za
    apply wpAny_bind
    simp only [List.zipIdx_cons, List.zipIdx_nil, List.forIn_cons, List.forIn_nil]
    refine wpAny_bind (wpAny_bind (wpAny_onRaise ?_))
    change wpAny _ _ (Builtin.SmallTypes.nextOf (.ref i1) >>= _) _ _ _
    refine wpAny_bind (nextOf_tuple_item (h1.extBut sa.extBut D.i1z) (hl1.extBut sa.extBut D.l1z) hx fun hb ib sb => wpAny_pure ?_)
    have tb : PairAt hb TO u0 v0 := sb.extBut _ _ D.TOi1 (sa.extBut _ _ D.TOz hTO)
    refine wpAny_bind (wpAny_seqItems tb rfl (wpAny_bind (wpAny_updateSeq_pair tb fun hc tc sc => ?_)))
    replace tc : PairAt hc TO x v0 := tc
    refine wpAny_bind (wpAny_letGo (wpAny_pure ?_))
    refine wpAny_bind (wpAny_bind (wpAny_onRaise ?_))
    change wpAny _ _ (Builtin.SmallTypes.nextOf (.ref i2) >>= _) _ _ _
    have i2c := ((h2.extBut sa.extBut D.i2z).extBut sb.extBut D.i12.symm).extBut sc.extBut D.TOi2.symm
    have l2c := ((hl2.extBut sa.extBut D.l2z).extBut sb.extBut D.l2i1).extBut sc.extBut D.l2TO
    refine wpAny_bind (nextOf_tuple_item i2c l2c hy fun hd id sd => wpAny_pure ?_)
    have td : PairAt hd TO x v0 := sd.extBut _ _ D.TOi2 tc
    refine wpAny_bind (wpAny_seqItems td rfl (wpAny_bind (wpAny_updateSeq_pair td fun he te se => ?_)))
    replace te : PairAt he TO x y := te
    refine wpAny_bind (wpAny_letGo (wpAny_pure (wpAny_pure (wpAny_bind (wpAny_seqItems te rfl (wpAny_bind (wpAny_newTuple ?_)))))))
    have size : he.objs.size = s.heap.objs.size := by rw [se.1, sd.1, sc.1, sb.1, sa.1]
    have keep : ∀ c o, c ≠ z → c ≠ TO → c ≠ i1 → c ≠ i2 → s.heap.get? c = some o → he.get? c = some o := fun c o n1 n2 n3 n4 q =>
      se.extBut _ _ n2 (sd.extBut _ _ n4 (sc.extBut _ _ n2 (sb.extBut _ _ n3 (sa.extBut _ _ n1 q))))
    have ze : ZipF he z TI TO .ellipsis b := se.extBut _ _ D.TOz.symm (sd.extBut _ _ D.i2z.symm (sc.extBut _ _ D.TOz.symm (sb.extBut _ _ D.i1z.symm za)))
    have i1e : he.IsTupleIter i1 l1 (k1 + 1) := ((ib.extBut sc.extBut D.TOi1.symm).extBut sd.extBut D.i12).extBut se.extBut D.TOi1.symm
    have i2e : he.IsTupleIter i2 l2 (k2 + 1) := id.extBut se.extBut D.TOi2.symm
    have zlt : z < he.objs.size := Heap.lt_size ze
    change wpAny _ _ (Builtin.SmallTypes.ownedTupleHandOut (.ref z) (.ref he.objs.size) >>= _) _ _ _
    apply wpAny_bind
    unfold Builtin.SmallTypes.ownedTupleHandOut
    have zf : ZipF (he.push { cls := .type "tuple", data := .seq #[x, y] }) z TI TO .ellipsis b := Heap.get?_push_of_some _ ze
    refine wpAny_bind (wpAny_setField_rec zf (by simp) fun hg zg sg => ?_)
    replace zg : ZipF hg z TI TO (rawInt he.objs.size) b := zg
    refine wpAny_setField_rec zg (by simp) fun hi zi si => ?_
    replace zi : ZipF hi z TI TO (rawInt he.objs.size) false := zi
    have on : ∀ c o, c ≠ z → he.get? c = some o → hi.get? c = some o := fun c o n q => si.extBut _ _ n (sg.extBut _ _ n (Heap.get?_push_of_some _ q))
    have new : PairAt hi he.objs.size x y := si.extBut _ _ (Nat.ne_of_gt zlt) (sg.extBut _ _ (Nat.ne_of_gt zlt) (Heap.get?_push_size _ rfl))
    have sz : hi.objs.size = he.objs.size + 1 := by rw [si.1, sg.1, Heap.size_push]
    refine wpAny_pure ⟨_, rfl, ?_⟩
    change Q (.ref he.objs.size) _
    rw [size] at new sz ⊢
    exact hQ hi _ _ zi (.inr ⟨_, rfl⟩) ⟨_, _, on _ _ D.TOz te⟩ (i1e.at fun o q => on _ o D.i1z q) (i2e.at fun o q => on _ o D.i2z q) new sz fun c o n1 n2 n3 n4 q => on c o n1 (keep c o n1 n2 n3 n4 q)
  · -- a new one
    simp only [Bool.false_eq_true, if_false]
    apply wpAny_bind
    rw [← Array.forIn_toList]
    simp only [List.forIn_cons, List.forIn_nil]
    refine wpAny_bind (wpAny_bind (wpAny_holding ?_))
    change wpAny _ _ (Builtin.SmallTypes.nextOf (.ref i1) >>= _) _ _ _
    refine wpAny_bind (nextOf_tuple_item (s := { s with heap := ha }) (h1.extBut sa.extBut D.i1z) (hl1.extBut sa.extBut D.l1z) hx fun hb ib sb => wpAny_pure (wpAny_pure ?_))
    refine wpAny_bind (wpAny_bind (wpAny_holding ?_))
    change wpAny _ _ (Builtin.SmallTypes.nextOf (.ref i2) >>= _) _ _ _
    refine wpAny_bind (nextOf_tuple_item (s := { s with heap := hb }) ((h2.extBut sa.extBut D.i2z).extBut sb.extBut D.i12.symm) ((hl2.extBut sa.extBut D.l2z).extBut sb.extBut D.l2i1) hy fun hc ic sc => wpAny_pure (wpAny_pure (wpAny_pure ?_)))
    change wpAny _ _ (newTuple [x, y] >>= _) _ _ _
    refine wpAny_bind (wpAny_newTuple ?_)
    have size : hc.objs.size = s.heap.objs.size := by rw [sc.1, sb.1, sa.1]
    have zc : ZipF hc z TI TO g true := sc.extBut _ _ D.i2z.symm (sb.extBut _ _ D.i1z.symm za)
    have keep : ∀ c o, c ≠ z → c ≠ i1 → c ≠ i2 → s.heap.get? c = some o → hc.get? c = some o := fun c o n1 n2 n3 q => sc.extBut _ _ n3 (sb.extBut _ _ n2 (sa.extBut _ _ n1 q))
    have i1c : hc.IsTupleIter i1 l1 (k1 + 1) := ib.extBut sc.extBut D.i12
    refine wpAny_pure ⟨_, rfl, ?_⟩
    change Q (.ref hc.objs.size) _
    have new : PairAt (hc.push { cls := .type "tuple", data := .seq #[x, y] }) hc.objs.size x y := Heap.get?_push_size _ rfl
    have sz : (hc.push { cls := .type "tuple", data := .seq #[x, y] }).objs.size = hc.objs.size + 1 := Heap.size_push ..
    rw [size] at new sz ⊢
    exact hQ _ g true (Heap.get?_push_of_some _ zc) hg ⟨_, _, Heap.get?_push_of_some _ (keep _ _ D.TOz D.TOi1 D.TOi2 hTO)⟩ (i1c.at fun o q => Heap.get?_push_of_some _ q) (ic.at fun o q => Heap.get?_push_of_some _ q) new sz
      fun c o n1 _ n3 n4 q => Heap.get?_push_of_some _ (keep c o n1 n3 n4 q)
/-- next of such a zip, one has none -/
theorem zipF_end {z TI TO i1 i2 l1 l2 : Addr} {k1 k2 : Nat} {xs ys : Array Value} {g : Value} {b : Bool} {Q : PySem.Fin → Shared → Prop} (hh : A.handled = none) (D : ZipApart z TI TO i1 i2 l1 l2) (hz : ZipF s.heap z TI TO g b) (hg : Gv g)
    (hTI : PairAt s.heap TI (.ref i1) (.ref i2)) (hTO : ∃ u v, PairAt s.heap TO u v) (h1 : s.heap.IsTupleIter i1 l1 k1) (h2 : s.heap.IsTupleIter i2 l2 k2) (hl1 : s.heap.IsTuple l1 xs) (hl2 : s.heap.IsTuple l2 ys)
    (hend : xs[k1]? = none ∨ ys[k2]? = none)
    (hE : ∀ h' e, (∀ c o, c ≠ z → c ≠ TO → c ≠ i1 → c ≠ i2 → s.heap.get? c = some o → h'.get? c = some o) → (∃ o, h'.get? e = some o ∧ o.cls = .type "StopIteration") → E (.ref e) { s with heap := h' }) :
    wpAny (model prog w) A (Builtin.«zip.__next__» ⟨[.ref z], []⟩) Q E s := by
  change wpAny _ _ (field (.ref z) 2 >>= _) _ _ _
  apply wpAny_bind
  apply wpAny_field hz rfl (x := .bool false) rfl
  change wpAny _ _ (field (.ref z) 3 >>= _) _ _ _
  apply wpAny_bind
  apply wpAny_field hz rfl (x := .ref TI) rfl
  apply wpAny_bind
  apply wpAny_seqItems hTI rfl
  change wpAny _ _ (Builtin.SmallTypes.ownedTupleIsFree (.ref z) >>= _) _ _ _
  apply wpAny_bind
  obtain ⟨u0, v0, hTO⟩ := hTO
  refine owned_any hz hg ?_ fun ha za sa => ?_
  · simp only [if_true]
    refine wpAny_bind (wpAny_rule (wpAny_bind (wpAny_field hz rfl (x := .ref TO) rfl (wpAny_bind (wpAny_setField_rec hz (by simp) fun ha za sa => ?_)))))
    replace za : ZipF ha z TI TO .ellipsis b := za
    apply wpAny_bind
    simp only [List.zipIdx_cons, List.zipIdx_nil, List.forIn_cons, List.forIn_nil]
    refine wpAny_bind (wpAny_bind (wpAny_onRaise ?_))
    change wpAny _ _ (Builtin.SmallTypes.nextOf (.ref i1) >>= _) _ _ _
    have i1a := h1.extBut sa.extBut D.i1z
    have l1a := hl1.extBut sa.extBut D.l1z
    cases hx : xs[k1]? with
    | none =>
      refine wpAny_bind (nextOf_tuple_end hh i1a l1a hx fun hb e sb ⟨oe, ge, ce⟩ => ?_)
      have zb : ZipF hb z TI TO .ellipsis b := sb _ _ D.i1z.symm za
      have ez : e ≠ z := fun q => by
        rw [q, zb] at ge
        cases ge
        simp at ce
      refine wpAny_setField_rec zb (by simp) fun hc _ sc => hE hc e (fun c o n1 _ n3 _ q => sc.extBut _ _ n1 (sb _ _ n3 (sa.extBut _ _ n1 q))) ⟨oe, sc.extBut _ _ ez ge, ce⟩
    | some x =>
      have hy : ys[k2]? = none := hend.resolve_left fun q => by rw [hx] at q; cases q
      refine wpAny_bind (nextOf_tuple_item i1a l1a hx fun hb ib sb => wpAny_pure ?_)
      have tb : PairAt hb TO u0 v0 := sb.extBut _ _ D.TOi1 (sa.extBut _ _ D.TOz hTO)
      refine wpAny_bind (wpAny_seqItems tb rfl (wpAny_bind (wpAny_updateSeq_pair tb fun hc tc sc => ?_)))
      refine wpAny_bind (wpAny_letGo (wpAny_pure ?_))
      refine wpAny_bind (wpAny_bind (wpAny_onRaise ?_))
      change wpAny _ _ (Builtin.SmallTypes.nextOf (.ref i2) >>= _) _ _ _
      have i2c := ((h2.extBut sa.extBut D.i2z).extBut sb.extBut D.i12.symm).extBut sc.extBut D.TOi2.symm
      have l2c := ((hl2.extBut sa.extBut D.l2z).extBut sb.extBut D.l2i1).extBut sc.extBut D.l2TO
      refine wpAny_bind (nextOf_tuple_end hh i2c l2c hy fun hd e sd ⟨oe, ge, ce⟩ => ?_)
      have zd : ZipF hd z TI TO .ellipsis b := sd _ _ D.i2z.symm (sc.extBut _ _ D.TOz.symm (sb.extBut _ _ D.i1z.symm za))
      have ez : e ≠ z := fun q => by
        rw [q, zd] at ge
        cases ge
        simp at ce
      refine wpAny_setField_rec zd (by simp) fun hf _ sf => hE hf e (fun c o n1 n2 n3 n4 q => sf.extBut _ _ n1 (sd _ _ n4 (sc.extBut _ _ n2 (sb.extBut _ _ n3 (sa.extBut _ _ n1 q))))) ⟨oe, sf.extBut _ _ ez ge, ce⟩
  · simp only [Bool.false_eq_true, if_false]
    apply wpAny_bind
    rw [← Array.forIn_toList]
    simp only [List.forIn_cons, List.forIn_nil]
    refine wpAny_bind (wpAny_bind (wpAny_holding ?_))
    change wpAny _ _ (Builtin.SmallTypes.nextOf (.ref i1) >>= _) _ _ _
    have i1a := h1.extBut sa.extBut D.i1z
    have l1a := hl1.extBut sa.extBut D.l1z
    cases hx : xs[k1]? with
    | none => exact wpAny_bind (nextOf_tuple_end (s := { s with heap := ha }) hh i1a l1a hx fun hb e sb he => hE hb e (fun c o n1 _ n3 _ q => sb _ _ n3 (sa.extBut _ _ n1 q)) he)
    | some x =>
      have hy : ys[k2]? = none := hend.resolve_left fun q => by rw [hx] at q; cases q
      refine wpAny_bind (nextOf_tuple_item (s := { s with heap := ha }) i1a l1a hx fun hb ib sb => wpAny_pure (wpAny_pure ?_))
      refine wpAny_bind (wpAny_bind (wpAny_holding ?_))
      change wpAny _ _ (Builtin.SmallTypes.nextOf (.ref i2) >>= _) _ _ _
      exact wpAny_bind (nextOf_tuple_end (s := { s with heap := hb }) hh ((h2.extBut sa.extBut D.i2z).extBut sb.extBut D.i12.symm) ((hl2.extBut sa.extBut D.l2z).extBut sb.extBut D.l2i1) hy fun hc e sc he =>
        hE hc e (fun c o n1 _ n3 n4 q => sc _ _ n4 (sb.extBut _ _ n3 (sa.extBut _ _ n1 q))) he)
/-- next of an enumerate over whatever gives x and leaves the enumerate alone -/
theorem enum_next {e it : Addr} {i : Nat} {old : Value} {Q : Option Value → Shared → Prop} (he : IsEnum s.heap e it i old)
    (hn : wpAny (model prog w) A.in1 (Builtin.SmallTypes.nextOf (.ref it)) (fun x s1 => IsEnum s1.heap e it i old ∧ ∀ h' tk, IsEnumOut h' e it ((i : Int) + 1) x s1.heap.objs.size →
      h'.get? s1.heap.objs.size = some { cls := .type "tuple", data := .seq #[.int i tk, x] } → h'.objs.size = s1.heap.objs.size + 1 → (∀ b o, b ≠ e → s1.heap.get? b = some o → h'.get? b = some o) →
        Q (some (.ref s1.heap.objs.size)) { s1 with heap := h', toks := tk + 1 }) (fun v s1 => s1.TypeIs v "StopIteration" ∧ Q none s1) s) : wpAny (model prog w) A (pyNext (.ref e)) Q E s := by
  have ty : s.TypeIs (.ref e) "enumerate" := ⟨_, he, rfl⟩
  unfold pyNext
  apply wpAny_bind
  apply wpAny_attempt
  apply wpAny_callSpecial?_slot (name := Str.ofString "__next__") ty F.slot_enumerate_next
  apply wpAny_call_entry F.slot_enumerate_next ty F.entry_enumerate_next _ (F.args_enumerate_next_1 _)
  change wpAny _ _ (field (.ref e) 2 >>= _) _ _ _
  apply wpAny_bind
  apply wpAny_field he rfl (x := .ref it) rfl
  apply wpAny_bind
  refine wpAny_mono hn (fun x s1 hq => ?_) (fun v s1 hq => ?_)
  · obtain ⟨e1, q⟩ := hq
    obtain ⟨hp, gn, dr, tk, os⟩ := s1
    dsimp only at e1 q
    change wpAny _ _ (field (.ref e) 3 >>= _) _ _ _
    refine wpAny_bind (wpAny_field e1 rfl (x := rawInt i) rfl ?_)
    change wpAny _ _ (field (.ref e) 4 >>= _) _ _ _
    refine wpAny_bind (wpAny_field e1 rfl (x := .none) rfl ?_)
    change wpAny _ _ (mkInt i >>= _) _ _ _
    refine wpAny_bind (wpAny_mkInt ?_)
    change wpAny _ _ (setField (.ref e) 3 (rawInt ((i : Int) + 1)) >>= _) _ _ ⟨hp, gn, dr, tk + 1, os⟩
    refine wpAny_bind (wpAny_setField_rec e1 (by simp) fun ha ea sa => ?_)
    replace ea : IsEnum ha e it ((i : Int) + 1) old := ea
    replace sa : Heap.SameBut e hp ha := sa
    change wpAny _ _ (setField (.ref e) 4 .none >>= _) _ _ ⟨ha, gn, dr, tk + 1, os⟩
    refine wpAny_bind (wpAny_setField_rec ea (by simp) fun hb eb sb => ?_)
    replace eb : IsEnum hb e it ((i : Int) + 1) old := eb
    replace sb : Heap.SameBut e ha hb := sb
    change wpAny _ _ (newTuple [.int i tk, x] >>= _) _ _ ⟨hb, gn, dr, tk + 1, os⟩
    refine wpAny_bind (wpAny_newTuple ?_)
    have size : hb.objs.size = hp.objs.size := by rw [sb.1, sa.1]
    have elt : e < hb.objs.size := Heap.lt_size eb
    have ec : IsEnum (hb.push { cls := .type "tuple", data := .seq #[.int i tk, x] }) e it ((i : Int) + 1) old := Heap.get?_push_of_some _ eb
    change wpAny _ _ (Builtin.SmallTypes.ownedTupleIsFree (.ref e) >>= _) _ _ _
    apply wpAny_bind
    unfold Builtin.SmallTypes.ownedTupleIsFree
    refine wpAny_bind (wpAny_field ec rfl (x := .none) rfl (wpAny_pure ?_))
    simp only [if_true]
    refine wpAny_bind (wpAny_rule (wpAny_bind (wpAny_field ec rfl (x := old) rfl ?_)))
    refine wpAny_bind (wpAny_setField_rec ec (by simp) fun hd ed sd => ?_)
    replace ed : IsEnum hd e it ((i : Int) + 1) x := ed
    change wpAny _ _ (Builtin.SmallTypes.ownedTupleHandOut (.ref e) (.ref hb.objs.size) >>= _) _ _ _
    apply wpAny_bind
    unfold Builtin.SmallTypes.ownedTupleHandOut
    refine wpAny_bind (wpAny_setField_rec ed (by simp) fun hf ef sf => ?_)
    replace ef : IsEnumOut hf e it ((i : Int) + 1) x hb.objs.size := ef
    refine wpAny_setField_rec ef (by simp) fun hg eg sg => ?_
    replace eg : IsEnumOut hg e it ((i : Int) + 1) x hb.objs.size := eg
    have on : ∀ c o, c ≠ e → hb.get? c = some o → hg.get? c = some o := fun c o n z => sg.extBut _ _ n (sf.extBut _ _ n (sd.extBut _ _ n (Heap.get?_push_of_some _ z)))
    have new : hg.get? hb.objs.size = some { cls := .type "tuple", data := .seq #[.int i tk, x] } := sg.extBut _ _ (Nat.ne_of_gt elt) (sf.extBut _ _ (Nat.ne_of_gt elt) (sd.extBut _ _ (Nat.ne_of_gt elt) (Heap.get?_push_size _ rfl)))
    have sz : hg.objs.size = hb.objs.size + 1 := by rw [sg.1, sf.1, sd.1, Heap.size_push]
    rw [size] at eg new sz ⊢
    refine wpAny_bind (wpAny_letGo (wpAny_pure ⟨_, rfl, ?_⟩))
    refine wpAny_pure (q hg tk eg new sz fun b o n z => on b o n (sb.extBut _ _ n (sa.extBut _ _ n z)))
  · obtain ⟨ht, q⟩ := hq
    refine wpAny_bind (wpAny_isInstance (T := "StopIteration") (b := true) ht isSubtype_stop ?_)
    exact wpAny_pure q
end
open AutoSeq1 (wpAny_loadPart')
theorem meets_enumZ (z TI TO : Addr) :
    Meets (Builtin.«enumerate.__new__» ⟨[.type "enumerate", .ref z], []⟩) (fun _ R s => IsZip s.heap z TI TO .none ∧
      R (.ok (.ret (.ref s.heap.objs.size))) { s with heap := s.heap.push { cls := .type "enumerate", data := .fields #[.none, .bool false, .ref z, rawInt 0, .none, .none] } }) :=
  .of_wp fun prog w A R s h => by
    obtain ⟨hp, g, d, tk, os⟩ := s
    obtain ⟨hz, h⟩ := h
    have hsub := sub_enumerate
    have hZ : IsZip (Shared.heap ⟨hp, g, d, tk, os⟩) z TI TO .none := hz
    wp_walk using wpAny_loadPart' hz
    refine wpAny_stack_any fun st => wpAny_pure ?_
    split
    · rename_i c _ _ _ _ _
      cases (c == Value.type "enumerate") <;> (wp_walk using wpAny_loadPart' hz, wpAny_pyIter_zip hZ) <;> exact ⟨_, rfl, h⟩
    · wp_walk using wpAny_loadPart' hz, wpAny_pyIter_zip hZ
      exact ⟨_, rfl, h⟩
section
variable {prog : Program} {w : World} {A : Around} {E : Value → Shared → Prop} {s : Shared}
theorem call_enumZ {z TI TO : Addr} {Q : Value → Shared → Prop} (hz : IsZip s.heap z TI TO .none)
    (h : ∀ h', IsEnum h' s.heap.objs.size z 0 .none → (∀ b o, s.heap.get? b = some o → h'.get? b = some o) → Q (.ref s.heap.objs.size) { s with heap := h' }) :
    wpAny (model prog w) A (call (.type "enumerate") [.ref z]) Q E s := by
  refine callType_new F.called_enumerate (by decide) (F.typeCall_enumerate_1 _) (F.newCall_enumerate_1 _) (fun obj => F.args_object_init_2 obj _) F.entry_enumerate_new (meets_enumZ z TI TO) ⟨hz, ?_⟩
  have he : (s.heap.push { cls := .type "enumerate", data := .fields #[.none, .bool false, .ref z, rawInt 0, .none, .none] }).get? s.heap.objs.size = some _ := Heap.get?_push_size _ rfl
  exact ⟨⟨_, he, rfl⟩, h _ he fun b o x => Heap.get?_push_of_some _ x⟩
end
def IteZ (K : PySem.W.Frag) (a b : Addr) : It where
  go := fun i H => ∃ (xs ys : List V) (x y : V), SqT K H a xs ∧ SqT K H b ys ∧ xs[i]? = some x ∧ ys[i]? = some y
  yld := fun i H v H' => ∃ T P x y, v = .ref T ∧ H P = none ∧ H T = none ∧ T ≠ P ∧ H' = upd (upd H P (.tup [x, y])) T (.tup [.int (i : Nat), .ref P]) ∧ (∀ xs, SqT K H a xs → xs[i]? = some x) ∧ ∀ ys, SqT K H b ys → ys[i]? = some y
  stop := fun i H => ∃ xs ys : List V, SqT K H a xs ∧ SqT K H b ys ∧ (xs.length ≤ i ∨ ys.length ≤ i)
structure EZ (e z TI TO i1 i2 a b : Addr) : Prop where
  D : ZipApart z TI TO i1 i2 a b
  ez : e ≠ z
  eI : e ≠ TI
  eO : e ≠ TO
  e1 : e ≠ i1
  e2 : e ≠ i2
abbrev ezSt (e z TI TO i1 i2 a b : Addr) (i : Nat) (h : Heap) : Prop :=
  (∃ old, IsEnum h e z ((i : Nat) : Int) old) ∧ (∃ g c, ZipF h z TI TO g c ∧ Gv g) ∧ PairAt h TI (.ref i1) (.ref i2) ∧ (∃ u v, PairAt h TO u v) ∧ h.IsTupleIter i1 a i ∧ h.IsTupleIter i2 b i
theorem turn_enumZ {P : Program} {w : World} {K : PySem.W.Frag} {elts : List Expr} {kk : Nat} {tpos : Pos} {e z TI TO i1 i2 a b : Addr} (Z : EZ e z TI TO i1 i2 a b) :
    Turn P w K (.Tuple elts kk tpos) (IteZ K a b) [e, z, TI, TO, i1, i2] e (ezSt e z TI TO i1 i2 a b) where
  mem := List.mem_cons_self
  obj := by
    rintro i h ⟨⟨old, he⟩, ⟨g, c, hz, _⟩, hI, ⟨u, v, hO⟩, ⟨o1, g1, _, d1⟩, ⟨o2, g2, _, d2⟩⟩ q hq
    simp only [List.mem_cons, List.not_mem_nil, or_false] at hq
    rcases hq with rfl | rfl | rfl | rfl | rfl | rfl
    · exact ⟨_, he, fun _ z => nomatch z⟩
    · exact ⟨_, hz, fun _ z => nomatch z⟩
    · exact ⟨_, hI, fun _ z => nomatch z⟩
    · exact ⟨_, hO, fun _ z => nomatch z⟩
    · exact ⟨o1, g1, fun _ z => by rw [d1] at z; cases z⟩
    · exact ⟨o2, g2, fun _ z => by rw [d2] at z; cases z⟩
  keep := by
    rintro i h h' ⟨⟨old, he⟩, ⟨g, c, hz, hg⟩, hI, ⟨u, v, hO⟩, h1, h2⟩ k
    exact ⟨⟨old, k e (by simp) _ he⟩, ⟨g, c, k z (by simp) _ hz, hg⟩, k TI (by simp) _ hI, ⟨u, v, k TO (by simp) _ hO⟩, h1.at fun o q => k i1 (by simp) o q, h2.at fun o q => k i2 (by simp) o q⟩
  item := by
    intro X hP hw hK hc i pn s σ H E J hf st hg
    subst hP hw hK
    obtain ⟨⟨old, he⟩, ⟨g, c, hz, hgv⟩, hI, hO, h1, h2⟩ := st
    obtain ⟨xs, ys, x, y, qx, qy, hx, hy⟩ := hg
    obtain ⟨its, rv, p1, _⟩ := J.tuple qx
    obtain ⟨its2, rv2, p2, _⟩ := J.tuple qy
    obtain ⟨u, hu, ru⟩ := rv.get hx
    obtain ⟨u2, hu2, ru2⟩ := rv2.get hy
    have el : e < s.heap.objs.size := Heap.lt_size he
    have tz : s.TypeIs (.ref z) "zip" := ⟨_, hz, rfl⟩
    have lt : ∀ q ∈ [e, z, TI, TO, i1, i2], q < s.heap.objs.size := by
      intro q hq
      simp only [List.mem_cons, List.not_mem_nil, or_false] at hq
      rcases hq with rfl | rfl | rfl | rfl | rfl | rfl
      · exact el
      · exact Heap.lt_size hz
      · exact Heap.lt_size hI
      · obtain ⟨_, _, q⟩ := hO; exact Heap.lt_size q
      · obtain ⟨_, q, _⟩ := h1; exact Heap.lt_size q
      · obtain ⟨_, q, _⟩ := h2; exact Heap.lt_size q
    refine enum_next he ?_
    unfold Builtin.SmallTypes.nextOf
    refine wpAny_bind (wpAny_callSpecial?_slot (name := Str.ofString "__next__") tz F.slot_zip_next (wpAny_call_entry F.slot_zip_next tz F.entry_zip_next ?_ (F.args_zip_next_1 _)))
    refine zipF_item Z.D hz hgv hI hO h1 h2 p1 p2 (x := u) (y := u2) (by simpa using hu) (by simpa using hu2) fun hA gA bA zA vA oA a1 a2 pA szA kA => ?_
    refine wpAny_pure ⟨kA _ _ Z.ez Z.eO Z.e1 Z.e2 he, fun hB tk eB tB szB kB => ?_⟩
    dsimp only at eB tB szB kB ⊢
    rw [szA] at eB tB szB ⊢
    refine ⟨_, rfl, wpAny_letOwnedTupleGo_enum (s := { s with heap := hB, toks := tk + 1 }) eB fun hC eC sC => ?_⟩
    have ne1 : ∀ q, q < s.heap.objs.size + 1 → q ≠ s.heap.objs.size + 1 := fun q h => Nat.ne_of_lt h
    have npe : s.heap.objs.size ≠ e := Nat.ne_of_gt el
    have upB : ∀ q o, q ≠ e → hA.get? q = some o → hC.get? q = some o := fun q o n z => (sC.2 q n).trans (kB q o n z)
    -- the pair, then the tuple
    have newP : ObjOk X.prog X.w (upd H s.heap.objs.size (.tup [x, y])) hA s.heap.objs.size (.tup [x, y]) := ⟨small_line (by show 2 ≤ 100000; omega), [u, u2], .cons ru (.cons ru2 .nil), ⟨_, pA, rfl, _, rfl⟩⟩
    have J1 : Inv X pn σ (upd H s.heap.objs.size (.tup [x, y])) { s with heap := hA } :=
      J.turnedNew (t' := s.toks) (ch := [e, z, TI, TO, i1, i2]) (fun q o hq z => kA q o (fun t => hq (by simp [t])) (fun t => hq (by simp [t])) (fun t => hq (by simp [t])) (fun t => hq (by simp [t])) z) hf (Nat.le_refl _) newP
    have hf1 : ∀ q ∈ [e], FpOk X pn (upd H s.heap.objs.size (.tup [x, y])) q := fun q hq => by
      obtain ⟨f0, f1⟩ := hf q (by simp at hq; simp [hq])
      exact ⟨by rw [upd_ne (Nat.ne_of_lt (lt q (by simp at hq; simp [hq])))]; exact f0, f1⟩
    have tC : hC.get? (s.heap.objs.size + 1) = some { cls := .type "tuple", data := .seq #[.int i tk, .ref s.heap.objs.size] } := (sC.2 _ (Nat.ne_of_gt (Nat.lt_succ_of_lt el))).trans tB
    have newT : ObjOk X.prog X.w (upd (upd H s.heap.objs.size (.tup [x, y])) (s.heap.objs.size + 1) (.tup [.int (i : Nat), .ref s.heap.objs.size])) hC (s.heap.objs.size + 1) (.tup [.int (i : Nat), .ref s.heap.objs.size]) :=
      ⟨small_line (by show 2 ≤ 100000; omega), [.int i tk, .ref s.heap.objs.size], .cons ⟨_, rfl⟩ (.cons rfl .nil), ⟨_, tC, rfl, _, rfl⟩⟩
    have J2 : Inv X pn σ (upd (upd H s.heap.objs.size (.tup [x, y])) (s.heap.objs.size + 1) (.tup [.int (i : Nat), .ref s.heap.objs.size])) { s with heap := hC, toks := tk + 1 } :=
      J1.turnedNew (ch := [e]) (fun q o hq z => upB q o (fun t => hq (by simp [t])) z) hf1 (by show hA.objs.size ≤ _; rw [szA]; exact Nat.le_refl _) newT
    have fr1 : H (s.heap.objs.size + 1) = none := J.hok.fresh (Nat.le_succ _)
    refine ⟨.ref (s.heap.objs.size + 1), _, J2, rfl, ⟨_, _, x, y, rfl, J.hok.fresh (Nat.le_refl _), fr1, Nat.succ_ne_self _, rfl, fun l hl => by rw [J.tuple_inj hl qx]; exact hx, fun l hl => by rw [J.tuple_inj hl qy]; exact hy⟩, ?_, fun q hq => ?_⟩
    · refine ⟨⟨.ref s.heap.objs.size, ?_⟩, ⟨gA, bA, upB _ _ Z.ez.symm zA, vA⟩, ?_, ?_, a1.at fun o q => upB _ o Z.e1.symm q, a2.at fun o q => upB _ o Z.e2.symm q⟩
      · rw [show ((i + 1 : Nat) : Int) = (i : Int) + 1 by omega]
        exact eC
      · exact upB _ _ Z.eI.symm (kA _ _ Z.D.TIz Z.D.TITO Z.D.TIi1 Z.D.TIi2 hI)
      · obtain ⟨u', v', q⟩ := oA
        exact ⟨u', v', upB _ _ Z.eO.symm q⟩
    · have := lt q hq
      rw [upd_ne (Nat.ne_of_lt (Nat.lt_succ_of_lt this)), upd_ne (Nat.ne_of_lt this)]
      exact (hf q hq).1
  done := by
    intro X hP hw hK hc i pn s σ H E J hf st hg
    subst hP hw hK
    obtain ⟨⟨old, he⟩, ⟨g, c, hz, hgv⟩, hI, hO, h1, h2⟩ := st
    obtain ⟨xs, ys, qx, qy, hend⟩ := hg
    obtain ⟨its, rv, p1, _⟩ := J.tuple qx
    obtain ⟨its2, rv2, p2, _⟩ := J.tuple qy
    have l1 := rv.length
    have l2 := rv2.length
    have ends : its.toArray[i]? = none ∨ its2.toArray[i]? = none := by
      rcases hend with q | q
      · exact .inl (by simp; omega)
      · exact .inr (by simp; omega)
    have tz : s.TypeIs (.ref z) "zip" := ⟨_, hz, rfl⟩
    refine enum_next he ?_
    unfold Builtin.SmallTypes.nextOf
    refine wpAny_bind (wpAny_callSpecial?_slot (name := Str.ofString "__next__") tz F.slot_zip_next (wpAny_call_entry F.slot_zip_next tz F.entry_zip_next ?_ (F.args_zip_next_1 _)))
    refine zipF_end (by show X.A.in1.in1.handled = none; exact J.ok.hd hc) Z.D hz hgv hI hO h1 h2 p1 p2 ends fun h' x k hx => ?_
    obtain ⟨o, ho, hcx⟩ := hx
    exact ⟨⟨o, ho, hcx⟩, rfl, J.turnedL (t' := s.toks) (ch := [e, z, TI, TO, i1, i2]) (fun q o hq z => k q o (fun t => hq (by simp [t])) (fun t => hq (by simp [t])) (fun t => hq (by simp [t])) (fun t => hq (by simp [t])) z) hf⟩
  self := fun A i s Q E ⟨⟨_, he⟩, _⟩ h => wpAny_pyIter_enum he h
def iEnumZ (K : PySem.W.Frag) (ta : TA) : TI := fun σ H R => ta σ H fun vs H1 => ∃ a b xs ys, vs = [.ref a, .ref b] ∧ SqT K H1 a xs ∧ SqT K H1 b ys ∧ R (IteZ K a b) H1
theorem pi_enumZ {X : Cx} {e e2 : Expr} {ta : TA} {p pos p2 pos2 tpos : Pos} {elts : List Expr} {kk : Nat} (hg : Gl X "enumerate") (hm : X.mg "enumerate" = none) (hg2 : Gl X "zip") (hm2 : X.mg "zip" = none) (ha : PA X [e, e2] ta)
    (hs : starEach [Expr.Call (.Name "zip" p2) [e, e2] [] pos2] X.env = [(false, eval (.Call (.Name "zip" p2) [e, e2] [] pos2) X.env)] := by rfl)
    (hs2 : starEach [e, e2] X.env = (false, eval e X.env) :: starEach [e2] X.env := by rfl) (hpl2 : (backTo pos2 (starEach [e2] X.env)).any (·.1) = false := by rfl) :
    PI X (.Tuple elts kk tpos) (.Call (.Name "enumerate" p) [.Call (.Name "zip" p2) [e, e2] [] pos2] [] pos) (iEnumZ X.K ta) := by
  constructor
  intro pn s σ H R J h
  refine Call_ (ld_blt J hg hm boot_enumerate ?_)
  refine PyProof.Rows.callWith_type1 ?_ hs rfl
  rw [hs]
  refine Calls.spliced_cons ?_
  refine Call_ (ld_blt J hg2 hm2 PyProof.Rows.boot_zip ?_)
  refine PyProof.Rows.callWith_type1 (thn (ha.run pos2 pn s σ H _ J h) ?_) hs2 hpl2
  rintro us s1 ⟨vs, H1, J1, r1, a, b, xs, ys, rfl, qx, qy, q⟩
  obtain ⟨u1, u2, rfl, e1, e2'⟩ := vals2 r1
  cases e1
  cases e2'
  obtain ⟨its, rv, p1, _⟩ := J1.tuple qx
  obtain ⟨its2, rv2, p2', _⟩ := J1.tuple qy
  have al : a < s1.heap.objs.size := by obtain ⟨o, ho, _⟩ := p1; exact Heap.lt_size ho
  have bl : b < s1.heap.objs.size := by obtain ⟨o, ho, _⟩ := p2'; exact Heap.lt_size ho
  refine call_zipT (show s1.heap.IsTuple a its.toArray from p1) (show s1.heap.IsTuple b its2.toArray from p2') fun h' hz hTI hTO h1 h2 hsz hk => ?_
  refine Calls.spliced_nil ?_
  refine call_enumZ (s := { s1 with heap := h' }) hz fun h'' he hk2 => wpAny_pyIter_enum he ?_
  have J2 : Inv X pn σ H1 { s1 with heap := h'' } := J1.kept (t' := s1.toks) fun c o z => hk2 c o (hk c o z)
  have sz : (Shared.heap { s1 with heap := h' }).objs.size = s1.heap.objs.size + 5 := hsz
  rw [sz] at he ⊢
  have N := PySem.W.ktu_apart s1.heap.objs.size a b al bl
  refine ⟨s1.heap.objs.size + 5, [s1.heap.objs.size + 5, s1.heap.objs.size + 4, s1.heap.objs.size + 2, s1.heap.objs.size + 3, s1.heap.objs.size, s1.heap.objs.size + 1], _, _, H1, rfl, J2,
    turn_enumZ (e := s1.heap.objs.size + 5) (z := s1.heap.objs.size + 4) (TI := s1.heap.objs.size + 2) (TO := s1.heap.objs.size + 3) (i1 := s1.heap.objs.size) (i2 := s1.heap.objs.size + 1) ⟨N, ?_, ?_, ?_, ?_, ?_⟩,
    ⟨⟨_, he⟩, ⟨_, _, hk2 _ _ hz, .inl rfl⟩, hk2 _ _ hTI, ⟨_, _, hk2 _ _ hTO⟩, h1.at fun o q => hk2 _ o q, h2.at fun o q => hk2 _ o q⟩, fun c hc => ?_, q⟩
  · exact Nat.ne_of_gt (Nat.add_lt_add_left (by decide) _)
  · exact Nat.ne_of_gt (Nat.add_lt_add_left (by decide) _)
  · exact Nat.ne_of_gt (Nat.add_lt_add_left (by decide) _)
  · exact Nat.ne_of_gt (Nat.lt_add_of_pos_right (by decide))
  · exact Nat.ne_of_gt (Nat.add_lt_add_left (by decide) _)
  · have hle : s1.heap.objs.size ≤ c := by
      simp only [List.mem_cons, List.not_mem_nil, or_false] at hc
      rcases hc with rfl | rfl | rfl | rfl | rfl | rfl
      · exact Nat.le_add_right _ _
      · exact Nat.le_add_right _ _
      · exact Nat.le_add_right _ _
      · exact Nat.le_add_right _ _
      · exact Nat.le_refl _
      · exact Nat.le_add_right _ _
    exact J1.fpOk hle (J1.hok.fresh hle)
/-- the i-th of both in a new pair, that in a new tuple behind its number -/
def YNum (xs ys : Nat → Option V) : Nat → Hp → V → Hp → Prop := fun i H v H' => ∃ T P x y, v = .ref T ∧ H P = none ∧ H T = none ∧ T ≠ P ∧ H' = upd (upd H P (.tup [x, y])) T (.tup [.int (i : Nat), .ref P]) ∧ xs i = some x ∧ ys i = some y
theorem walk_enumZ {K : PySem.W.Frag} {a b : Addr} {xs ys : List V} : Walk (IteZ K a b) (min xs.length ys.length) (fun H => SqT K H a xs ∧ SqT K H b ys) (YNum (fun i => xs[i]?) (fun i => ys[i]?)) := by
  constructor
  · intro i H hi q
    exact ⟨xs, ys, xs[i]'(by omega), ys[i]'(by omega), q.1, q.2, by simp [show i < xs.length by omega], by simp [show i < ys.length by omega]⟩
  · intro H q
    exact ⟨xs, ys, q.1, q.2, by omega⟩
  · rintro i H v H' hi q ⟨T, P, x, y, h1, h2, h3, h4, h5, h6, h7⟩
    exact ⟨T, P, x, y, h1, h2, h3, h4, h5, h6 xs q.1, h7 ys q.2⟩
end GS
/-! repr of data with dicts of ints in it, lists aside -/
namespace GS
open PySem PySem.Spec PyProof.Rows L2 RZ
mutual
inductive Dd (K : PySem.W.Frag) (H : Hp) : V → PyData → Prop
  | non : Dd K H .non .none
  | bl (b : Bool) : Dd K H (.bl b) (.bool b)
  | int (i : Int) : Dd K H (.int i) (.int i)
  | str (x : Str) : Dd K H (.str x) (.str x)
  | dct {a : Addr} (kvs : List (Int × Int)) : H a = some (.dK (kvs.map fun p => (Sum.inl p.1, V.int p.2))) → Dd K H (.ref a) (.dict (kvs.map fun p => (PyData.int p.1, PyData.int p.2)))
  | tup {a : Addr} {xs : List V} {ds : List PyData} : SqT K H a xs → DdAll K H xs ds → Dd K H (.ref a) (.tuple ds)
inductive DdAll (K : PySem.W.Frag) (H : Hp) : List V → List PyData → Prop
  | nil : DdAll K H [] []
  | cons {v : V} {vs : List V} {d : PyData} {ds : List PyData} : Dd K H v d → DdAll K H vs ds → DdAll K H (v :: vs) (d :: ds)
end
theorem reads_ints {h : Heap} {P : Program} {w : World} : ∀ {kvs : List (Int × Int)} {vs : List (Key × Value)} {es : List DictEntry}, KV (kvs.map fun p => (Sum.inl p.1, V.int p.2)) vs → Pairs (mixKind P w) es vs →
    ReadsAll h (es.map (·.key)) ((kvs.map fun p => (PyData.int p.1, PyData.int p.2)).map (·.1)) [] ∧ ReadsAll h (es.map (·.val)) ((kvs.map fun p => (PyData.int p.1, PyData.int p.2)).map (·.2)) []
  | [], _, _, k, p => by
    cases k
    cases p
    exact ⟨.nil, .nil⟩
  | x :: kvs, _, _, k, p => by
    cases k with
    | cons k1 k2 =>
      cases p with
      | cons p1 p2 p3 =>
        obtain ⟨h1, h2⟩ := reads_ints k2 p3
        obtain ⟨e1, e2⟩ := k1
        constructor
        · refine ReadsAll.cons (as := []) ?_ h1
          rcases keyIs_shape p1 with ⟨i, t, e3, e4⟩ | ⟨y, t, e3, e4⟩
          · rw [← e1] at e3
            cases e3
            dsimp only
            rw [e4]
            exact .int _ _
          · rw [← e1] at e3
            cases e3
        · refine ReadsAll.cons (as := []) ?_ h2
          dsimp only
          rw [p2]
          obtain ⟨t, e5⟩ := e2
          rw [e5]
          exact .int _ _
section
variable {X : Cx} {pins : List (Addr × Obj)} {σ : L2.St} {H : Hp} {s : Shared}
mutual
theorem Dd.reads (I : Inv X pins σ H s) : ∀ (d : PyData) (v : V) (u : Value), Dd X.K H v d → RelV v u → ∃ as, Reads s.heap u d as ∧ sysModules ∉ as
  | .none, _, _, h, r => by
    cases h
    cases r
    exact ⟨_, Reads.none, List.not_mem_nil⟩
  | .bool b, _, _, h, r => by
    cases h
    cases r
    exact ⟨_, Reads.bool b, List.not_mem_nil⟩
  | .int i, _, _, h, r => by
    cases h
    obtain ⟨t, rfl⟩ := r
    exact ⟨_, Reads.int i t, List.not_mem_nil⟩
  | .str x, _, _, h, r => by
    cases h
    obtain ⟨t, rfl⟩ := r
    exact ⟨_, Reads.str x t, List.not_mem_nil⟩
  | .list ds, _, _, h, r => by cases h
  | .tuple ds, _, _, h, r => by
    cases h with
    | tup hs ha =>
      cases r
      obtain ⟨its, rv, ⟨o, ho, hc, n, hd⟩, _⟩ := I.tuple hs
      obtain ⟨as, hr, na⟩ := Dd.readsAll I ds _ its ha rv
      exact ⟨_, Reads.tuple ho hc hd hr, na⟩
  | .dict ds, _, _, h, r => by
    generalize hd : PyData.dict ds = d at h
    cases h with
    | dct kvs hs =>
      cases hd
      cases r
      obtain ⟨_, ns, vs, kv, o, es, ep, ho, hx, hd, _, hp, _⟩ := (show ObjOk X.prog X.w H s.heap _ (.dK _) from I.hok _ _ hs)
      obtain ⟨h1, h2⟩ := reads_ints (h := s.heap) kv hp
      refine ⟨_, Reads.dict ho hx.1 hd h1 h2, ?_⟩
      intro z
      simp only [List.append_nil, List.mem_cons, List.not_mem_nil, or_false] at z
      rw [← z] at ns
      exact absurd ns (by decide)
    | _ => cases hd
theorem Dd.readsAll (I : Inv X pins σ H s) : ∀ (ds : List PyData) (vs : List V) (us : List Value), DdAll X.K H vs ds → Vals vs us → ∃ as, ReadsAll s.heap us ds as ∧ sysModules ∉ as
  | [], _, _, h, r => by
    cases h
    cases r
    exact ⟨_, ReadsAll.nil, List.not_mem_nil⟩
  | d :: ds, _, _, h, r => by
    cases h with
    | cons h1 h2 =>
      cases r with
      | cons r1 r2 =>
        obtain ⟨as, q1, n1⟩ := Dd.reads I d _ _ h1 r1
        obtain ⟨bs, q2, n2⟩ := Dd.readsAll I ds _ _ h2 r2
        exact ⟨_, ReadsAll.cons q1 q2, fun z => (List.mem_append.mp z).elim n1 n2⟩
end
end
/-- all but the tables stay -/
def KeepN (H H' : Hp) : Prop := ∀ b o, H b = some o → (∀ ps, o ≠ .tbl ps) → H' b = some o
theorem KeepN.trans {H H1 H2 : Hp} (a : KeepN H H1) (b : KeepN H1 H2) : KeepN H H2 := fun c o e n => b c o (a c o e n) n
theorem kpn {H H' : Hp} (s : Same H H') : KeepN H H' := fun b o e _ => s b o e
theorem rd_keep {H H' : Hp} {a : Addr} {u : HO} (r : Rd H a u) (n : ∀ ps, u ≠ .tbl ps) (s : KeepN H H') : Rd H' a u :=
  r.imp (fun h => s _ _ h n) fun ⟨o, h⟩ => ⟨o, s _ _ h fun _ z => nomatch z⟩
theorem sqL_keep {K : PySem.W.Frag} {H H' : Hp} {a : Addr} {xs : List V} (h : SqL K H a xs) (s : KeepN H H') : SqL K H' a xs := h.imp (fun r => rd_keep r (fun _ z => nomatch z) s) fun z => z
theorem sqT_keep {K : PySem.W.Frag} {H H' : Hp} {a : Addr} {xs : List V} (h : SqT K H a xs) (s : KeepN H H') : SqT K H' a xs := h.imp (fun r => rd_keep r (fun _ z => nomatch z) s) fun z => z
section
variable {K : PySem.W.Frag} {H H' : Hp}
mutual
theorem Dp.keep (s : KeepN H H') : ∀ (d : PyData) (v : V), Dp K H v d → Dp K H' v d
  | .none, _, h => by cases h; exact .non
  | .bool b, _, h => by cases h; exact .bl b
  | .int i, _, h => by cases h; exact .int i
  | .str x, _, h => by cases h; exact .str x
  | .list ds, _, h => by
    cases h with
    | lst hs ha => exact .lst (sqL_keep hs s) (DpAll.keep s ds _ ha)
  | .tuple ds, _, h => by
    cases h with
    | tup hs ha => exact .tup (sqT_keep hs s) (DpAll.keep s ds _ ha)
  | .dict _, _, h => by cases h
theorem DpAll.keep (s : KeepN H H') : ∀ (ds : List PyData) (vs : List V), DpAll K H vs ds → DpAll K H' vs ds
  | [], _, h => by cases h; exact .nil
  | d :: ds, _, h => by
    cases h with
    | cons h1 h2 => exact .cons (Dp.keep s d _ h1) (DpAll.keep s ds _ h2)
end
mutual
theorem Dd.keep (s : KeepN H H') : ∀ (d : PyData) (v : V), Dd K H v d → Dd K H' v d
  | .none, _, h => by cases h; exact .non
  | .bool b, _, h => by cases h; exact .bl b
  | .int i, _, h => by cases h; exact .int i
  | .str x, _, h => by cases h; exact .str x
  | .list ds, _, h => by cases h
  | .tuple ds, _, h => by
    cases h with
    | tup hs ha => exact .tup (sqT_keep hs s) (DdAll.keep s ds _ ha)
  | .dict ds, _, h => by
    generalize hd : PyData.dict ds = d at h
    cases h with
    | dct kvs hs => exact .dct kvs (s _ _ hs fun _ z => nomatch z)
    | _ => cases hd
theorem DdAll.keep (s : KeepN H H') : ∀ (ds : List PyData) (vs : List V), DdAll K H vs ds → DdAll K H' vs ds
  | [], _, h => by cases h; exact .nil
  | d :: ds, _, h => by
    cases h with
    | cons h1 h2 => exact .cons (Dd.keep s d _ h1) (DdAll.keep s ds _ h2)
end
end
/-- small data: it can be shown -/
structure Sx (n k : Nat) (d : PyData) : Prop where
  a : d.showable = true
  c : d.depth ≤ k
  d : d.shown.length ≤ n
theorem Sx.more {n n' k k' : Nat} {d : PyData} (h : Sx n k d) (h1 : n ≤ n') (h2 : k ≤ k') : Sx n' k' d := ⟨h.a, Nat.le_trans h.c h2, Nat.le_trans h.d h1⟩
theorem Sx.int {i : Int} (h : i.natAbs.log2 < 1920) : Sx 1921 0 (.int i) := ⟨decide_eq_true h, Nat.le_refl _, int_text_len_1921 h⟩
theorem sx_all {n k : Nat} : ∀ {ds : List PyData}, (∀ d ∈ ds, Sx n k d) → PyData.showableAll ds = true ∧ PyData.depthAll ds ≤ k ∧ ((PyData.shownAll ds).map (·.length)).sum ≤ n * ds.length ∧ (PyData.shownAll ds).length = ds.length
  | [], _ => ⟨rfl, Nat.zero_le _, Nat.zero_le _, rfl⟩
  | d :: ds, h => by
    obtain ⟨h1, h3, h4, h5⟩ := sx_all (ds := ds) fun e m => h e (List.mem_cons_of_mem _ m)
    have q := h d List.mem_cons_self
    refine ⟨by simp only [PyData.showableAll, q.a, h1, Bool.and_self], ?_, ?_, by simp only [PyData.shownAll, List.length_cons, h5]⟩
    · simp only [PyData.depthAll]
      have := q.c
      omega
    · simp only [PyData.shownAll, List.map_cons, List.sum_cons, List.length_cons]
      have e := q.d
      rw [Nat.mul_add]
      omega
theorem Sx.tuple {n k : Nat} {ds : List PyData} (h : ∀ d ∈ ds, Sx n k d) : Sx (n * ds.length + 2 * ds.length + 3) (k + 1) (.tuple ds) := by
  obtain ⟨h1, h3, h4, h5⟩ := sx_all h
  refine ⟨by simpa only [PyData.showable] using h1, by simp only [PyData.depth]; omega, ?_⟩
  simp only [PyData.shown]
  have := tupleText_len_le (PyData.shownAll ds)
  rw [h5] at this
  omega
theorem Sx.list {n k : Nat} {ds : List PyData} (h : ∀ d ∈ ds, Sx n k d) : Sx (n * ds.length + 2 * ds.length + 3) (k + 1) (.list ds) := by
  obtain ⟨h1, h3, h4, h5⟩ := sx_all h
  refine ⟨by simpa only [PyData.showable] using h1, by simp only [PyData.depth]; omega, ?_⟩
  simp only [PyData.shown]
  have := listText_len_le (PyData.shownAll ds)
  rw [h5] at this
  omega
theorem Sx.nodict : Sx 2 1 (.dict []) := ⟨rfl, by decide, by decide +kernel⟩
theorem Sx.dict1 {i j : Int} (hi : i.natAbs.log2 < 1920) (hj : j.natAbs.log2 < 1920) : Sx 3900 1 (.dict [(.int i, .int j)]) := by
  refine ⟨?_, by simp only [PyData.depth, PyData.depthKv]; decide, ?_⟩
  · simp only [PyData.showable, PyData.showableKv, decide_eq_true hi, decide_eq_true hj, Bool.and_self]
  · have h1 := (Sx.int hi).d
    have h2 := (Sx.int hj).d
    simp only [PyData.shown, PyData.shownKv] at h1 h2 ⊢
    have h3 := dictText_len_le [PySem.Str.ofString (toString i) ++ ": " ++ PySem.Str.ofString (toString j)]
    have h4 : (PySem.Str.ofString (toString i) ++ ": " ++ PySem.Str.ofString (toString j) : Str).length = (PySem.Str.ofString (toString i)).length + 2 + (PySem.Str.ofString (toString j)).length := by
      rw [Str.length_append, Str.length_append]
      rfl
    simp only [List.map_cons, List.map_nil, List.sum_cons, List.sum_nil, List.length_cons, List.length_nil] at h3
    refine Nat.le_trans h3 ?_
    rw [h4]
    omega
/-- data that repr shows -/
def Shw (K : PySem.W.Frag) (H : Hp) (v : V) (d : PyData) : Prop := Sx 100000 60 d ∧ ((Dp K H v d ∧ d.hasDict = false) ∨ Dd K H v d)
theorem Shw.keep {K : PySem.W.Frag} {H H' : Hp} {v : V} {d : PyData} (h : Shw K H v d) (s : KeepN H H') : Shw K H' v d :=
  ⟨h.1, h.2.imp (fun z => ⟨Dp.keep s d v z.1, z.2⟩) fun z => Dd.keep s d v z⟩
/-- parts of data that repr shows: without dicts, or without lists -/
def ElP (K : PySem.W.Frag) (H : Hp) (x : V) : Prop := ∃ d, Sx 8000 1 d ∧ Dp K H x d ∧ d.hasDict = false
def ElD (K : PySem.W.Frag) (H : Hp) (x : V) : Prop := ∃ d, Sx 8000 1 d ∧ Dd K H x d
section
variable {K : PySem.W.Frag} {H H' : Hp} {x : V} {a : Addr}
theorem ElP.keep (h : ElP K H x) (s : KeepN H H') : ElP K H' x := let ⟨d, h1, h2, h3⟩ := h; ⟨d, h1, Dp.keep s d x h2, h3⟩
theorem ElD.keep (h : ElD K H x) (s : KeepN H H') : ElD K H' x := let ⟨d, h1, h2⟩ := h; ⟨d, h1, Dd.keep s d x h2⟩
theorem lg {i : Int} (h1 : -100000000000000000000000000000000 ≤ i) (h2 : i ≤ 100000000000000000000000000000000) : i.natAbs.log2 < 1920 := by
  refine log2_small (Nat.lt_of_lt_of_le (m := 2 ^ 107) ?_ (Nat.pow_le_pow_right (by decide) (by decide)))
  have e : (2 : Nat) ^ 107 = 162259276829213363391578010288128 := by decide
  rw [e]
  omega
theorem elP_int {i : Int} (h : i.natAbs.log2 < 1920) : ElP K H (.int i) := ⟨_, (Sx.int h).more (by decide) (by decide), .int i, rfl⟩
theorem elD_int {i : Int} (h : i.natAbs.log2 < 1920) : ElD K H (.int i) := ⟨_, (Sx.int h).more (by decide) (by decide), .int i⟩
theorem elP_non : ElP K H .non := ⟨_, ⟨rfl, by decide, by decide +kernel⟩, .non, rfl⟩
theorem elD_non : ElD K H .non := ⟨_, ⟨rfl, by decide, by decide +kernel⟩, .non⟩
theorem sx_bl (b : Bool) : Sx 8000 1 (.bool b) := by cases b <;> exact ⟨rfl, by decide, by decide +kernel⟩
theorem elP_bl (b : Bool) : ElP K H (.bl b) := ⟨_, sx_bl b, .bl b, rfl⟩
theorem elD_bl (b : Bool) : ElD K H (.bl b) := ⟨_, sx_bl b, .bl b⟩
theorem sx_str {t : Str} (h : (reprText t).length ≤ 8000) : Sx 8000 1 (.str t) := ⟨rfl, Nat.zero_le _, h⟩
theorem elP_str {t : Str} (h : (reprText t).length ≤ 8000) : ElP K H (.str t) := ⟨_, sx_str h, .str t, rfl⟩
theorem elD_str {t : Str} (h : (reprText t).length ≤ 8000) : ElD K H (.str t) := ⟨_, sx_str h, .str t⟩
theorem elD_emp (h : H a = some (.dK [])) : ElD K H (.ref a) := ⟨_, Sx.nodict.more (by decide) (by decide), .dct [] h⟩
theorem elD_one {i j : Int} (h : H a = some (.dK [(Sum.inl i, V.int j)])) (hi : i.natAbs.log2 < 1920) (hj : j.natAbs.log2 < 1920) : ElD K H (.ref a) := ⟨_, (Sx.dict1 hi hj).more (by decide) (by decide), .dct [(i, j)] h⟩
theorem sx_ints {xs : List Int} (h : ∀ x ∈ xs, x.natAbs.log2 < 1920) : ∀ d ∈ xs.map PyData.int, Sx 1921 0 d := by
  intro d m
  obtain ⟨x, hx, rfl⟩ := List.mem_map.mp m
  exact Sx.int (h x hx)
theorem noDict_ints : ∀ xs : List Int, PyData.hasDictAll (xs.map PyData.int) = false
  | [] => rfl
  | x :: xs => by simp only [List.map_cons, PyData.hasDictAll, PyData.hasDict, noDict_ints xs, Bool.or_self]
theorem elP_tupI {xs : List Int} (h : H a = some (.tup (xs.map V.int))) (hl : xs.length ≤ 3) (hx : ∀ x ∈ xs, x.natAbs.log2 < 1920) : ElP K H (.ref a) :=
  ⟨_, (Sx.tuple (sx_ints hx)).more (by rw [List.length_map]; omega) (by decide), dp_tup (SqT.of h), by simp only [PyData.hasDict, noDict_ints]⟩
theorem elP_lstI {xs : List Int} (h : H a = some (.lst (xs.map V.int))) (hl : xs.length ≤ 3) (hx : ∀ x ∈ xs, x.natAbs.log2 < 1920) : ElP K H (.ref a) :=
  ⟨_, (Sx.list (sx_ints hx)).more (by rw [List.length_map]; omega) (by decide), dp_lst (SqL.of h), by simp only [PyData.hasDict, noDict_ints]⟩
theorem elP_all : ∀ {ys : List V}, (∀ y ∈ ys, ElP K H y) → ∃ ds, DpAll K H ys ds ∧ (∀ d ∈ ds, Sx 8000 1 d) ∧ PyData.hasDictAll ds = false ∧ ds.length = ys.length
  | [], _ => ⟨[], .nil, fun _ z => (nomatch z), rfl, rfl⟩
  | y :: ys, h => by
    obtain ⟨ds, h1, h2, h3, h4⟩ := elP_all (ys := ys) fun z m => h z (List.mem_cons_of_mem _ m)
    obtain ⟨d, k1, k2, k3⟩ := h y List.mem_cons_self
    refine ⟨d :: ds, .cons k2 h1, fun e m => ?_, by simp only [PyData.hasDictAll, k3, h3, Bool.or_self], by rw [List.length_cons, List.length_cons, h4]⟩
    rcases List.mem_cons.mp m with rfl | m
    · exact k1
    · exact h2 e m
theorem elD_all : ∀ {ys : List V}, (∀ y ∈ ys, ElD K H y) → ∃ ds, DdAll K H ys ds ∧ (∀ d ∈ ds, Sx 8000 1 d) ∧ ds.length = ys.length
  | [], _ => ⟨[], .nil, fun _ z => (nomatch z), rfl⟩
  | y :: ys, h => by
    obtain ⟨ds, h1, h2, h4⟩ := elD_all (ys := ys) fun z m => h z (List.mem_cons_of_mem _ m)
    obtain ⟨d, k1, k2⟩ := h y List.mem_cons_self
    refine ⟨d :: ds, .cons k2 h1, fun e m => ?_, by rw [List.length_cons, List.length_cons, h4]⟩
    rcases List.mem_cons.mp m with rfl | m
    · exact k1
    · exact h2 e m
theorem shw_el (h : ElP K H x) : ∃ d, Shw K H x d := let ⟨d, h1, h2, h3⟩ := h; ⟨d, h1.more (by decide) (by decide), .inl ⟨h2, h3⟩⟩
theorem shw_elD (h : ElD K H x) : ∃ d, Shw K H x d := let ⟨d, h1, h2⟩ := h; ⟨d, h1.more (by decide) (by decide), .inr h2⟩
theorem shw_tup {ys : List V} (h : H a = some (.tup ys)) (hl : ys.length ≤ 5) (hy : ∀ y ∈ ys, ElP K H y) : ∃ d, Shw K H (.ref a) d := by
  obtain ⟨ds, h1, h2, h3, h4⟩ := elP_all hy
  exact ⟨_, (Sx.tuple h2).more (by omega) (by decide), .inl ⟨.tup (SqT.of h) h1, by simp only [PyData.hasDict, h3]⟩⟩
theorem shw_lst {ys : List V} (h : H a = some (.lst ys)) (hl : ys.length ≤ 5) (hy : ∀ y ∈ ys, ElP K H y) : ∃ d, Shw K H (.ref a) d := by
  obtain ⟨ds, h1, h2, h3, h4⟩ := elP_all hy
  exact ⟨_, (Sx.list h2).more (by omega) (by decide), .inl ⟨.lst (SqL.of h) h1, by simp only [PyData.hasDict, h3]⟩⟩
theorem shw_tupD {ys : List V} (h : H a = some (.tup ys)) (hl : ys.length ≤ 5) (hy : ∀ y ∈ ys, ElD K H y) : ∃ d, Shw K H (.ref a) d := by
  obtain ⟨ds, h1, h2, h4⟩ := elD_all hy
  exact ⟨_, (Sx.tuple h2).more (by omega) (by decide), .inr (.tup (SqT.of h) h1)⟩
end
def rShwX (K : PySem.W.Frag) : List V → Hp → VK → Prop := fun xs H Q => ∃ (v : V) (d : PyData), xs = [v] ∧ Shw K H v d ∧ Q (.str d.shown) H
def rStrI : List V → Hp → VK → Prop := fun xs H Q => ∃ i : Int, xs = [.int i] ∧ i.natAbs.log2 < 1920 ∧ Q (.str (toString i)) H
section
variable {X : Cx}
theorem call_strI : CallR X (.type "str") rStrI := call_str_int
theorem call_shwX (hA : Clr X.A) (hu : X.A.units + 64 < cLine) : CallR X (.builtin "repr") (rShwX X.K) := by
  intro pn s σ H xs us Q J r h
  obtain ⟨v, d, rfl, ⟨sx, hd | hd⟩, q⟩ := h
  · exact call_shw hA hu pn s σ H [v] us Q J r ⟨v, d, rfl, hd.1, sx.a, hd.2, sx.c, small_line sx.d, q⟩
  obtain ⟨u, rfl, r1⟩ := vals1 r
  have h3 := sx.c
  have h1 := sx.a
  have h4 := small_line sx.d
  have big : ∀ a, v = .ref a → wpAny (model X.prog X.w) X.A (call (.builtin "repr") [u]) (EP X pn σ Q) X.xe s := by
    intro a e
    subst e
    cases r1
    obtain ⟨as, rd, na⟩ := Dd.reads J d _ _ hd rfl
    exact repr_of_reads' rd h1 (fun _ => na) hA (by omega) (fun _ _ z => z) (fun h' u tk hk => ⟨.str _, H, J.kept hk, ⟨_, rfl⟩, q⟩) h4
  cases hd with
  | non =>
    cases r1
    exact PySem.P.repr_of_none ⟨.str _, H, J.tok _, ⟨_, rfl⟩, q⟩
  | bl b =>
    cases r1
    exact PySem.P.repr_of_bool ⟨.str _, H, J.tok _, ⟨_, rfl⟩, q⟩
  | int i =>
    obtain ⟨t, rfl⟩ := r1
    exact PySem.P.repr_of_int (of_decide_eq_true h1) ⟨.str _, H, J.tok _, ⟨_, rfl⟩, q⟩
  | str x =>
    obtain ⟨t, rfl⟩ := r1
    exact PySem.P.repr_of_str ⟨.str _, H, J.tok _, ⟨_, rfl⟩, q⟩ h4
  | dct h => exact big _ rfl
  | tup h g => exact big _ rfl
end
end GS
/-! a lambda handed to a def, where what it lets out is caught beside the def's own slots; the end of a law with a table -/
namespace GS
open PySem PySem.Spec PyProof.Rows L2 RZ
open LamX (LamS lamEnv lamCx CodeO TabS Tabs TabB ExtN tLam)
section
variable {X : Cx} {pins : List (Addr × Obj)} {σ : L2.St} {H : Hp} {s : Shared}
/-- the context of the def that got the lambda -/
abbrev gotCx (X : Cx) (Ng : List Str) (x : Str) (sg : Scope) (g : Addr) (cdg : Value) (s : Shared) (H : Hp) : Cx := cxOf CX0 X.prog X.w X.K X.mg X.base Ng x sg g cdg X.A X.stack s H E0
theorem pe_actW {Ng : List Str} {x : Str} {sg : Scope} {g fn cc : Addr} {cdg pm ctv : Value} {params : Arguments} {body : Expr} {scope : Scope} {k : Nat} {nm : Str} {tb : XK → TE}
    (J : Inv X pins σ H s) (L : LamS X.env.scope scope)
    (ho : s.heap.get? fn = some (PySem.W.kla_obj "<lambda>" (X.env.qual ++ "<lambda>") params body scope (cloFrom X.env.cells scope.names []) pm cc ctv))
    (nH : H fn = none) (nS : fn ∉ frs X.stack)
    (hb : bindArgs (PySem.W.kla_fn "<lambda>" (X.env.qual ++ "<lambda>") params body scope (cloFrom X.env.cells scope.names []) pm (.ref cc) ctv) ⟨[], []⟩ = pure [])
    (room : Room (k + 1) (X.A.deeper (envOfC x sg s.heap.objs.size g cdg)))
    (hbd : ∀ (E : XK) (A : Around) (fr : List Env) (s : Shared) (H : Hp), Room k (A.deeper (lamEnv X scope s.heap.objs.size fn cc)) → PE (lamCx X A fr s H E scope fn cc) body (tb E))
    (h0 : Ng[0]? = some nm) (hv : Vis sg nm) (n1 : (nm == ("__debug__" : Str)) = false) (n2 : (nm == ("__classdict__" : Str)) = false)
    (W : WX) (pn : List (Addr × Obj)) (xe : Value → Shared → Prop) (p1 p2 : Pos) (tk : Takes ((gotCx X Ng x sg g cdg s H).tr pn xe) W) :
    PE ((gotCx X Ng x sg g cdg s H).tr pn xe) (.Call (.Name nm p1) [] [] p2)
      (fun τ G Q => τ[0]? = some (some (.ref fn)) ∧ G cc = some (CodeO cc (X.env.qual ++ "<lambda>")) ∧ ∃ (E : XK) (R : VK), (∀ cls d G', E cls d G' → W cls d τ G') ∧ (∀ v G', R v G' → Q v G') ∧ tb E σ G R) := by
  constructor
  intro pz sz τ G Q JZ hw
  obtain ⟨w1, w2, E, R, wE, wR, w3⟩ := hw
  apply wpAny_Call_Name_kw
  apply thn ((pe_var (pos := p1) (i := 0) h0 hv n1 n2).run pz sz τ G (fun v H1 => v = .ref fn ∧ H1 = G) JZ ⟨.ref fn, w1, rfl, rfl⟩)
  rintro u s1 ⟨v, H1, J1, r1, e1, e2⟩
  subst e1
  rw [e2] at J1
  obtain rfl : u = Value.ref fn := r1
  have o1 := J1.base.keep fn _ ho nH nS fun z => nomatch (show fn ∈ ([] : List Addr) from z)
  apply PySem.W.callWith_F0 ⟨_, _, _, _, o1⟩
  obtain ⟨⟨oc, us, t, c1, c2, c3⟩, _, _⟩ := J1.hok cc _ w2
  have run : codeAny (model X.prog X.w) (X.A.deeper (envOfC x sg s.heap.objs.size g cdg)) (.call (.ref fn) ⟨[], []⟩) (CR (L2.CX X.prog X.w) (envOfC x sg s.heap.objs.size g cdg :: X.stack) X.prog X.w G s1 R E) s1 := by
    apply PySem.W.kla_callFunE room.depth o1 rfl L.co L.gen rfl ⟨cc, oc, us, t, rfl, c1, c2, c3⟩
    rw [hb]
    apply wpAny_pure
    refine wpAny_newFunctionEnv (fun y m => (L.own y m).2) (fun y m => absurd m List.not_mem_nil) ?_ L.kind
    intro h₁ ns sb
    have kp : ∀ b o, s1.heap.get? b = some o → h₁.get? b = some o := fun b o e => sb.extBut b o (Nat.ne_of_lt (Heap.lt_size e)) (Heap.get?_push_of_some _ e)
    refine ⟨J1.nolimit.fresh _ sb, ?_⟩
    change codeAny _ _ (.expr body (lamEnv X scope s1.heap.objs.size fn cc)) _ _
    have JL := LamX.lam_start2 (E := E) (f := fn) (c' := cc) (tk := s1.toks + ([] : List (Str × Value)).length) J L J1.env0 room.hd J1.base ns kp
    apply PySem.W.kla_codeExpr
    apply wpAny_mono ((hbd E _ _ s1 G (room.deeper _)).run [] _ _ G R JL w3) _ fun _ _ z => z
    rintro v s2 ⟨v', G', K1, K2, K3⟩
    exact ⟨v', G', K1.os, K1.bare, K1.base, K1.hok, K2, K3⟩
  apply wpAny_call
  apply codeAny_mono run
  intro r s2 z
  match r, z with
  | .error e, z => exact tk e s2 (XE.of_call J1 (fun cls d G' q => wE cls d G' q) z)
  | .ok (.ret u), ⟨v', G', k1, k2, k3, k4, k5, k6⟩ => exact J1.after ⟨v', G', k1, k2, k3, k4, k5, wR _ _ k6⟩
  | .ok .next, z => exact z.elim
  | .ok .brk, z => exact z.elim
  | .ok .cont, z => exact z.elim
end
/-- TT: what the def makes of the lambda's reading -/
def Makes (X : Cx) (Ng : List Str) (x : Str) (sg : Scope) (g : Addr) (cdg : Value) (bg : List Stmt) (nm q : Str) (TT : (XK → Hp → VK → Prop) → Hp → VK → Prop) : Prop :=
  ∀ (fn cc : Addr) (s : Shared) (H : Hp) (Q : VK) (tl : XK → Hp → VK → Prop),
    (∀ (W : WX) (pn : List (Addr × Obj)) (xe : Value → Shared → Prop) (p1 p2 : Pos), Takes ((gotCx X Ng x sg g cdg s H).tr pn xe) W →
      PE ((gotCx X Ng x sg g cdg s H).tr pn xe) (.Call (.Name nm p1) [] [] p2) (fun τ G Q => τ[0]? = some (some (.ref fn)) ∧ G cc = some (CodeO cc q) ∧ ∃ (E : XK) (R : VK), (∀ cls d G', E cls d G' → W cls d τ G') ∧ (∀ v G', R v G' → Q v G') ∧ tl E G R)) →
    H cc = some (CodeO cc q) → TT tl H Q →
    ∃ t, PSs (gotCx X Ng x sg g cdg s H).nox bg t ∧ t { nx := fun _ H' => Q .non H', rt := Q } (start Ng [.ref fn]) H
section
variable {X : Cx}
/-- g(lambda: body) -/
theorem pe_lamW {T : List (Addr × Str)} {TT : (XK → Hp → VK → Prop) → Hp → VK → Prop} {x nm : Str} {g c P : Addr} {k : Nat} {st : Stmt} {fd : FuncData} {Ng : List Str} {params : Arguments} {body : Expr} {scope : Scope} {t : XK → TE} {p lpos pos : Pos}
    (F : Fun X.K x x st g fd) (hg : Gl X x) (hm : X.mg x = some (.ref g)) (hb : Binds X.K fd [nm] []) (Sg : FnScope Ng [nm] (defScope st)) (h0 : Ng[0]? = some nm) (hv : Vis (defScope st) nm)
    (hG : ∀ cdg, Makes X Ng x (defScope st) g cdg (defBody st) nm (X.env.qual ++ "<lambda>") TT)
    (TB : TabB X.base X.mg c P) (hc : X.env.code = .ref c) (hT : (P, X.env.qual ++ "<lambda>") ∈ T) (hU : ∀ z ∈ T, z.1 = P → z.2 = X.env.qual ++ "<lambda>") (room : Room (k + 2) X.A) (L : LamS X.env.scope scope) (hdef : defaultsOf params X.env = ([], []))
    (hbi : ∀ (q : Str) (cl : List (Str × Addr)) (pm cv ctv : Value), bindArgs (PySem.W.kla_fn "<lambda>" q params body scope cl pm cv ctv) ⟨[], []⟩ = pure [])
    (hbd : ∀ (E : XK) (A : Around) (fr : List Env) (s : Shared) (H : Hp) (fn cc : Addr), Room k (A.deeper (lamEnv X scope s.heap.objs.size fn cc)) → PE (lamCx X A fr s H E scope fn cc) body (t E))
    (hdb : (x == ("__debug__" : Str)) = false := by decide) (n1 : (nm == ("__debug__" : Str)) = false := by decide) (n2 : (nm == ("__classdict__" : Str)) = false := by decide) :
    PE X (.Call (.Name x p) [.Lambda params body scope lpos] [] pos) (tLam T TT t) := by
  obtain ⟨oc, od, kV, doc, pm, an, cdv, ct, osl, rfl, lk, hcd⟩ := F.ex
  constructor
  intro pins s σ H Q J hw
  apply wpAny_Call_Name_kw
  apply ld_glob J hg hm _ hdb
  refine PySem.W.callWith_K (h₀ := X.base) J.ok.mod.kin F.kp ?_ (by rfl) (by rfl)
  change wpAny _ _ (spliced ((false, eval (.Lambda params body scope lpos) X.env) :: backTo pos (starEach [] X.env))) _ _ s
  apply Calls.spliced_cons
  apply LamX.lam_make2 J TB hc hT hU hw.1 hdef (L.has J.ok)
  intro fn cc pm' ctv H1 s1 J1 eN T1 of nf fr hco
  refine Calls.spliced_nil ⟨J1.kIn, ?_⟩
  apply wpAny_call
  have run : codeAny (model X.prog X.w) X.A (.call (.ref g) ⟨[.ref fn], []⟩) (CR CX0 X.stack X.prog X.w H1 s1 Q E0) s1 := by
    apply LamX.run_ofS (N := Ng) (ps := [nm]) (us := [.ref fn]) (vs := [.ref fn]) lk hcd Sg room J1.env0 (hb s1 [.ref fn] J1.kIn rfl) (.cons rfl .nil) rfl
    intro room'
    obtain ⟨t', a1, a2⟩ := hG cdv fn cc s1 H1 Q (fun E H' Q' => t E σ H' Q') (fun W pn xe p1 p2 tk => pe_actW J1 L of nf fr (hbi _ _ _ _ _) room' (fun E A fr s H r => hbd E A fr s H fn cc r) h0 hv n1 n2 W pn xe p1 p2 tk) hco (hw.2 H1 eN T1)
    exact ⟨t', a1.nox, a2⟩
  apply codeAny_mono run
  intro r s2 z
  match r, z with
  | .error _, z => exact (show False from z).elim
  | .ok (.ret u), z => exact J1.after z
  | .ok .next, z => exact z.elim
  | .ok .brk, z => exact z.elim
  | .ok .cont, z => exact z.elim
end
section
variable {P : Program} {w : World} {K : PySem.W.Frag} {mg : Str → Option Value} {base : Heap}
/-- the table of a def's code object stands ready -/
structure Tb (base : Heap) (mg : Str → Option Value) (fd : FuncData) (T : Addr) : Prop where
  ex : ∃ c, fd.code = .ref c ∧ TabB base mg c T
/-- okG, with the def's code object -/
theorem okGT {x qual : Str} {st : Stmt} {f : Addr} {fd : FuncData} {N ps : List Str} {k : Nat} {sp : Sp} (F : Fun K x qual st f fd)
    (S : FnScope N ps (defScope st)) (num : ∀ vs H Q E, sp vs H Q E → vs.length = ps.length)
    (hb : ∀ (cdv : Value) (A : Around) (fr : List Env) (s : Shared) (H : Hp) (vs : List V) (Q : VK) (E : XK), fd.code = cdv → Clr A →
      Room k (A.deeper (envOfC qual (defScope st) s.heap.objs.size f cdv)) → sp vs H Q E →
      ∃ t, PSs (cxOf CX0 P w K mg base N qual (defScope st) f cdv A fr s H E).nox (defBody st) t ∧ t { nx := fun _ H' => Q .non H', rt := Q } (start N vs) H) :
    FnG P w K mg base (k + 1) f fd ps sp := by
  obtain ⟨oc, od, kV, doc, pm, an, cdv, ct, osl, rfl, lk, hcd⟩ := F.ex
  refine ⟨num, ?_⟩
  intro A fr s H ar us vs Q E hA hr e0 hbd r hsp
  have kept : ∀ b o, base.get? b = some o → s.heap.get? b = some o := fun b o z => (e0.bs b o z).1
  have hK := e0.mod.kin.keeps kept
  refine codeAny_call_function hr.depth (hK _ _ lk) rfl S.co S.gen rfl (PySem.W.codeRec_of hK hcd) (hbd _ _ _ _ ?_)
  refine wpAny_newFunctionEnv_cells S.kind ?_ ?_
  · rintro ⟨n, v⟩ hy
    exact (S.par n (List.of_mem_zip hy).1).imp (fun z => z) fun z => ⟨z, PySem.W.cellsFrom_some _ _ _ (.inl z)⟩
  intro env he s1 ic
  subst he
  refine ⟨(e0.mod.nolimit.keeps kept).keeps ic.toInCall.keep, codeAny_func ?_⟩
  obtain ⟨t, ht, hq⟩ := hb cdv A fr s H vs Q E rfl hA (hr.deeper _) hsp
  have J : Inv (cxOf CX0 P w K mg base N qual (defScope st) f cdv A fr s H E) [] (start N vs) H s1 := inv_start S hr.hd e0 (num _ _ _ _ hsp) r ic
  apply wpAny_mono (ht.nox.run [] s1 (start N vs) H _ J hq) _ fun _ _ z => z
  intro fl s' z
  match fl, z with
  | .ret u, ⟨v, σ', H', J', rv, q⟩ => exact ⟨v, H', J'.os, J'.bare, J'.base, J'.hok, rv, q⟩
  | .next, ⟨σ', H', J', q⟩ => exact ⟨.non, H', J'.os, J'.bare, J'.base, J'.hok, rfl, q⟩
  | .brk, ⟨_, _, _, q⟩ => exact q.elim
  | .cont, ⟨_, _, _, q⟩ => exact q.elim
end
/-- the script, locked, and empty tables -/
def tabH (K : PySem.W.Frag) (a : Addr) (vs : List Value) (ns : List Int) (ts : List Addr) : Hp := fun b => if b ∈ ts then some (.tbl #[]) else scriptH K a vs ns b
abbrev emptyT : Obj := { cls := .none, data := .fields #[] }
theorem lawGT {P : Program} {w : World} {K : PySem.W.Frag} {mg mb : Str → Option Value} {k : Nat} {fa a : Addr} {fd : FuncData} {x : Str} {sp : Sp} {s₁ : Shared} {vs : List Value} {ns : List Int} {cs : List (Addr × Addr)}
    (KX : K.In s₁.heap) (g1 : s₁.heap.Ns mainGlobals mg) (g2 : s₁.heap.Ns builtinsNs mb) (g3 : ∀ x : Str, x ≠ "__name__" → mb x = bootBuiltins x) (g4 : s₁.heap.NoLimit) (g5 : s₁.gens = #[])
    (tT : ∀ p ∈ cs, s₁.heap.get? p.2 = some emptyT) (tN : ∀ p ∈ cs, K.lookup p.2 = none) (tC : ∀ p ∈ cs, PySem.W.CodeHd s₁.heap p.1 p.2)
    (tB : ∃ (bm : Addr) (ob : Obj), mg "__builtins__" = some (.ref bm) ∧ bm ≠ builtinsNs ∧ s₁.heap.get? bm = some ob ∧ ob.cls = .type "module" ∧ ob.dict = some builtinsNs ∧ ob.data = .plain)
    (ha : s₁.heap.get? a = some { cls := .type "list", data := .seq vs.toArray }) (hi : IntsAre vs ns) (hl : ns.length ≤ sizeLine) (hr : Room k callerA)
    (F : ∀ base : Heap, K.In base → base.Ns mainGlobals mg → (∀ p ∈ cs, TabB base mg p.1 p.2) → FnG P w K mg base k fa fd [x] sp) (hbd : ∀ (s : Shared) (u : Value), BindsTo s fd ⟨[u], []⟩ [(x, u)])
    (hsp : ∀ H : Hp, (∀ p ∈ cs, H p.2 = some (.tbl #[])) → SqL K H a (ns.map V.int) → sp [.ref a] H (fun v _ => v = .bl true) E0) :
    codeAny (model P w) callerA (.call (.ref fa) ⟨[.ref a], []⟩) (fun r s' => r = .ok (.ret (.bool true)) ∧ OldK s₁.heap s'.heap ∧ s'.os = s₁.os ∧ AllBare s'.gens) s₁ := by
  have rv : Vals (ns.map V.int) vs := vals_ints hi
  have n1 : vs.length = ns.length := hi.length
  let ts := cs.map (·.2)
  have isT : ∀ b, b ∈ ts → s₁.heap.get? b = some emptyT := fun b hb => by
    obtain ⟨p, hp, rfl⟩ := List.mem_map.mp hb
    exact tT p hp
  have noK : ∀ b, b ∈ ts → K.lookup b = none := fun b hb => by
    obtain ⟨p, hp, rfl⟩ := List.mem_map.mp hb
    exact tN p hp
  have inT : ∀ p ∈ cs, p.2 ∈ ts := fun p hp => List.mem_map.mpr ⟨p, hp, rfl⟩
  have aT : a ∉ ts := fun z => by
    have e := isT a z
    rw [ha] at e
    cases e
  let H := tabH K a vs ns ts
  have H1 : ∀ {b : Addr} {o : HO}, H b = some o → (b ∈ ts ∧ o = .tbl #[]) ∨ (b = a ∧ K.lookup a = none ∧ o = .frz { cls := .type "list", data := .seq vs.toArray } (.lst (ns.map V.int))) := by
    intro b o z
    by_cases c : b ∈ ts
    · have z2 : (if b ∈ ts then some (HO.tbl #[]) else scriptH K a vs ns b) = some o := z
      rw [if_pos c] at z2
      exact .inl ⟨c, (Option.some.inj z2).symm⟩
    · have z2 : (if b ∈ ts then some (HO.tbl #[]) else scriptH K a vs ns b) = some o := z
      rw [if_neg c] at z2
      exact .inr (scriptH_some z2)
  have HT : ∀ p ∈ cs, H p.2 = some (.tbl #[]) := fun p hp => if_pos (inT p hp)
  have hok : HOk P w H s₁.heap := by
    intro b o z
    rcases H1 z with ⟨c, rfl⟩ | ⟨rfl, _, rfl⟩
    · exact isT b c
    · exact ⟨ha, by rw [List.length_map]; exact hl, vs, _, rv, ha⟩
  have hS : SqL K H a (ns.map V.int) := by
    cases c : K.lookup a with
    | none =>
      have e : H a = scriptH K a vs ns a := if_neg aT
      exact .inl (.inr ⟨_, e.trans (if_pos ⟨rfl, c⟩)⟩)
    | some o =>
      have z := KX a o c
      rw [ha] at z
      cases z
      exact .inr ⟨_, vs.toArray, _, c, rfl, rfl, rfl, by rw [List.size_toArray, n1]; exact hl, by simpa using rv⟩
  have away : ∀ {b : Addr} {o : Obj}, s₁.heap.get? b = some o → ((∀ q n, o.data ≠ .seq q n) ∧ o.data ≠ .fields #[]) ∨ K.lookup b ≠ none → H b = none := by
    intro b o z hb
    cases q : H b with
    | none => rfl
    | some u =>
      rcases H1 q with ⟨c, rfl⟩ | ⟨rfl, c, rfl⟩
      · rw [isT b c] at z
        cases z
        rcases hb with hb | hb
        · exact absurd rfl hb.2
        · exact absurd (noK b c) hb
      · rw [ha] at z
        cases z
        rcases hb with hb | hb
        · exact absurd rfl (hb.1 _ _)
        · exact absurd c hb
  have nsK : ∀ {b : Addr} {m : Str → Option Value}, s₁.heap.Ns b m → (hidT s₁.heap H).Ns b m := by
    rintro b m ⟨o, es, ep, z, d, r⟩
    exact ⟨o, es, ep, hidT_get z (away z (.inl ⟨fun q n y => (by rw [d] at y; cases y), fun y => by rw [d] at y; cases y⟩)), d, r⟩
  have hKb : K.In (hidT s₁.heap H) := fun b o z => hidT_get (KX b o z) (away (KX b o z) (.inr (by rw [z]; exact Option.some_ne_none _)))
  have TB : ∀ p ∈ cs, TabB (hidT s₁.heap H) mg p.1 p.2 := by
    intro p hp
    have tp := tT p hp
    constructor
    · obtain ⟨o, us, y1, y2, y3, y4, y5, y6, y7, z1, z2, z3, z4, z5⟩ := tC p hp
      exact ⟨o, us, y1, y2, y3, y4, y5, y6, y7, hidT_get z1 (away z1 (.inl ⟨fun q n y => (by rw [z3] at y; cases y), fun y => by rw [z3] at y; cases y; simp at z4⟩)), z2, z3, z4, z5⟩
    · obtain ⟨bm, ob, b1, b2, b3, b4, b5, b6⟩ := tB
      refine ⟨bm, ob, b1, b2, ?_, ?_, hidT_get b3 (away b3 (.inl ⟨fun q n y => (by rw [b6] at y; cases y), fun y => by rw [b6] at y; cases y⟩)), b4, b5, b6⟩
      · intro e
        obtain ⟨o, es, ep, z, d, _⟩ := g1
        rw [← e, b3] at z
        cases z
        rw [b6] at d
        cases d
      · intro e
        rw [e, tp] at b3
        cases b3
        cases b6
    · intro e
      obtain ⟨o, es, ep, z, d, _⟩ := g1
      rw [e, tp] at z
      cases z
      cases d
  obtain ⟨mc, g6, g7⟩ := g4
  have e0 : Env0 P w K mg (hidT s₁.heap H) callerA [] s₁ H := {
    frames := rfl
    mod := ⟨hKb, nsK g1, ⟨mb, nsK g2, g3⟩, ⟨mc, nsK g6, g7⟩⟩
    bs := fun b o z => of_hidT z
    bsz := Nat.le_of_eq (hidT_size _ _)
    funs := trivial
    frf := fun b z => absurd (show b ∈ ([] : List Addr) from z) List.not_mem_nil
    hok := hok
    bare := .of_eq g5 }
  apply codeAny_mono ((F _ hKb (nsK g1) TB).go callerA [] s₁ H ⟨[.ref a], []⟩ [.ref a] [.ref a] _ _ rfl hr e0 (hbd s₁ (.ref a)) (.cons rfl .nil) (hsp H HT hS))
  intro r s' z
  match r, z with
  | .error _, z => exact z.elim
  | .ok .next, z => exact z.elim
  | .ok .brk, z => exact z.elim
  | .ok .cont, z => exact z.elim
  | .ok (.ret u), ⟨v, H', os, bare, un, hok', r', q⟩ =>
    obtain rfl : v = .bl true := q
    obtain rfl : u = Value.bool true := r'
    have kept : ∀ b o, b ∉ ts → s₁.heap.get? b = some o → s'.heap.get? b = some o := by
      intro b o nb z
      cases c : H b with
      | none => exact un.keep b o z c (fun y => absurd (show b ∈ ([] : List Addr) from y) List.not_mem_nil) List.not_mem_nil
      | some o' =>
        rcases H1 c with ⟨c0, _⟩ | ⟨_, _, rfl⟩
        · exact absurd c0 nb
        have c1 := (hok b _ c).1
        have c2 := (hok' b _ (un.frzs b _ _ c)).1
        rw [z] at c1
        cases c1
        exact c2
    have grown : ∀ p ∈ cs, ∃ more : Array Value, s'.heap.get? p.2 = some { cls := .none, data := .fields more } := by
      intro p hp
      obtain ⟨more, y⟩ := un.tbls p.2 #[] (HT p hp)
      exact ⟨_, hok' p.2 _ y⟩
    refine ⟨rfl, ⟨?_, ?_⟩, os, bare⟩
    · intro b o z
      by_cases c : b ∈ ts
      · obtain ⟨p, hp, rfl⟩ := List.mem_map.mp c
        obtain ⟨more, y⟩ := grown p hp
        rw [tT p hp] at z
        cases z
        right
        left
        exact ⟨((tC p hp).tab (tT p hp)).isCodeTable, rfl, #[], more, rfl, by rw [Array.empty_append]; exact y⟩
      · exact .inl (kept b o c z)
    · intro b o z
      by_cases c : b ∈ ts
      · obtain ⟨p, hp, rfl⟩ := List.mem_map.mp c
        obtain ⟨more, y⟩ := grown p hp
        exact ⟨_, y⟩
      · exact ⟨o, kept b o c z⟩
/-- what stands of a def's table behind the top -/
def Tops (q : Program) (mg : Str → Option Value) (h : Heap) : Prop := ∀ nm : Str, ((recsOf q).any fun e => e.name == nm) = true → ∃ a o fd c P, mg nm = some (.ref a) ∧ h.get? a = some o ∧ o.data = .func fd ∧ fd.code = .ref c ∧ h.IsCode c P #[] ∧ h.TableAt c P #[]
theorem tops_at {q : Program} {mg : Str → Option Value} {h : Heap} {K : PySem.W.Frag} {nm : Str} {f c T : Addr} {oc e : Value} {od d : Option Addr} {fd : FuncData} {sl sl' : Array (Option Value)} {us : Array Value}
    (X : K.In h) (t : Tops q mg h) (hr : ((recsOf q).any fun e => e.name == nm) = true) (hm : mg nm = some (.ref f)) (lk : K.lookup f = some ⟨oc, od, .func fd, sl⟩) (hc : fd.code = .ref c) (lc : K.lookup c = some ⟨e, d, .fields us, sl'⟩) (h11 : us[11]? = some (.ref T)) :
    h.get? T = some emptyT ∧ PySem.W.CodeHd h c T := by
  obtain ⟨a, o, fd', c', T', h1, h2, h3, h4, h5, h6⟩ := t nm hr
  rw [hm] at h1
  cases h1
  rw [X _ _ lk] at h2
  cases h2
  cases h3
  rw [hc] at h4
  cases h4
  have h7 := PySem.W.CodeHd.of h5 h6
  obtain ⟨⟨o2, us2, e1, _, e3, e4⟩, h8⟩ := h6
  rw [X _ _ lc] at e1
  cases e1
  cases e3
  rw [h11] at e4
  cases e4
  exact ⟨h8, h7⟩
theorem walkGT {l : PySem.W.OpenLaw} {n k : Nat} {q : Program} {loose : List Str} {XP : (Str → Option Value) → Heap → Prop} {YP : World → Heap → Prop} {d : DefRec} {K : Params → PySem.W.Frag} {x : Str}
    (hn : l.most = some n) (hn2 : n ≤ sizeLine) (hdf : d.params.defaults = []) (hr : Room k callerA) (hY : ∀ (w : World) (h : Heap), YP w h → (K w.params).In h)
    (F : ∀ (w : World) (mg : Str → Option Value) (fa : Addr) (h : Heap), (K w.params).In h → h.Ns mainGlobals mg → mg d.name = some (.ref fa) → Tops q mg h →
      ∃ (fd : FuncData) (cs : List (Addr × Addr)) (sp : Sp), (∀ (s : Shared) (u : Value), BindsTo s fd ⟨[u], []⟩ [(x, u)]) ∧ (∀ p ∈ cs, h.get? p.2 = some emptyT) ∧ (∀ p ∈ cs, (K w.params).lookup p.2 = none) ∧ (∀ p ∈ cs, PySem.W.CodeHd h p.1 p.2) ∧
        (∀ base : Heap, (K w.params).In base → base.Ns mainGlobals mg → (∀ p ∈ cs, TabB base mg p.1 p.2) → FnG l.prog w (K w.params) mg base k fa fd [x] sp) ∧
        ∀ (H : Hp) (a : Addr) (ns : List Int), ns.length ≤ n → (∀ p ∈ cs, H p.2 = some (.tbl #[])) → SqL (K w.params) H a (ns.map V.int) → sp [.ref a] H (fun v _ => v = .bl true) E0) :
    PySem.W.WalkO q loose XP YP l.row.toRowW d [] (fun f vs => PySem.call f vs) := by
  apply Att.attach_call hn hdf
  intro w s₀ s₁ mg mb fa o pm cd doc a vs ns G Y ho hd hcd hmg hobj hints hlen hg
  have tp : Tops q mg s₁.heap := by
    intro nm z
    obtain ⟨dr, m1, m2⟩ := List.any_eq_true.mp z
    have y := G.T.tab dr m1
    rw [beq_iff_eq.mp m2] at y
    exact y
  obtain ⟨fd, cs, sp, hb, t1, t2, t3, hF, hsp⟩ := F w mg fa _ (hY w _ Y) G.T.g hmg tp
  exact lawGT (hY w _ Y) G.T.g G.T.b G.T.builtins G.T.nolimit hg t1 t2 t3 G.T.bmain hobj hints (Nat.le_trans hlen hn2) hr hF hb fun H h1 h2 => hsp H a ns hlen h1 h2
end GS
/-! max and min of a tuple of ints -/
namespace GS
open PySem PySem.Spec PyProof.Rows L2 RZ
theorem holds_each {h : Heap} : ∀ {vs : List Value} {ns : List Int}, IntsAre vs ns → PySem.W.HoldAll h vs ns := by
  intro vs ns hi
  induction hi with
  | nil => exact PySem.W.HoldAll.nil
  | cons n t _ ih => exact PySem.W.HoldAll.cons (PySem.W.holds_int _ _) ih
theorem maxOf_ge : ∀ (ys : List Int) (y : Int), y ≤ PySem.W.maxOf y ys ∧ (∀ z ∈ ys, z ≤ PySem.W.maxOf y ys) ∧ (PySem.W.maxOf y ys = y ∨ PySem.W.maxOf y ys ∈ ys)
  | [], y => ⟨Int.le_refl _, fun z h => absurd h List.not_mem_nil, .inl rfl⟩
  | x :: xs, y => by
    obtain ⟨c, hc, hc1, hc2, hc3⟩ : ∃ c : Int, PySem.W.maxOf y (x :: xs) = PySem.W.maxOf c xs ∧ y ≤ c ∧ x ≤ c ∧ (c = y ∨ c = x) := by
      by_cases c : y < x
      · refine ⟨x, ?_, by omega, by omega, .inr rfl⟩
        show xs.foldl _ (if decide (y < x) = true then x else y) = _
        rw [decide_eq_true c]
        rfl
      · refine ⟨y, ?_, by omega, by omega, .inl rfl⟩
        show xs.foldl _ (if decide (y < x) = true then x else y) = _
        rw [decide_eq_false c]
        rfl
    rw [hc]
    obtain ⟨h1, h2, h3⟩ := maxOf_ge xs c
    refine ⟨by omega, fun z hz => ?_, ?_⟩
    · rcases List.mem_cons.mp hz with rfl | hz
      · omega
      · exact h2 z hz
    · rcases h3 with h3 | h3
      · rw [h3]
        rcases hc3 with rfl | rfl
        · exact .inl rfl
        · exact .inr List.mem_cons_self
      · exact .inr (List.mem_cons_of_mem _ h3)
def rMaxT (K : PySem.W.Frag) : List V → Hp → VK → Prop := fun vs H Q => ∃ (a : Addr) (ns : List Int), vs = [V.ref a] ∧ SqT K H a (ns.map V.int) ∧ 0 < ns.length ∧ ∀ m, m ∈ ns → (∀ y, y ∈ ns → y ≤ m) → Q (.int m) H
section
variable {X : Cx}
theorem cr_maxT (hc : X.calm = true) (hu : X.A.units + 64 < cLine) : CallR X (.builtin "max") (rMaxT X.K) := by
  intro pins s σ H vs us Q I r h
  obtain ⟨a, ns, rfl, hs, hn, q⟩ := h
  obtain rfl := Vals.ref1 r
  obtain ⟨its, rv, hl, _⟩ := I.tuple hs
  cases ns with
  | nil => exact absurd hn (by decide)
  | cons y ys =>
    refine PySem.W.max_tuple_datum (α := Int) (I.ok.hd hc) hl (holds_each rv.ints) (by show X.A.units + 1 + 0 < cLine; omega) ?_
    intro i v h' tk _ hv hk
    obtain ⟨as, rd⟩ := hv
    have : ∃ t, v = .int (PySem.W.maxOf y ys) t := by
      cases rd with
      | int n t => exact ⟨t, rfl⟩
    obtain ⟨t, rfl⟩ := this
    obtain ⟨h1, h2, h3⟩ := maxOf_ge ys y
    refine ⟨.int _, H, I.kept hk, ⟨_, rfl⟩, q _ ?_ ?_⟩
    · rcases h3 with h3 | h3
      · rw [h3]
        exact List.mem_cons_self
      · exact List.mem_cons_of_mem _ h3
    · intro z hz
      rcases List.mem_cons.mp hz with rfl | hz
      · exact h1
      · exact h2 z hz
end
end GS
namespace M15
structure Sh (xs : List Int) : Prop where
  n : xs.length ≤ 20
  a : ∀ x ∈ xs, 1 ≤ x ∧ x ≤ 20
  f : xs.Pairwise (fun x y => y ≤ x)
abbrev gd (xs : List Int) (k : Nat) : Int := xs.getD k 0
theorem gd_at {xs : List Int} {k : Nat} (h : k < xs.length) : gd xs k = xs[k] := by
  unfold gd
  rw [List.getD_eq_getElem?_getD, List.getElem?_eq_getElem h]
  rfl
theorem gd_out {xs : List Int} {k : Nat} (h : xs.length ≤ k) : gd xs k = 0 := by
  unfold gd
  rw [List.getD_eq_getElem?_getD, List.getElem?_eq_none h]
  rfl
structure Sq (xs : List Int) : Prop where
  n : xs.length ≤ 20
  a : ∀ k, k < xs.length → 1 ≤ gd xs k ∧ gd xs k ≤ 20
  f : ∀ k, k + 1 < xs.length → gd xs (k + 1) ≤ gd xs k
theorem Sq.le {xs : List Int} (h : Sq xs) : ∀ (d i : Nat), i + d < xs.length → gd xs (i + d) ≤ gd xs i
  | 0, i, _ => Int.le_refl _
  | d + 1, i, hl => Int.le_trans (h.f (i + d) hl) (h.le d i (by omega))
theorem sq_iff {xs : List Int} : Sh xs ↔ Sq xs := by
  constructor
  · intro h
    refine ⟨h.n, fun k hk => ?_, fun k hk => ?_⟩
    · rw [gd_at hk]
      exact h.a _ (List.getElem_mem hk)
    · rw [gd_at hk, gd_at (by omega)]
      exact List.pairwise_iff_getElem.mp h.f k (k + 1) (by omega) hk (by omega)
  · intro h
    refine ⟨h.n, fun x m => ?_, ?_⟩
    · obtain ⟨k, hk, rfl⟩ := List.mem_iff_getElem.mp m
      have := h.a k hk
      rw [gd_at hk] at this
      exact this
    · rw [List.pairwise_iff_getElem]
      intro i j hi hj hij
      have := h.le (j - i) i (by omega)
      rw [show i + (j - i) = j by omega, gd_at hi, gd_at hj] at this
      exact this
theorem gd_set {xs : List Int} {r k : Nat} {v : Int} (h : r < xs.length) : gd (xs.set r v) k = if k = r then v else gd xs k := by
  unfold gd
  rw [List.getD_eq_getElem?_getD, List.getD_eq_getElem?_getD, List.getElem?_set]
  by_cases c : r = k
  · subst c
    rw [if_pos rfl, if_pos h, if_pos rfl]
    rfl
  · rw [if_neg c, if_neg (fun z => c z.symm)]
theorem gd_snoc {xs : List Int} {k : Nat} {v : Int} : gd (xs ++ [v]) k = if k < xs.length then gd xs k else if k = xs.length then v else 0 := by
  unfold gd
  rw [List.getD_eq_getElem?_getD, List.getD_eq_getElem?_getD]
  by_cases c : k < xs.length
  · rw [if_pos c, List.getElem?_append_left c]
  · rw [if_neg c, List.getElem?_append_right (by omega)]
    by_cases c2 : k = xs.length
    · rw [if_pos c2, c2, Nat.sub_self]
      rfl
    · rw [if_neg c2, List.getElem?_eq_none (by simp; omega)]
      rfl
theorem gd_cons {x : Int} {xs : List Int} {k : Nat} : gd (x :: xs) k = if k = 0 then x else gd xs (k - 1) := by
  cases k with
  | zero => rfl
  | succ k => rfl
theorem gd_drop {xs : List Int} {k : Nat} : gd (xs.drop 1 ++ [0]) k = gd xs (k + 1) := by
  rw [gd_snoc, List.length_drop]
  by_cases c : k < xs.length - 1
  · rw [if_pos c]
    unfold gd
    rw [List.getD_eq_getElem?_getD, List.getD_eq_getElem?_getD, List.getElem?_drop, Nat.add_comm]
  · rw [if_neg c, gd_out (show xs.length ≤ k + 1 by omega)]
    split <;> rfl
theorem gd_take {xs : List Int} {n k : Nat} : gd (xs.take n) k = if k < n then gd xs k else 0 := by
  unfold gd
  rw [List.getD_eq_getElem?_getD, List.getD_eq_getElem?_getD, List.getElem?_take]
  split <;> rfl
theorem set_cut {xs : List Int} {r : Nat} {v : Int} (h : r < xs.length) : xs.set r v = xs.take r ++ [v] ++ xs.drop (r + 1) := by
  rw [List.set_eq_take_append_cons_drop, if_pos h, List.append_assoc]
  rfl
def pRoom (h w : Int) (xs : List Int) (i : Nat) : Bool := decide (gd (xs ++ [0]) i < gd (w :: xs) i) && decide ((i : Int) < h)
def pOut (xs : List Int) (i : Nat) : Bool := decide (gd (xs.drop 1 ++ [0]) i < gd xs i)
def putL (xs : List Int) (i : Nat) : List Int := if i = xs.length then xs ++ [1] else xs.take i ++ [gd xs i + 1] ++ xs.drop (i + 1)
def takenL (xs : List Int) (i : Nat) : List Int := if gd xs i = 1 then xs.take i else xs.take i ++ [gd xs i - 1] ++ xs.drop (i + 1)
theorem put_set {xs : List Int} {i : Nat} (h : i < xs.length) : putL xs i = xs.set i (gd xs i + 1) := by
  unfold putL
  rw [if_neg (by omega), set_cut h]
theorem taken_set {xs : List Int} {i : Nat} (h : i < xs.length) (h1 : gd xs i ≠ 1) : takenL xs i = xs.set i (gd xs i - 1) := by
  unfold takenL
  rw [if_neg h1, set_cut h]
/-- a cell may come just where it leaves a share -/
theorem room_iff {xs : List Int} (hx : Sh xs) {r : Nat} (hr : r ≤ xs.length) : pRoom 20 20 xs r = true ↔ Sh (putL xs r) := by
  have h := sq_iff.mp hx
  have hn := h.n
  rw [sq_iff]
  unfold pRoom
  rw [Bool.and_eq_true, decide_eq_true_eq, decide_eq_true_eq]
  by_cases c : r = xs.length
  · subst c
    have e : putL xs xs.length = xs ++ [1] := by unfold putL; rw [if_pos rfl]
    rw [e, gd_snoc, if_neg (Nat.lt_irrefl _), if_pos rfl, gd_cons]
    constructor
    · rintro ⟨h1, h2⟩
      refine ⟨by rw [List.length_append]; show xs.length + 1 ≤ 20; omega, fun k hk => ?_, fun k hk => ?_⟩
      · rw [List.length_append] at hk
        rw [gd_snoc]
        by_cases ck : k < xs.length
        · rw [if_pos ck]; exact h.a k ck
        · rw [if_neg ck, if_pos (by have : k < xs.length + 1 := hk; omega)]; decide
      · rw [List.length_append] at hk
        have hk' : k + 1 < xs.length + 1 := hk
        rw [gd_snoc, gd_snoc, if_pos (show k < xs.length by omega)]
        by_cases ck : k + 1 < xs.length
        · rw [if_pos ck]; exact h.f k ck
        · rw [if_neg ck, if_pos (by omega)]
          exact (h.a k (by omega)).1
    · intro q
      have q1 := q.n
      rw [List.length_append] at q1
      have q1' : xs.length + 1 ≤ 20 := q1
      refine ⟨?_, by omega⟩
      by_cases c0 : xs.length = 0
      · rw [if_pos c0]; decide
      · rw [if_neg c0]
        have := (h.a (xs.length - 1) (by omega)).1
        omega
  · have hr' : r < xs.length := by omega
    rw [put_set hr', gd_snoc, if_pos hr', gd_cons]
    constructor
    · rintro ⟨h1, h2⟩
      refine ⟨by rw [List.length_set]; exact hn, fun k hk => ?_, fun k hk => ?_⟩
      · rw [List.length_set] at hk
        rw [gd_set hr']
        have hb := h.a k hk
        split
        · rename_i e
          subst e
          refine ⟨by omega, ?_⟩
          by_cases c0 : k = 0
          · rw [if_pos c0] at h1; omega
          · rw [if_neg c0] at h1
            have := (h.a (k - 1) (by omega)).2
            omega
        · exact hb
      · rw [List.length_set] at hk
        rw [gd_set hr', gd_set hr']
        have hf := h.f k hk
        by_cases c1 : k + 1 = r
        · rw [if_pos c1, if_neg (by omega)]
          rw [if_neg (by omega)] at h1
          have e : r - 1 = k := by omega
          rw [e] at h1
          omega
        · rw [if_neg c1]
          split
          · rename_i e
            subst e
            omega
          · exact hf
    · intro q
      refine ⟨?_, by omega⟩
      by_cases c0 : r = 0
      · rw [if_pos c0]
        have := (q.a r (by rw [List.length_set]; exact hr')).2
        rw [gd_set hr', if_pos rfl] at this
        omega
      · rw [if_neg c0]
        have := q.f (r - 1) (by rw [List.length_set]; omega)
        rw [show r - 1 + 1 = r by omega, gd_set hr', gd_set hr', if_pos rfl, if_neg (by omega)] at this
        omega
/-- what is left where the last cell of the row goes, a row without cells at the end left out -/
def left (xs : List Int) (r : Nat) : List Int := if r + 1 = xs.length ∧ gd xs r = 1 then xs.take r else xs.set r (gd xs r - 1)
theorem sh_take {xs : List Int} (h : Sh xs) (n : Nat) : Sh (xs.take n) :=
  ⟨by rw [List.length_take]; have := h.n; omega, fun x m => h.a x (List.mem_of_mem_take m), h.f.sublist (List.take_sublist _ _)⟩
theorem out_iff {xs : List Int} (hx : Sh xs) {r : Nat} (hr : r < xs.length) : pOut xs r = true ↔ Sh (left xs r) := by
  have h := sq_iff.mp hx
  unfold pOut left
  rw [decide_eq_true_eq, gd_drop]
  by_cases c : r + 1 = xs.length ∧ gd xs r = 1
  · rw [if_pos c, c.2, gd_out (by omega)]
    exact ⟨fun _ => sh_take hx r, fun _ => by decide⟩
  · rw [if_neg c, sq_iff]
    have hb := h.a r hr
    constructor
    · intro h1
      have h2 : r + 1 < xs.length → 1 ≤ gd xs (r + 1) := fun z => (h.a _ z).1
      have h3 : 2 ≤ gd xs r := by
        by_cases c1 : r + 1 < xs.length
        · have := h2 c1; omega
        · have : r + 1 = xs.length := by omega
          have : gd xs r ≠ 1 := fun z => c ⟨this, z⟩
          omega
      refine ⟨by rw [List.length_set]; exact h.n, fun k hk => ?_, fun k hk => ?_⟩
      · rw [List.length_set] at hk
        rw [gd_set hr]
        have := h.a k hk
        split
        · rename_i e; subst e; omega
        · exact this
      · rw [List.length_set] at hk
        rw [gd_set hr, gd_set hr]
        have := h.f k hk
        by_cases c1 : k + 1 = r
        · rw [if_pos c1, if_neg (by omega)]
          rw [c1] at this
          omega
        · rw [if_neg c1]
          split
          · rename_i e; subst e; omega
          · exact this
    · intro q
      by_cases c1 : r + 1 < xs.length
      · have := q.f r (by rw [List.length_set]; exact c1)
        rw [gd_set hr, gd_set hr, if_pos rfl, if_neg (by omega)] at this
        omega
      · rw [gd_out (by omega)]
        omega
theorem left_taken {xs : List Int} (hx : Sh xs) {r : Nat} (hr : r < xs.length) (ho : pOut xs r = true) : left xs r = takenL xs r := by
  have h := sq_iff.mp hx
  unfold left
  by_cases c : gd xs r = 1
  · have : r + 1 = xs.length := by
      unfold pOut at ho
      rw [decide_eq_true_eq, gd_drop, c] at ho
      by_cases c1 : r + 1 < xs.length
      · have := (h.a _ c1).1
        omega
      · omega
    rw [if_pos ⟨this, c⟩]
    unfold takenL
    rw [if_pos c]
  · rw [if_neg fun z => c z.2, taken_set hr c]
theorem taken_sh {xs : List Int} (hx : Sh xs) {r : Nat} (hr : r < xs.length) (ho : pOut xs r = true) : Sh (takenL xs r) := by
  rw [← left_taken hx hr ho]
  exact (out_iff hx hr).mp ho
/-- there and back -/
theorem put_taken {xs : List Int} (hx : Sh xs) {r : Nat} (hr : r ≤ xs.length) (hp : pRoom 20 20 xs r = true) : r < (putL xs r).length ∧ pOut (putL xs r) r = true ∧ takenL (putL xs r) r = xs := by
  have h := sq_iff.mp hx
  by_cases c : r = xs.length
  · subst c
    have e : putL xs xs.length = xs ++ [1] := by unfold putL; rw [if_pos rfl]
    have g : gd (xs ++ [1]) xs.length = 1 := by rw [gd_snoc, if_neg (Nat.lt_irrefl _), if_pos rfl]
    rw [e]
    refine ⟨by rw [List.length_append]; show xs.length < xs.length + 1; omega, ?_, ?_⟩
    · unfold pOut
      rw [decide_eq_true_eq, gd_drop, g, gd_out (by rw [List.length_append]; exact Nat.le_refl _)]
      decide
    · unfold takenL
      rw [if_pos g, List.take_left]
  · have hr' : r < xs.length := by omega
    have hb := h.a r hr'
    have g : gd (xs.set r (gd xs r + 1)) r = gd xs r + 1 := by rw [gd_set hr', if_pos rfl]
    rw [put_set hr']
    refine ⟨by rw [List.length_set]; exact hr', ?_, ?_⟩
    · unfold pOut
      rw [decide_eq_true_eq, gd_drop, g, gd_set hr', if_neg (by omega)]
      by_cases c1 : r + 1 < xs.length
      · have := h.f r c1; omega
      · rw [gd_out (by omega)]; omega
    · rw [taken_set (by rw [List.length_set]; exact hr') (by rw [g]; omega), g, List.set_set, show gd xs r + 1 - 1 = gd xs r by omega, gd_at hr', List.set_getElem_self]
theorem taken_put {xs : List Int} (hx : Sh xs) {r : Nat} (hr : r < xs.length) (ho : pOut xs r = true) : r ≤ (takenL xs r).length ∧ pRoom 20 20 (takenL xs r) r = true ∧ putL (takenL xs r) r = xs := by
  have h := sq_iff.mp hx
  have hs := taken_sh hx hr ho
  have key : r ≤ (takenL xs r).length ∧ putL (takenL xs r) r = xs := by
    by_cases c : gd xs r = 1
    · have e : takenL xs r = xs.take r := by unfold takenL; rw [if_pos c]
      have l : (xs.take r).length = r := by rw [List.length_take]; omega
      have last : r + 1 = xs.length := by
        unfold pOut at ho
        rw [decide_eq_true_eq, gd_drop, c] at ho
        by_cases c1 : r + 1 < xs.length
        · have := (h.a _ c1).1
          omega
        · omega
      rw [e]
      refine ⟨by omega, ?_⟩
      unfold putL
      rw [if_pos l.symm]
      have : xs = xs.take r ++ [xs[r]] := by
        conv => lhs; rw [← List.take_append_drop r xs]
        congr 1
        rw [List.drop_eq_getElem_cons hr, List.drop_of_length_le (by omega)]
      conv => rhs; rw [this]
      rw [← gd_at hr, c]
    · rw [taken_set hr c]
      refine ⟨by rw [List.length_set]; omega, ?_⟩
      rw [put_set (by rw [List.length_set]; exact hr), gd_set hr, if_pos rfl, List.set_set, show gd xs r - 1 + 1 = gd xs r by omega, gd_at hr, List.set_getElem_self]
  refine ⟨key.1, ?_, key.2⟩
  rw [room_iff hs key.1, key.2]
  exact hx
end M15
namespace K04
open PySem PySem.Spec PyProof.Rows L2 RZ GS M15
def topS (i : Nat) : Stmt := PySem.Challenge.pw_gridshares_k04_what_is_a_box.main.body.getD i (.Pass ⟨0, 0, 0, 0⟩)
abbrev stis_whole : Stmt := topS 19
abbrev Nis_whole : List Str := ["thing"]
theorem scis_whole : FnScope Nis_whole ["thing"] (defScope stis_whole) := ⟨rfl, rfl, rfl, by decide +kernel, rfl, by decide +kernel, by decide +kernel⟩
abbrev stis_whole_from : Stmt := topS 20
abbrev Nis_whole_from : List Str := ["least", "most", "thing"]
theorem scis_whole_from : FnScope Nis_whole_from ["least", "most", "thing"] (defScope stis_whole_from) := ⟨rfl, rfl, rfl, by decide +kernel, rfl, by decide +kernel, by decide +kernel⟩
abbrev stis_falling : Stmt := topS 24
abbrev Nis_falling : List Str := ["numbers", "ahead", "after"]
theorem scis_falling : FnScope Nis_falling ["numbers"] (defScope stis_falling) := ⟨rfl, rfl, rfl, by decide +kernel, rfl, by decide +kernel, by decide +kernel⟩
abbrev stare_rows : Stmt := topS 25
abbrev Nare_rows : List Str := ["things", "shortest", "thing"]
theorem scare_rows : FnScope Nare_rows ["things", "shortest"] (defScope stare_rows) := ⟨rfl, rfl, rfl, by decide +kernel, rfl, by decide +kernel, by decide +kernel⟩
abbrev stshare_of : Stmt := topS 26
abbrev Nshare_of : List Str := ["things", "length"]
theorem scshare_of : FnScope Nshare_of ["things"] (defScope stshare_of) := ⟨rfl, rfl, rfl, by decide +kernel, rfl, by decide +kernel, by decide +kernel⟩
abbrev stis_box : Stmt := topS 29
abbrev Nis_box : List Str := ["thing", "side"]
theorem scis_box : FnScope Nis_box ["thing"] (defScope stis_box) := ⟨rfl, rfl, rfl, by decide +kernel, rfl, by decide +kernel, by decide +kernel⟩
abbrev stneed_box : Stmt := topS 30
abbrev Nneed_box : List Str := ["thing"]
theorem scneed_box : FnScope Nneed_box ["thing"] (defScope stneed_box) := ⟨rfl, rfl, rfl, by decide +kernel, rfl, by decide +kernel, by decide +kernel⟩
abbrev stfits_in : Stmt := topS 31
abbrev Nfits_in : List Str := ["box", "share", "high", "wide"]
theorem scfits_in : FnScope Nfits_in ["box", "share"] (defScope stfits_in) := ⟨rfl, rfl, rfl, by decide +kernel, rfl, by decide +kernel, by decide +kernel⟩
abbrev stfull_share : Stmt := topS 32
abbrev Nfull_share : List Str := ["box", "high", "wide"]
theorem scfull_share : FnScope Nfull_share ["box"] (defScope stfull_share) := ⟨rfl, rfl, rfl, by decide +kernel, rfl, by decide +kernel, by decide +kernel⟩
abbrev st_law_pen : Stmt := topS 34
abbrev N_law_pen : List Str := ["_law_script", "_law_k", "_law_cell"]
theorem sc_law_pen : FnScope N_law_pen ["_law_script", "_law_k"] (defScope st_law_pen) := ⟨rfl, rfl, rfl, by decide +kernel, rfl, by decide +kernel, by decide +kernel⟩
abbrev st_law_draw : Stmt := topS 35
abbrev N_law_draw : List Str := ["_law_pen_here", "_law_size", "_law_drawn", "_law_number"]
theorem sc_law_draw : FnScope N_law_draw ["_law_pen_here", "_law_size"] (defScope st_law_draw) := ⟨rfl, rfl, rfl, by decide +kernel, rfl, by decide +kernel, by decide +kernel⟩
abbrev st_law_sides : Stmt := topS 36
abbrev N_law_sides : List Str := ["_law_pen_here", "_law_way", "_law_k"]
theorem sc_law_sides : FnScope N_law_sides ["_law_pen_here"] (defScope st_law_sides) := ⟨rfl, rfl, rfl, by decide +kernel, rfl, by decide +kernel, by decide +kernel⟩
abbrev st_law_share : Stmt := topS 37
abbrev N_law_share : List Str := ["_law_pen_here", "_law_high", "_law_wide", "_law_found", "_law_most", "_law_k"]
theorem sc_law_share : FnScope N_law_share ["_law_pen_here", "_law_high", "_law_wide"] (defScope st_law_share) := ⟨rfl, rfl, rfl, by decide +kernel, rfl, by decide +kernel, by decide +kernel⟩
abbrev st_law_whole : Stmt := topS 38
abbrev N_law_whole : List Str := ["_law_thing"]
theorem sc_law_whole : FnScope N_law_whole ["_law_thing"] (defScope st_law_whole) := ⟨rfl, rfl, rfl, by decide +kernel, rfl, by decide +kernel, by decide +kernel⟩
abbrev st_law_word : Stmt := topS 39
abbrev N_law_word : List Str := ["_law_asked", "_law_caught", "_law_told", "e", "_law_heard"]
theorem sc_law_word : FnScope N_law_word ["_law_asked"] (defScope st_law_word) := ⟨rfl, rfl, rfl, by decide +kernel, rfl, by decide +kernel, by decide +kernel⟩
abbrev st_law_bent : Stmt := topS 40
abbrev N_law_bent : List Str := ["_law_pen_here", "_law_box", "_law_at", "_law_odd", "_law_some"]
theorem sc_law_bent : FnScope N_law_bent ["_law_pen_here", "_law_box"] (defScope st_law_bent) := ⟨rfl, rfl, rfl, by decide +kernel, rfl, by decide +kernel, by decide +kernel⟩
abbrev st_law_is : Stmt := topS 41
abbrev N_law_is : List Str := ["_law_thing", "_law_side"]
theorem sc_law_is : FnScope N_law_is ["_law_thing"] (defScope st_law_is) := ⟨rfl, rfl, rfl, by decide +kernel, rfl, by decide +kernel, by decide +kernel⟩
abbrev st_law_right : Stmt := topS 42
abbrev N_law_right : List Str := ["_law_thing", "_law_shares", "_law_kept", "_law_due", "_law_found", "_law_full", "_law_share_here", "_law_told"]
theorem sc_law_right : FnScope N_law_right ["_law_thing", "_law_shares"] (defScope st_law_right) := ⟨rfl, rfl, rfl, by decide +kernel, rfl, by decide +kernel, by decide +kernel⟩
abbrev stlaw : Stmt := topS 43
abbrev Nlaw : List Str := ["_law_script", "_law_k", "_law_pen_here", "_law_box", "_law_share_here", "_law_shares", "_law_turn"]
theorem sclaw : FnScope Nlaw ["_law_script"] (defScope stlaw) := ⟨rfl, rfl, rfl, by decide +kernel, rfl, by decide +kernel, by decide +kernel⟩
structure Txt (K : PySem.W.Frag) (mg : Str → Option Value) (f : Nat → Addr) (fd : Nat → FuncData) : Prop where
  F19 : Fun K "is_whole" "is_whole" stis_whole (f 19) (fd 19)
  g19 : mg "is_whole" = some (.ref (f 19))
  b19 : Binds K (fd 19) ["thing"] []
  F20 : Fun K "is_whole_from" "is_whole_from" stis_whole_from (f 20) (fd 20)
  g20 : mg "is_whole_from" = some (.ref (f 20))
  b20 : Binds K (fd 20) ["least", "most", "thing"] []
  F24 : Fun K "is_falling" "is_falling" stis_falling (f 24) (fd 24)
  g24 : mg "is_falling" = some (.ref (f 24))
  b24 : Binds K (fd 24) ["numbers"] []
  F25 : Fun K "are_rows" "are_rows" stare_rows (f 25) (fd 25)
  g25 : mg "are_rows" = some (.ref (f 25))
  b25 : Binds K (fd 25) ["things", "shortest"] []
  F26 : Fun K "share_of" "share_of" stshare_of (f 26) (fd 26)
  g26 : mg "share_of" = some (.ref (f 26))
  b26 : Binds K (fd 26) ["things"] []
  F29 : Fun K "is_box" "is_box" stis_box (f 29) (fd 29)
  g29 : mg "is_box" = some (.ref (f 29))
  b29 : Binds K (fd 29) ["thing"] []
  F30 : Fun K "need_box" "need_box" stneed_box (f 30) (fd 30)
  g30 : mg "need_box" = some (.ref (f 30))
  b30 : Binds K (fd 30) ["thing"] []
  F31 : Fun K "fits_in" "fits_in" stfits_in (f 31) (fd 31)
  g31 : mg "fits_in" = some (.ref (f 31))
  b31 : Binds K (fd 31) ["box", "share"] []
  F32 : Fun K "full_share" "full_share" stfull_share (f 32) (fd 32)
  g32 : mg "full_share" = some (.ref (f 32))
  b32 : Binds K (fd 32) ["box"] []
  F34 : Fun K "_law_pen" "_law_pen" st_law_pen (f 34) (fd 34)
  g34 : mg "_law_pen" = some (.ref (f 34))
  b34 : Binds K (fd 34) ["_law_script", "_law_k"] []
  F35 : Fun K "_law_draw" "_law_draw" st_law_draw (f 35) (fd 35)
  g35 : mg "_law_draw" = some (.ref (f 35))
  b35 : Binds K (fd 35) ["_law_pen_here", "_law_size"] []
  F36 : Fun K "_law_sides" "_law_sides" st_law_sides (f 36) (fd 36)
  g36 : mg "_law_sides" = some (.ref (f 36))
  b36 : Binds K (fd 36) ["_law_pen_here"] []
  F37 : Fun K "_law_share" "_law_share" st_law_share (f 37) (fd 37)
  g37 : mg "_law_share" = some (.ref (f 37))
  b37 : Binds K (fd 37) ["_law_pen_here", "_law_high", "_law_wide"] []
  F38 : Fun K "_law_whole" "_law_whole" st_law_whole (f 38) (fd 38)
  g38 : mg "_law_whole" = some (.ref (f 38))
  b38 : Binds K (fd 38) ["_law_thing"] []
  F39 : Fun K "_law_word" "_law_word" st_law_word (f 39) (fd 39)
  g39 : mg "_law_word" = some (.ref (f 39))
  b39 : Binds K (fd 39) ["_law_asked"] []
  F40 : Fun K "_law_bent" "_law_bent" st_law_bent (f 40) (fd 40)
  g40 : mg "_law_bent" = some (.ref (f 40))
  b40 : Binds K (fd 40) ["_law_pen_here", "_law_box"] []
  F41 : Fun K "_law_is" "_law_is" st_law_is (f 41) (fd 41)
  g41 : mg "_law_is" = some (.ref (f 41))
  b41 : Binds K (fd 41) ["_law_thing"] []
  F42 : Fun K "_law_right" "_law_right" st_law_right (f 42) (fd 42)
  g42 : mg "_law_right" = some (.ref (f 42))
  b42 : Binds K (fd 42) ["_law_thing", "_law_shares"] []
  g1 : mg "GridError" = some (.ref (f 1))
  g2 : mg "NoShare" = some (.ref (f 2))
  g3 : mg "NoBox" = some (.ref (f 3))
  g4 : mg "NoFit" = some (.ref (f 4))
  g5 : mg "NoNumber" = some (.ref (f 5))
  g6 : mg "NoRow" = some (.ref (f 6))
  g7 : mg "NoCell" = some (.ref (f 7))
  g8 : mg "NoChain" = some (.ref (f 8))
  g9 : mg "NoSquare" = some (.ref (f 9))
  g10 : mg "NoFilling" = some (.ref (f 10))
  g11 : mg "NoWalk" = some (.ref (f 11))
  g12 : mg "NoStack" = some (.ref (f 12))
  g13 : mg "NoPile" = some (.ref (f 13))
  g14 : mg "NoWay" = some (.ref (f 14))
  g15 : mg "NoBack" = some (.ref (f 15))
  g16 : mg "NoText" = some (.ref (f 16))
  g17 : mg "NoWord" = some (.ref (f 17))
  x3 : PySem.W.excIn K (f 3) [.type "ValueError", .type "Exception", .type "BaseException", .type "object"] "ValueError.__new__" = true
  k3 : PySem.W.keepIn K (.ref (f 3)) = true
  t3 : PySem.W.typeIn K (.ref (f 3)) = some (.type "type")
  e3 : ExcC K (f 3)
  v3 : PySem.W.kitOne K (.ref (f 3)) (.type "ValueError") = some true
  m3 : PySem.W.exmOne K (.ref (f 3)) (.ref (f 1)) = some true
  q3_1 : PySem.W.kitOne K (.ref (f 3)) (.ref (f 1)) = some true
  q3_2 : PySem.W.kitOne K (.ref (f 3)) (.ref (f 2)) = some false
  q3_3 : PySem.W.kitOne K (.ref (f 3)) (.ref (f 3)) = some true
  q3_4 : PySem.W.kitOne K (.ref (f 3)) (.ref (f 4)) = some false
  q3_5 : PySem.W.kitOne K (.ref (f 3)) (.ref (f 5)) = some false
  q3_6 : PySem.W.kitOne K (.ref (f 3)) (.ref (f 6)) = some false
  q3_7 : PySem.W.kitOne K (.ref (f 3)) (.ref (f 7)) = some false
  q3_8 : PySem.W.kitOne K (.ref (f 3)) (.ref (f 8)) = some false
  q3_9 : PySem.W.kitOne K (.ref (f 3)) (.ref (f 9)) = some false
  q3_10 : PySem.W.kitOne K (.ref (f 3)) (.ref (f 10)) = some false
  q3_11 : PySem.W.kitOne K (.ref (f 3)) (.ref (f 11)) = some false
  q3_12 : PySem.W.kitOne K (.ref (f 3)) (.ref (f 12)) = some false
  q3_13 : PySem.W.kitOne K (.ref (f 3)) (.ref (f 13)) = some false
  q3_14 : PySem.W.kitOne K (.ref (f 3)) (.ref (f 14)) = some false
  q3_15 : PySem.W.kitOne K (.ref (f 3)) (.ref (f 15)) = some false
  q3_16 : PySem.W.kitOne K (.ref (f 3)) (.ref (f 16)) = some false
  q3_17 : PySem.W.kitOne K (.ref (f 3)) (.ref (f 17)) = some false
  c_MOST_ROWS : ∃ t, mg "MOST_ROWS" = some (.int 20 t)
  c_LONGEST_ROW : ∃ t, mg "LONGEST_ROW" = some (.int 20 t)
  c_LONGEST_SIDE : ∃ t, mg "LONGEST_SIDE" = some (.int 20 t)
  m_ValueError : mg "ValueError" = none
  m_abs : mg "abs" = none
  m_all : mg "all" = none
  m_bool : mg "bool" = none
  m_dict : mg "dict" = none
  m_int : mg "int" = none
  m_isinstance : mg "isinstance" = none
  m_len : mg "len" = none
  m_list : mg "list" = none
  m_max : mg "max" = none
  m_min : mg "min" = none
  m_range : mg "range" = none
  m_repr : mg "repr" = none
  m_tuple : mg "tuple" = none
  m_zip : mg "zip" = none
section
variable {P : Program} {w : World} {K : PySem.W.Frag} {mg : Str → Option Value} {base : Heap} {f : Nat → Addr} {fd : Nat → FuncData}
/-! ### _law_pen, _law_draw -/
def PenA (H : Hp) (p : Addr) : Prop := ∃ f n c : Int, H p = some (.lst [.int f, .int n, .int c])
theorem PenA.same {H H' : Hp} {p : Addr} (h : PenA H p) (s : Same H H') : PenA H' p := let ⟨f, n, c, e⟩ := h; ⟨f, n, c, s _ _ e⟩
theorem PenA.new {H : Hp} {p q : Addr} (h : PenA H p) (nq : H q = none) : p ≠ q := let ⟨_, _, _, e⟩ := h; ne_of_none e nq
theorem PenA.apart {H : Hp} {p a : Addr} {xs : List V} (h : PenA H p) (ha : H a = some (.tup xs)) : a ≠ p := by
  obtain ⟨f, n, c, e⟩ := h
  exact ne_of ha e (by intro z; cases z)
def sp_law_pen (K : PySem.W.Frag) : Sp := fun vs H Q _ => ∃ (a : Addr) (ns : List Int) (k : Int), vs = [.ref a, .int k] ∧ SqL K H a (ns.map V.int) ∧ 0 ≤ k ∧ k ≤ 1000 ∧
  ∀ H' p, Same H H' → PenA H' p → H p = none → Q (.ref p) H'
theorem ok_law_pen (T : Txt K mg f fd) : FnOk P w K mg base CX0 1 (f 34) (fd 34) ["_law_script", "_law_k"] (sp_law_pen K) := by
  refine T.F34.ok sc_law_pen (fun vs H Q E h => ?_) (fun cdv A outer s H vs Q E hr h => ?_)
  · obtain ⟨a, ns, k, rfl, _⟩ := h
    rfl
  · obtain ⟨a, ns, k, rfl, hA, hk, hk2, q⟩ := h
    have hlen : ∀ j, V.int j = V.int (if (63 : Int) < ((ns.map V.int).length : Int) then 63 else ((ns.map V.int).length : Int)) → j = (if (63 : Int) < (ns.length : Int) then 63 else (ns.length : Int)) := fun j e => by
      rw [List.length_map] at e
      exact V.int.inj e
    refine ⟨_, (pss_cons (ps_set (i := 2) sc_law_pen.nd rfl (Or.inl rfl) (pe_op op_add (pe_op op_mul pe_int (pv 1)) pe_int))
      (Evl.pss_cut (ps_if (pt_cmpR op_lt (pv 1) (pe_callB (call_min2 rfl) (by rfl) T.m_min bt_min (pa_cons (pe_callB (r := rLenS K) len_seq (by rfl) T.m_len bt_len (pa_cons (pv 0) pa_nil)) (pa_cons pe_int pa_nil))) (nomark _)) (pss_one (ps_set (i := 2) sc_law_pen.nd rfl (Or.inl rfl) (pe_ix (r := rIxL K) ix_list (pv 0) (pv 1) (fun _ _ => rfl)))) (pss_one (ps_if (pt_cmpR op_gt (pe_callB (r := rLenS K) len_seq (by rfl) T.m_len bt_len (pa_cons (pv 0) pa_nil)) pe_int (nomark _)) (pss_one (ps_set (i := 2) sc_law_pen.nd rfl (Or.inl rfl) (pe_op op_add (pe_op op_mod (pe_ix (r := rIxL K) ix_list (pv 0) (pe_op op_mod (pv 1) (pe_callB (call_min2 rfl) (by rfl) T.m_min bt_min (pa_cons (pe_callB (r := rLenS K) len_seq (by rfl) T.m_len bt_len (pa_cons (pv 0) pa_nil)) (pa_cons pe_int pa_nil)))) (fun _ _ => rfl)) (pe_op op_pow pe_int pe_int)) (pe_op op_mul pe_int (pv 1))))) pss_nil)))
      (pss_cons (ps_if (pt_cmpR op_ge (pe_callB call_abs (by rfl) T.m_abs bt_abs (pa_cons (pv 2) pa_nil)) (pe_op op_pow pe_int pe_int) (nomark _)) (pss_one (ps_ret (pe_lst (pa_cons pe_int (pa_cons (pe_callB call_abs (by rfl) T.m_abs bt_abs (pa_cons (pv 2) pa_nil)) (pa_cons pe_int pa_nil)))))) pss_nil)
      (pss_one (ps_ret (pe_lst (pa_cons pe_int (pa_cons (pe_op op_add (pe_op op_mod (pv 2) pe_int) (pe_op op_mul pe_int (pv 1))) (pa_cons pe_int pa_nil))))))))), ?_⟩
    refine ⟨_, rfl, _, _, rfl, rfl, .inl ⟨by decide, by decide⟩, _, _, rfl, rfl, ?_⟩
    refine ⟨fun σ H1 => (∃ c, σ = [some (.ref a), some (.int k), some (.int c)]) ∧ H = H1, ?_, ?_⟩
    · refine ⟨_, rfl, .ref a, rfl, a, _, rfl, .inl hA, _, _, rfl, _, _, rfl, rfl, _, rfl, ite2 (fun e => ?_) (fun e => ?_)⟩
      · have e1 := of_decide_eq_true e
        rw [List.length_map] at e1
        have e2 : k < ns.length := by split at e1 <;> omega
        have hx : k.toNat < ns.length := by omega
        refine ⟨.ref a, rfl, _, rfl, a, _, _, .int ns[k.toNat], rfl, rfl, hA, at_get hk ?_, ⟨_, rfl⟩, rfl⟩
        rw [List.getElem?_map, List.getElem?_eq_getElem hx]
        rfl
      · refine ⟨.ref a, rfl, a, _, rfl, .inl hA, _, _, rfl, rfl, _, rfl, ite2 (fun e => ?_) (fun e => ⟨⟨_, rfl⟩, rfl⟩)⟩
        have e1 := of_decide_eq_true e
        rw [List.length_map] at e1
        have hp : 0 < (if (63 : Int) < (ns.length : Int) then 63 else (ns.length : Int)) := by split <;> omega
        have hq : (if (63 : Int) < (ns.length : Int) then 63 else (ns.length : Int)) ≤ ns.length := by split <;> omega
        have b0 := Int.emod_nonneg k (show (if (63 : Int) < (ns.length : Int) then 63 else (ns.length : Int)) ≠ 0 by omega)
        have b1 := Int.emod_lt_of_pos k hp
        generalize hm : (if (63 : Int) < (ns.length : Int) then 63 else (ns.length : Int)) = m at hp hq b0 b1
        have hm' : (if (63 : Int) < ((ns.map V.int).length : Int) then 63 else ((ns.map V.int).length : Int)) = m := by rw [List.length_map]; exact hm
        have hx : (k % m).toNat < ns.length := by omega
        refine ⟨.ref a, rfl, _, rfl, .ref a, rfl, a, _, rfl, .inl hA, _, _, rfl, _, _, rfl, rfl, ?_, ?_⟩
        · show (0 : Int) < _
          rw [hm']
          exact hp
        · refine ⟨a, _, _, .int ns[(k % m).toNat], rfl, rfl, hA, ?_, ?_⟩
          · rw [hm']
            refine at_get b0 ?_
            rw [List.getElem?_map, List.getElem?_eq_getElem hx]
            rfl
          · exact ⟨_, _, rfl, rfl, ⟨by decide, by decide, by decide⟩, _, _, rfl, rfl, (show (0 : Int) < 10 ^ 15 by decide), _, rfl, _, _, rfl, rfl, .inl ⟨by decide, by decide⟩, _, _, rfl, rfl, ⟨_, rfl⟩, rfl⟩
    rintro _ _ ⟨⟨c, rfl⟩, rfl⟩
    refine ⟨_, rfl, _, rfl, _, _, rfl, rfl, ⟨by decide, by decide, by decide⟩, _, _, rfl, rfl, _, rfl, ite2 (fun e => ?_) (fun e => ?_)⟩
    · exact ⟨_, rfl, _, rfl, small_line (by show 3 ≤ 100000; omega), fun p np => q _ p (same_new np) ⟨_, _, _, upd_same⟩ np⟩
    · exact ⟨_, rfl, _, _, rfl, rfl, (show (0 : Int) < 2147483587 by decide), _, rfl, _, _, rfl, rfl, .inl ⟨by decide, by decide⟩, _, _, rfl, rfl, small_line (by show 3 ≤ 100000; omega), fun p np => q _ p (same_new np) ⟨_, _, _, upd_same⟩ np⟩
def sp_law_draw : Sp := fun vs H Q _ => ∃ (p : Addr) (m : Int), vs = [.ref p, .int m] ∧ PenA H p ∧ 1 ≤ m ∧ m ≤ 1000000000 ∧
  ∀ H' d, Kp p H H' → PenA H' p → 0 ≤ d → d < m → Q (.int d) H'
theorem ok_law_draw (T : Txt K mg f fd) : FnOk P w K mg base CX0 1 (f 35) (fd 35) ["_law_pen_here", "_law_size"] sp_law_draw := by
  refine T.F35.ok sc_law_draw (fun vs H Q E h => ?_) (fun cdv A outer s H vs Q E hr h => ?_)
  · obtain ⟨p, m, rfl, _⟩ := h
    rfl
  · obtain ⟨p, m, rfl, ⟨f0, n0, c0, hp⟩, hm, hm2, q⟩ := h
    have fin : ∀ {H' : Hp} (i : Int), Kp p H H' → PenA H' p → Q (.int (i % m)) H' := fun i k1 k2 => q _ _ k1 k2 (Int.emod_nonneg _ (by omega)) (Int.emod_lt_of_pos _ (by omega))
    have hS : SqL K H p [.int f0, .int n0, .int c0] := SqL.of hp
    refine ⟨_, (Evl.pss_cut (ps_asg (pe_op op_add (pe_ix (r := rIxL K) ix_list (pv 0) pe_int (fun _ _ => rfl)) pe_int) (pg_sub (pv 0) pe_int set_list))
      (pss_cons (ps_if (pt_cmpR op_eq (pe_ix (r := rIxL K) ix_list (pv 0) pe_int (fun _ _ => rfl)) pe_int (nomark _)) (pss_cons (ps_set (i := 2) sc_law_draw.nd rfl (Or.inl rfl) (pe_op op_mod (pe_ix (r := rIxL K) ix_list (pv 0) pe_int (fun _ _ => rfl)) (pv 1)))
      (pss_cons (ps_asg (pe_op op_fdiv (pe_ix (r := rIxL K) ix_list (pv 0) pe_int (fun _ _ => rfl)) (pv 1)) (pg_sub (pv 0) pe_int set_list))
      (pss_one (ps_ret (pv 2))))) pss_nil)
      (Evl.pss_cut (ps_set (i := 3) sc_law_draw.nd rfl (Or.inl rfl) (pe_op op_mod (pe_op op_mul (pe_op op_add (pe_op op_add (pe_ix (r := rIxL K) ix_list (pv 0) pe_int (fun _ _ => rfl)) (pe_op op_mul pe_int (pe_ix (r := rIxL K) ix_list (pv 0) pe_int (fun _ _ => rfl)))) pe_int) pe_int) pe_int))
      (Evl.pss_cut (ps_set (i := 3) sc_law_draw.nd rfl (Or.inl rfl) (pe_op op_mod (pe_op op_mul (pv 3) (pe_op op_add (pe_op op_add (pe_op op_mod (pv 3) pe_int) (pe_ix (r := rIxL K) ix_list (pv 0) pe_int (fun _ _ => rfl))) pe_int)) pe_int))
      (pss_one (ps_ret (pe_op op_mod (pe_op op_fdiv (pe_op op_mod (pe_op op_mul (pv 3) (pe_op op_add (pe_op op_mod (pv 3) pe_int) pe_int)) pe_int) pe_int) (pv 1)))))))), ?_⟩
    refine ⟨fun σ H1 => σ = [some (.ref p), some (.int m), none, none] ∧ Kp p H H1 ∧ H1 p = some (.lst [.int f0, .int n0, .int (c0 + 1)]), ?_, ?_⟩
    · exact ⟨.ref p, rfl, p, _, 2, _, rfl, rfl, hS, rfl, _, _, rfl, rfl, .ref p, rfl, p, _, 2, 2, rfl, rfl, hp, rfl, rfl, kp_upd, upd_same⟩
    rintro _ H1 ⟨rfl, k1, hp1⟩
    have hS1 : SqL K H1 p [.int f0, .int n0, .int (c0 + 1)] := SqL.of hp1
    refine ⟨.ref p, rfl, p, _, 0, _, rfl, rfl, hS1, rfl, rfl, _, rfl, ite2 (fun e => ?_) (fun e => ?_)⟩
    · refine ⟨.ref p, rfl, p, _, 1, _, rfl, rfl, hS1, rfl, _, rfl, _, m, rfl, rfl, (by show (0 : Int) < m; omega), ?_⟩
      refine ⟨.ref p, rfl, p, _, 1, _, rfl, rfl, hS1, rfl, _, rfl, _, m, rfl, rfl, ⟨by omega, by omega⟩, ?_⟩
      exact ⟨.ref p, rfl, p, _, 1, 1, rfl, rfl, hp1, rfl, _, rfl, fin _ (k1.trans kp_upd) ⟨_, _, _, upd_same⟩⟩
    · refine ⟨fun σ H2 => (∃ n, 0 ≤ n ∧ n < 2147483647 ∧ σ = [some (.ref p), some (.int m), none, some (.int n)]) ∧ H1 = H2, ?_, ?_⟩
      · refine ⟨.ref p, rfl, p, _, 1, _, rfl, rfl, hS1, rfl, .ref p, rfl, p, _, 2, _, rfl, rfl, hS1, rfl, _, _, rfl, rfl, .inl ⟨by decide, by decide⟩, _, _, rfl, rfl, _, _, rfl, rfl, _, _, rfl, rfl, .inr ⟨by decide, by decide⟩, _, _, rfl, rfl, (show (0 : Int) < 2147483647 by decide), ⟨_, ?_, ?_, rfl⟩, rfl⟩
        · exact Int.emod_nonneg _ (by decide)
        · exact Int.emod_lt_of_pos _ (by decide)
      rintro _ _ ⟨⟨n, n1, n2, rfl⟩, rfl⟩
      refine ⟨fun σ H2 => (∃ n, 0 ≤ n ∧ n < 2147483647 ∧ σ = [some (.ref p), some (.int m), none, some (.int n)]) ∧ H1 = H2, ?_, ?_⟩
      · refine ⟨_, rfl, _, rfl, _, _, rfl, rfl, (show (0 : Int) < 65521 by decide), .ref p, rfl, p, _, 2, _, rfl, rfl, hS1, rfl, _, _, rfl, rfl, _, _, rfl, rfl, n, _, rfl, rfl, .inl ⟨by omega, by omega⟩, _, _, rfl, rfl, (show (0 : Int) < 2147483629 by decide), ⟨_, ?_, ?_, rfl⟩, rfl⟩
        · exact Int.emod_nonneg _ (by decide)
        · exact Int.lt_trans (Int.emod_lt_of_pos _ (by decide)) (show (2147483629 : Int) < 2147483647 by decide)
      rintro _ _ ⟨⟨n, n1, n2, rfl⟩, rfl⟩
      exact ⟨_, rfl, _, rfl, _, _, rfl, rfl, (show (0 : Int) < 8191 by decide), _, _, rfl, rfl, n, _, rfl, rfl, .inl ⟨by omega, by omega⟩, _, _, rfl, rfl, (show (0 : Int) < 2147483563 by decide), _, _, rfl, rfl, ⟨by decide, by decide⟩, _, rfl, _, _, rfl, rfl, (by show (0 : Int) < m; omega), fin _ k1 ⟨_, _, _, hp1⟩⟩
/-! ### _law_sides, _law_share -/
def sp_law_sides : Sp := fun vs H Q _ => ∃ p : Addr, vs = [.ref p] ∧ PenA H p ∧
  ∀ H' a x y, Kp p H H' → PenA H' p → H' a = some (.tup [.int x, .int y]) → 0 ≤ x → x ≤ 20 → 0 ≤ y → y ≤ 20 → Q (.ref a) H'
theorem ok_law_sides (T : Txt K mg f fd) : FnOk P w K mg base CX0 2 (f 36) (fd 36) ["_law_pen_here"] sp_law_sides := by
  refine T.F36.ok sc_law_sides (fun vs H Q E h => ?_) (fun cdv A outer s H vs Q E hr h => ?_)
  · obtain ⟨p, rfl, _⟩ := h
    rfl
  · obtain ⟨p, rfl, hP, q⟩ := h
    refine ⟨_, (pss_cons (ps_set (i := 1) sc_law_sides.nd rfl (Or.inr rfl) (pe_call (ok_law_draw T) (hr.mono (by decide)) (by rfl) T.g35 T.F35.kp T.b35 .nil pass0 (pa_cons (pv 0) (pa_cons pe_int pa_nil))))
      (pss_one (ps_ret (pe_callTy (r := rTupO K) tup_of (by rfl) T.m_tuple bt_tuple (pa_cons (pe_lc (own := [("_law_k", 2)]) (g := (gName 2)) (tt := tYes) rfl sc_law_sides.nd (pi_range1 (by rfl) T.m_range (pa_cons pe_int pa_nil)) (blkOk_by (N := N_law_sides) (sc := defScope st_law_sides) (by decide +kernel)) (fun _ _ _ _ _ => (pg_name (i := 2) sc_law_sides.nd rfl (Or.inl rfl))) (fun _ _ _ _ _ => pts_nil) (fun _ _ _ _ _ => (pe_call (ok_law_draw T) (hr.mono (by decide)) (by rfl) T.g35 T.F35.kp T.b35 .nil pass0 (pa_cons (pv 0) (pa_cons (pe_ix (r := rIxL K) ix_list (pe_lst (pa_cons pe_int (pa_cons pe_int (pa_cons pe_int (pa_cons pe_int (pa_cons pe_int (pa_cons pe_int pa_nil))))))) (pv 1) (fun _ _ => rfl)) pa_nil))))) pa_nil))))), ?_⟩
    refine ⟨.ref p, rfl, p, 6, rfl, hP, by decide, by decide, fun H1 way k1 P1 a1 a2 => ?_⟩
    refine ⟨2, rfl, by decide, by decide, fun D nD => ?_⟩
    have hDp : D ≠ p := fun e => P1.new nD e.symm
    refine lc_it (walk_range (lo := 0) (n := 2)) (fun i H2 => Kp p H H2 ∧ PenA H2 p ∧ ∃ xs : List Int, H2 D = some (.lst (xs.map V.int)) ∧ xs.length = i ∧ ∀ x ∈ xs, 0 ≤ x ∧ x ≤ 20) ?_ (fun _ _ _ _ => trivial) ?_ ?_
    · exact ⟨k1.trans (kp_new nD), P1.same (same_new nD), [], upd_same, rfl, fun x z => absurd z List.not_mem_nil⟩
    · rintro i v _ H2 hi ⟨k2, P2, xs, hD, hn, hx⟩ ⟨rfl, rfl⟩
      refine ⟨rfl, ?_⟩
      simp only [tYes, reduceIte]
      refine ⟨.ref p, rfl, small_line (by show 6 ≤ 100000; omega), fun Z nZ => ?_⟩
      obtain ⟨v, hv, hv1, hv2⟩ : ∃ v, atI [V.int 5, V.int 7, V.int 7, V.int 5, V.int 2, V.int 21] way = some (V.int v) ∧ 1 ≤ v ∧ v ≤ 21 := by
        rcases (show way = 0 ∨ way = 1 ∨ way = 2 ∨ way = 3 ∨ way = 4 ∨ way = 5 by omega) with z | z | z | z | z | z <;> subst z <;> exact ⟨_, rfl, by decide, by decide⟩
      refine ⟨_, rfl, Z, _, way, _, rfl, rfl, SqL.of upd_same, hv, ?_⟩
      refine ⟨p, v, rfl, P2.same (same_new nZ), hv1, by omega, fun H4 d k4 P4 b1 b2 => ?_⟩
      have hD4 := k4 D _ hDp (same_new nZ _ _ hD)
      refine ⟨_, hD4, small_lt (by rw [List.length_map]; omega), ?_, ?_, xs ++ [d], ?_, by rw [List.length_append, hn]; rfl, ?_⟩
      · intro b o n e
        by_cases z : b = D
        · subst z
          exact absurd (k1 b o n e) (by rw [nD]; exact nofun)
        · rw [upd_ne z]
          exact k4 b o n (same_new nZ _ _ (k2 b o n e))
      · obtain ⟨u1, u2, u3, e⟩ := P4
        exact ⟨u1, u2, u3, by rw [upd_ne hDp.symm]; exact e⟩
      · rw [upd_same, List.map_append]
        rfl
      · intro x z
        rcases List.mem_append.mp z with z | z
        · exact hx x z
        · have e : x = d := by simpa using z
          omega
    · rintro H2 ⟨k2, P2, xs, hD, hn, hx⟩
      obtain ⟨x, y, rfl⟩ : ∃ x y, xs = [x, y] := by
        match xs, hn with
        | [x, y], _ => exact ⟨x, y, rfl⟩
      refine ⟨D, _, rfl, .inl ⟨SqL.of hD, fun t nt => ?_⟩⟩
      have h1 := hx x List.mem_cons_self
      have h2 := hx y (List.mem_cons_of_mem _ List.mem_cons_self)
      exact q _ t x y (k2.trans (kp_new nt)) (P2.same (same_new nt)) upd_same h1.1 h1.2 h2.1 h2.2
def sp_law_share : Sp := fun vs H Q _ => ∃ (p : Addr) (h w : Int), vs = [.ref p, .int h, .int w] ∧ PenA H p ∧ 0 ≤ h ∧ h ≤ 20 ∧ 0 ≤ w ∧ w ≤ 20 ∧
  ∀ H' a xs, Kp p H H' → PenA H' p → H' a = some (.tup (xs.map V.int)) → Sh xs → (xs.length : Int) ≤ h → (∀ x ∈ xs, x ≤ w) → Q (.ref a) H'
theorem ok_law_share (T : Txt K mg f fd) : FnOk P w K mg base CX0 2 (f 37) (fd 37) ["_law_pen_here", "_law_high", "_law_wide"] sp_law_share := by
  refine T.F37.ok sc_law_share (fun vs H Q E h => ?_) (fun cdv A outer s H vs Q E hr h => ?_)
  · obtain ⟨p, h, w, rfl, _⟩ := h
    rfl
  · obtain ⟨p, h, w, rfl, hP, h1, h2, w1, w2, q⟩ := h
    refine ⟨_, (pss_cons (ps_set (i := 3) sc_law_share.nd rfl (Or.inl rfl) (pe_lst pa_nil))
      (pss_cons (ps_set (i := 4) sc_law_share.nd rfl (Or.inl rfl) (pv 2))
      (pss_cons (ps_for PassesOwn.never rfl (pi_range1 (by rfl) T.m_range (pa_cons (pe_call (ok_law_draw T) (hr.mono (by decide)) (by rfl) T.g35 T.F35.kp T.b35 .nil pass0 (pa_cons (pv 0) (pa_cons (pe_op op_add (pv 1) pe_int) pa_nil))) pa_nil)) (pg_name (i := 5) sc_law_share.nd rfl (Or.inl rfl)) (Evl.pss_cut (ps_if (pt_cmpR op_gt (pe_call (ok_law_draw T) (hr.mono (by decide)) (by rfl) T.g35 T.F35.kp T.b35 .nil pass0 (pa_cons (pv 0) (pa_cons pe_int pa_nil))) pe_int (nomark _)) (pss_one (ps_set (i := 4) sc_law_share.nd rfl (Or.inl rfl) (pe_call (ok_law_draw T) (hr.mono (by decide)) (by rfl) T.g35 T.F35.kp T.b35 .nil pass0 (pa_cons (pv 0) (pa_cons (pe_op op_add (pv 4) pe_int) pa_nil))))) pss_nil)
      (pss_one (ps_if (pt_cmpR op_gt (pv 4) pe_int (nomark _)) (pss_one (ps_expr (pe_bm PySem.F.plainAttrs_list PySem.F.slot_list_append PySem.F.type_list_append mt_append (pv 3) (pa_cons (pv 4) pa_nil)))) pss_nil))))
      (pss_one (ps_ret (pe_callTy (r := rTupO K) tup_of (by rfl) T.m_tuple bt_tuple (pa_cons (pv 3) pa_nil))))))), ?_⟩
    refine ⟨Nat.zero_le _, fun R nR => ?_⟩
    have hRp : R ≠ p := fun e => hP.new nR e.symm
    refine ⟨_, rfl, .ref p, rfl, _, rfl, _, _, rfl, rfl, p, _, rfl, hP.same (same_new nR), by omega, by omega, fun H2 cnt k2 P2 a1 a2 => ?_⟩
    have hR2 := k2 R _ hRp upd_same
    have keep : ∀ {H3 : Hp} {o : HO}, Kp p H H3 → Kp p H (upd H3 R o) := fun k b u n e => by
      rw [upd_ne (ne_of_none e nR)]
      exact k b u n e
    refine ⟨cnt, rfl, by omega, by omega, ?_⟩
    refine for_range (fun i σ H3 => ∃ (xs : List Int) (m : Int) (o5 : Option V), σ = [some (.ref p), some (.int h), some (.int w), some (.ref R), some (.int m), o5] ∧ xs.length ≤ i ∧ (∀ x ∈ xs, 1 ≤ x ∧ x ≤ w ∧ m ≤ x) ∧ xs.Pairwise (fun x y => y ≤ x) ∧ 0 ≤ m ∧ m ≤ w ∧
      Kp p H H3 ∧ PenA H3 p ∧ H3 R = some (.lst (xs.map V.int))) ?_ ?_ ?_
    · exact ⟨[], w, none, rfl, Nat.zero_le _, (fun x z => absurd z List.not_mem_nil), List.Pairwise.nil, w1, Int.le_refl _, (kp_new nR).trans k2, P2, hR2⟩
    · rintro i _ H3 hi ⟨xs, m, o5, rfl, hn, hx, hf, hm1, hm2, k3, P3, hR3⟩
      refine ⟨fun σ H4 => ∃ m', σ = [some (.ref p), some (.int h), some (.int w), some (.ref R), some (.int m'), some (.int (0 + (i : Int)))] ∧ 0 ≤ m' ∧ m' ≤ m ∧ Kp p H H4 ∧ PenA H4 p ∧ H4 R = some (.lst (xs.map V.int)), ?_, ?_⟩
      · refine ⟨.ref p, rfl, p, 3, rfl, P3, by decide, by decide, fun H4 d k4 P4 b1 b2 => ?_⟩
        have hR4 := k4 R _ hRp hR3
        refine ⟨_, _, rfl, rfl, _, rfl, ite2 (fun e => ?_) (fun e => ?_)⟩
        · refine ⟨.ref p, rfl, _, rfl, _, _, rfl, rfl, p, _, rfl, P4, by omega, by omega, fun H5 d5 k5 P5 b3 b4 => ?_⟩
          exact ⟨d5, rfl, b3, by omega, (k3.trans k4).trans k5, P5, k5 R _ hRp hR4⟩
        · exact ⟨m, rfl, hm1, Int.le_refl _, k3.trans k4, P4, hR4⟩
      rintro _ H4 ⟨m', rfl, c1, c2, k4, P4, hR4⟩
      refine ⟨_, rfl, _, _, rfl, rfl, _, rfl, ite2 (fun e => ?_) (fun e => ?_)⟩
      · have e1 := of_decide_eq_true e
        refine ⟨.ref R, rfl, .inl ⟨rfl, _, .inl (.inl hR4)⟩, _, rfl, R, _, _, rfl, rfl, hR4, small_lt (by rw [List.length_map]; omega), ?_⟩
        refine ⟨xs ++ [m'], m', _, rfl, by rw [List.length_append]; show xs.length + 1 ≤ i + 1; omega, ?_, ?_, c1, by omega, keep k4, ?_, ?_⟩
        · intro x z
          rcases List.mem_append.mp z with z | z
          · have := hx x z
            omega
          · have e : x = m' := by simpa using z
            omega
        · rw [List.pairwise_append]
          refine ⟨hf, List.pairwise_singleton _ _, fun x z y z2 => ?_⟩
          have e : y = m' := by simpa using z2
          have := hx x z
          omega
        · obtain ⟨u1, u2, u3, e⟩ := P4
          exact ⟨u1, u2, u3, by rw [upd_ne hRp.symm]; exact e⟩
        · rw [upd_same, List.map_append]
          rfl
      · refine ⟨xs, m', _, rfl, by omega, ?_, hf, c1, by omega, k4, P4, hR4⟩
        intro x z
        have := hx x z
        omega
    · rintro _ H3 ⟨xs, m, o5, rfl, hn, hx, hf, hm1, hm2, k3, P3, hR3⟩
      refine ⟨.ref R, rfl, R, _, rfl, .inl ⟨SqL.of hR3, fun t nt => ?_⟩⟩
      refine q _ t xs (k3.trans (kp_new nt)) (P3.same (same_new nt)) upd_same ⟨by omega, fun x z => ?_, hf⟩ (by omega) fun x z => (hx x z).2.1
      have := hx x z
      omega
/-! ### whole numbers, and what is none -/
/-- no whole number: of another kind, or a truth -/
def NotWh (K : PySem.W.Frag) (H : Hp) (v : V) : Prop := ∃ (t : Value) (b : Bool), TyX K H v t ∧ PySem.W.kitOne K t (.type "int") = some b ∧ (b = true → PySem.W.kitOne K t (.type "bool") = some true)
/-- what is no whole number, as it comes here -/
inductive Odd (H : Hp) : V → Prop
  | non : Odd H .non
  | bl (b : Bool) : Odd H (.bl b)
  | str (s : Str) : Odd H (.str s)
  | lst {a : Addr} {xs : List V} : H a = some (.lst xs) → Odd H (.ref a)
  | tup {a : Addr} {xs : List V} : H a = some (.tup xs) → Odd H (.ref a)
  | dK {a : Addr} {kvs : List (Key × V)} : H a = some (.dK kvs) → Odd H (.ref a)
theorem Odd.same {H H' : Hp} {v : V} (h : Odd H v) (s : Same H H') : Odd H' v := by
  cases h with
  | non => exact .non
  | bl b => exact .bl b
  | str x => exact .str x
  | lst e => exact .lst (s _ _ e)
  | tup e => exact .tup (s _ _ e)
  | dK e => exact .dK (s _ _ e)
def sp_is_whole (K : PySem.W.Frag) : Sp := fun vs H Q _ => ∃ v : V, vs = [v] ∧ ((∃ i : Int, v = .int i ∧ Q (.bl true) H) ∨ (NotWh K H v ∧ Q (.bl false) H))
theorem ok_is_whole (T : Txt K mg f fd) : FnOk P w K mg base CX0 1 (f 19) (fd 19) ["thing"] (sp_is_whole K) := by
  refine T.F19.ok scis_whole (fun vs H Q E h => ?_) (fun cdv A outer s H vs Q E hr h => ?_)
  · obtain ⟨v, rfl, _⟩ := h
    rfl
  · obtain ⟨v, rfl, h⟩ := h
    refine ⟨_, (pss_one (ps_ret (pe_and (pe_callB call_isi (by rfl) T.m_isinstance bt_isinstance (pa_cons (pv 0) (pa_cons (pe_bltn (v := .ty "int") (by rfl) T.m_int bt_int rfl) pa_nil))) (pe_one (pe_not (pe_callB call_isi (by rfl) T.m_isinstance bt_isinstance (pa_cons (pv 0) (pa_cons (pe_bltn (v := .ty "bool") (by rfl) T.m_bool bt_bool rfl) pa_nil)))))))), ?_⟩
    rcases h with ⟨i, rfl, q⟩ | ⟨⟨t, b, ty, k1, k2⟩, q⟩
    · refine ⟨_, rfl, _, .ty "int", .type "int", .type "int", true, rfl, .ty _, .base (.int _), kit_ty (by decide +kernel), _, rfl, ?_⟩
      rw [if_pos rfl]
      exact ⟨_, rfl, _, .ty "bool", .type "int", .type "bool", false, rfl, .ty _, .base (.int _), kit_ty (by decide +kernel), _, rfl, q⟩
    · refine ⟨_, rfl, _, .ty "int", t, .type "int", b, rfl, .ty _, ty, k1, _, rfl, ?_⟩
      cases b with
      | false =>
        rw [if_neg Bool.false_ne_true]
        exact q
      | true =>
        rw [if_pos rfl]
        exact ⟨_, rfl, _, .ty "bool", t, .type "bool", true, rfl, .ty _, ty, k2 rfl, _, rfl, q⟩
theorem nw_non {H : Hp} : NotWh K H .non := ⟨_, false, .base .non, kit_ty (by decide +kernel), nofun⟩
theorem nw_bl {H : Hp} (b : Bool) : NotWh K H (.bl b) := ⟨_, true, .base (.bl b), kit_ty (by decide +kernel), fun _ => kit_ty (by decide +kernel)⟩
theorem nw_str {H : Hp} (s : Str) : NotWh K H (.str s) := ⟨_, false, .base (.str s), kit_ty (by decide +kernel), nofun⟩
theorem nw_lst {H : Hp} {a : Addr} {xs : List V} (h : H a = some (.lst xs)) : NotWh K H (.ref a) := ⟨_, false, .base (.lst h), kit_ty (by decide +kernel), nofun⟩
theorem nw_tup {H : Hp} {a : Addr} {xs : List V} (h : H a = some (.tup xs)) : NotWh K H (.ref a) := ⟨_, false, .base (.tup h), kit_ty (by decide +kernel), nofun⟩
theorem nw_dK {H : Hp} {a : Addr} {kvs : List (Key × V)} (h : H a = some (.dK kvs)) : NotWh K H (.ref a) := ⟨_, false, .base (.dK h), kit_ty (by decide +kernel), nofun⟩
theorem Odd.nw {H : Hp} {v : V} (h : Odd H v) : NotWh K H v := by
  cases h with
  | non => exact nw_non
  | bl b => exact nw_bl b
  | str x => exact nw_str x
  | lst e => exact nw_lst e
  | tup e => exact nw_tup e
  | dK e => exact nw_dK e
/-! ### boxes, and what is none -/
def inS : V → Bool
  | .int i => decide (0 ≤ i) && decide (i ≤ 20)
  | _ => false
def Sd (H : Hp) (v : V) : Prop := (∃ i : Int, v = .int i) ∨ Odd H v
theorem Sd.same {H H' : Hp} {v : V} (h : Sd H v) (s : Same H H') : Sd H' v := h.imp (fun z => z) fun o => o.same s
theorem Odd.inS {H : Hp} {v : V} (h : Odd H v) : inS v = false := by cases h <;> rfl
inductive NonT (H : Hp) : V → Prop
  | int (i : Int) : NonT H (.int i)
  | non : NonT H .non
  | bl (b : Bool) : NonT H (.bl b)
  | str (s : Str) : NonT H (.str s)
  | lst {a : Addr} {xs : List V} : H a = some (.lst xs) → NonT H (.ref a)
  | dK {a : Addr} {kvs : List (Key × V)} : H a = some (.dK kvs) → NonT H (.ref a)
theorem NonT.ty {H : Hp} {v : V} (h : NonT H v) : ∃ t, TyX K H v t ∧ PySem.W.kitOne K t (.type "tuple") = some false := by
  cases h with
  | int i => exact ⟨_, .base (.int i), kit_ty (by decide +kernel)⟩
  | non => exact ⟨_, .base .non, kit_ty (by decide +kernel)⟩
  | bl b => exact ⟨_, .base (.bl b), kit_ty (by decide +kernel)⟩
  | str x => exact ⟨_, .base (.str x), kit_ty (by decide +kernel)⟩
  | lst e => exact ⟨_, .base (.lst e), kit_ty (by decide +kernel)⟩
  | dK e => exact ⟨_, .base (.dK e), kit_ty (by decide +kernel)⟩
def NoBx (H : Hp) (v : V) : Prop := NonT H v ∨ (∃ a xs, v = .ref a ∧ H a = some (.tup xs) ∧ xs.length ≠ 2) ∨ ∃ a x y, v = .ref a ∧ H a = some (.tup [x, y]) ∧ Sd H x ∧ Sd H y ∧ (inS x && inS y) = false
def Bx (H : Hp) (v : V) (h w : Int) : Prop := ∃ a, v = .ref a ∧ H a = some (.tup [.int h, .int w]) ∧ 0 ≤ h ∧ h ≤ 20 ∧ 0 ≤ w ∧ w ≤ 20
theorem NonT.same {H H' : Hp} {v : V} (h : NonT H v) (s : Same H H') : NonT H' v := by
  cases h with
  | int i => exact .int i
  | non => exact .non
  | bl b => exact .bl b
  | str x => exact .str x
  | lst e => exact .lst (s _ _ e)
  | dK e => exact .dK (s _ _ e)
theorem NoBx.same {H H' : Hp} {v : V} (h : NoBx H v) (s : Same H H') : NoBx H' v := by
  rcases h with h | ⟨a, xs, e, h1, h2⟩ | ⟨a, x, y, e, h1, h2, h3, h4⟩
  · exact .inl (h.same s)
  · exact .inr (.inl ⟨a, xs, e, s _ _ h1, h2⟩)
  · exact .inr (.inr ⟨a, x, y, e, s _ _ h1, h2.same s, h3.same s, h4⟩)
def sp_is_whole_from : Sp := fun vs H Q _ => ∃ (l m : Int) (v : V), vs = [.int l, .int m, v] ∧ ((∃ i : Int, v = .int i ∧ Q (.bl (decide (l ≤ i) && decide (i ≤ m))) H) ∨ (Odd H v ∧ Q (.bl false) H))
theorem ok_is_whole_from (T : Txt K mg f fd) : FnOk P w K mg base CX0 2 (f 20) (fd 20) ["least", "most", "thing"] sp_is_whole_from := by
  refine T.F20.ok scis_whole_from (fun vs H Q E h => ?_) (fun cdv A outer s H vs Q E hr h => ?_)
  · obtain ⟨l, m, v, rfl, _⟩ := h
    rfl
  · obtain ⟨l, m, v, rfl, h⟩ := h
    refine ⟨_, (pss_one (ps_ret (pe_and (pe_call (ok_is_whole T) (hr.mono (by decide)) (by rfl) T.g19 T.F19.kp T.b19 .nil pass0 (pa_cons (pv 2) pa_nil)) (pe_one (pe_chain op_le op_le (pv 0) (pv 2) (pv 1)))))), ?_⟩
    rcases h with ⟨i, rfl, q⟩ | ⟨o, q⟩
    · refine ⟨_, rfl, _, rfl, .inl ⟨i, rfl, _, rfl, ?_⟩⟩
      rw [if_pos rfl]
      refine ⟨_, rfl, _, rfl, _, _, rfl, rfl, _, rfl, ?_⟩
      by_cases c : l ≤ i
      · rw [decide_eq_true c] at q ⊢
        rw [if_pos rfl]
        exact ⟨_, rfl, _, _, rfl, rfl, q⟩
      · rw [decide_eq_false c] at q ⊢
        rw [if_neg Bool.false_ne_true]
        exact q
    · refine ⟨_, rfl, _, rfl, .inr ⟨o.nw, _, rfl, ?_⟩⟩
      rw [if_neg Bool.false_ne_true]
      exact q
def sp_is_box : Sp := fun vs H Q _ => ∃ v : V, vs = [v] ∧ ((∃ h w : Int, Bx H v h w ∧ ∀ H', Same H H' → Q (.bl true) H') ∨ (NoBx H v ∧ ∀ H', Same H H' → Q (.bl false) H'))
theorem ok_is_box (T : Txt K mg f fd) : FnOk P w K mg base CX0 3 (f 29) (fd 29) ["thing"] sp_is_box := by
  refine T.F29.ok scis_box (fun vs H Q E h => ?_) (fun cdv A outer s H vs Q E hr h => ?_)
  · obtain ⟨v, rfl, _⟩ := h
    rfl
  · obtain ⟨v, rfl, h⟩ := h
    refine ⟨_, (pss_cons (ps_if (PW.pt (pw_or (pt_not (pt_val (pe_callB call_isi (by rfl) T.m_isinstance bt_isinstance (pa_cons (pv 0) (pa_cons (pe_bltn (v := .ty "tuple") (by rfl) T.m_tuple bt_tuple rfl) pa_nil))))) (pw_or1 (pt_cmpR op_ne (pe_callB (r := rLenS K) len_seq (by rfl) T.m_len bt_len (pa_cons (pv 0) pa_nil)) pe_int (nomark _))))) (pss_one (ps_ret pe_bl)) pss_nil)
      (pss_one (ps_ret (pe_callB (cr_all rfl) (by rfl) T.m_all bt_all (pa_cons (pe_lc (own := [("side", 1)]) (g := (gName 1)) (tt := tYes) rfl scis_box.nd (pi_tup (pv 0)) (blkOk_by (N := Nis_box) (sc := defScope stis_box) (by decide +kernel)) (fun _ _ _ _ _ => (pg_name (i := 1) scis_box.nd rfl (Or.inl rfl))) (fun _ _ _ _ _ => pts_nil) (fun _ _ _ _ _ => (pe_call (ok_is_whole_from T) (hr.mono (by decide)) (by rfl) T.g20 T.F20.kp T.b20 .nil pass0 (pa_cons pe_int (pa_cons (pe_cst (by rfl) T.c_LONGEST_SIDE) (pa_cons (pv 1) pa_nil)))))) pa_nil))))), ?_⟩
    have h' : (NonT H v ∧ ∀ H', Same H H' → Q (.bl false) H') ∨ (∃ a xs, v = .ref a ∧ H a = some (.tup xs) ∧ xs.length ≠ 2 ∧ ∀ H', Same H H' → Q (.bl false) H') ∨
        ∃ a x y, v = .ref a ∧ H a = some (.tup [x, y]) ∧ Sd H x ∧ Sd H y ∧ ∀ H', Same H H' → Q (.bl (inS x && inS y)) H' := by
      rcases h with ⟨h, w, ⟨a, rfl, ha, h0, h1, w0, w1⟩, q⟩ | ⟨h | ⟨a, xs, rfl, ha, hl⟩ | ⟨a, x, y, rfl, ha, hx, hy, hb⟩, q⟩
      · refine .inr (.inr ⟨a, _, _, rfl, ha, .inl ⟨_, rfl⟩, .inl ⟨_, rfl⟩, fun H' s' => ?_⟩)
        have : (inS (.int h) && inS (.int w)) = true := by
          show ((decide (0 ≤ h) && decide (h ≤ 20)) && (decide (0 ≤ w) && decide (w ≤ 20))) = true
          rw [decide_eq_true h0, decide_eq_true h1, decide_eq_true w0, decide_eq_true w1]
          rfl
        rw [this]
        exact q _ s'
      · exact .inl ⟨h, q⟩
      · exact .inr (.inl ⟨a, xs, rfl, ha, hl, q⟩)
      · exact .inr (.inr ⟨a, x, y, rfl, ha, hx, hy, fun H' s' => by rw [hb]; exact q _ s'⟩)
    clear h
    rcases h' with ⟨h, q⟩ | ⟨a, xs, rfl, ha, hl, q⟩ | ⟨a, x, y, rfl, ha, hx, hy, q⟩
    · obtain ⟨t, ty, k⟩ := h.ty (K := K)
      exact ⟨_, rfl, _, .ty "tuple", t, .type "tuple", false, rfl, .ty _, ty, k, _, rfl, iteT (q _ (Same.refl _))⟩
    · refine ⟨_, rfl, _, .ty "tuple", .type "tuple", .type "tuple", true, rfl, .ty _, .base (.tup ha), kit_ty (by decide +kernel), _, rfl, iteF ⟨.ref a, rfl, a, _, rfl, .inr (SqT.of ha), rfl, _, rfl, ?_⟩⟩
      rw [decide_eq_false (fun z => hl (by have := V.int.inj z; omega))]
      exact iteT (q _ (Same.refl _))
    refine ⟨_, rfl, _, .ty "tuple", .type "tuple", .type "tuple", true, rfl, .ty _, .base (.tup ha), kit_ty (by decide +kernel), _, rfl, iteF ⟨.ref a, rfl, a, _, rfl, .inr (SqT.of ha), rfl, _, rfl, ?_⟩⟩
    rw [decide_eq_true (show V.int ((([x, y] : List V).length : Nat) : Int) = V.int 2 from rfl)]
    refine iteF ⟨.ref a, rfl, a, rfl, ⟨_, SqT.of ha⟩, fun D nD => ?_⟩
    refine lc_it (walk_tup (xs := [x, y])) (Grow H D (fun i => ([inS x, inS y].take i).map V.bl)) (Grow.start nD rfl) (fun i H' _ g => SqT.of (g.1 _ _ ha)) ?_ ?_
    · rintro i v _ H1 hi g ⟨rfl, hv⟩
      refine ⟨rfl, ?_⟩
      simp only [tYes, reduceIte]
      match i, hi, hv, g with
      | 0, _, hv, g =>
        cases hv
        refine ⟨_, rfl, 0, 20, x, rfl, ?_⟩
        rcases hx.same g.1 with ⟨i, rfl⟩ | o
        · exact .inl ⟨i, rfl, _, g.2, small_lt (by show 0 ≤ 100000; omega), g.put nD (Same.refl _) rfl⟩
        · refine .inr ⟨o, _, g.2, small_lt (by show 0 ≤ 100000; omega), g.put nD (Same.refl _) ?_⟩
          show [V.bl (inS x)] = [V.bl false]
          rw [o.inS]
      | 1, _, hv, g =>
        cases hv
        refine ⟨_, rfl, 0, 20, y, rfl, ?_⟩
        rcases hy.same g.1 with ⟨i, rfl⟩ | o
        · exact .inl ⟨i, rfl, _, g.2, small_lt (by show 1 ≤ 100000; omega), g.put nD (Same.refl _) rfl⟩
        · refine .inr ⟨o, _, g.2, small_lt (by show 1 ≤ 100000; omega), g.put nD (Same.refl _) ?_⟩
          show [V.bl (inS x), V.bl (inS y)] = [V.bl (inS x), V.bl false]
          rw [o.inS]
    · intro H1 g
      refine ⟨D, [inS x, inS y], rfl, SqL.of g.2, ?_⟩
      have : [inS x, inS y].all id = (inS x && inS y) := by simp
      rw [this]
      exact q _ g.1
def sp_need_box (C : Addr) : Sp := fun vs H Q E => ∃ v : V, vs = [v] ∧ ((∃ h w : Int, Bx H v h w ∧ ∀ H', Same H H' → Q .non H') ∨ (NoBx H v ∧ ∀ H', Same H H' → E (.ref C) none H'))
theorem ok_need_box (T : Txt K mg f fd) : FnOk P w K mg base (L2.CX P w) 4 (f 30) (fd 30) ["thing"] (sp_need_box (f 3)) := by
  refine T.F30.okX scneed_box (fun vs H Q E h => ?_) (fun cdv A outer s H vs Q E hr h => ?_)
  · obtain ⟨v, rfl, _⟩ := h
    rfl
  · obtain ⟨v, rfl, h⟩ := h
    refine ⟨_, (pss_one (ps_if (pt_not (pt_val (pe_call (ok_is_box T) (hr.mono (by decide)) (by rfl) T.g29 T.F29.kp T.b29 .nil pass0 (pa_cons (pv 0) pa_nil)))) (pss_one (ps_raise rfl (takes_of rfl rfl rfl rfl) (pmk_own PySem.F.excBase_ValueError T.x3 T.g3 T.k3 (raises_own T.e3.hs T.t3) rfl))) pss_nil)), ?_⟩
    rcases h with ⟨h, w, hb, q⟩ | ⟨hb, q⟩
    · exact ⟨_, rfl, v, rfl, .inl ⟨h, w, hb, fun H1 s1 => ⟨_, rfl, iteF (q _ s1)⟩⟩⟩
    · exact ⟨_, rfl, v, rfl, .inr ⟨hb, fun H1 s1 => ⟨_, rfl, iteT (q _ s1)⟩⟩⟩
def fitB (h w : Int) (xs : List Int) : Bool := decide ((xs.length : Int) ≤ h) && (xs.isEmpty || decide (gd xs 0 ≤ w))
def sp_fits_in (C : Addr) : Sp := fun vs H Q E => ∃ (v : V) (a : Addr) (xs : List Int), vs = [v, .ref a] ∧ H a = some (.tup (xs.map V.int)) ∧ ((∃ h w : Int, Bx H v h w ∧ ∀ H', Same H H' → Q (.bl (fitB h w xs)) H') ∨ (NoBx H v ∧ ∀ H', Same H H' → E (.ref C) none H'))
theorem ok_fits_in (T : Txt K mg f fd) : FnOk P w K mg base (L2.CX P w) 5 (f 31) (fd 31) ["box", "share"] (sp_fits_in (f 3)) := by
  refine T.F31.okX scfits_in (fun vs H Q E h => ?_) (fun cdv A outer s H vs Q E hr h => ?_)
  · obtain ⟨v, a, xs, rfl, _⟩ := h
    rfl
  · obtain ⟨v, a, xs, rfl, ha, h⟩ := h
    refine ⟨_, (pss_cons (ps_expr (pe_callS (ok_need_box T) (hr.mono (by decide)) (by rfl) T.g30 T.F30.kp T.b30 (fun σ => passAt (takes_of rfl rfl rfl rfl) σ) (pa_cons (pv 0) pa_nil)))
      (pss_cons (ps_asg (pv 0) (pg_tup rfl (pgs_cons (pg_name (i := 2) scfits_in.nd rfl (Or.inl rfl)) (pgs_cons (pg_name (i := 3) scfits_in.nd rfl (Or.inl rfl)) pgs_nil))))
      (pss_one (ps_ret (pe_and (pe_cmpR op_le (pe_callB (r := rLenS K) len_seq (by rfl) T.m_len bt_len (pa_cons (pv 1) pa_nil)) (pv 2) (nomark _)) (pe_one (pe_or (pe_notA (pv 1)) (pe_one (pe_cmpR op_le (pe_ix (r := rIxT K) ix_tup (pv 1) pe_int (fun _ _ => rfl)) (pv 3) (nomark _)))))))))), ?_⟩
    rcases h with ⟨h, w, hb, q⟩ | ⟨hb, q⟩
    · obtain ⟨b, rfl, hbx, r1⟩ := id hb
      refine ⟨_, rfl, .ref b, rfl, .inl ⟨h, w, hb, fun H1 s1 => ?_⟩⟩
      have ha1 := s1 _ _ ha
      refine ⟨.ref b, rfl, b, _, rfl, SqT.of (s1 _ _ hbx), rfl, _, _, rfl, _, _, rfl, rfl, ?_⟩
      refine ⟨.ref a, rfl, a, _, rfl, .inr (SqT.of ha1), _, rfl, _, _, rfl, rfl, _, rfl, ?_⟩
      have q1 := q _ s1
      unfold fitB at q1
      rw [List.length_map]
      by_cases c : (xs.length : Int) ≤ h
      · rw [decide_eq_true c] at q1 ⊢
        rw [if_pos rfl]
        refine ⟨.ref a, rfl, _, .inr (.inl ⟨_, SqT.of ha1, rfl⟩), _, rfl, ?_⟩
        cases xs with
        | nil => exact q1
        | cons x xs =>
          rw [if_neg (show ¬ (!!(List.map V.int (x :: xs)).isEmpty) = true from Bool.false_ne_true)]
          exact ⟨.ref a, rfl, a, _, 0, .int x, rfl, rfl, SqT.of ha1, at_get (by decide) rfl, _, rfl, _, _, rfl, rfl, q1⟩
      · rw [decide_eq_false c] at q1 ⊢
        rw [if_neg Bool.false_ne_true]
        exact q1
    · exact ⟨_, rfl, v, rfl, .inr ⟨hb, q⟩⟩
/-! ### rows of a list, full_share -/
def sp_is_falling : Sp := fun vs H Q _ => ∃ (a : Addr) (xs : List Int), vs = [.ref a] ∧ H a = some (.lst (xs.map V.int)) ∧ xs.length ≤ 20 ∧ xs.Pairwise (fun x y => y ≤ x) ∧ ∀ H', Same H H' → Q (.bl true) H'
theorem ok_is_falling (T : Txt K mg f fd) : FnOk P w K mg base CX0 1 (f 24) (fd 24) ["numbers"] sp_is_falling := by
  refine T.F24.ok scis_falling (fun vs H Q E h => ?_) (fun cdv A outer s H vs Q E hr h => ?_)
  · obtain ⟨a, xs, rfl, _⟩ := h
    rfl
  · obtain ⟨a, xs, rfl, ha, hxn, hf, q⟩ := h
    refine ⟨_, (pss_one (ps_ret (pe_callB (cr_all rfl) (by rfl) T.m_all bt_all (pa_cons (pe_lc (own := [("ahead", 1), ("after", 2)]) (g := (gTup _ 2 (gCons (gName 1) (gCons (gName 2) gNil)))) (tt := tYes) rfl scis_falling.nd (pi_zipA (by rfl) T.m_zip (pa_cons (pv 0) (pa_cons (pe_slice (r := rSlL K) sl_list (pv 0) (po_some pe_int) po_none) pa_nil))) (blkOk_by (N := Nis_falling) (sc := defScope stis_falling) (by decide +kernel)) (fun _ _ _ _ _ => (pg_tup rfl (pgs_cons (pg_name (i := 1) scis_falling.nd rfl (Or.inl rfl)) (pgs_cons (pg_name (i := 2) scis_falling.nd rfl (Or.inl rfl)) pgs_nil)))) (fun _ _ _ _ _ => pts_nil) (fun _ _ _ _ _ => (pe_cmpR op_le (pv 2) (pv 1) (nomark _)))) pa_nil)))), ?_⟩
    refine ⟨.ref a, rfl, .ref a, rfl, 1, rfl, ?_⟩
    unfold tNoPart
    refine ⟨a, _, rfl, SqL.of ha, fun c nc => ?_⟩
    rw [cut_drop (by decide), ← List.map_drop]
    have s1 := same_new (o := .lst ((xs.drop (1 : Int).toNat).map V.int)) nc
    have hc : (upd H c (.lst ((xs.drop (1 : Int).toNat).map V.int))) c = some (.lst ((xs.drop (1 : Int).toNat).map V.int)) := upd_same
    generalize upd H c (.lst ((xs.drop (1 : Int).toNat).map V.int)) = H1 at s1 hc
    refine ⟨a, c, _, _, rfl, .inl ⟨SqL.of (s1 _ _ ha), SqL.of hc, fun D nD => ?_⟩⟩
    refine lc_it (walk_zip (xs := xs.map V.int) (ys := (xs.drop (1 : Int).toNat).map V.int) rfl) (Grow H1 D (fun i => (List.replicate i true).map V.bl)) (Grow.start nD rfl) (fun i H2 _ g => ⟨SqL.of (g.1 _ _ (s1 _ _ ha)), SqL.of (g.1 _ _ hc)⟩) ?_ ?_
    · rintro i v H2 H3 hi g ⟨t, x, y, rfl, nt, rfl, hx1, hy1⟩
      rw [List.length_map, List.length_map, List.length_drop] at hi
      have h1 : i < xs.length := by omega
      have h2 : i + 1 < xs.length := by
        have : (1 : Int).toNat = 1 := rfl
        omega
      dsimp only at hx1 hy1
      rw [List.getElem?_map, List.getElem?_eq_getElem h1] at hx1
      rw [List.getElem?_map, List.getElem?_drop, show (1 : Int).toNat + i = i + 1 by have : (1 : Int).toNat = 1 := rfl; omega, List.getElem?_eq_getElem h2] at hy1
      cases hx1
      cases hy1
      refine ⟨t, _, rfl, SqT.of upd_same, rfl, _, _, rfl, _, _, rfl, rfl, rfl, ?_⟩
      simp only [tYes, reduceIte]
      have s3 : Same H2 (upd H2 t (.tup [V.int xs[i], V.int xs[i + 1]])) := same_new nt
      have hle : xs[i + 1] ≤ xs[i] := List.pairwise_iff_getElem.mp hf i (i + 1) h1 h2 (Nat.lt_succ_self i)
      refine ⟨_, rfl, _, rfl, _, _, rfl, rfl, _, s3 _ _ g.2, ?_, ?_⟩
      · exact small_lt (by rw [List.length_map, List.length_replicate]; omega)
      · show Grow H1 D _ (i + 1) (upd _ D (.lst (_ ++ [V.bl (decide (xs[i + 1] ≤ xs[i]))])))
        rw [decide_eq_true hle]
        refine g.put nD s3 ?_
        rw [List.replicate_succ', List.map_append]
        rfl
    · intro H2 g
      refine ⟨D, _, rfl, SqL.of g.2, ?_⟩
      have : (List.replicate (min (xs.map V.int).length ((xs.drop (1 : Int).toNat).map V.int).length) true).all id = true := by simp
      rw [this]
      exact q _ (s1.trans g.1)
def sp_are_rows : Sp := fun vs H Q _ => ∃ (a : Addr) (xs : List Int), vs = [.ref a, .int 0] ∧ H a = some (.lst (xs.map V.int)) ∧ xs.length ≤ 20 ∧ (∀ x ∈ xs, 0 ≤ x ∧ x ≤ 20) ∧ xs.Pairwise (fun x y => y ≤ x) ∧ ∀ H', Same H H' → Q (.bl true) H'
theorem ok_are_rows (T : Txt K mg f fd) : FnOk P w K mg base CX0 3 (f 25) (fd 25) ["things", "shortest"] sp_are_rows := by
  refine T.F25.ok scare_rows (fun vs H Q E h => ?_) (fun cdv A outer s H vs Q E hr h => ?_)
  · obtain ⟨a, xs, rfl, _⟩ := h
    rfl
  · obtain ⟨a, xs, rfl, ha, hxn, hx, hf, q⟩ := h
    refine ⟨_, (pss_cons (ps_if (pt_cmpR op_gt (pe_callB (r := rLenS K) len_seq (by rfl) T.m_len bt_len (pa_cons (pv 0) pa_nil)) (pe_cst (by rfl) T.c_MOST_ROWS) (nomark _)) (pss_one (ps_ret pe_bl)) pss_nil)
      (pss_cons (ps_if (pt_not (pt_val (pe_callB (cr_all rfl) (by rfl) T.m_all bt_all (pa_cons (pe_lc (own := [("thing", 2)]) (g := (gName 2)) (tt := tYes) rfl scare_rows.nd (pi_list (pv 0)) (blkOk_by (N := Nare_rows) (sc := defScope stare_rows) (by decide +kernel)) (fun _ _ _ _ _ => (pg_name (i := 2) scare_rows.nd rfl (Or.inl rfl))) (fun _ _ _ _ _ => pts_nil) (fun _ _ _ _ _ => (pe_call (ok_is_whole_from T) (hr.mono (by decide)) (by rfl) T.g20 T.F20.kp T.b20 .nil pass0 (pa_cons (pv 1) (pa_cons (pe_cst (by rfl) T.c_LONGEST_ROW) (pa_cons (pv 2) pa_nil)))))) pa_nil)))) (pss_one (ps_ret pe_bl)) pss_nil)
      (pss_one (ps_ret (pe_call (ok_is_falling T) (hr.mono (by decide)) (by rfl) T.g24 T.F24.kp T.b24 .nil pass0 (pa_cons (pv 0) pa_nil)))))), ?_⟩
    refine ⟨.ref a, rfl, a, _, rfl, .inl (SqL.of ha), _, _, rfl, rfl, _, rfl, ?_⟩
    rw [decide_eq_false (by rw [List.length_map]; omega)]
    refine iteF ⟨.ref a, rfl, a, rfl, ⟨_, SqL.of ha⟩, fun D nD => ?_⟩
    refine lc_it (walk_list (xs := xs.map V.int)) (Grow H D (fun i => (List.replicate i true).map V.bl)) (Grow.start nD rfl) (fun i H2 _ g => SqL.of (g.1 _ _ ha)) ?_ ?_
    · rintro i v _ H2 hi g ⟨rfl, hv⟩
      rw [List.length_map] at hi
      rw [List.getElem?_map, List.getElem?_eq_getElem hi] at hv
      cases hv
      have hb := hx xs[i] (List.getElem_mem hi)
      refine ⟨rfl, ?_⟩
      simp only [tYes, reduceIte]
      refine ⟨_, rfl, _, rfl, 0, 20, _, rfl, .inl ⟨_, rfl, ?_⟩⟩
      rw [decide_eq_true hb.1, decide_eq_true hb.2]
      refine ⟨_, g.2, small_lt (by rw [List.length_map, List.length_replicate]; omega), g.put nD (Same.refl _) ?_⟩
      rw [List.replicate_succ', List.map_append]
      rfl
    · intro H2 g
      refine ⟨D, _, rfl, SqL.of g.2, _, rfl, ?_⟩
      have : (List.replicate (xs.map V.int).length true).all id = true := by simp
      rw [this]
      exact iteF ⟨.ref a, rfl, a, xs, rfl, g.1 _ _ ha, hxn, hf, fun H3 s3 => q _ (g.1.trans s3)⟩
def sp_share_of : Sp := fun vs H Q _ => ∃ (a : Addr) (xs : List Int), vs = [.ref a] ∧ H a = some (.lst (xs.map V.int)) ∧ xs.length ≤ 20 ∧ (∀ x ∈ xs, 0 ≤ x ∧ x ≤ 20) ∧ xs.Pairwise (fun x y => y ≤ x) ∧
  ∀ H' t, Same H H' → H' t = some (.tup ((xs.filter fun x => decide (0 < x)).map V.int)) → Q (.ref t) H'
theorem ok_share_of (T : Txt K mg f fd) : FnOk P w K mg base CX0 4 (f 26) (fd 26) ["things"] sp_share_of := by
  refine T.F26.ok scshare_of (fun vs H Q E h => ?_) (fun cdv A outer s H vs Q E hr h => ?_)
  · obtain ⟨a, xs, rfl, _⟩ := h
    rfl
  · obtain ⟨a, xs, rfl, ha, hxn, hx, hf, q⟩ := h
    refine ⟨_, (pss_cons (ps_if (PW.pt (pw_or (pt_not (pt_val (pe_callB (r := rIsiT K) call_isiT (by rfl) T.m_isinstance bt_isinstance (pa_cons (pv 0) (pa_cons (pe_tup (pa_cons (pe_bltn (v := .ty "list") (by rfl) T.m_list bt_list rfl) (pa_cons (pe_bltn (v := .ty "tuple") (by rfl) T.m_tuple bt_tuple rfl) pa_nil))) pa_nil))))) (pw_or1 (pt_not (pt_val (pe_call (ok_are_rows T) (hr.mono (by decide)) (by rfl) T.g25 T.F25.kp T.b25 .nil pass0 (pa_cons (pv 0) (pa_cons pe_int pa_nil)))))))) (pss_one ps_never) pss_nil)
      (pss_one (ps_ret (pe_callTy (r := rTupO K) tup_of (by rfl) T.m_tuple bt_tuple (pa_cons (pe_lc (own := [("length", 1)]) (g := (gName 1)) rfl scshare_of.nd (pi_list (pv 0)) (blkOk_by (N := Nshare_of) (sc := defScope stshare_of) (by decide +kernel)) (fun _ _ _ _ _ => (pg_name (i := 1) scshare_of.nd rfl (Or.inl rfl))) (fun _ _ _ _ _ => pts_one (pt_cmpR op_gt (pv 1) pe_int (nomark _))) (fun _ _ _ _ _ => (pv 1))) pa_nil))))), ?_⟩
    refine ⟨.ref a, rfl, small_line (by show 2 ≤ 100000; omega), fun tp ntp => ?_⟩
    have s1 := same_new (o := .tup [V.ty "list", V.ty "tuple"]) ntp
    refine ⟨_, tp, _, .type "list", [.type "list", .type "tuple"], true, rfl, upd_same, .cons (.ty _) (.cons (.ty _) .nil), .base (.lst (s1 _ _ ha)), ?_, _, rfl, ?_⟩
    · have e : PySem.W.kitOne K (.type "list") (.type "list") = some true := kit_ty (by decide +kernel)
      simp only [PySem.W.kitAny, e]
    refine iteF ⟨.ref a, rfl, a, xs, rfl, s1 _ _ ha, hxn, hx, hf, fun H2 s2 => ⟨_, rfl, ?_⟩⟩
    have ha2 := s2 _ _ (s1 _ _ ha)
    refine iteF ⟨.ref a, rfl, a, rfl, ⟨_, SqL.of ha2⟩, fun D nD => ?_⟩
    refine lc_it (walk_list (xs := xs.map V.int)) (Grow H2 D (fun i => ((xs.take i).filter fun x => decide (0 < x)).map V.int)) (Grow.start nD rfl) (fun i H3 _ g => SqL.of (g.1 _ _ ha2)) ?_ ?_
    · rintro i v _ H3 hi g ⟨rfl, hv⟩
      rw [List.length_map] at hi
      rw [List.getElem?_map, List.getElem?_eq_getElem hi] at hv
      cases hv
      refine ⟨rfl, _, rfl, _, _, rfl, rfl, _, rfl, ite2 (fun e => ?_) (fun e => ?_)⟩
      · have e1 : 0 < xs[i] := of_decide_eq_true e
        refine ⟨_, rfl, _, g.2, ?_, g.put nD (Same.refl _) ?_⟩
        · refine small_lt ?_
          rw [List.length_map]
          have := List.length_filter_le (fun x => decide ((0 : Int) < x)) (xs.take i)
          rw [List.length_take] at this
          omega
        · rw [List.take_add_one, List.getElem?_eq_getElem hi, List.filter_append]
          simp only [Option.toList, List.filter_cons, decide_eq_true e1, if_true, List.filter_nil, List.map_append, List.map_cons, List.map_nil]
      · have e1 : ¬ 0 < xs[i] := fun y => e (decide_eq_true y)
        refine g.skip (Same.refl _) ?_
        rw [List.take_add_one, List.getElem?_eq_getElem hi, List.filter_append]
        simp only [Option.toList, List.filter_cons, decide_eq_false e1, if_false, List.filter_nil, List.append_nil, Bool.false_eq_true]
    · intro H3 g
      have g2 := g.2
      dsimp only at g2
      rw [List.length_map, List.take_of_length_le (Nat.le_refl _)] at g2
      exact ⟨D, _, rfl, .inl ⟨SqL.of g2, fun u nu => q _ u (((s1.trans s2).trans g.1).trans (same_new nu)) upd_same⟩⟩
def fullL (h w : Int) : List Int := (List.replicate h.toNat w).filter fun x => decide (0 < x)
def sp_full_share (C : Addr) : Sp := fun vs H Q E => ∃ v : V, vs = [v] ∧ ((∃ h w : Int, Bx H v h w ∧ ∀ H' t, Same H H' → H' t = some (.tup ((fullL h w).map V.int)) → Q (.ref t) H') ∨ (NoBx H v ∧ ∀ H', Same H H' → E (.ref C) none H'))
theorem ok_full_share (T : Txt K mg f fd) : FnOk P w K mg base (L2.CX P w) 5 (f 32) (fd 32) ["box"] (sp_full_share (f 3)) := by
  refine T.F32.okX scfull_share (fun vs H Q E h => ?_) (fun cdv A outer s H vs Q E hr h => ?_)
  · obtain ⟨v, rfl, _⟩ := h
    rfl
  · obtain ⟨v, rfl, h⟩ := h
    refine ⟨_, (pss_cons (ps_expr (pe_callS (ok_need_box T) (hr.mono (by decide)) (by rfl) T.g30 T.F30.kp T.b30 (fun σ => passAt (takes_of rfl rfl rfl rfl) σ) (pa_cons (pv 0) pa_nil)))
      (pss_cons (ps_asg (pv 0) (pg_tup rfl (pgs_cons (pg_name (i := 1) scfull_share.nd rfl (Or.inl rfl)) (pgs_cons (pg_name (i := 2) scfull_share.nd rfl (Or.inl rfl)) pgs_nil))))
      (pss_one (ps_ret (pe_call (ok_share_of T) (hr.mono (by decide)) (by rfl) T.g26 T.F26.kp T.b26 .nil pass0 (pa_cons (pe_op op_rep (pe_lst (pa_cons (pv 2) pa_nil)) (pv 1)) pa_nil)))))), ?_⟩
    rcases h with ⟨h, w, hb, q⟩ | ⟨hb, q⟩
    · obtain ⟨b, rfl, hbx, h0, h1, w0, w1⟩ := id hb
      refine ⟨_, rfl, .ref b, rfl, .inl ⟨h, w, hb, fun H1 s1 => ?_⟩⟩
      refine ⟨.ref b, rfl, b, _, rfl, SqT.of (s1 _ _ hbx), rfl, _, _, rfl, _, _, rfl, rfl, ?_⟩
      refine ⟨_, rfl, small_line (by show 1 ≤ 100000; omega), fun z nz => ?_⟩
      have s2 := same_new (o := .lst [V.int w]) nz
      refine ⟨_, rfl, z, h, [V.int w], rfl, rfl, upd_same, by omega, by omega, small_line (by show 1 * h.toNat ≤ 100000; omega), fun p np => ?_⟩
      have e : (List.replicate h.toNat [V.int w]).flatten = (List.replicate h.toNat w).map V.int := by
        rw [List.flatten_replicate_singleton, List.map_replicate]
      rw [e]
      have s3 := same_new (o := .lst ((List.replicate h.toNat w).map V.int)) np
      refine ⟨p, _, rfl, upd_same, by rw [List.length_replicate]; omega, fun x m => ?_, ?_, fun H4 t s4 ht => q _ t (((s1.trans s2).trans s3).trans s4) ht⟩
      · rw [(List.mem_replicate.mp m).2]
        exact ⟨w0, w1⟩
      · rw [List.pairwise_replicate]
        exact .inr (Int.le_refl _)
    · exact ⟨_, rfl, v, rfl, .inr ⟨hb, q⟩⟩
/-! ### _law_word -/
/-- what _law_word makes of a lambda that tells, or lets NoBox out -/
def TWord (C : Addr) : (XK → Hp → VK → Prop) → Hp → VK → Prop := fun tl H Q =>
  tl (fun cls d H' => d = none ∧ cls = .ref C ∧ ∀ H'' t, Same H' H'' → H'' t = some (.tup [.str "refused", .str "box"]) → Q (.ref t) H'') H
    (fun v H' => ∀ H'' t, Same H' H'' → H'' t = some (.tup [.str "told", v]) → Q (.ref t) H'')
theorem mk_law_word {X : Cx} (T : Txt X.K X.mg f fd) (cdg : Value) : Makes X N_law_word "_law_word" (defScope st_law_word) (f 39) cdg (defBody st_law_word) "_law_asked" (X.env.qual ++ "<lambda>") (TWord (f 3)) := by
  intro fn cc s H Q tl act hco hT
  refine ⟨_, (pss_cons (ps_set (i := 1) sc_law_word.nd rfl (Or.inl rfl) pe_non)
      (pss_cons (ps_set (i := 2) sc_law_word.nd rfl (Or.inl rfl) pe_non)
      (Evl.pss_cut (ps_try_keep (i := 3) rfl rfl rfl sc_law_word.nd rfl rfl ⟨rfl, by decide, .inl T.g1⟩ (fun W pn xe tk po => (pss_one (ps_set (i := 2) sc_law_word.nd rfl (Or.inl rfl) (act W pn xe _ _ tk)))) (fun a oe cls pn hz hfl => (pss_one (ps_set (i := 1) sc_law_word.nd rfl (Or.inl rfl) (pv 3)))))
      (Evl.pss_cut (ps_if (pt_cmpR op_isN (pv 1) pe_non (nomark _)) (pss_one (ps_ret (pe_tup (pa_cons pe_str (pa_cons (pv 2) pa_nil))))) pss_nil)
      (pss_cons (ps_set (i := 4) sc_law_word.nd rfl (Or.inl rfl) (pe_lst pa_nil))
      (Evl.pss_cut (ps_if (pt_val (pe_callB (r := rIsK X.K) call_isK (by rfl) T.m_isinstance bt_isinstance (pa_cons (pv 1) (pa_cons (pe_glob (v := .ref (f 3)) (by rfl) T.g3 rfl) pa_nil)))) (pss_one (ps_expr (pe_bm PySem.F.plainAttrs_list PySem.F.slot_list_append PySem.F.type_list_append mt_append (pv 4) (pa_cons pe_str pa_nil)))) pss_nil)
      (Evl.pss_cut (ps_if (pt_val (pe_callB (r := rIsK X.K) call_isK (by rfl) T.m_isinstance bt_isinstance (pa_cons (pv 1) (pa_cons (pe_glob (v := .ref (f 4)) (by rfl) T.g4 rfl) pa_nil)))) (pss_one (ps_expr (pe_bm PySem.F.plainAttrs_list PySem.F.slot_list_append PySem.F.type_list_append mt_append (pv 4) (pa_cons pe_str pa_nil)))) pss_nil)
      (Evl.pss_cut (ps_if (pt_val (pe_callB (r := rIsK X.K) call_isK (by rfl) T.m_isinstance bt_isinstance (pa_cons (pv 1) (pa_cons (pe_glob (v := .ref (f 5)) (by rfl) T.g5 rfl) pa_nil)))) (pss_one (ps_expr (pe_bm PySem.F.plainAttrs_list PySem.F.slot_list_append PySem.F.type_list_append mt_append (pv 4) (pa_cons pe_str pa_nil)))) pss_nil)
      (Evl.pss_cut (ps_if (pt_val (pe_callB (r := rIsK X.K) call_isK (by rfl) T.m_isinstance bt_isinstance (pa_cons (pv 1) (pa_cons (pe_glob (v := .ref (f 2)) (by rfl) T.g2 rfl) pa_nil)))) (pss_one (ps_expr (pe_bm PySem.F.plainAttrs_list PySem.F.slot_list_append PySem.F.type_list_append mt_append (pv 4) (pa_cons pe_str pa_nil)))) pss_nil)
      (Evl.pss_cut (ps_if (pt_val (pe_callB (r := rIsKT X.K) call_isKT (by rfl) T.m_isinstance bt_isinstance (pa_cons (pv 1) (pa_cons (pe_tup (pa_cons (pe_glob (v := .ref (f 15)) (by rfl) T.g15 rfl) (pa_cons (pe_glob (v := .ref (f 7)) (by rfl) T.g7 rfl) (pa_cons (pe_glob (v := .ref (f 8)) (by rfl) T.g8 rfl) (pa_cons (pe_glob (v := .ref (f 10)) (by rfl) T.g10 rfl) (pa_cons (pe_glob (v := .ref (f 13)) (by rfl) T.g13 rfl) (pa_cons (pe_glob (v := .ref (f 6)) (by rfl) T.g6 rfl) (pa_cons (pe_glob (v := .ref (f 9)) (by rfl) T.g9 rfl) (pa_cons (pe_glob (v := .ref (f 12)) (by rfl) T.g12 rfl) pa_nil))))))))) pa_nil)))) (pss_one (ps_expr (pe_bm PySem.F.plainAttrs_list PySem.F.slot_list_append PySem.F.type_list_append mt_append (pv 4) (pa_cons pe_str pa_nil)))) pss_nil)
      (Evl.pss_cut (ps_if (PW.pt (pw_or (pt_val (pe_callB (r := rIsKT X.K) call_isKT (by rfl) T.m_isinstance bt_isinstance (pa_cons (pv 1) (pa_cons (pe_tup (pa_cons (pe_glob (v := .ref (f 16)) (by rfl) T.g16 rfl) (pa_cons (pe_glob (v := .ref (f 11)) (by rfl) T.g11 rfl) (pa_cons (pe_glob (v := .ref (f 14)) (by rfl) T.g14 rfl) (pa_cons (pe_glob (v := .ref (f 17)) (by rfl) T.g17 rfl) pa_nil))))) pa_nil)))) (pw_or1 (pt_not (pt_val (pe_callB (r := rIsK X.K) call_isK (by rfl) T.m_isinstance bt_isinstance (pa_cons (pv 1) (pa_cons (pe_bltn (v := .ty "ValueError") (by rfl) T.m_ValueError bt_ValueError rfl) pa_nil)))))))) (pss_one (ps_expr (pe_bm PySem.F.plainAttrs_list PySem.F.slot_list_append PySem.F.type_list_append mt_append (pv 4) (pa_cons pe_str pa_nil)))) pss_nil)
      (pss_one (ps_ret (pe_tup (pa_cons pe_str (pa_cons (pe_join pe_str (pv 4)) pa_nil)))))))))))))))), ?_⟩
  refine ⟨fun σ H1 => (∃ v, σ = [some (.ref fn), some .non, some v, none, none] ∧ ∀ H'' t, Same H1 H'' → H'' t = some (.tup [.str "told", v]) → Q (.ref t) H'') ∨ (∃ x, σ = [some (.ref fn), some (.ref x), some .non, none, none] ∧ H1 x = some (ExK (.ref (f 3)) x) ∧ ∀ H'' t, Same H1 H'' → H'' t = some (.tup [.str "refused", .str "box"]) → Q (.ref t) H''), ?_, ?_⟩
  · refine ⟨rfl, hco, _, _, ?_, ?_, hT⟩
    · rintro cls d G' ⟨rfl, rfl, q⟩
      exact ⟨rfl, T.m3, fun x nx => ⟨.ref x, rfl, .inr ⟨x, rfl, upd_same, fun H'' t s ht => q H'' t ((same_new nx).trans s) ht⟩⟩⟩
    · intro v G' q
      exact .inl ⟨v, rfl, q⟩
  rintro _ H1 (⟨v, rfl, q⟩ | ⟨x, rfl, hx, q⟩)
  · refine ⟨fun _ _ => False, ?_, fun _ _ z => z.elim⟩
    refine ⟨_, rfl, rfl, _, rfl, ?_⟩
    rw [decide_eq_true rfl]
    exact iteT ⟨_, rfl, small_line (by show 2 ≤ 100000; omega), fun t nt => q _ t (same_new nt) upd_same⟩
  · refine ⟨fun σ H2 => σ = [some (.ref fn), some (.ref x), some .non, none, none] ∧ H1 = H2, ?_, ?_⟩
    · refine ⟨_, rfl, rfl, _, rfl, ?_⟩
      rw [decide_eq_false (fun z => nomatch z)]
      exact iteF ⟨rfl, rfl⟩
    rintro _ _ ⟨rfl, rfl⟩
    refine ⟨Nat.zero_le _, fun L nL => ?_⟩
    -- box
    refine ⟨fun σ H2 => σ = [some (.ref fn), some (.ref x), some .non, none, some (.ref L)] ∧ Same H1 H2 ∧ H2 L = some (.lst [V.str "box"]), ?_, ?_⟩
    · refine ⟨.ref x, rfl, x, f 3, .ref (f 3), .ref (f 3), true, rfl, same_new nL _ _ hx, T.e3, .own _, T.q3_3, _, rfl, ?_⟩
      refine iteT ⟨.ref L, rfl, .inl ⟨rfl, _, .inl (.inl upd_same)⟩, L, _, _, rfl, rfl, upd_same, small_lt (by show 0 ≤ 100000; omega), rfl, fun b o e => ?_, upd_same⟩
      rw [upd_ne (ne_of_none e nL)]
      exact same_new nL _ _ e
    rintro _ H2 ⟨rfl, s2, hL⟩
    refine ⟨fun σ H3 => σ = [some (.ref fn), some (.ref x), some .non, none, some (.ref L)] ∧ H2 = H3, ?_, ?_⟩
    · exact ⟨.ref x, rfl, x, f 3, .ref (f 4), .ref (f 4), false, rfl, s2 _ _ hx, T.e3, .own _, T.q3_4, _, rfl, iteF ⟨rfl, rfl⟩⟩
    rintro _ _ ⟨rfl, rfl⟩
    refine ⟨fun σ H4 => σ = [some (.ref fn), some (.ref x), some .non, none, some (.ref L)] ∧ H2 = H4, ?_, ?_⟩
    · exact ⟨.ref x, rfl, x, f 3, .ref (f 5), .ref (f 5), false, rfl, s2 _ _ hx, T.e3, .own _, T.q3_5, _, rfl, iteF ⟨rfl, rfl⟩⟩
    rintro _ _ ⟨rfl, rfl⟩
    refine ⟨fun σ H5 => σ = [some (.ref fn), some (.ref x), some .non, none, some (.ref L)] ∧ H2 = H5, ?_, ?_⟩
    · exact ⟨.ref x, rfl, x, f 3, .ref (f 2), .ref (f 2), false, rfl, s2 _ _ hx, T.e3, .own _, T.q3_2, _, rfl, iteF ⟨rfl, rfl⟩⟩
    rintro _ _ ⟨rfl, rfl⟩
    refine ⟨fun σ H3 => σ = [some (.ref fn), some (.ref x), some .non, none, some (.ref L)] ∧ Same H2 H3, ?_, ?_⟩
    · refine ⟨.ref x, rfl, small_line (by show 8 ≤ 100000; omega), fun tp ntp => ?_⟩
      have s3 := same_new (o := .tup [V.ref (f 15), V.ref (f 7), V.ref (f 8), V.ref (f 10), V.ref (f 13), V.ref (f 6), V.ref (f 9), V.ref (f 12)]) ntp
      refine ⟨x, f 3, tp, _, _, false, rfl, s3 _ _ (s2 _ _ hx), T.e3, upd_same, (.cons (.own _) (.cons (.own _) (.cons (.own _) (.cons (.own _) (.cons (.own _) (.cons (.own _) (.cons (.own _) (.cons (.own _) .nil)))))))), ?_, _, rfl, iteF ⟨rfl, s3⟩⟩
      simp only [PySem.W.kitAny, T.q3_15, T.q3_7, T.q3_8, T.q3_10, T.q3_13, T.q3_6, T.q3_9, T.q3_12]
    rintro _ H3 ⟨rfl, s3⟩
    refine ⟨fun σ H4 => σ = [some (.ref fn), some (.ref x), some .non, none, some (.ref L)] ∧ Same H3 H4, ?_, ?_⟩
    · refine ⟨.ref x, rfl, small_line (by show 4 ≤ 100000; omega), fun tp ntp => ?_⟩
      have s4 := same_new (o := .tup [V.ref (f 16), V.ref (f 11), V.ref (f 14), V.ref (f 17)]) ntp
      refine ⟨x, f 3, tp, _, _, false, rfl, s4 _ _ (s3 _ _ (s2 _ _ hx)), T.e3, upd_same, (.cons (.own _) (.cons (.own _) (.cons (.own _) (.cons (.own _) .nil)))), ?_, _, rfl, iteF ?_⟩
      · simp only [PySem.W.kitAny, T.q3_16, T.q3_11, T.q3_14, T.q3_17]
      · exact ⟨.ref x, rfl, x, f 3, .ty "ValueError", .type "ValueError", true, rfl, s4 _ _ (s3 _ _ (s2 _ _ hx)), T.e3, .ty _, T.v3, _, rfl, iteF ⟨rfl, s4⟩⟩
    rintro _ H4 ⟨rfl, s4⟩
    have s24 := s3.trans s4
    refine ⟨⟨_, rfl⟩, .ref L, rfl, "", L, ["box"], rfl, rfl, .inl (SqL.of (s24 _ _ hL)), by decide, small_line (by show 2 ≤ 100000; omega), fun t nt => ?_⟩
    exact q _ t ((s2.trans s24).trans (same_new nt)) upd_same
/-! ### _law_whole, _law_is -/
theorem ok_law_whole (T : Txt K mg f fd) : FnOk P w K mg base CX0 1 (f 38) (fd 38) ["_law_thing"] (sp_is_whole K) := by
  refine T.F38.ok sc_law_whole (fun vs H Q E h => ?_) (fun cdv A outer s H vs Q E hr h => ?_)
  · obtain ⟨v, rfl, _⟩ := h
    rfl
  · obtain ⟨v, rfl, h⟩ := h
    refine ⟨_, (pss_one (ps_ret (pe_and (pe_callB call_isi (by rfl) T.m_isinstance bt_isinstance (pa_cons (pv 0) (pa_cons (pe_bltn (v := .ty "int") (by rfl) T.m_int bt_int rfl) pa_nil))) (pe_one (pe_not (pe_callB call_isi (by rfl) T.m_isinstance bt_isinstance (pa_cons (pv 0) (pa_cons (pe_bltn (v := .ty "bool") (by rfl) T.m_bool bt_bool rfl) pa_nil)))))))), ?_⟩
    rcases h with ⟨i, rfl, q⟩ | ⟨⟨t, b, ty, k1, k2⟩, q⟩
    · refine ⟨_, rfl, _, .ty "int", .type "int", .type "int", true, rfl, .ty _, .base (.int _), kit_ty (by decide +kernel), _, rfl, ?_⟩
      rw [if_pos rfl]
      exact ⟨_, rfl, _, .ty "bool", .type "int", .type "bool", false, rfl, .ty _, .base (.int _), kit_ty (by decide +kernel), _, rfl, q⟩
    · refine ⟨_, rfl, _, .ty "int", t, .type "int", b, rfl, .ty _, ty, k1, _, rfl, ?_⟩
      cases b with
      | false =>
        rw [if_neg Bool.false_ne_true]
        exact q
      | true =>
        rw [if_pos rfl]
        exact ⟨_, rfl, _, .ty "bool", t, .type "bool", true, rfl, .ty _, ty, k2 rfl, _, rfl, q⟩
theorem ok_law_is (T : Txt K mg f fd) : FnOk P w K mg base CX0 2 (f 41) (fd 41) ["_law_thing"] sp_is_box := by
  refine T.F41.ok sc_law_is (fun vs H Q E h => ?_) (fun cdv A outer s H vs Q E hr h => ?_)
  · obtain ⟨v, rfl, _⟩ := h
    rfl
  · obtain ⟨v, rfl, h⟩ := h
    refine ⟨_, (pss_cons (ps_if (PW.pt (pw_or (pt_not (pt_val (pe_callB call_isi (by rfl) T.m_isinstance bt_isinstance (pa_cons (pv 0) (pa_cons (pe_bltn (v := .ty "tuple") (by rfl) T.m_tuple bt_tuple rfl) pa_nil))))) (pw_or1 (pt_cmpR op_ne (pe_callB (r := rLenS K) len_seq (by rfl) T.m_len bt_len (pa_cons (pv 0) pa_nil)) pe_int (nomark _))))) (pss_one (ps_ret pe_bl)) pss_nil)
      (pss_one (ps_ret (pe_cmpR op_notIn_seq pe_bl (pe_lc (own := [("_law_side", 1)]) (g := (gName 1)) (tt := tYes) rfl sc_law_is.nd (pi_tup (pv 0)) (blkOk_by (N := N_law_is) (sc := defScope st_law_is) (by decide +kernel)) (fun _ _ _ _ _ => (pg_name (i := 1) sc_law_is.nd rfl (Or.inl rfl))) (fun _ _ _ _ _ => pts_nil) (fun _ _ _ _ _ => (pe_and (pe_call (ok_law_whole T) (hr.mono (by decide)) (by rfl) T.g38 T.F38.kp T.b38 .nil pass0 (pa_cons (pv 1) pa_nil)) (pe_one (pe_chain op_lt op_lt (pe_un un_neg pe_int) (pv 1) pe_int))))) rfl)))), ?_⟩
    have h' : (NonT H v ∧ ∀ H', Same H H' → Q (.bl false) H') ∨ (∃ a xs, v = .ref a ∧ H a = some (.tup xs) ∧ xs.length ≠ 2 ∧ ∀ H', Same H H' → Q (.bl false) H') ∨
        ∃ a x y, v = .ref a ∧ H a = some (.tup [x, y]) ∧ Sd H x ∧ Sd H y ∧ ∀ H', Same H H' → Q (.bl (inS x && inS y)) H' := by
      rcases h with ⟨h, w, ⟨a, rfl, ha, h0, h1, w0, w1⟩, q⟩ | ⟨h | ⟨a, xs, rfl, ha, hl⟩ | ⟨a, x, y, rfl, ha, hx, hy, hb⟩, q⟩
      · refine .inr (.inr ⟨a, _, _, rfl, ha, .inl ⟨_, rfl⟩, .inl ⟨_, rfl⟩, fun H' s' => ?_⟩)
        have : (inS (.int h) && inS (.int w)) = true := by
          show ((decide (0 ≤ h) && decide (h ≤ 20)) && (decide (0 ≤ w) && decide (w ≤ 20))) = true
          rw [decide_eq_true h0, decide_eq_true h1, decide_eq_true w0, decide_eq_true w1]
          rfl
        rw [this]
        exact q _ s'
      · exact .inl ⟨h, q⟩
      · exact .inr (.inl ⟨a, xs, rfl, ha, hl, q⟩)
      · exact .inr (.inr ⟨a, x, y, rfl, ha, hx, hy, fun H' s' => by rw [hb]; exact q _ s'⟩)
    clear h
    rcases h' with ⟨h, q⟩ | ⟨a, xs, rfl, ha, hl, q⟩ | ⟨a, x, y, rfl, ha, hx, hy, q⟩
    · obtain ⟨t, ty, k⟩ := h.ty (K := K)
      exact ⟨_, rfl, _, .ty "tuple", t, .type "tuple", false, rfl, .ty _, ty, k, _, rfl, iteT (q _ (Same.refl _))⟩
    · refine ⟨_, rfl, _, .ty "tuple", .type "tuple", .type "tuple", true, rfl, .ty _, .base (.tup ha), kit_ty (by decide +kernel), _, rfl, iteF ⟨.ref a, rfl, a, _, rfl, .inr (SqT.of ha), rfl, _, rfl, ?_⟩⟩
      rw [decide_eq_false (fun z => hl (by have := V.int.inj z; omega))]
      exact iteT (q _ (Same.refl _))
    refine ⟨_, rfl, _, .ty "tuple", .type "tuple", .type "tuple", true, rfl, .ty _, .base (.tup ha), kit_ty (by decide +kernel), _, rfl, iteF ⟨.ref a, rfl, a, _, rfl, .inr (SqT.of ha), rfl, _, rfl, ?_⟩⟩
    rw [decide_eq_true (show V.int ((([x, y] : List V).length : Nat) : Int) = V.int 2 from rfl)]
    refine iteF ⟨.ref a, rfl, a, rfl, ⟨_, SqT.of ha⟩, fun D nD => ?_⟩
    have el : ∀ {G : Hp} {R : VK} {τ : L2.St} {z : V}, τ[1]? = some (some z) → Sd G z → R (.bl (inS z)) G →
        tAndV (tCall (sp_is_whole K) [] E0 (tCons (tVar 1) tNil)) (tChain (rI0 fun i j => V.bl (decide (i < j))) (rI0 fun i j => V.bl (decide (i < j))) (tUn (rU fun i => V.int (-i)) (tC (V.int 1))) (tVar 1) (tC (V.int 21))) τ G R := by
      intro G R τ z e hz r
      rcases hz with ⟨i, rfl⟩ | o
      · refine ⟨_, e, _, rfl, .inl ⟨i, rfl, _, rfl, ?_⟩⟩
        rw [if_pos rfl]
        refine ⟨_, rfl, _, e, _, _, rfl, rfl, _, rfl, ?_⟩
        have r' : R (.bl (decide (0 ≤ i) && decide (i ≤ 20))) G := r
        by_cases c : -1 < i
        · rw [decide_eq_true (show 0 ≤ i by omega), Bool.true_and] at r'
          rw [decide_eq_true c, if_pos rfl]
          refine ⟨_, _, rfl, rfl, ?_⟩
          have : decide (i < 21) = decide (i ≤ 20) := by
            by_cases c2 : i ≤ 20
            · rw [decide_eq_true c2, decide_eq_true (show i < 21 by omega)]
            · rw [decide_eq_false c2, decide_eq_false (show ¬ i < 21 by omega)]
          show R (.bl (decide (i < 21))) G
          rw [this]
          exact r'
        · rw [decide_eq_false (show ¬ 0 ≤ i by omega), Bool.false_and] at r'
          rw [decide_eq_false c, if_neg Bool.false_ne_true]
          exact r'
      · rw [o.inS] at r
        refine ⟨_, e, _, rfl, .inr ⟨o.nw, _, rfl, ?_⟩⟩
        rw [if_neg Bool.false_ne_true]
        exact r
    refine lc_it (walk_tup (xs := [x, y])) (Grow H D (fun i => ([inS x, inS y].take i).map V.bl)) (Grow.start nD rfl) (fun i H' _ g => SqT.of (g.1 _ _ ha)) ?_ ?_
    · rintro i v _ H1 hi g ⟨rfl, hv⟩
      refine ⟨rfl, ?_⟩
      simp only [tYes, reduceIte]
      match i, hi, hv, g with
      | 0, _, hv, g =>
        cases hv
        exact el rfl (hx.same g.1) ⟨_, g.2, small_lt (by show 0 ≤ 100000; omega), g.put nD (Same.refl _) rfl⟩
      | 1, _, hv, g =>
        cases hv
        exact el rfl (hy.same g.1) ⟨_, g.2, small_lt (by show 1 ≤ 100000; omega), g.put nD (Same.refl _) rfl⟩
    · intro H1 g
      refine ⟨D, [V.bl (inS x), V.bl (inS y)], rfl, .inl (SqL.of g.2), rfl, rfl, ?_⟩
      have e : (!inV (V.bl false) [V.bl (inS x), V.bl (inS y)]) = (inS x && inS y) := by
        cases inS x <;> cases inS y <;> rfl
      show Q (.bl (!inV (V.bl false) [V.bl (inS x), V.bl (inS y)])) H1
      rw [e]
      exact q _ g.1
/-! ### _law_bent -/
def At (p : Addr) (H : Hp) (c : Addr) (o : HO) : Prop := H c = some o ∧ c ≠ p
theorem At.kp {p c : Addr} {H H' : Hp} {o : HO} (h : At p H c o) (k : Kp p H H') : At p H' c o := ⟨k c _ h.2 h.1, h.2⟩
theorem At.same {p c : Addr} {H H' : Hp} {o : HO} (h : At p H c o) (s : Same H H') : At p H' c o := ⟨s _ _ h.1, h.2⟩
theorem At.new {p c : Addr} {H : Hp} {o : HO} (hP : PenA H p) (n : H c = none) : At p (upd H c o) c o := ⟨upd_same, fun e => hP.new n e.symm⟩
/-- what may stand at a side -/
def OdP (K : PySem.W.Frag) (p : Addr) (H : Hp) (v : V) : Prop := ∀ H', Kp p H H' → Sd H' v ∧ (ElP K H' v ∨ ElD K H' v)
theorem OdP.kp {p : Addr} {H H' : Hp} {v : V} (h : OdP K p H v) (k : Kp p H H') : OdP K p H' v := fun H2 k2 => h H2 (k.trans k2)
theorem odInt {p : Addr} {H : Hp} {i : Int} (h : i.natAbs.log2 < 1920) : OdP K p H (.int i) := fun _ _ => ⟨.inl ⟨i, rfl⟩, .inl (elP_int h)⟩
/-- a thing that is handed in as a box -/
def Itm (K : PySem.W.Frag) (H : Hp) (v : V) : Prop := (∃ d, Shw K H v d) ∧ ((∃ h w, Bx H v h w) ∨ NoBx H v)
def ItP (K : PySem.W.Frag) (p : Addr) (H : Hp) (v : V) : Prop := ∀ H', Kp p H H' → Itm K H' v
theorem ItP.kp {p : Addr} {H H' : Hp} {v : V} (h : ItP K p H v) (k : Kp p H H') : ItP K p H' v := fun H2 k2 => h H2 (k.trans k2)
theorem ItP.same {p : Addr} {H H' : Hp} {v : V} (h : ItP K p H v) (s : Same H H') : ItP K p H' v := h.kp (Kp.of s)
theorem two {q : V → Prop} {x y : V} (hx : q x) (hy : q y) : ∀ z ∈ [x, y], q z := by
  intro z m
  simp only [List.mem_cons, List.not_mem_nil, or_false] at m
  rcases m with rfl | rfl
  · exact hx
  · exact hy
theorem one1 {q : V → Prop} {x : V} (hx : q x) : ∀ z ∈ [x], q z := by
  intro z m
  rw [List.mem_singleton.mp m]
  exact hx
theorem bx_of {H : Hp} {a : Addr} {x y : V} (h : H a = some (.tup [x, y])) (hx : Sd H x) (hy : Sd H y) : (∃ h w, Bx H (.ref a) h w) ∨ NoBx H (.ref a) := by
  cases e : (inS x && inS y) with
  | false => exact .inr (.inr (.inr ⟨a, x, y, rfl, h, hx, hy, e⟩))
  | true =>
    obtain ⟨e1, e2⟩ := Bool.and_eq_true_iff.mp e
    rcases hx with ⟨i, rfl⟩ | o
    · rcases hy with ⟨j, rfl⟩ | o
      · have e3 : (decide (0 ≤ i) && decide (i ≤ 20)) = true := e1
        have e4 : (decide (0 ≤ j) && decide (j ≤ 20)) = true := e2
        simp only [Bool.and_eq_true, decide_eq_true_eq] at e3 e4
        exact .inl ⟨i, j, a, rfl, h, e3.1, e3.2, e4.1, e4.2⟩
      · rw [o.inS] at e2
        cases e2
    · rw [o.inS] at e1
      cases e1
theorem it_od {p a : Addr} {H : Hp} {x y : V} (h : At p H a (.tup [x, y])) (hx : OdP K p H x) (hy : OdP K p H y) (hi : (∃ i : Int, x = .int i ∧ i.natAbs.log2 < 1920) ∨ (∃ i : Int, y = .int i ∧ i.natAbs.log2 < 1920)) : ItP K p H (.ref a) := by
  intro H' k
  have ha := (h.kp k).1
  obtain ⟨sx, ex⟩ := hx H' k
  obtain ⟨sy, ey⟩ := hy H' k
  refine ⟨?_, bx_of ha sx sy⟩
  rcases hi with ⟨i, rfl, hi⟩ | ⟨i, rfl, hi⟩
  · rcases ey with e | e
    · exact shw_tup ha (by show 2 ≤ 5; omega) (two (elP_int hi) e)
    · exact shw_tupD ha (by show 2 ≤ 5; omega) (two (elD_int hi) e)
  · rcases ex with e | e
    · exact shw_tup ha (by show 2 ≤ 5; omega) (two e (elP_int hi))
    · exact shw_tupD ha (by show 2 ≤ 5; omega) (two e (elD_int hi))
def sp_law_bent (K : PySem.W.Frag) : Sp := fun vs H Q _ => ∃ (p b : Addr) (h w : Int), vs = [.ref p, .ref b] ∧ PenA H p ∧ At p H b (.tup [.int h, .int w]) ∧ 0 ≤ h ∧ h ≤ 20 ∧ 0 ≤ w ∧ w ≤ 20 ∧
  ∀ H' v, Kp p H H' → PenA H' p → Itm K H' v → Q v H'
theorem ok_law_bent (T : Txt K mg f fd) : FnOk P w K mg base CX0 2 (f 40) (fd 40) ["_law_pen_here", "_law_box"] (sp_law_bent K) := by
  refine T.F40.ok sc_law_bent (fun vs H Q E h => ?_) (fun cdv A outer s H vs Q E hr h => ?_)
  · obtain ⟨p, b, h, w, rfl, _⟩ := h
    rfl
  · obtain ⟨p, b, h, w, rfl, hP, hb, h0, h1, w0, w1, q⟩ := h
    have e29 : (10 : Int) ^ (29 : Int).toNat = 100000000000000000000000000000 := by decide
    refine ⟨_, (Evl.pss_cut (ps_set (i := 2) sc_law_bent.nd rfl (Or.inl rfl) (pe_call (ok_law_draw T) (hr.mono (by decide)) (by rfl) T.g35 T.F35.kp T.b35 .nil pass0 (pa_cons (pv 0) (pa_cons pe_int pa_nil))))
      (Evl.pss_cut (ps_set (i := 3) sc_law_bent.nd rfl (Or.inl rfl) (pe_ix (r := rIxL K) ix_list (pe_lst (pa_cons (pe_un un_neg pe_int) (pa_cons pe_int (pa_cons (pe_un un_neg pe_int) (pa_cons (pe_op op_pow pe_int pe_int) (pa_cons pe_bl (pa_cons pe_bl (pa_cons pe_non (pa_cons pe_str (pa_cons pe_str (pa_cons (pe_lst (pa_cons pe_int pa_nil)) (pa_cons (pe_tup (pa_cons pe_int pa_nil)) (pa_cons pe_dnewK (pa_cons pe_int (pa_cons pe_int pa_nil))))))))))))))) (pe_call (ok_law_draw T) (hr.mono (by decide)) (by rfl) T.g35 T.F35.kp T.b35 .nil pass0 (pa_cons (pv 0) (pa_cons pe_int pa_nil))) (fun _ _ => rfl)))
      (Evl.pss_cut (ps_set (i := 4) sc_law_bent.nd rfl (Or.inl rfl) (pe_lst (pa_cons (pe_op (r := rCatA K) op_catA (pe_op (r := rCatA K) op_catA (pe_slice (r := rSlA K) sl_tupA (pv 1) po_none (po_some (pv 2))) (pe_tup (pa_cons (pv 3) pa_nil))) (pe_slice (r := rSlA K) sl_tupA (pv 1) (po_some (pe_op op_add (pv 2) pe_int)) po_none)) (pa_cons (pe_slice (r := rSlA K) sl_tupA (pv 1) po_none (po_some pe_int)) (pa_cons (pe_op (r := rCatA K) op_catA (pv 1) (pe_tup (pa_cons pe_int pa_nil))) (pa_cons (pe_callTy (r := rLstO K) lst_of (by rfl) T.m_list bt_list (pa_cons (pv 1) pa_nil)) (pa_cons (pe_tup (pa_cons (pv 1) pa_nil)) (pa_cons pe_non (pa_cons pe_int (pa_cons pe_bl (pa_cons pe_str (pa_cons pe_dnewK pa_nil))))))))))))
      (Evl.pss_cut (ps_set (i := 4) sc_law_bent.nd rfl (Or.inl rfl) (pe_op op_cat (pv 4) (pe_lst (pa_cons (pe_callTy (call_dictP rfl) (by rfl) T.m_dict bt_dict (pa_cons (pe_lst (pa_cons (pv 1) pa_nil)) pa_nil)) (pa_cons (pe_tup pa_nil) (pa_cons (pe_lst pa_nil) (pa_cons (pe_tup (pa_cons pe_bl (pa_cons pe_bl pa_nil))) (pa_cons (pe_lst (pa_cons (pv 1) (pa_cons (pv 1) pa_nil))) pa_nil))))))))
      (pss_one (ps_ret (pe_ix (r := rIxL K) ix_list (pv 4) (pe_op op_mul (pe_op op_mod (pe_call (ok_law_draw T) (hr.mono (by decide)) (by rfl) T.g35 T.F35.kp T.b35 .nil pass0 (pa_cons (pv 0) (pa_cons pe_int pa_nil))) pe_int) (pe_callTy call_int1 (by rfl) T.m_int bt_int (pa_cons (pe_cmpR op_eq (pe_call (ok_law_draw T) (hr.mono (by decide)) (by rfl) T.g35 T.F35.kp T.b35 .nil pass0 (pa_cons (pv 0) (pa_cons pe_int pa_nil))) pe_int (nomark _)) pa_nil))) (fun _ _ => rfl)))))))), ?_⟩
    -- at
    refine ⟨fun σ H1 => ∃ a : Int, σ = [some (.ref p), some (.ref b), some (.int a), none, none] ∧ (a = 0 ∨ a = 1) ∧ Kp p H H1 ∧ PenA H1 p ∧ At p H1 b (.tup [.int h, .int w]), ?_, ?_⟩
    · exact ⟨.ref p, rfl, p, 2, rfl, hP, by decide, by decide, fun H1 d k1 P1 d0 d1 => ⟨d, rfl, by omega, k1, P1, hb.kp k1⟩⟩
    rintro _ H1 ⟨a, rfl, ha, k1, P1, hb1⟩
    -- odd
    refine ⟨fun σ H2 => ∃ v : V, σ = [some (.ref p), some (.ref b), some (.int a), some v, none] ∧ Kp p H H2 ∧ PenA H2 p ∧ At p H2 b (.tup [.int h, .int w]) ∧ OdP K p H2 v, ?_, ?_⟩
    · refine ⟨_, rfl, _, rfl, _, _, rfl, rfl, ⟨by decide, by decide, by decide⟩, small_line (by show 1 ≤ 100000; omega), fun c1 n1 => ?_⟩
      have t1 := same_new (o := .lst [V.int 4]) n1
      have a1 := At.new (o := .lst [V.int 4]) P1 n1
      have Q1 := P1.same t1
      have b1 := hb1.same t1
      generalize upd H1 c1 (.lst [V.int 4]) = G1 at t1 a1 Q1 b1 ⊢
      refine ⟨small_line (by show 1 ≤ 100000; omega), fun c2 n2 => ?_⟩
      have t2 := same_new (o := .tup [V.int 4]) n2
      have a2 := At.new (o := .tup [V.int 4]) Q1 n2
      have Q2 := Q1.same t2
      have b2 := b1.same t2
      have a1 := a1.same t2
      generalize upd G1 c2 (.tup [V.int 4]) = G2 at t2 a1 a2 Q2 b2 ⊢
      refine fun c3 n3 => ?_
      have t3 := same_new (o := .dK []) n3
      have a3 := At.new (o := .dK []) Q2 n3
      have Q3 := Q2.same t3
      have b3 := b2.same t3
      have a1 := a1.same t3
      have a2 := a2.same t3
      generalize upd G2 c3 (.dK []) = G3 at t3 a1 a2 a3 Q3 b3 ⊢
      refine ⟨small_line (by show 14 ≤ 100000; omega), fun Z nZ => ?_⟩
      have all : ∀ v ∈ [V.int (-1), V.int 21, V.int (-21), V.int (10 ^ (29 : Int).toNat), V.bl true, V.bl false, V.non, V.str "4", V.str "", V.ref c1, V.ref c2, V.ref c3, V.int 20, V.int 0], OdP K p G3 v := by
        intro v m
        simp only [List.mem_cons, List.not_mem_nil, or_false] at m
        rcases m with rfl | rfl | rfl | rfl | rfl | rfl | rfl | rfl | rfl | rfl | rfl | rfl | rfl | rfl
        · exact odInt (lg (by omega) (by omega))
        · exact odInt (lg (by omega) (by omega))
        · exact odInt (lg (by omega) (by omega))
        · exact odInt (lg (by omega) (by omega))
        · exact fun _ _ => ⟨.inr (.bl _), .inl (elP_bl _)⟩
        · exact fun _ _ => ⟨.inr (.bl _), .inl (elP_bl _)⟩
        · exact fun _ _ => ⟨.inr .non, .inl elP_non⟩
        · exact fun _ _ => ⟨.inr (.str _), .inl (elP_str (by decide +kernel))⟩
        · exact fun _ _ => ⟨.inr (.str _), .inl (elP_str (by decide +kernel))⟩
        · exact fun _ k => ⟨.inr (.lst (a1.kp k).1), .inl (elP_lstI (xs := [4]) (a1.kp k).1 (by show 1 ≤ 3; omega) (by intro x m; simp only [List.mem_cons, List.not_mem_nil, or_false] at m; exact lg (by omega) (by omega)))⟩
        · exact fun _ k => ⟨.inr (.tup (a2.kp k).1), .inl (elP_tupI (xs := [4]) (a2.kp k).1 (by show 1 ≤ 3; omega) (by intro x m; simp only [List.mem_cons, List.not_mem_nil, or_false] at m; exact lg (by omega) (by omega)))⟩
        · exact fun _ k => ⟨.inr (.dK (a3.kp k).1), .inr (elD_emp (a3.kp k).1)⟩
        · exact odInt (lg (by omega) (by omega))
        · exact odInt (lg (by omega) (by omega))
      have hlen : [V.int (-1), V.int 21, V.int (-21), V.int (10 ^ (29 : Int).toNat), V.bl true, V.bl false, V.non, V.str "4", V.str "", V.ref c1, V.ref c2, V.ref c3, V.int 20, V.int 0].length = 14 := rfl
      generalize [V.int (-1), V.int 21, V.int (-21), V.int (10 ^ (29 : Int).toNat), V.bl true, V.bl false, V.non, V.str "4", V.str "", V.ref c1, V.ref c2, V.ref c3, V.int 20, V.int 0] = zs at all hlen ⊢
      have t4 := same_new (o := .lst zs) nZ
      have a4 := At.new (o := .lst zs) Q3 nZ
      refine ⟨.ref p, rfl, p, 14, rfl, Q3.same t4, by decide, by decide, fun H4 d k4 P4 d0 d1 => ?_⟩
      have hd : d.toNat < zs.length := by omega
      refine ⟨Z, _, _, zs[d.toNat], rfl, rfl, SqL.of (a4.kp k4).1, at_get d0 (List.getElem?_eq_getElem hd), zs[d.toNat], rfl, (k1.trans (Kp.of (((t1.trans t2).trans t3).trans t4))).trans k4, P4, (b3.same t4).kp k4, ?_⟩
      exact ((all _ (List.getElem_mem hd)).kp (Kp.of t4)).kp k4
    rintro _ H2 ⟨v, rfl, k2, P2, hb2, hv⟩
    refine ⟨fun σ H3 => ∃ (Z : Addr) (zs : List V), σ = [some (.ref p), some (.ref b), some (.int a), some v, some (.ref Z)] ∧ Kp p H H3 ∧ PenA H3 p ∧ At p H3 b (.tup [.int h, .int w]) ∧ At p H3 Z (.lst zs) ∧ zs.length = 10 ∧ ∀ u ∈ zs, ItP K p H3 u, ?_, ?_⟩
    · refine ⟨.ref b, rfl, _, rfl, _, rfl, ?_⟩
      refine rd_slA (K := K) hb2.1 fun G1 c1 t1 e1 => ?_
      refine ⟨_, rfl, small_line (by show 1 ≤ 100000; omega), fun c2 n2 => ?_⟩
      have t2 := same_new (o := .tup [v]) n2
      have e2 : (upd G1 c2 (.tup [v])) c2 = some (.tup [v]) := upd_same
      generalize upd G1 c2 (.tup [v]) = G2 at t2 e2 ⊢
      have l1 : (cutV [V.int h, V.int w] none (some a)).length ≤ 2 := by
        rcases ha with rfl | rfl
        · show 0 ≤ 2; omega
        · show 1 ≤ 2; omega
      have l2 : (cutV [V.int h, V.int w] (some (a + 1)) none).length ≤ 2 := by
        rcases ha with rfl | rfl
        · show 1 ≤ 2; omega
        · show 0 ≤ 2; omega
      refine rd_catA (K := K) (t2 _ _ e1) e2 (small_line (by show _ + 1 ≤ 100000; omega)) fun G3 c3 t3 e3 => ?_
      have t03 := (t1.trans t2).trans t3
      refine ⟨.ref b, rfl, _, rfl, _, _, rfl, rfl, _, rfl, ?_⟩
      unfold tNoPart
      refine rd_slA (K := K) (t03 _ _ hb2.1) fun G4 c4 t4 e4 => ?_
      refine rd_catA (K := K) (t4 _ _ e3) e4 (small_line (by rw [List.length_append]; show _ + 1 + _ ≤ 100000; omega)) fun G5 c5 t5 e5 => ?_
      have t05 := (t03.trans t4).trans t5
      have P5 := P2.same t05
      have b5 := hb2.same t05
      have v5 := hv.kp (Kp.of t05)
      have i1 : ItP K p G5 (.ref c5) := by
        rcases ha with rfl | rfl
        · exact it_od (x := v) (y := .int w) ⟨e5, P5.apart e5⟩ v5 (odInt (lg (by omega) (by omega))) (.inr ⟨w, rfl, lg (by omega) (by omega)⟩)
        · exact it_od (x := .int h) (y := v) ⟨e5, P5.apart e5⟩ (odInt (lg (by omega) (by omega))) v5 (.inl ⟨h, rfl, lg (by omega) (by omega)⟩)
      clear e1 e2 e3 e4 e5 l1 l2
      refine ⟨.ref b, rfl, 1, rfl, ?_⟩
      refine rd_slA (K := K) b5.1 fun G6 c6 t6 e6 => ?_
      have e6 : G6 c6 = some (.tup [V.int h]) := e6
      have P6 := P5.same t6
      have b6 := b5.same t6
      have i1 := i1.same t6
      have i2 : ItP K p G6 (.ref c6) := fun H' k => ⟨shw_tup (At.kp ⟨e6, P6.apart e6⟩ k).1 (by show 1 ≤ 5; omega) (one1 (elP_int (lg (by omega) (by omega)))), .inr (.inr (.inl ⟨c6, _, rfl, (At.kp ⟨e6, P6.apart e6⟩ k).1, by show 1 ≠ 2; omega⟩))⟩
      refine ⟨.ref b, rfl, small_line (by show 1 ≤ 100000; omega), fun c7 n7 => ?_⟩
      have t7 := same_new (o := .tup [V.int 3]) n7
      refine rd_catA (K := K) (t7 _ _ b6.1) upd_same (small_line (by show 3 ≤ 100000; omega)) fun G8 c8 t8 e8 => ?_
      have e8 : G8 c8 = some (.tup [V.int h, V.int w, V.int 3]) := e8
      have t78 := t7.trans t8
      have P8 := P6.same t78
      have b8 := b6.same t78
      have i1 := i1.same t78
      have i2 := i2.same t78
      have i3 : ItP K p G8 (.ref c8) := fun H' k => ⟨shw_tup (At.kp ⟨e8, P8.apart e8⟩ k).1 (by show 3 ≤ 5; omega) (by
          intro z m
          simp only [List.mem_cons, List.not_mem_nil, or_false] at m
          rcases m with rfl | rfl | rfl
          · exact elP_int (lg (by omega) (by omega))
          · exact elP_int (lg (by omega) (by omega))
          · exact elP_int (lg (by omega) (by omega))), .inr (.inr (.inl ⟨c8, _, rfl, (At.kp ⟨e8, P8.apart e8⟩ k).1, by show 3 ≠ 2; omega⟩))⟩
      refine ⟨.ref b, rfl, b, _, rfl, .inr (SqT.of b8.1), fun c9 n9 => ?_⟩
      have t9 := same_new (o := .lst [V.int h, V.int w]) n9
      have a9 := At.new (o := .lst [V.int h, V.int w]) P8 n9
      have P9 := P8.same t9
      have b9 := b8.same t9
      have i1 := i1.same t9
      have i2 := i2.same t9
      have i3 := i3.same t9
      generalize upd G8 c9 (.lst [V.int h, V.int w]) = G9 at t9 a9 P9 b9 i1 i2 i3 ⊢
      have i4 : ItP K p G9 (.ref c9) := fun H' k => ⟨shw_lst (a9.kp k).1 (by show 2 ≤ 5; omega) (two (elP_int (lg (by omega) (by omega))) (elP_int (lg (by omega) (by omega)))), .inr (.inl (.lst (a9.kp k).1))⟩
      refine ⟨.ref b, rfl, small_line (by show 1 ≤ 100000; omega), fun c10 n10 => ?_⟩
      have t10 := same_new (o := .tup [V.ref b]) n10
      have a10 := At.new (o := .tup [V.ref b]) P9 n10
      have P10 := P9.same t10
      have b10 := b9.same t10
      have i1 := i1.same t10
      have i2 := i2.same t10
      have i3 := i3.same t10
      have i4 := i4.same t10
      generalize upd G9 c10 (.tup [V.ref b]) = G10 at t10 a10 P10 b10 i1 i2 i3 i4 ⊢
      have elB : ∀ {G : Hp}, G b = some (.tup [V.int h, V.int w]) → ElP K G (.ref b) := fun e => elP_tupI (xs := [h, w]) e (by show 2 ≤ 3; omega) (by intro x m; simp only [List.mem_cons, List.not_mem_nil, or_false] at m; exact lg (by omega) (by omega))
      have i5 : ItP K p G10 (.ref c10) := fun H' k => ⟨shw_tup (a10.kp k).1 (by show 1 ≤ 5; omega) (one1 (elB (b10.kp k).1)), .inr (.inr (.inl ⟨c10, _, rfl, (a10.kp k).1, by show 1 ≠ 2; omega⟩))⟩
      refine fun c11 n11 => ?_
      have t11 := same_new (o := .dK []) n11
      have a11 := At.new (o := .dK []) P10 n11
      have P11 := P10.same t11
      have b11 := b10.same t11
      have i1 := i1.same t11
      have i2 := i2.same t11
      have i3 := i3.same t11
      have i4 := i4.same t11
      have i5 := i5.same t11
      generalize upd G10 c11 (.dK []) = G11 at t11 a11 P11 b11 i1 i2 i3 i4 i5 ⊢
      have i10 : ItP K p G11 (.ref c11) := fun H' k => ⟨shw_elD (elD_emp (a11.kp k).1), .inr (.inl (.dK (a11.kp k).1))⟩
      have i6 : ItP K p G11 .non := fun H' k => ⟨shw_el elP_non, .inr (.inl .non)⟩
      have i7 : ItP K p G11 (.int 4) := fun H' k => ⟨shw_el (elP_int (lg (by omega) (by omega))), .inr (.inl (.int _))⟩
      have i8 : ItP K p G11 (.bl true) := fun H' k => ⟨shw_el (elP_bl _), .inr (.inl (.bl _))⟩
      have i9 : ItP K p G11 (.str "4x4") := fun H' k => ⟨shw_el (elP_str (by decide +kernel)), .inr (.inl (.str _))⟩
      refine ⟨small_line (by show 10 ≤ 100000; omega), fun Z nZ => ?_⟩
      have t12 := same_new (o := .lst [V.ref c5, V.ref c6, V.ref c8, V.ref c9, V.ref c10, V.non, V.int 4, V.bl true, V.str "4x4", V.ref c11]) nZ
      have tall := ((((((t05.trans t6).trans t78).trans t9).trans t10).trans t11).trans t12)
      refine ⟨Z, _, rfl, k2.trans (Kp.of tall), P11.same t12, b11.same t12, At.new P11 nZ, rfl, fun u m => ?_⟩
      refine ItP.same ?_ t12
      simp only [List.mem_cons, List.not_mem_nil, or_false] at m
      rcases m with rfl | rfl | rfl | rfl | rfl | rfl | rfl | rfl | rfl | rfl
      · exact i1
      · exact i2
      · exact i3
      · exact i4
      · exact i5
      · exact i6
      · exact i7
      · exact i8
      · exact i9
      · exact i10
    rintro _ H3 ⟨Z, zs, rfl, k3, P3, hb3, hZ, hzn, hz⟩
    refine ⟨fun σ H4 => ∃ (Z : Addr) (zs : List V), σ = [some (.ref p), some (.ref b), some (.int a), some v, some (.ref Z)] ∧ Kp p H H4 ∧ PenA H4 p ∧ At p H4 Z (.lst zs) ∧ zs.length = 15 ∧ ∀ u ∈ zs, ItP K p H4 u, ?_, ?_⟩
    · refine ⟨.ref Z, rfl, .ref b, rfl, small_line (by show 1 ≤ 100000; omega), fun c1 n1 => ?_⟩
      have t1 := same_new (o := .lst [V.ref b]) n1
      have a1 := At.new (o := .lst [V.ref b]) P3 n1
      have P1 := P3.same t1
      have b1 := hb3.same t1
      generalize upd H3 c1 (.lst [V.ref b]) = G1 at t1 a1 P1 b1 ⊢
      refine ⟨c1, [b], [(.inl h, .int w)], rfl, SqL.of a1.1, .cons (SqT.of b1.1) .nil, fun c2 n2 => ?_⟩
      rw [show mergeK [] [((.inl h : Key), V.int w)] = [((.inl h : Key), V.int w)] from rfl]
      have t2 := same_new (o := .dK [((.inl h : Key), V.int w)]) n2
      have a2 := At.new (o := .dK [((.inl h : Key), V.int w)]) P1 n2
      have P2' := P1.same t2
      have b2 := b1.same t2
      generalize upd G1 c2 (.dK [((.inl h : Key), V.int w)]) = G2 at t2 a2 P2' b2 ⊢
      have i1 : ItP K p G2 (.ref c2) := fun H' k => ⟨shw_elD (elD_one (a2.kp k).1 (lg (by omega) (by omega)) (lg (by omega) (by omega))), .inr (.inl (.dK (a2.kp k).1))⟩
      refine ⟨Nat.zero_le _, fun c3 n3 => ?_⟩
      have t3 := same_new (o := .tup []) n3
      have a3 := At.new (o := .tup []) P2' n3
      have P3' := P2'.same t3
      have b3 := b2.same t3
      have i1 := i1.same t3
      generalize upd G2 c3 (.tup []) = G3 at t3 a3 P3' b3 i1 ⊢
      have i2 : ItP K p G3 (.ref c3) := fun H' k => ⟨shw_tup (a3.kp k).1 (by show 0 ≤ 5; omega) (fun _ z => (nomatch z)), .inr (.inr (.inl ⟨c3, _, rfl, (a3.kp k).1, by show 0 ≠ 2; omega⟩))⟩
      refine ⟨Nat.zero_le _, fun c4 n4 => ?_⟩
      have t4 := same_new (o := .lst []) n4
      have a4 := At.new (o := .lst []) P3' n4
      have P4 := P3'.same t4
      have b4 := b3.same t4
      have i1 := i1.same t4
      have i2 := i2.same t4
      generalize upd G3 c4 (.lst []) = G4 at t4 a4 P4 b4 i1 i2 ⊢
      have i3 : ItP K p G4 (.ref c4) := fun H' k => ⟨shw_lst (a4.kp k).1 (by show 0 ≤ 5; omega) (fun _ z => (nomatch z)), .inr (.inl (.lst (a4.kp k).1))⟩
      refine ⟨small_line (by show 2 ≤ 100000; omega), fun c5 n5 => ?_⟩
      have t5 := same_new (o := .tup [V.bl true, V.bl true]) n5
      have a5 := At.new (o := .tup [V.bl true, V.bl true]) P4 n5
      have P5 := P4.same t5
      have b5 := b4.same t5
      have i1 := i1.same t5
      have i2 := i2.same t5
      have i3 := i3.same t5
      generalize upd G4 c5 (.tup [V.bl true, V.bl true]) = G5 at t5 a5 P5 b5 i1 i2 i3 ⊢
      have i4 : ItP K p G5 (.ref c5) := fun H' k => ⟨shw_tup (a5.kp k).1 (by show 2 ≤ 5; omega) (two (elP_bl _) (elP_bl _)), bx_of (a5.kp k).1 (.inr (.bl _)) (.inr (.bl _))⟩
      refine ⟨.ref b, rfl, .ref b, rfl, small_line (by show 2 ≤ 100000; omega), fun c6 n6 => ?_⟩
      have t6 := same_new (o := .lst [V.ref b, V.ref b]) n6
      have a6 := At.new (o := .lst [V.ref b, V.ref b]) P5 n6
      have P6 := P5.same t6
      have b6 := b5.same t6
      have i1 := i1.same t6
      have i2 := i2.same t6
      have i3 := i3.same t6
      have i4 := i4.same t6
      generalize upd G5 c6 (.lst [V.ref b, V.ref b]) = G6 at t6 a6 P6 b6 i1 i2 i3 i4 ⊢
      have elB : ∀ {G : Hp}, G b = some (.tup [V.int h, V.int w]) → ElP K G (.ref b) := fun e => elP_tupI (xs := [h, w]) e (by show 2 ≤ 3; omega) (by intro x m; simp only [List.mem_cons, List.not_mem_nil, or_false] at m; exact lg (by omega) (by omega))
      have i5 : ItP K p G6 (.ref c6) := fun H' k => ⟨shw_lst (a6.kp k).1 (by show 2 ≤ 5; omega) (two (elB (b6.kp k).1) (elB (b6.kp k).1)), .inr (.inl (.lst (a6.kp k).1))⟩
      refine ⟨small_line (by show 5 ≤ 100000; omega), fun W nW => ?_⟩
      have t7 := same_new (o := .lst [V.ref c2, V.ref c3, V.ref c4, V.ref c5, V.ref c6]) nW
      have t07 := (((((t1.trans t2).trans t3).trans t4).trans t5).trans t6).trans t7
      refine ⟨Z, W, _, _, rfl, rfl, t07 _ _ hZ.1, upd_same, small_line (by rw [hzn]; show 10 + 5 ≤ 100000; omega), fun S nS => ?_⟩
      have t8 := same_new (o := .lst (zs ++ [V.ref c2, V.ref c3, V.ref c4, V.ref c5, V.ref c6])) nS
      have P7 := P6.same t7
      refine ⟨S, _, rfl, k3.trans (Kp.of (t07.trans t8)), P7.same t8, At.new P7 nS, by rw [List.length_append, hzn]; rfl, fun u m => ?_⟩
      rcases List.mem_append.mp m with m | m
      · exact (hz u m).same (t07.trans t8)
      · refine ItP.same ?_ (t7.trans t8)
        simp only [List.mem_cons, List.not_mem_nil, or_false] at m
        rcases m with rfl | rfl | rfl | rfl | rfl
        · exact i1
        · exact i2
        · exact i3
        · exact i4
        · exact i5
    rintro _ H4 ⟨Z, zs, rfl, k4, P4, hZ, hzn, hz⟩
    refine ⟨.ref Z, rfl, .ref p, rfl, p, 25, rfl, P4, by decide, by decide, fun H5 d k5 P5 d0 d1 => ?_⟩
    refine ⟨_, _, rfl, rfl, (show (0 : Int) < 15 by decide), .ref p, rfl, p, 2, rfl, P5, by decide, by decide, fun H6 e k6 P6 e0 e1 => ?_⟩
    have m0 := Int.emod_nonneg d (show (15 : Int) ≠ 0 by decide)
    have m1 := Int.emod_lt_of_pos d (show (0 : Int) < 15 by decide)
    refine ⟨rfl, .inr ⟨_, rfl, d % 15, _, rfl, rfl, .inl ⟨by omega, by omega⟩, ?_⟩⟩
    obtain ⟨n, hn, hn2⟩ : ∃ n : Nat, (d % 15) * (if decide (V.int e = V.int 0) = true then (1 : Int) else 0) = (n : Int) ∧ n < 15 := by
      by_cases c : decide (V.int e = V.int 0) = true
      · rw [if_pos c]
        exact ⟨(d % 15).toNat, by omega, by omega⟩
      · rw [if_neg c]
        exact ⟨0, by omega, by omega⟩
    have hd : n < zs.length := by omega
    refine ⟨Z, _, _, zs[n], rfl, rfl, SqL.of ((hZ.kp k5).kp k6).1, ?_, q _ _ ((k4.trans k5).trans k6) P6 (hz _ (List.getElem_mem hd) _ (k5.trans k6))⟩
    show atI zs ((d % 15) * (if decide (V.int e = V.int 0) = true then (1 : Int) else 0)) = _
    rw [hn]
    exact atI_nat (List.getElem?_eq_getElem hd)
/-! ### _law_right -/
theorem Odd.keep {H H' : Hp} {v : V} (h : Odd H v) (s : KeepN H H') : Odd H' v := by
  cases h with
  | non => exact .non
  | bl b => exact .bl b
  | str x => exact .str x
  | lst e => exact .lst (s _ _ e fun _ z => nomatch z)
  | tup e => exact .tup (s _ _ e fun _ z => nomatch z)
  | dK e => exact .dK (s _ _ e fun _ z => nomatch z)
theorem Sd.keep {H H' : Hp} {v : V} (h : Sd H v) (s : KeepN H H') : Sd H' v := h.imp (fun z => z) fun o => o.keep s
theorem NonT.keep {H H' : Hp} {v : V} (h : NonT H v) (s : KeepN H H') : NonT H' v := by
  cases h with
  | int i => exact .int i
  | non => exact .non
  | bl b => exact .bl b
  | str x => exact .str x
  | lst e => exact .lst (s _ _ e fun _ z => nomatch z)
  | dK e => exact .dK (s _ _ e fun _ z => nomatch z)
theorem NoBx.keep {H H' : Hp} {v : V} (h : NoBx H v) (s : KeepN H H') : NoBx H' v := by
  rcases h with h | ⟨a, xs, e, h1, h2⟩ | ⟨a, x, y, e, h1, h2, h3, h4⟩
  · exact .inl (h.keep s)
  · exact .inr (.inl ⟨a, xs, e, s _ _ h1 (fun _ z => nomatch z), h2⟩)
  · exact .inr (.inr ⟨a, x, y, e, s _ _ h1 (fun _ z => nomatch z), h2.keep s, h3.keep s, h4⟩)
theorem Bx.keep {H H' : Hp} {v : V} {h w : Int} (b : Bx H v h w) (s : KeepN H H') : Bx H' v h w := let ⟨a, e, h1, h2⟩ := b; ⟨a, e, s _ _ h1 (fun _ z => nomatch z), h2⟩
abbrev lamQ_law_right : Str := (envOfC "_law_right" (defScope st_law_right) 0 0 .none).qual ++ "<lambda>"
abbrev TT (tp : Addr) : List (Addr × Str) := [(tp, lamQ_law_right)]
/-- the shares that are asked -/
def Fl (xs : List Int) : Prop := xs.length ≤ 21 ∧ (∀ x ∈ xs, 0 ≤ x ∧ x ≤ 21) ∧ xs.Pairwise (fun x y => y ≤ x)
abbrev dR : PyData := .tuple [.str "refused", .str "box"]
abbrev dF (h w : Int) : PyData := .tuple [.str "told", .tuple ((fullL h w).map PyData.int)]
abbrev dB (b : Bool) : PyData := .tuple [.str "told", .bool b]
theorem shwR {H : Hp} {t : Addr} (h : H t = some (.tup [.str "refused", .str "box"])) : Shw K H (.ref t) dR :=
  ⟨⟨rfl, by decide, by decide +kernel⟩, .inl ⟨.tup (SqT.of h) (.cons (.str _) (.cons (.str _) .nil)), rfl⟩⟩
theorem shwB {H : Hp} {t : Addr} {b : Bool} (h : H t = some (.tup [.str "told", .bl b])) : Shw K H (.ref t) (dB b) := by
  refine ⟨?_, .inl ⟨.tup (SqT.of h) (.cons (.str _) (.cons (.bl _) .nil)), rfl⟩⟩
  cases b <;> exact ⟨rfl, by decide, by decide +kernel⟩
theorem shwF {H : Hp} {t u : Addr} {xs : List Int} (h : H t = some (.tup [.str "told", .ref u])) (hu : H u = some (.tup (xs.map V.int))) (hx : xs.length ≤ 20 ∧ ∀ x ∈ xs, x.natAbs.log2 < 1920) : Shw K H (.ref t) (.tuple [.str "told", .tuple (xs.map PyData.int)]) := by
  have i1 : Sx 40000 1 (.tuple (xs.map PyData.int)) := (Sx.tuple (sx_ints hx.2)).more (by rw [List.length_map]; omega) (by decide)
  have i2 : Sx 40000 1 (.str "told") := ⟨rfl, by decide, by decide +kernel⟩
  refine ⟨(Sx.tuple (n := 40000) (k := 1) (ds := [.str "told", .tuple (xs.map PyData.int)]) ?_).more (by show 40000 * 2 + 2 * 2 + 3 ≤ 100000; omega) (by decide), .inl ⟨.tup (SqT.of h) (.cons (.str _) (.cons (dp_tup (SqT.of hu)) .nil)), ?_⟩⟩
  · intro e m
    simp only [List.mem_cons, List.not_mem_nil, or_false] at m
    rcases m with rfl | rfl
    · exact i2
    · exact i1
  · simp only [PyData.hasDict, PyData.hasDictAll, noDict_ints, Bool.or_self]
theorem full_small {H : Hp} {v : V} {h w : Int} (b : Bx H v h w) : (fullL h w).length ≤ 20 ∧ ∀ x ∈ fullL h w, x.natAbs.log2 < 1920 := by
  obtain ⟨_, _, _, h0, h1, w0, w1⟩ := b
  unfold fullL
  constructor
  · have := List.length_filter_le (fun x => decide ((0 : Int) < x)) (List.replicate h.toNat w)
    rw [List.length_replicate] at this
    omega
  · intro x m
    have e := (List.mem_replicate.mp (List.mem_filter.mp m).1).2
    exact lg (by omega) (by omega)
theorem max_fit {xs : List Int} {h w m : Int} (hf : Fl xs) (w0 : 0 ≤ w) (c : (xs.length : Int) ≤ h) (m1 : m ∈ xs ++ [0]) (m2 : ∀ y ∈ xs ++ [0], y ≤ m) : decide (m ≤ w) = fitB h w xs := by
  unfold fitB
  rw [decide_eq_true c, Bool.true_and]
  cases xs with
  | nil =>
    have e : m = 0 := by simpa using m1
    rw [decide_eq_true (by omega)]
    rfl
  | cons x xs =>
    have e : m = x := by
      have a1 := m2 x List.mem_cons_self
      rcases List.mem_append.mp m1 with z | z
      · rcases List.mem_cons.mp z with z | z
        · exact z
        · have := (List.pairwise_cons.mp hf.2.2).1 m z
          omega
      · have z : m = 0 := by simpa using z
        have := hf.2.1 x List.mem_cons_self
        omega
    rw [e]
    rfl
def sp_law_right (K : PySem.W.Frag) (tp : Addr) : Sp := fun vs H Q _ => ∃ (v : V) (S : Addr) (as : List Addr), vs = [v, .ref S] ∧ LamX.Tabs (TT tp) H ∧ Itm K H v ∧ H S = some (.lst (as.map V.ref)) ∧ (∀ a ∈ as, ∃ xs, H a = some (.tup (xs.map V.int)) ∧ Fl xs) ∧
  ∀ H', KeepN H H' → LamX.Tabs (TT tp) H' → Q (.bl true) H'
theorem ok_law_right {tp : Addr} (T : Txt K mg f fd) (B : Tb base mg (fd 42) tp) : FnG P w K mg base 8 (f 42) (fd 42) ["_law_thing", "_law_shares"] (sp_law_right K tp) := by
  refine okGT T.F42 sc_law_right (fun vs H Q E h => ?_) (fun cdv A outer s H vs Q E hcd hA hr h => ?_)
  · obtain ⟨v, S, as, rfl, _⟩ := h
    rfl
  · obtain ⟨v, S, as, rfl, hT, ⟨⟨d, hd⟩, hv⟩, hS, has, q⟩ := h
    obtain ⟨c, hc, tb⟩ := B.ex
    rw [hcd] at hc
    subst hc
    refine ⟨_, (Evl.pss_cut (ps_set (i := 2) sc_law_right.nd rfl (Or.inl rfl) (pe_callB (r := rShwX K) (call_shwX hA hr.units) (by rfl) T.m_repr bt_repr (pa_cons (pv 0) pa_nil)))
      (Evl.pss_cut (ps_set (i := 3) sc_law_right.nd rfl (Or.inl rfl) (pe_call (ok_law_is T) (hr.mono (by decide)) (by rfl) T.g41 T.F41.kp T.b41 .nil pass0 (pa_cons (pv 0) pa_nil)))
      (Evl.pss_cut (ps_set (i := 4) sc_law_right.nd rfl (Or.inl rfl) (pe_call (ok_is_box T) (hr.mono (by decide)) (by rfl) T.g29 T.F29.kp T.b29 .nil pass0 (pa_cons (pv 0) pa_nil)))
      (Evl.pss_cut (ps_if (PW.pt (pw_or (pt_not (pt_val (pe_callB call_isi (by rfl) T.m_isinstance bt_isinstance (pa_cons (pv 4) (pa_cons (pe_bltn (v := .ty "bool") (by rfl) T.m_bool bt_bool rfl) pa_nil))))) (pw_or1 (pt_cmpR op_ne (pv 4) (pv 3) (nomark _))))) (pss_one (ps_ret pe_bl)) pss_nil)
      (pss_cons (ps_set (i := 5) sc_law_right.nd rfl (Or.inl rfl) (pe_tup (pa_cons pe_str (pa_cons pe_str pa_nil))))
      (Evl.pss_cut (ps_if (pt_val (pv 3)) (pss_one (ps_set (i := 5) sc_law_right.nd rfl (Or.inl rfl) (pe_tup (pa_cons pe_str (pa_cons (pe_op (r := rRepA K) op_repA (pe_tup (pa_cons (pe_ix (r := rIxT K) ix_tup (pv 0) pe_int (fun _ _ => rfl)) pa_nil)) (pe_op op_mul (pe_ix (r := rIxT K) ix_tup (pv 0) pe_int (fun _ _ => rfl)) (pe_callTy call_int1 (by rfl) T.m_int bt_int (pa_cons (pe_cmpR op_gt (pe_ix (r := rIxT K) ix_tup (pv 0) pe_int (fun _ _ => rfl)) pe_int (nomark _)) pa_nil)))) pa_nil))))) pss_nil)
      (Evl.pss_cut (ps_if (pt_cmpR op_ne (pe_callB (r := rShwX K) (call_shwX hA hr.units) (by rfl) T.m_repr bt_repr (pa_cons (pe_lamW (k := 5) (nm := "_law_asked") (T := [(tp, lamQ_law_right)]) T.F39 (by rfl) T.g39 T.b39 sc_law_word rfl (Or.inl rfl) (fun cdg => mk_law_word T cdg) tb rfl (List.mem_singleton.mpr rfl) (fun z m _ => by cases List.mem_singleton.mp m; rfl) (hr.mono (by decide)) (LamX.lamS_by (sc := defScope st_law_right) (by decide +kernel)) rfl (fun _ _ _ _ _ => rfl) (fun E A fr s H fn cc hr => (pe_callS (ok_full_share T) (hr.mono (by decide)) (by rfl) T.g32 T.F32.kp T.b32 (fun σ => passAt (takes_of rfl rfl rfl rfl) σ) (pa_cons (pv 0) pa_nil)))) pa_nil)) (pe_callB (r := rShwX K) (call_shwX hA hr.units) (by rfl) T.m_repr bt_repr (pa_cons (pv 5) pa_nil)) (nomark _)) (pss_one (ps_ret pe_bl)) pss_nil)
      (Evl.pss_cut (ps_for PassesOwn.never rfl (pi_list (pv 1)) (pg_name (i := 6) sc_law_right.nd rfl (Or.inr rfl)) (pss_cons (ps_set (i := 7) sc_law_right.nd rfl (Or.inl rfl) (pe_tup (pa_cons pe_str (pa_cons pe_str pa_nil))))
      (Evl.pss_cut (ps_if (pt_val (pv 3)) (pss_one (ps_set (i := 7) sc_law_right.nd rfl (Or.inl rfl) (pe_tup (pa_cons pe_str (pa_cons (pe_and (pe_cmpR op_le (pe_callB (r := rLenS K) len_seq (by rfl) T.m_len bt_len (pa_cons (pv 6) pa_nil)) (pe_ix (r := rIxT K) ix_tup (pv 0) pe_int (fun _ _ => rfl)) (nomark _)) (pe_one (pe_cmpR op_le (pe_callB (r := rMaxT K) (cr_maxT rfl hr.units) (by rfl) T.m_max bt_max (pa_cons (pe_op (r := rCatA K) op_catA (pv 6) (pe_tup (pa_cons pe_int pa_nil))) pa_nil)) (pe_ix (r := rIxT K) ix_tup (pv 0) pe_int (fun _ _ => rfl)) (nomark _)))) pa_nil))))) pss_nil)
      (pss_one (ps_if (pt_cmpR op_ne (pe_callB (r := rShwX K) (call_shwX hA hr.units) (by rfl) T.m_repr bt_repr (pa_cons (pe_lamW (k := 5) (nm := "_law_asked") (T := [(tp, lamQ_law_right)]) T.F39 (by rfl) T.g39 T.b39 sc_law_word rfl (Or.inl rfl) (fun cdg => mk_law_word T cdg) tb rfl (List.mem_singleton.mpr rfl) (fun z m _ => by cases List.mem_singleton.mp m; rfl) (hr.mono (by decide)) (LamX.lamS_by (sc := defScope st_law_right) (by decide +kernel)) rfl (fun _ _ _ _ _ => rfl) (fun E A fr s H fn cc hr => (pe_callS (ok_fits_in T) (hr.mono (by decide)) (by rfl) T.g31 T.F31.kp T.b31 (fun σ => passAt (takes_of rfl rfl rfl rfl) σ) (pa_cons (pv 0) (pa_cons (pv 6) pa_nil))))) pa_nil)) (pe_callB (r := rShwX K) (call_shwX hA hr.units) (by rfl) T.m_repr bt_repr (pa_cons (pv 7) pa_nil)) (nomark _)) (pss_one (ps_ret pe_bl)) pss_nil)))))
      (pss_one (ps_ret (pe_cmpR op_eq (pe_callB (r := rShwX K) (call_shwX hA hr.units) (by rfl) T.m_repr bt_repr (pa_cons (pv 0) pa_nil)) (pv 2) (nomark _)))))))))))), ?_⟩
    rcases hv with ⟨h, w, hb⟩ | hb
    · -- kept
      refine ⟨fun σ H1 => σ = [some v, some (.ref S), some (.str d.shown), none, none, none, none, none] ∧ H = H1, ⟨v, rfl, v, d, rfl, hd, rfl, rfl⟩, ?_⟩
      rintro _ _ ⟨rfl, rfl⟩
      refine ⟨fun σ H1 => σ = [some v, some (.ref S), some (.str d.shown), some (.bl true), none, none, none, none] ∧ Same H H1, ?_, ?_⟩
      · exact ⟨v, rfl, v, rfl, .inl ⟨h, w, hb, fun H1 s1 => ⟨rfl, s1⟩⟩⟩
      rintro _ H1 ⟨rfl, s1⟩
      refine ⟨fun σ H2 => σ = [some v, some (.ref S), some (.str d.shown), some (.bl true), some (.bl true), none, none, none] ∧ Same H H2, ?_, ?_⟩
      · exact ⟨v, rfl, v, rfl, .inl ⟨h, w, hb.keep (kpn s1), fun H2 s2 => ⟨rfl, s1.trans s2⟩⟩⟩
      rintro _ H2 ⟨rfl, s2⟩
      refine ⟨fun σ H3 => σ = [some v, some (.ref S), some (.str d.shown), some (.bl true), some (.bl true), none, none, none] ∧ H2 = H3, ?_, ?_⟩
      · refine ⟨_, rfl, _, .ty "bool", .type "bool", .type "bool", true, rfl, .ty _, .base (.bl _), kit_ty (by decide +kernel), _, rfl, ?_⟩
        exact iteF ⟨_, rfl, _, rfl, rfl, _, rfl, iteF ⟨rfl, rfl⟩⟩
      rintro _ _ ⟨rfl, rfl⟩
      refine ⟨small_line (by show 2 ≤ 100000; omega), fun t0 n0 => ?_⟩
      have s3 := same_new (o := .tup [V.str "refused", V.str "box"]) n0
      have e0 : (upd H2 t0 (.tup [V.str "refused", V.str "box"])) t0 = some (.tup [V.str "refused", V.str "box"]) := upd_same
      generalize upd H2 t0 (.tup [V.str "refused", V.str "box"]) = H3 at s3 e0 ⊢
      have s03 := s2.trans s3
      refine ⟨fun σ H4 => ∃ t, σ = [some v, some (.ref S), some (.str d.shown), some (.bl true), some (.bl true), some (.ref t), none, none] ∧ Same H H4 ∧ Shw K H4 (.ref t) (dF h w), ?_, ?_⟩
      · obtain ⟨b, rfl, hbx, h0, h1, w0, w1⟩ := id hb
        refine ⟨_, rfl, _, rfl, ?_⟩
        have hb3 := s03 _ _ hbx
        refine iteT ⟨.ref b, rfl, b, _, 1, .int w, rfl, rfl, SqT.of hb3, rfl, small_line (by show 1 ≤ 100000; omega), fun t1 n1 => ?_⟩
        have s4 := same_new (o := .tup [V.int w]) n1
        have e1 : (upd H3 t1 (.tup [V.int w])) t1 = some (.tup [V.int w]) := upd_same
        generalize upd H3 t1 (.tup [V.int w]) = H4 at s4 e1 ⊢
        have hb4 := s4 _ _ hb3
        refine ⟨.ref b, rfl, b, _, 0, .int h, rfl, rfl, SqT.of hb4, rfl, .ref b, rfl, b, _, 1, .int w, rfl, rfl, SqT.of hb4, rfl, _, _, rfl, rfl, .inr ⟨_, rfl, h, _, rfl, rfl, .inl ⟨by omega, by omega⟩, ?_⟩⟩
        obtain ⟨n, hn, hn2, hn3⟩ : ∃ n : Int, h * (if decide (0 < w) = true then (1 : Int) else 0) = n ∧ (0 ≤ n ∧ n ≤ 20) ∧ (List.replicate n.toNat [V.int w]).flatten = (fullL h w).map V.int := by
          rw [show (fullL h w) = (List.replicate h.toNat w).filter fun x => decide (0 < x) from rfl, List.filter_replicate]
          by_cases c : 0 < w
          · rw [decide_eq_true c, if_pos rfl, if_pos rfl]
            refine ⟨h, by omega, ⟨h0, h1⟩, ?_⟩
            rw [List.flatten_replicate_singleton, List.map_replicate]
          · rw [decide_eq_false c, if_neg Bool.false_ne_true, if_neg Bool.false_ne_true]
            exact ⟨0, by omega, ⟨by omega, by omega⟩, rfl⟩
        refine ⟨t1, n, [V.int w], rfl, congrArg V.int hn, e1, by simp, hn2.1, by omega, by show 1 ≤ 1000; omega, fun H5 c5 s5 e5 => ?_⟩
        rw [hn3] at e5
        refine ⟨small_line (by show 2 ≤ 100000; omega), fun t2 n2 => ⟨t2, rfl, ((s03.trans s4).trans s5).trans (same_new n2), shwF upd_same (same_new n2 _ _ e5) (full_small hb)⟩⟩
      rintro _ H4 ⟨t, rfl, s4, ht⟩
      -- full_share
      refine ⟨fun σ H5 => σ = [some v, some (.ref S), some (.str d.shown), some (.bl true), some (.bl true), some (.ref t), none, none] ∧ KeepN H H5 ∧ LamX.Tabs (TT tp) H5, ?_, ?_⟩
      · refine ⟨hT.ext s4, fun H5 x5 T5 => ?_⟩
        have k5 : KeepN H H5 := (kpn s4).trans x5
        refine ⟨v, rfl, v, rfl, .inl ⟨h, w, hb.keep k5, fun H6 u s6 hu H7 t7 s7 ht7 => ?_⟩⟩
        refine ⟨_, dF h w, rfl, shwF ht7 (s7 _ _ hu) (full_small hb), ?_⟩
        have s57 := s6.trans s7
        refine ⟨.ref t, rfl, .ref t, (dF h w), rfl, ht.keep (x5.trans (kpn s57)), rfl, _, rfl, ?_⟩
        rw [decide_eq_true rfl]
        exact iteF ⟨rfl, k5.trans (kpn s57), T5.ext s57⟩
      rintro _ H5 ⟨rfl, k5, T5⟩
      -- fits_in
      refine ⟨fun σ H6 => ∃ o6 o7, σ = [some v, some (.ref S), some (.str d.shown), some (.bl true), some (.bl true), some (.ref t), o6, o7] ∧ KeepN H H6 ∧ LamX.Tabs (TT tp) H6, ?_, ?_⟩
      · refine ⟨.ref S, rfl, S, rfl, ⟨_, SqL.of (k5 _ _ hS (fun _ z => nomatch z))⟩, ?_⟩
        refine for_it (walk_list (xs := as.map V.ref)) (fun j σ H6 => ∃ o6 o7, σ = [some v, some (.ref S), some (.str d.shown), some (.bl true), some (.bl true), some (.ref t), o6, o7] ∧ KeepN H H6 ∧ LamX.Tabs (TT tp) H6) ⟨none, none, rfl, k5, T5⟩ (fun j σ H6 _ g => by obtain ⟨_, _, _, g, _⟩ := g; exact SqL.of (g _ _ hS (fun _ z => nomatch z))) ?_ ?_
        · rintro j u _ H6 H6 hj ⟨o6, o7, rfl, k6, T6⟩ ⟨rfl, hu⟩
          obtain ⟨a, ha, rfl⟩ : ∃ a, a ∈ as ∧ V.ref a = u := List.mem_map.mp (List.mem_of_getElem? hu)
          obtain ⟨xs, hax, hfl⟩ := has a ha
          have ha6 : H6 a = some (.tup (xs.map V.int)) := k6 _ _ hax (fun _ z => nomatch z)
          refine ⟨small_line (by show 2 ≤ 100000; omega), fun t1 n1 => ?_⟩
          have s7 := same_new (o := .tup [V.str "refused", V.str "box"]) n1
          have e1 : (upd H6 t1 (.tup [V.str "refused", V.str "box"])) t1 = some (.tup [V.str "refused", V.str "box"]) := upd_same
          generalize upd H6 t1 (.tup [V.str "refused", V.str "box"]) = H7 at s7 e1 ⊢
          refine ⟨fun σ H8 => ∃ t2, σ = [some v, some (.ref S), some (.str d.shown), some (.bl true), some (.bl true), some (.ref t), some (.ref a), some (.ref t2)] ∧ Same H6 H8 ∧ Shw K H8 (.ref t2) (dB (fitB h w xs)), ?_, ?_⟩
          · obtain ⟨b, rfl, hbx, h0, h1, w0, w1⟩ := id hb
            have hb7 := s7 _ _ (k6 _ _ hbx (fun _ z => nomatch z))
            have ha7 := s7 _ _ ha6
            refine ⟨_, rfl, _, rfl, iteT ⟨.ref a, rfl, a, _, rfl, .inr (SqT.of ha7), .ref b, rfl, b, _, 0, .int h, rfl, rfl, SqT.of hb7, rfl, _, _, rfl, rfl, _, rfl, ?_⟩⟩
            rw [List.length_map]
            have fin : ∀ {H8 : Hp}, Same H7 H8 → ∀ t2 n2, (upd H8 t2 (.tup [V.str "told", V.bl (fitB h w xs)])) = n2 → H8 t2 = none → Same H6 n2 ∧ Shw K n2 (.ref t2) (dB (fitB h w xs)) := fun s8 t2 n2 e z => by
              subst e
              exact ⟨(s7.trans s8).trans (same_new z), shwB upd_same⟩
            by_cases c : (xs.length : Int) ≤ h
            · rw [decide_eq_true c, if_pos rfl]
              refine ⟨.ref a, rfl, small_line (by show 1 ≤ 100000; omega), fun z nz => ?_⟩
              have s8 := same_new (o := .tup [V.int 0]) nz
              refine rd_catA (K := K) (s8 _ _ ha7) upd_same (small_line (by rw [List.length_map]; have := hfl.1; show xs.length + 1 ≤ 100000; omega)) fun H9 cc s9 e9 => ?_
              have e9 : H9 cc = some (.tup ((xs ++ [0]).map V.int)) := by rw [List.map_append]; exact e9
              have s79 := s8.trans s9
              refine ⟨cc, xs ++ [0], rfl, SqT.of e9, by rw [List.length_append]; show 0 < xs.length + 1; omega, fun m m1 m2 => ?_⟩
              refine ⟨.ref b, rfl, b, _, 1, .int w, rfl, rfl, SqT.of (s79 _ _ hb7), rfl, _, _, rfl, rfl, ?_⟩
              have em : decide (m ≤ w) = fitB h w xs := max_fit hfl w0 c m1 m2
              refine ⟨small_line (by show 2 ≤ 100000; omega), fun t2 nt2 => ?_⟩
              have em' : (fun i j : Int => V.bl (decide (i ≤ j))) m w = V.bl (fitB h w xs) := by
                show V.bl (decide (m ≤ w)) = _
                rw [em]
              rw [em']
              exact ⟨t2, rfl, (fin s79 t2 _ rfl nt2)⟩
            · rw [decide_eq_false c, if_neg Bool.false_ne_true]
              have em : fitB h w xs = false := by unfold fitB; rw [decide_eq_false c, Bool.false_and]
              refine ⟨small_line (by show 2 ≤ 100000; omega), fun t2 nt2 => ?_⟩
              rw [em] at fin
              rw [em]
              exact ⟨t2, rfl, (fin (Same.refl _) t2 _ rfl nt2)⟩
          rintro _ H8 ⟨t2, rfl, s8, ht2⟩
          refine ⟨T6.ext s8, fun H9 x9 T9 => ?_⟩
          have k9 : KeepN H H9 := (k6.trans (kpn s8)).trans x9
          have ha9 : H9 a = some (.tup (xs.map V.int)) := k9 _ _ hax (fun _ z => nomatch z)
          refine ⟨v, rfl, .ref a, rfl, v, a, xs, rfl, ha9, .inl ⟨h, w, hb.keep k9, fun H10 s10 H11 t11 s11 ht11 => ?_⟩⟩
          refine ⟨_, dB (fitB h w xs), rfl, shwB ht11, ?_⟩
          have s911 := s10.trans s11
          refine ⟨.ref t2, rfl, .ref t2, (dB (fitB h w xs)), rfl, ht2.keep (x9.trans (kpn s911)), rfl, _, rfl, ?_⟩
          rw [decide_eq_true rfl]
          exact iteF ⟨_, _, rfl, k9.trans (kpn s911), T9.ext s911⟩
        · rintro _ H6 ⟨o6, o7, rfl, k6, T6⟩
          exact ⟨_, _, rfl, k6, T6⟩
      rintro _ H6 ⟨o6, o7, rfl, k6, T6⟩
      refine ⟨v, rfl, v, d, rfl, hd.keep k6, _, rfl, rfl, ?_⟩
      rw [decide_eq_true rfl]
      exact q _ k6 T6
    · -- kept
      refine ⟨fun σ H1 => σ = [some v, some (.ref S), some (.str d.shown), none, none, none, none, none] ∧ H = H1, ⟨v, rfl, v, d, rfl, hd, rfl, rfl⟩, ?_⟩
      rintro _ _ ⟨rfl, rfl⟩
      refine ⟨fun σ H1 => σ = [some v, some (.ref S), some (.str d.shown), some (.bl false), none, none, none, none] ∧ Same H H1, ?_, ?_⟩
      · exact ⟨v, rfl, v, rfl, .inr ⟨hb, fun H1 s1 => ⟨rfl, s1⟩⟩⟩
      rintro _ H1 ⟨rfl, s1⟩
      refine ⟨fun σ H2 => σ = [some v, some (.ref S), some (.str d.shown), some (.bl false), some (.bl false), none, none, none] ∧ Same H H2, ?_, ?_⟩
      · exact ⟨v, rfl, v, rfl, .inr ⟨hb.keep (kpn s1), fun H2 s2 => ⟨rfl, s1.trans s2⟩⟩⟩
      rintro _ H2 ⟨rfl, s2⟩
      refine ⟨fun σ H3 => σ = [some v, some (.ref S), some (.str d.shown), some (.bl false), some (.bl false), none, none, none] ∧ H2 = H3, ?_, ?_⟩
      · refine ⟨_, rfl, _, .ty "bool", .type "bool", .type "bool", true, rfl, .ty _, .base (.bl _), kit_ty (by decide +kernel), _, rfl, ?_⟩
        exact iteF ⟨_, rfl, _, rfl, rfl, _, rfl, iteF ⟨rfl, rfl⟩⟩
      rintro _ _ ⟨rfl, rfl⟩
      refine ⟨small_line (by show 2 ≤ 100000; omega), fun t0 n0 => ?_⟩
      have s3 := same_new (o := .tup [V.str "refused", V.str "box"]) n0
      have e0 : (upd H2 t0 (.tup [V.str "refused", V.str "box"])) t0 = some (.tup [V.str "refused", V.str "box"]) := upd_same
      generalize upd H2 t0 (.tup [V.str "refused", V.str "box"]) = H3 at s3 e0 ⊢
      have s03 := s2.trans s3
      refine ⟨fun σ H4 => ∃ t, σ = [some v, some (.ref S), some (.str d.shown), some (.bl false), some (.bl false), some (.ref t), none, none] ∧ Same H H4 ∧ Shw K H4 (.ref t) dR, ?_, ?_⟩
      · exact ⟨_, rfl, _, rfl, iteF ⟨t0, rfl, s03, shwR e0⟩⟩
      rintro _ H4 ⟨t, rfl, s4, ht⟩
      -- full_share
      refine ⟨fun σ H5 => σ = [some v, some (.ref S), some (.str d.shown), some (.bl false), some (.bl false), some (.ref t), none, none] ∧ KeepN H H5 ∧ LamX.Tabs (TT tp) H5, ?_, ?_⟩
      · refine ⟨hT.ext s4, fun H5 x5 T5 => ?_⟩
        have k5 : KeepN H H5 := (kpn s4).trans x5
        refine ⟨v, rfl, v, rfl, .inr ⟨hb.keep k5, fun H6 s6 => ⟨rfl, rfl, fun H7 t7 s7 ht7 => ?_⟩⟩⟩
        refine ⟨_, dR, rfl, shwR ht7, ?_⟩
        have s57 := s6.trans s7
        refine ⟨.ref t, rfl, .ref t, dR, rfl, ht.keep (x5.trans (kpn s57)), rfl, _, rfl, ?_⟩
        rw [decide_eq_true rfl]
        exact iteF ⟨rfl, k5.trans (kpn s57), T5.ext s57⟩
      rintro _ H5 ⟨rfl, k5, T5⟩
      -- fits_in
      refine ⟨fun σ H6 => ∃ o6 o7, σ = [some v, some (.ref S), some (.str d.shown), some (.bl false), some (.bl false), some (.ref t), o6, o7] ∧ KeepN H H6 ∧ LamX.Tabs (TT tp) H6, ?_, ?_⟩
      · refine ⟨.ref S, rfl, S, rfl, ⟨_, SqL.of (k5 _ _ hS (fun _ z => nomatch z))⟩, ?_⟩
        refine for_it (walk_list (xs := as.map V.ref)) (fun j σ H6 => ∃ o6 o7, σ = [some v, some (.ref S), some (.str d.shown), some (.bl false), some (.bl false), some (.ref t), o6, o7] ∧ KeepN H H6 ∧ LamX.Tabs (TT tp) H6) ⟨none, none, rfl, k5, T5⟩ (fun j σ H6 _ g => by obtain ⟨_, _, _, g, _⟩ := g; exact SqL.of (g _ _ hS (fun _ z => nomatch z))) ?_ ?_
        · rintro j u _ H6 H6 hj ⟨o6, o7, rfl, k6, T6⟩ ⟨rfl, hu⟩
          obtain ⟨a, ha, rfl⟩ : ∃ a, a ∈ as ∧ V.ref a = u := List.mem_map.mp (List.mem_of_getElem? hu)
          obtain ⟨xs, hax, hfl⟩ := has a ha
          have ha6 : H6 a = some (.tup (xs.map V.int)) := k6 _ _ hax (fun _ z => nomatch z)
          refine ⟨small_line (by show 2 ≤ 100000; omega), fun t1 n1 => ?_⟩
          have s7 := same_new (o := .tup [V.str "refused", V.str "box"]) n1
          have e1 : (upd H6 t1 (.tup [V.str "refused", V.str "box"])) t1 = some (.tup [V.str "refused", V.str "box"]) := upd_same
          generalize upd H6 t1 (.tup [V.str "refused", V.str "box"]) = H7 at s7 e1 ⊢
          refine ⟨fun σ H8 => ∃ t2, σ = [some v, some (.ref S), some (.str d.shown), some (.bl false), some (.bl false), some (.ref t), some (.ref a), some (.ref t2)] ∧ Same H6 H8 ∧ Shw K H8 (.ref t2) dR, ?_, ?_⟩
          · exact ⟨_, rfl, _, rfl, iteF ⟨t1, rfl, s7, shwR e1⟩⟩
          rintro _ H8 ⟨t2, rfl, s8, ht2⟩
          refine ⟨T6.ext s8, fun H9 x9 T9 => ?_⟩
          have k9 : KeepN H H9 := (k6.trans (kpn s8)).trans x9
          have ha9 : H9 a = some (.tup (xs.map V.int)) := k9 _ _ hax (fun _ z => nomatch z)
          refine ⟨v, rfl, .ref a, rfl, v, a, xs, rfl, ha9, .inr ⟨hb.keep k9, fun H10 s10 => ⟨rfl, rfl, fun H11 t11 s11 ht11 => ?_⟩⟩⟩
          refine ⟨_, dR, rfl, shwR ht11, ?_⟩
          have s911 := s10.trans s11
          refine ⟨.ref t2, rfl, .ref t2, dR, rfl, ht2.keep (x9.trans (kpn s911)), rfl, _, rfl, ?_⟩
          rw [decide_eq_true rfl]
          exact iteF ⟨_, _, rfl, k9.trans (kpn s911), T9.ext s911⟩
        · rintro _ H6 ⟨o6, o7, rfl, k6, T6⟩
          exact ⟨_, _, rfl, k6, T6⟩
      rintro _ H6 ⟨o6, o7, rfl, k6, T6⟩
      refine ⟨v, rfl, v, d, rfl, hd.keep k6, _, rfl, rfl, ?_⟩
      rw [decide_eq_true rfl]
      exact q _ k6 T6
/-! ### law -/
theorem tabs_kp {T : List (Addr × Str)} {H H' : Hp} {p : Addr} (h : LamX.Tabs T H) (hP : PenA H p) (k : Kp p H H') : LamX.Tabs T H' := by
  obtain ⟨f0, n0, c0, hp⟩ := hP
  intro z m
  obtain ⟨ps, e1, e2, e3⟩ := h z m
  refine ⟨ps, k _ _ (ne_of e1 hp (by intro z; cases z)) e1, e2, fun pos cv hc => ?_⟩
  obtain ⟨c, e4, e5⟩ := e3 pos cv hc
  exact ⟨c, e4, k _ _ (ne_of e5 hp (by intro z; cases z)) e5⟩
theorem PenA.keep {H H' : Hp} {p : Addr} (h : PenA H p) (s : KeepN H H') : PenA H' p := let ⟨f, n, c, e⟩ := h; ⟨f, n, c, s _ _ e (fun _ z => nomatch z)⟩
def sp_law (K : PySem.W.Frag) (tp : Addr) : Sp := fun vs H Q _ => ∃ (a : Addr) (ns : List Int), vs = [.ref a] ∧ SqL K H a (ns.map V.int) ∧ ns.length ≤ 63 ∧ H tp = some (.tbl #[]) ∧ ∀ H', Q (.bl true) H'
theorem fl_rep {n : Nat} {x : Int} (hn : n ≤ 21) (h0 : 0 ≤ x) (h1 : x ≤ 21) : Fl (List.replicate n x) := by
  refine ⟨by rw [List.length_replicate]; exact hn, fun y m => ?_, ?_⟩
  · rw [(List.mem_replicate.mp m).2]
    exact ⟨h0, h1⟩
  · rw [List.pairwise_replicate]
    exact .inr (Int.le_refl _)
theorem rep01 {b : Bool} {xs : List V} : (List.replicate (if b = true then (1 : Int) else 0).toNat xs).flatten = (if b = true then xs else []) := by
  cases b
  · rfl
  · show (List.replicate 1 xs).flatten = xs
    simp
/-- the shares that are asked, made -/
def Shs (p : Addr) (H : Hp) (S : Addr) (as : List Addr) : Prop := At p H S (.lst (as.map V.ref)) ∧ ∀ a ∈ as, ∃ xs, At p H a (.tup (xs.map V.int)) ∧ Fl xs
theorem Shs.kp {p : Addr} {H H' : Hp} {S : Addr} {as : List Addr} (h : Shs p H S as) (k : Kp p H H') : Shs p H' S as := ⟨h.1.kp k, fun a m => let ⟨xs, h1, h2⟩ := h.2 a m; ⟨xs, h1.kp k, h2⟩⟩
theorem Shs.keep {p : Addr} {H H' : Hp} {S : Addr} {as : List Addr} (h : Shs p H S as) (k : KeepN H H') : Shs p H' S as :=
  ⟨⟨k _ _ h.1.1 (fun _ z => nomatch z), h.1.2⟩, fun a m => let ⟨xs, h1, h2⟩ := h.2 a m; ⟨xs, ⟨k _ _ h1.1 (fun _ z => nomatch z), h1.2⟩, h2⟩⟩
theorem oklaw {fa : Addr} {fda : FuncData} {tp : Addr} (T : Txt K mg f fd) (B : Tb base mg (fd 42) tp) (F : Fun K "law" "law" stlaw fa fda) : FnG P w K mg base 9 fa fda ["_law_script"] (sp_law K tp) := by
  refine okG F sclaw (fun vs H Q E h => ?_) (fun cdv A outer s H vs Q E hA hr h => ?_)
  · obtain ⟨a, ns, rfl, _⟩ := h
    rfl
  · obtain ⟨a, ns, rfl, hS, hn, hT, q⟩ := h
    refine ⟨_, (pss_cons (ps_for PassesOwn.never rfl (pi_range1 (by rfl) T.m_range (pa_cons (pe_callB (call_max2 rfl) (by rfl) T.m_max bt_max (pa_cons pe_int (pa_cons (pe_callB (call_min2 rfl) (by rfl) T.m_min bt_min (pa_cons (pe_callB (r := rLenS K) len_seq (by rfl) T.m_len bt_len (pa_cons (pv 0) pa_nil)) (pa_cons pe_int pa_nil))) pa_nil))) pa_nil)) (pg_name (i := 1) sclaw.nd rfl (Or.inl rfl)) (Evl.pss_cut (ps_set (i := 2) sclaw.nd rfl (Or.inl rfl) (pe_call (ok_law_pen T) (hr.mono (by decide)) (by rfl) T.g34 T.F34.kp T.b34 .nil pass0 (pa_cons (pv 0) (pa_cons (pv 1) pa_nil))))
      (Evl.pss_cut (ps_set (i := 3) sclaw.nd rfl (Or.inl rfl) (pe_call (ok_law_sides T) (hr.mono (by decide)) (by rfl) T.g36 T.F36.kp T.b36 .nil pass0 (pa_cons (pv 2) pa_nil)))
      (Evl.pss_cut (ps_set (i := 4) sclaw.nd rfl (Or.inl rfl) (pe_call (ok_law_share T) (hr.mono (by decide)) (by rfl) T.g37 T.F37.kp T.b37 .nil pass0 (pa_cons (pv 2) (pa_cons (pe_ix (r := rIxT K) ix_tup (pv 3) pe_int (fun _ _ => rfl)) (pa_cons (pe_ix (r := rIxT K) ix_tup (pv 3) pe_int (fun _ _ => rfl)) pa_nil)))))
      (Evl.pss_cut (ps_set (i := 5) sclaw.nd rfl (Or.inl rfl) (pe_lst (pa_cons (pv 4) (pa_cons (pe_tup pa_nil) (pa_cons (pe_op (r := rRepA K) op_repA (pe_op (r := rRepA K) op_repA (pe_tup (pa_cons pe_int pa_nil)) (pe_op op_add (pe_ix (r := rIxT K) ix_tup (pv 3) pe_int (fun _ _ => rfl)) pe_int)) (pe_callTy call_int1 (by rfl) T.m_int bt_int (pa_cons (pe_cmpR op_lt (pe_ix (r := rIxT K) ix_tup (pv 3) pe_int (fun _ _ => rfl)) pe_int (nomark _)) pa_nil))) (pa_cons (pe_op (r := rRepA K) op_repA (pe_tup (pa_cons (pe_op op_add (pe_ix (r := rIxT K) ix_tup (pv 3) pe_int (fun _ _ => rfl)) pe_int) pa_nil)) (pe_callTy call_int1 (by rfl) T.m_int bt_int (pa_cons (pe_cmpR op_lt (pe_ix (r := rIxT K) ix_tup (pv 3) pe_int (fun _ _ => rfl)) pe_int (nomark _)) pa_nil))) (pa_cons (pe_op (r := rRepA K) op_repA (pe_tup (pa_cons pe_int pa_nil)) pe_int) pa_nil)))))))
      (Evl.pss_cut (ps_if (pt_not (pt_val (pe_callG (ok_law_right T B) hA (hr.mono (by decide)) (by rfl) T.g42 T.F42.kp T.b42 (pa_cons (pv 3) (pa_cons (pv 5) pa_nil))))) (pss_one (ps_ret pe_bl)) pss_nil)
      (pss_one (ps_for PassesOwn.never rfl (pi_range1 (by rfl) T.m_range (pa_cons pe_int pa_nil)) (pg_name (i := 6) sclaw.nd rfl (Or.inl rfl)) (pss_one (ps_if (pt_not (pt_val (pe_callG (ok_law_right T B) hA (hr.mono (by decide)) (by rfl) T.g42 T.F42.kp T.b42 (pa_cons (pe_call (ok_law_bent T) (hr.mono (by decide)) (by rfl) T.g40 T.F40.kp T.b40 .nil pass0 (pa_cons (pv 2) (pa_cons (pv 3) pa_nil))) (pa_cons (pv 5) pa_nil))))) (pss_one (ps_ret pe_bl)) pss_nil))))))))))
      (pss_one (ps_ret pe_bl))), ?_⟩
    refine ⟨.ref a, rfl, a, _, rfl, .inl hS, _, _, rfl, _, _, rfl, _, rfl, ?_, ?_, ?_⟩
    · split <;> omega
    · rw [List.length_map]
      split <;> (try split) <;> omega
    have T0 : LamX.Tabs (TT tp) H := fun z m => by
      rw [List.mem_singleton.mp m]
      exact LamX.TabS.nil hT
    refine for_range (fun i σ H1 => ∃ o1 o2 o3 o4 o5 o6, σ = [some (.ref a), o1, o2, o3, o4, o5, o6] ∧ KeepN H H1 ∧ LamX.Tabs (TT tp) H1) ⟨_, _, _, _, _, _, rfl, kpn (Same.refl _), T0⟩ ?_ ?_
    · rintro i _ H1 hi ⟨o1, o2, o3, o4, o5, o6, rfl, k1, T1⟩
      have hi' : i < 8 := by
        rw [List.length_map] at hi
        revert hi
        split <;> (try split) <;> omega
      -- pen
      refine ⟨fun σ H2 => ∃ p, σ = [some (.ref a), some (.int (0 + (i : Int))), some (.ref p), o3, o4, o5, o6] ∧ KeepN H H2 ∧ LamX.Tabs (TT tp) H2 ∧ PenA H2 p ∧ H1 p = none ∧ Same H1 H2, ?_, ?_⟩
      · exact ⟨.ref a, rfl, _, rfl, a, ns, _, rfl, sqL_keep hS k1, by omega, by omega, fun H2 p s2 P2 np => ⟨p, rfl, k1.trans (kpn s2), T1.ext s2, P2, np, s2⟩⟩
      rintro _ H2 ⟨p, rfl, k2, T2, P2, np, s12⟩
      have hne : ∀ b o, H b = some o → (∀ ps, o ≠ .tbl ps) → b ≠ p := fun b o e n z => by
        have := k1 b o e n
        rw [z, np] at this
        cases this
      have kkp : ∀ {H7 H8 : Hp}, KeepN H H7 → Kp p H7 H8 → KeepN H H8 := fun k7 kp b o e n => kp b o (hne b o e n) (k7 b o e n)
      -- box
      refine ⟨fun σ H3 => ∃ (b : Addr) (h w : Int), σ = [some (.ref a), some (.int (0 + (i : Int))), some (.ref p), some (.ref b), o4, o5, o6] ∧ Kp p H2 H3 ∧ PenA H3 p ∧ At p H3 b (.tup [.int h, .int w]) ∧ 0 ≤ h ∧ h ≤ 20 ∧ 0 ≤ w ∧ w ≤ 20, ?_, ?_⟩
      · exact ⟨.ref p, rfl, p, rfl, P2, fun H3 b x y k3 P3 hb x0 x1 y0 y1 => ⟨b, x, y, rfl, k3, P3, ⟨hb, P3.apart hb⟩, x0, x1, y0, y1⟩⟩
      rintro _ H3 ⟨b, h, w, rfl, k3, P3, hb, h0, h1, w0, w1⟩
      -- share
      refine ⟨fun σ H4 => ∃ (sh : Addr) (xs : List Int), σ = [some (.ref a), some (.int (0 + (i : Int))), some (.ref p), some (.ref b), some (.ref sh), o5, o6] ∧ Kp p H2 H4 ∧ PenA H4 p ∧ At p H4 b (.tup [.int h, .int w]) ∧ At p H4 sh (.tup (xs.map V.int)) ∧ Sh xs, ?_, ?_⟩
      · refine ⟨.ref p, rfl, .ref b, rfl, b, _, 0, .int h, rfl, rfl, SqT.of hb.1, rfl, .ref b, rfl, b, _, 1, .int w, rfl, rfl, SqT.of hb.1, rfl, p, h, w, rfl, P3, h0, h1, w0, w1, fun H4 c xs k4 P4 hc hx _ _ => ?_⟩
        exact ⟨c, xs, rfl, k3.trans k4, P4, hb.kp k4, ⟨hc, P4.apart hc⟩, hx⟩
      rintro _ H4 ⟨sh, xs, rfl, k4, P4, hb4, hsh, hx⟩
      -- shares
      refine ⟨fun σ H5 => ∃ (S : Addr) (as : List Addr), σ = [some (.ref a), some (.int (0 + (i : Int))), some (.ref p), some (.ref b), some (.ref sh), some (.ref S), o6] ∧ Kp p H2 H5 ∧ PenA H5 p ∧ At p H5 b (.tup [.int h, .int w]) ∧ Shs p H5 S as, ?_, ?_⟩
      · refine ⟨.ref sh, rfl, Nat.zero_le _, fun c1 n1 => ?_⟩
        have t1 := same_new (o := .tup []) n1
        have a1 := At.new (o := .tup []) P4 n1
        generalize upd H4 c1 (.tup []) = G1 at t1 a1 ⊢
        refine ⟨small_line (by show 1 ≤ 100000; omega), fun c2 n2 => ?_⟩
        have t2 := same_new (o := .tup [V.int 1]) n2
        have e2 : (upd G1 c2 (.tup [V.int 1])) c2 = some (.tup [V.int 1]) := upd_same
        generalize upd G1 c2 (.tup [V.int 1]) = G2 at t2 e2 ⊢
        have t02 := t1.trans t2
        refine ⟨.ref b, rfl, b, _, 0, .int h, rfl, rfl, SqT.of (t02 _ _ hb4.1), rfl, _, _, rfl, rfl, c2, _, [V.int 1], rfl, rfl, e2, by simp, by omega, by omega, by show 1 ≤ 1000; omega, fun G3 c3 t3 e3 => ?_⟩
        have e3' : (List.replicate (h + 1).toNat [V.int 1]).flatten = (List.replicate (h + 1).toNat (1 : Int)).map V.int := by
          rw [List.flatten_replicate_singleton, List.map_replicate]
        rw [e3'] at e3
        have t03 := t02.trans t3
        have hb3 := t03 _ _ hb4.1
        refine ⟨.ref b, rfl, b, _, 0, .int h, rfl, rfl, SqT.of hb3, rfl, _, _, rfl, rfl, .inr ⟨_, rfl, c3, _, _, rfl, rfl, e3, ?_, ?_, ?_, ?_, fun G4 c4 t4 e4 => ?_⟩⟩
        · intro z
          have := congrArg List.length z
          rw [List.length_map, List.length_replicate] at this
          have z0 : (h + 1).toNat = 0 := this
          omega
        · split <;> omega
        · split <;> omega
        · rw [List.length_map, List.length_replicate]
          omega
        rw [rep01] at e4
        obtain ⟨x4, e4, f4⟩ : ∃ x4 : List Int, G4 c4 = some (.tup (x4.map V.int)) ∧ Fl x4 := by
          by_cases z : decide (h < 20) = true
          · rw [if_pos z] at e4
            exact ⟨_, e4, fl_rep (by omega) (by omega) (by omega)⟩
          · rw [if_neg z] at e4
            exact ⟨[], e4, fl_rep (n := 0) (x := 0) (by omega) (by omega) (by omega)⟩
        have t04 := t03.trans t4
        have hb4' := t04 _ _ hb4.1
        refine ⟨.ref b, rfl, b, _, 1, .int w, rfl, rfl, SqT.of hb4', rfl, _, _, rfl, rfl, small_line (by show 1 ≤ 100000; omega), fun c5 n5 => ?_⟩
        have t5 := same_new (o := .tup [V.int (w + 1)]) n5
        have e5 : (upd G4 c5 (.tup [V.int (w + 1)])) c5 = some (.tup [V.int (w + 1)]) := upd_same
        generalize upd G4 c5 (.tup [V.int (w + 1)]) = G5 at t5 e5 ⊢
        have t05 := t04.trans t5
        have hb5 := t05 _ _ hb4.1
        refine ⟨.ref b, rfl, b, _, 1, .int w, rfl, rfl, SqT.of hb5, rfl, _, _, rfl, rfl, .inr ⟨_, rfl, c5, _, _, rfl, rfl, e5, by simp, ?_, ?_, by show 1 ≤ 1000; omega, fun G6 c6 t6 e6 => ?_⟩⟩
        · split <;> omega
        · split <;> omega
        rw [rep01] at e6
        obtain ⟨x6, e6, f6⟩ : ∃ x6 : List Int, G6 c6 = some (.tup (x6.map V.int)) ∧ Fl x6 := by
          by_cases z : decide (w < 20) = true
          · rw [if_pos z] at e6
            exact ⟨[w + 1], e6, fl_rep (n := 1) (by omega) (by omega) (by omega)⟩
          · rw [if_neg z] at e6
            exact ⟨[], e6, fl_rep (n := 0) (x := 0) (by omega) (by omega) (by omega)⟩
        refine ⟨small_line (by show 1 ≤ 100000; omega), fun c7 n7 => ?_⟩
        have t7 := same_new (o := .tup [V.int 20]) n7
        have e7 : (upd G6 c7 (.tup [V.int 20])) c7 = some (.tup [V.int 20]) := upd_same
        generalize upd G6 c7 (.tup [V.int 20]) = G7 at t7 e7 ⊢
        refine ⟨c7, 20, _, rfl, rfl, e7, by simp, by omega, by omega, by show 1 ≤ 1000; omega, fun G8 c8 t8 e8 => ?_⟩
        have e8' : (List.replicate (20 : Int).toNat [V.int 20]).flatten = (List.replicate 20 (20 : Int)).map V.int := rfl
        rw [e8'] at e8
        have t48 := ((t5.trans t6).trans t7).trans t8
        have t08 := t04.trans t48
        have P8 := P4.same t08
        refine ⟨small_line (by show 5 ≤ 100000; omega), fun S nS => ?_⟩
        have t9 := same_new (o := .lst [V.ref sh, V.ref c1, V.ref c4, V.ref c6, V.ref c8]) nS
        have t09 := t08.trans t9
        refine ⟨S, [sh, c1, c4, c6, c8], rfl, k4.trans (Kp.of t09), P8.same t9, hb4.same t09, At.new P8 nS, fun z m => ?_⟩
        have ap : ∀ {c : Addr} {ys : List Int}, G8 c = some (.tup (ys.map V.int)) → At p (upd G8 S (.lst [V.ref sh, V.ref c1, V.ref c4, V.ref c6, V.ref c8])) c (.tup (ys.map V.int)) := fun e => ⟨t9 _ _ e, P8.apart e⟩
        simp only [List.mem_cons, List.not_mem_nil, or_false] at m
        rcases m with rfl | rfl | rfl | rfl | rfl
        · exact ⟨xs, hsh.same t09, by have := hx.n; omega, fun x m => by have := hx.a x m; omega, hx.f⟩
        · exact ⟨[], a1.same ((((t2.trans t3).trans t4).trans t48).trans t9), fl_rep (n := 0) (x := 0) (by omega) (by omega) (by omega)⟩
        · exact ⟨x4, ap (t48 _ _ e4), f4⟩
        · exact ⟨x6, ap ((t7.trans t8) _ _ e6), f6⟩
        · exact ⟨_, ap e8, fl_rep (by omega) (by omega) (by omega)⟩
      rintro _ H5 ⟨S, as, rfl, k5, P5, hb5, hsh5⟩
      have T5 := tabs_kp T2 P2 k5
      have kk5 := kkp k2 k5
      have asd : ∀ {G : Hp}, Shs p G S as → ∀ a ∈ as, ∃ xs, G a = some (.tup (xs.map V.int)) ∧ Fl xs := fun z a m => let ⟨xs, h1, h2⟩ := z.2 a m; ⟨xs, h1.1, h2⟩
      -- the box itself
      refine ⟨fun σ H6 => σ = [some (.ref a), some (.int (0 + (i : Int))), some (.ref p), some (.ref b), some (.ref sh), some (.ref S), o6] ∧ KeepN H5 H6 ∧ LamX.Tabs (TT tp) H6, ?_, ?_⟩
      · refine ⟨.ref b, rfl, .ref S, rfl, .ref b, S, as, rfl, T5, ⟨shw_el (elP_tupI (xs := [h, w]) hb5.1 (by show 2 ≤ 3; omega) (by intro x m; simp only [List.mem_cons, List.not_mem_nil, or_false] at m; exact lg (by omega) (by omega))), .inl ⟨h, w, b, rfl, hb5.1, h0, h1, w0, w1⟩⟩, hsh5.1.1, asd hsh5, fun H6 k6 T6 => ⟨_, rfl, iteF ⟨rfl, k6, T6⟩⟩⟩
      rintro _ H6 ⟨rfl, k6, T6⟩
      -- the others
      refine ⟨6, rfl, by decide, by decide, ?_⟩
      refine for_range (fun j σ H7 => ∃ o6, σ = [some (.ref a), some (.int (0 + (i : Int))), some (.ref p), some (.ref b), some (.ref sh), some (.ref S), o6] ∧ KeepN H H7 ∧ LamX.Tabs (TT tp) H7 ∧ PenA H7 p ∧ At p H7 b (.tup [.int h, .int w]) ∧ Shs p H7 S as) ?_ ?_ ?_
      · exact ⟨o6, rfl, kk5.trans k6, T6, P5.keep k6, ⟨k6 _ _ hb5.1 (fun _ z => nomatch z), hb5.2⟩, hsh5.keep k6⟩
      · rintro j _ H7 hj ⟨o6, rfl, k7, T7, P7, hb7, hs7⟩
        refine ⟨.ref p, rfl, .ref b, rfl, p, b, h, w, rfl, P7, hb7, h0, h1, w0, w1, fun H8 v k8 P8 hv => ?_⟩
        have hs8 := hs7.kp k8
        refine ⟨.ref S, rfl, v, S, as, rfl, tabs_kp T7 P7 k8, hv, hs8.1.1, asd hs8, fun H9 k9 T9 => ⟨_, rfl, iteF ?_⟩⟩
        exact ⟨_, rfl, (kkp k7 k8).trans k9, T9, P8.keep k9, ⟨k9 _ _ (hb7.kp k8).1 (fun _ z => nomatch z), hb7.2⟩, hs8.keep k9⟩
      · rintro _ H7 ⟨o6, rfl, k7, T7, _⟩
        exact ⟨_, _, _, _, _, _, rfl, k7, T7⟩
    · rintro _ H1 ⟨o1, o2, o3, o4, o5, o6, rfl, k1, T1⟩
      exact q _
end
theorem all_mk {l : PySem.W.OpenLaw} {w : World} {K : PySem.W.Frag} {h : Heap} {mg : Str → Option Value} {fa : Addr} (X : K.In h) (G : h.Ns mainGlobals mg) (hfa : mg "law" = some (.ref fa))
    {f19 : Addr} {od19 an19 : Option Addr} {sl19 : Array (Option Value)} {oc19 kV19 dc19 pm19 cd19 ct19 : Value}
    (a19 : PySem.W.nsIn K mainGlobals "is_whole" = some (some (.ref f19)))
    (l19 : K.lookup f19 = some ⟨oc19, od19, .func (PySem.W.fnOf "is_whole" "is_whole" (defArgs stis_whole) (defBody stis_whole) (defScope stis_whole) .none kV19 dc19 pm19 an19 cd19 ct19), sl19⟩)
    (c19 : PySem.W.codeIn K cd19 "is_whole" = true) (k19 : PySem.W.keepIn K (.ref f19) = true)
    {f20 : Addr} {od20 an20 : Option Addr} {sl20 : Array (Option Value)} {oc20 kV20 dc20 pm20 cd20 ct20 : Value}
    (a20 : PySem.W.nsIn K mainGlobals "is_whole_from" = some (some (.ref f20)))
    (l20 : K.lookup f20 = some ⟨oc20, od20, .func (PySem.W.fnOf "is_whole_from" "is_whole_from" (defArgs stis_whole_from) (defBody stis_whole_from) (defScope stis_whole_from) .none kV20 dc20 pm20 an20 cd20 ct20), sl20⟩)
    (c20 : PySem.W.codeIn K cd20 "is_whole_from" = true) (k20 : PySem.W.keepIn K (.ref f20) = true)
    {f24 : Addr} {od24 an24 : Option Addr} {sl24 : Array (Option Value)} {oc24 kV24 dc24 pm24 cd24 ct24 : Value}
    (a24 : PySem.W.nsIn K mainGlobals "is_falling" = some (some (.ref f24)))
    (l24 : K.lookup f24 = some ⟨oc24, od24, .func (PySem.W.fnOf "is_falling" "is_falling" (defArgs stis_falling) (defBody stis_falling) (defScope stis_falling) .none kV24 dc24 pm24 an24 cd24 ct24), sl24⟩)
    (c24 : PySem.W.codeIn K cd24 "is_falling" = true) (k24 : PySem.W.keepIn K (.ref f24) = true)
    {f25 : Addr} {od25 an25 : Option Addr} {sl25 : Array (Option Value)} {oc25 kV25 dc25 pm25 cd25 ct25 : Value}
    (a25 : PySem.W.nsIn K mainGlobals "are_rows" = some (some (.ref f25)))
    (l25 : K.lookup f25 = some ⟨oc25, od25, .func (PySem.W.fnOf "are_rows" "are_rows" (defArgs stare_rows) (defBody stare_rows) (defScope stare_rows) .none kV25 dc25 pm25 an25 cd25 ct25), sl25⟩)
    (c25 : PySem.W.codeIn K cd25 "are_rows" = true) (k25 : PySem.W.keepIn K (.ref f25) = true)
    {f26 : Addr} {od26 an26 : Option Addr} {sl26 : Array (Option Value)} {oc26 kV26 dc26 pm26 cd26 ct26 : Value}
    (a26 : PySem.W.nsIn K mainGlobals "share_of" = some (some (.ref f26)))
    (l26 : K.lookup f26 = some ⟨oc26, od26, .func (PySem.W.fnOf "share_of" "share_of" (defArgs stshare_of) (defBody stshare_of) (defScope stshare_of) .none kV26 dc26 pm26 an26 cd26 ct26), sl26⟩)
    (c26 : PySem.W.codeIn K cd26 "share_of" = true) (k26 : PySem.W.keepIn K (.ref f26) = true)
    {f29 : Addr} {od29 an29 : Option Addr} {sl29 : Array (Option Value)} {oc29 kV29 dc29 pm29 cd29 ct29 : Value}
    (a29 : PySem.W.nsIn K mainGlobals "is_box" = some (some (.ref f29)))
    (l29 : K.lookup f29 = some ⟨oc29, od29, .func (PySem.W.fnOf "is_box" "is_box" (defArgs stis_box) (defBody stis_box) (defScope stis_box) .none kV29 dc29 pm29 an29 cd29 ct29), sl29⟩)
    (c29 : PySem.W.codeIn K cd29 "is_box" = true) (k29 : PySem.W.keepIn K (.ref f29) = true)
    {f30 : Addr} {od30 an30 : Option Addr} {sl30 : Array (Option Value)} {oc30 kV30 dc30 pm30 cd30 ct30 : Value}
    (a30 : PySem.W.nsIn K mainGlobals "need_box" = some (some (.ref f30)))
    (l30 : K.lookup f30 = some ⟨oc30, od30, .func (PySem.W.fnOf "need_box" "need_box" (defArgs stneed_box) (defBody stneed_box) (defScope stneed_box) .none kV30 dc30 pm30 an30 cd30 ct30), sl30⟩)
    (c30 : PySem.W.codeIn K cd30 "need_box" = true) (k30 : PySem.W.keepIn K (.ref f30) = true)
    {f31 : Addr} {od31 an31 : Option Addr} {sl31 : Array (Option Value)} {oc31 kV31 dc31 pm31 cd31 ct31 : Value}
    (a31 : PySem.W.nsIn K mainGlobals "fits_in" = some (some (.ref f31)))
    (l31 : K.lookup f31 = some ⟨oc31, od31, .func (PySem.W.fnOf "fits_in" "fits_in" (defArgs stfits_in) (defBody stfits_in) (defScope stfits_in) .none kV31 dc31 pm31 an31 cd31 ct31), sl31⟩)
    (c31 : PySem.W.codeIn K cd31 "fits_in" = true) (k31 : PySem.W.keepIn K (.ref f31) = true)
    {f32 : Addr} {od32 an32 : Option Addr} {sl32 : Array (Option Value)} {oc32 kV32 dc32 pm32 cd32 ct32 : Value}
    (a32 : PySem.W.nsIn K mainGlobals "full_share" = some (some (.ref f32)))
    (l32 : K.lookup f32 = some ⟨oc32, od32, .func (PySem.W.fnOf "full_share" "full_share" (defArgs stfull_share) (defBody stfull_share) (defScope stfull_share) .none kV32 dc32 pm32 an32 cd32 ct32), sl32⟩)
    (c32 : PySem.W.codeIn K cd32 "full_share" = true) (k32 : PySem.W.keepIn K (.ref f32) = true)
    {f34 : Addr} {od34 an34 : Option Addr} {sl34 : Array (Option Value)} {oc34 kV34 dc34 pm34 cd34 ct34 : Value}
    (a34 : PySem.W.nsIn K mainGlobals "_law_pen" = some (some (.ref f34)))
    (l34 : K.lookup f34 = some ⟨oc34, od34, .func (PySem.W.fnOf "_law_pen" "_law_pen" (defArgs st_law_pen) (defBody st_law_pen) (defScope st_law_pen) .none kV34 dc34 pm34 an34 cd34 ct34), sl34⟩)
    (c34 : PySem.W.codeIn K cd34 "_law_pen" = true) (k34 : PySem.W.keepIn K (.ref f34) = true)
    {f35 : Addr} {od35 an35 : Option Addr} {sl35 : Array (Option Value)} {oc35 kV35 dc35 pm35 cd35 ct35 : Value}
    (a35 : PySem.W.nsIn K mainGlobals "_law_draw" = some (some (.ref f35)))
    (l35 : K.lookup f35 = some ⟨oc35, od35, .func (PySem.W.fnOf "_law_draw" "_law_draw" (defArgs st_law_draw) (defBody st_law_draw) (defScope st_law_draw) .none kV35 dc35 pm35 an35 cd35 ct35), sl35⟩)
    (c35 : PySem.W.codeIn K cd35 "_law_draw" = true) (k35 : PySem.W.keepIn K (.ref f35) = true)
    {f36 : Addr} {od36 an36 : Option Addr} {sl36 : Array (Option Value)} {oc36 kV36 dc36 pm36 cd36 ct36 : Value}
    (a36 : PySem.W.nsIn K mainGlobals "_law_sides" = some (some (.ref f36)))
    (l36 : K.lookup f36 = some ⟨oc36, od36, .func (PySem.W.fnOf "_law_sides" "_law_sides" (defArgs st_law_sides) (defBody st_law_sides) (defScope st_law_sides) .none kV36 dc36 pm36 an36 cd36 ct36), sl36⟩)
    (c36 : PySem.W.codeIn K cd36 "_law_sides" = true) (k36 : PySem.W.keepIn K (.ref f36) = true)
    {f37 : Addr} {od37 an37 : Option Addr} {sl37 : Array (Option Value)} {oc37 kV37 dc37 pm37 cd37 ct37 : Value}
    (a37 : PySem.W.nsIn K mainGlobals "_law_share" = some (some (.ref f37)))
    (l37 : K.lookup f37 = some ⟨oc37, od37, .func (PySem.W.fnOf "_law_share" "_law_share" (defArgs st_law_share) (defBody st_law_share) (defScope st_law_share) .none kV37 dc37 pm37 an37 cd37 ct37), sl37⟩)
    (c37 : PySem.W.codeIn K cd37 "_law_share" = true) (k37 : PySem.W.keepIn K (.ref f37) = true)
    {f38 : Addr} {od38 an38 : Option Addr} {sl38 : Array (Option Value)} {oc38 kV38 dc38 pm38 cd38 ct38 : Value}
    (a38 : PySem.W.nsIn K mainGlobals "_law_whole" = some (some (.ref f38)))
    (l38 : K.lookup f38 = some ⟨oc38, od38, .func (PySem.W.fnOf "_law_whole" "_law_whole" (defArgs st_law_whole) (defBody st_law_whole) (defScope st_law_whole) .none kV38 dc38 pm38 an38 cd38 ct38), sl38⟩)
    (c38 : PySem.W.codeIn K cd38 "_law_whole" = true) (k38 : PySem.W.keepIn K (.ref f38) = true)
    {f39 : Addr} {od39 an39 : Option Addr} {sl39 : Array (Option Value)} {oc39 kV39 dc39 pm39 cd39 ct39 : Value}
    (a39 : PySem.W.nsIn K mainGlobals "_law_word" = some (some (.ref f39)))
    (l39 : K.lookup f39 = some ⟨oc39, od39, .func (PySem.W.fnOf "_law_word" "_law_word" (defArgs st_law_word) (defBody st_law_word) (defScope st_law_word) .none kV39 dc39 pm39 an39 cd39 ct39), sl39⟩)
    (c39 : PySem.W.codeIn K cd39 "_law_word" = true) (k39 : PySem.W.keepIn K (.ref f39) = true)
    {f40 : Addr} {od40 an40 : Option Addr} {sl40 : Array (Option Value)} {oc40 kV40 dc40 pm40 cd40 ct40 : Value}
    (a40 : PySem.W.nsIn K mainGlobals "_law_bent" = some (some (.ref f40)))
    (l40 : K.lookup f40 = some ⟨oc40, od40, .func (PySem.W.fnOf "_law_bent" "_law_bent" (defArgs st_law_bent) (defBody st_law_bent) (defScope st_law_bent) .none kV40 dc40 pm40 an40 cd40 ct40), sl40⟩)
    (c40 : PySem.W.codeIn K cd40 "_law_bent" = true) (k40 : PySem.W.keepIn K (.ref f40) = true)
    {f41 : Addr} {od41 an41 : Option Addr} {sl41 : Array (Option Value)} {oc41 kV41 dc41 pm41 cd41 ct41 : Value}
    (a41 : PySem.W.nsIn K mainGlobals "_law_is" = some (some (.ref f41)))
    (l41 : K.lookup f41 = some ⟨oc41, od41, .func (PySem.W.fnOf "_law_is" "_law_is" (defArgs st_law_is) (defBody st_law_is) (defScope st_law_is) .none kV41 dc41 pm41 an41 cd41 ct41), sl41⟩)
    (c41 : PySem.W.codeIn K cd41 "_law_is" = true) (k41 : PySem.W.keepIn K (.ref f41) = true)
    {f42 : Addr} {od42 an42 : Option Addr} {sl42 : Array (Option Value)} {oc42 kV42 dc42 pm42 cd42 ct42 : Value}
    (a42 : PySem.W.nsIn K mainGlobals "_law_right" = some (some (.ref f42)))
    (l42 : K.lookup f42 = some ⟨oc42, od42, .func (PySem.W.fnOf "_law_right" "_law_right" (defArgs st_law_right) (defBody st_law_right) (defScope st_law_right) .none kV42 dc42 pm42 an42 cd42 ct42), sl42⟩)
    (c42 : PySem.W.codeIn K cd42 "_law_right" = true) (k42 : PySem.W.keepIn K (.ref f42) = true)
    {f43 : Addr} {od43 an43 : Option Addr} {sl43 : Array (Option Value)} {oc43 kV43 dc43 pm43 cd43 ct43 : Value}
    (a43 : PySem.W.nsIn K mainGlobals "law" = some (some (.ref f43)))
    (l43 : K.lookup f43 = some ⟨oc43, od43, .func (PySem.W.fnOf "law" "law" (defArgs stlaw) (defBody stlaw) (defScope stlaw) .none kV43 dc43 pm43 an43 cd43 ct43), sl43⟩)
    (c43 : PySem.W.codeIn K cd43 "law" = true) (k43 : PySem.W.keepIn K (.ref f43) = true)
    {f1 : Addr} (a1 : PySem.W.nsIn K mainGlobals "GridError" = some (some (.ref f1)))
    {f2 : Addr} (a2 : PySem.W.nsIn K mainGlobals "NoShare" = some (some (.ref f2)))
    {f3 : Addr} (a3 : PySem.W.nsIn K mainGlobals "NoBox" = some (some (.ref f3)))
    {f4 : Addr} (a4 : PySem.W.nsIn K mainGlobals "NoFit" = some (some (.ref f4)))
    {f5 : Addr} (a5 : PySem.W.nsIn K mainGlobals "NoNumber" = some (some (.ref f5)))
    {f6 : Addr} (a6 : PySem.W.nsIn K mainGlobals "NoRow" = some (some (.ref f6)))
    {f7 : Addr} (a7 : PySem.W.nsIn K mainGlobals "NoCell" = some (some (.ref f7)))
    {f8 : Addr} (a8 : PySem.W.nsIn K mainGlobals "NoChain" = some (some (.ref f8)))
    {f9 : Addr} (a9 : PySem.W.nsIn K mainGlobals "NoSquare" = some (some (.ref f9)))
    {f10 : Addr} (a10 : PySem.W.nsIn K mainGlobals "NoFilling" = some (some (.ref f10)))
    {f11 : Addr} (a11 : PySem.W.nsIn K mainGlobals "NoWalk" = some (some (.ref f11)))
    {f12 : Addr} (a12 : PySem.W.nsIn K mainGlobals "NoStack" = some (some (.ref f12)))
    {f13 : Addr} (a13 : PySem.W.nsIn K mainGlobals "NoPile" = some (some (.ref f13)))
    {f14 : Addr} (a14 : PySem.W.nsIn K mainGlobals "NoWay" = some (some (.ref f14)))
    {f15 : Addr} (a15 : PySem.W.nsIn K mainGlobals "NoBack" = some (some (.ref f15)))
    {f16 : Addr} (a16 : PySem.W.nsIn K mainGlobals "NoText" = some (some (.ref f16)))
    {f17 : Addr} (a17 : PySem.W.nsIn K mainGlobals "NoWord" = some (some (.ref f17)))
    (x3_ : PySem.W.excIn K f3 [.type "ValueError", .type "Exception", .type "BaseException", .type "object"] "ValueError.__new__" = true)
    (k3_ : PySem.W.keepIn K (.ref f3) = true)
    (t3_ : PySem.W.typeIn K (.ref f3) = some (.type "type"))
    (v3_ : PySem.W.kitOne K (.ref f3) (.type "ValueError") = some true)
    (m3_ : PySem.W.exmOne K (.ref f3) (.ref f1) = some true)
    (e3_hg_ : PySem.W.findIn K (.ref f3) "__getattribute__" = some (some (.builtin "BaseException.__getattribute__")))
    (e3_hk_ : PySem.W.findIn K (.ref f3) "__getattr__" = some none)
    (e3_hs_ : PySem.W.subIn K (.ref f3) (.type "BaseException") = some true)
    (e3_hd_ : PySem.W.hasDictIn K f3 = true)
    (e3_ha_ : PySem.W.findIn K (.ref f3) "__class__" = some (some (.builtin "object.__class__")))
    (e3_hn_ : PySem.W.specialIn K (.builtin "object.__class__") "__get__" = some (some (.builtin "getset_descriptor.__get__")))
    (e3_ht_ : PySem.W.takesIn K (.builtin "object.__class__") = some true)
    (e3_hm_ : PySem.W.mroIn K f3 (.type "object") = some true)
    (q3_1_ : PySem.W.kitOne K (.ref f3) (.ref f1) = some true)
    (q3_2_ : PySem.W.kitOne K (.ref f3) (.ref f2) = some false)
    (q3_3_ : PySem.W.kitOne K (.ref f3) (.ref f3) = some true)
    (q3_4_ : PySem.W.kitOne K (.ref f3) (.ref f4) = some false)
    (q3_5_ : PySem.W.kitOne K (.ref f3) (.ref f5) = some false)
    (q3_6_ : PySem.W.kitOne K (.ref f3) (.ref f6) = some false)
    (q3_7_ : PySem.W.kitOne K (.ref f3) (.ref f7) = some false)
    (q3_8_ : PySem.W.kitOne K (.ref f3) (.ref f8) = some false)
    (q3_9_ : PySem.W.kitOne K (.ref f3) (.ref f9) = some false)
    (q3_10_ : PySem.W.kitOne K (.ref f3) (.ref f10) = some false)
    (q3_11_ : PySem.W.kitOne K (.ref f3) (.ref f11) = some false)
    (q3_12_ : PySem.W.kitOne K (.ref f3) (.ref f12) = some false)
    (q3_13_ : PySem.W.kitOne K (.ref f3) (.ref f13) = some false)
    (q3_14_ : PySem.W.kitOne K (.ref f3) (.ref f14) = some false)
    (q3_15_ : PySem.W.kitOne K (.ref f3) (.ref f15) = some false)
    (q3_16_ : PySem.W.kitOne K (.ref f3) (.ref f16) = some false)
    (q3_17_ : PySem.W.kitOne K (.ref f3) (.ref f17) = some false)
    {t_MOST_ROWS : Tok} (z_MOST_ROWS : PySem.W.nsIn K mainGlobals "MOST_ROWS" = some (some (.int 20 t_MOST_ROWS)))
    {t_LONGEST_ROW : Tok} (z_LONGEST_ROW : PySem.W.nsIn K mainGlobals "LONGEST_ROW" = some (some (.int 20 t_LONGEST_ROW)))
    {t_LONGEST_SIDE : Tok} (z_LONGEST_SIDE : PySem.W.nsIn K mainGlobals "LONGEST_SIDE" = some (some (.int 20 t_LONGEST_SIDE)))
    (z_ValueError : PySem.W.nsIn K mainGlobals "ValueError" = some none)
    (z_abs : PySem.W.nsIn K mainGlobals "abs" = some none)
    (z_all : PySem.W.nsIn K mainGlobals "all" = some none)
    (z_bool : PySem.W.nsIn K mainGlobals "bool" = some none)
    (z_dict : PySem.W.nsIn K mainGlobals "dict" = some none)
    (z_int : PySem.W.nsIn K mainGlobals "int" = some none)
    (z_isinstance : PySem.W.nsIn K mainGlobals "isinstance" = some none)
    (z_len : PySem.W.nsIn K mainGlobals "len" = some none)
    (z_list : PySem.W.nsIn K mainGlobals "list" = some none)
    (z_max : PySem.W.nsIn K mainGlobals "max" = some none)
    (z_min : PySem.W.nsIn K mainGlobals "min" = some none)
    (z_range : PySem.W.nsIn K mainGlobals "range" = some none)
    (z_repr : PySem.W.nsIn K mainGlobals "repr" = some none)
    (z_tuple : PySem.W.nsIn K mainGlobals "tuple" = some none)
    (z_zip : PySem.W.nsIn K mainGlobals "zip" = some none)
    {qp : Program} (tops : Tops qp mg h) (rc_ : ((recsOf qp).any fun e => e.name == ("_law_right" : Str)) = true) {lc lp : Addr} {le : Value} {ld : Option Addr} {lus : Array Value} {lsl : Array (Option Value)}
    (lu_ : cd42 = .ref lc) (lv_ : K.lookup lc = some ⟨le, ld, .fields lus, lsl⟩) (ly_ : lus[11]? = some (.ref lp)) (ln_ : K.lookup lp = none)
    : ∃ (fd : FuncData) (cs : List (Addr × Addr)) (sp : Sp), (∀ (s : Shared) (v : Value), BindsTo s fd ⟨[v], []⟩ [("_law_script", v)]) ∧ (∀ p ∈ cs, h.get? p.2 = some emptyT) ∧ (∀ p ∈ cs, K.lookup p.2 = none) ∧ (∀ p ∈ cs, PySem.W.CodeHd h p.1 p.2) ∧
      (∀ base : Heap, K.In base → base.Ns mainGlobals mg → (∀ p ∈ cs, LamX.TabB base mg p.1 p.2) → FnG l.prog w K mg base 9 fa fd ["_law_script"] sp) ∧ ∀ (H : Hp) (a : Addr) (ns : List Int), ns.length ≤ 63 → (∀ p ∈ cs, H p.2 = some (.tbl #[])) → SqL K H a (ns.map V.int) → sp [.ref a] H (fun v _ => v = .bl true) E0 := by
  have e := hfa.symm.trans (PySem.W.mg_of X G a43)
  cases e
  have F19 := fun_mk (st := stis_whole) l19 c19 k19
  have F20 := fun_mk (st := stis_whole_from) l20 c20 k20
  have F24 := fun_mk (st := stis_falling) l24 c24 k24
  have F25 := fun_mk (st := stare_rows) l25 c25 k25
  have F26 := fun_mk (st := stshare_of) l26 c26 k26
  have F29 := fun_mk (st := stis_box) l29 c29 k29
  have F30 := fun_mk (st := stneed_box) l30 c30 k30
  have F31 := fun_mk (st := stfits_in) l31 c31 k31
  have F32 := fun_mk (st := stfull_share) l32 c32 k32
  have F34 := fun_mk (st := st_law_pen) l34 c34 k34
  have F35 := fun_mk (st := st_law_draw) l35 c35 k35
  have F36 := fun_mk (st := st_law_sides) l36 c36 k36
  have F37 := fun_mk (st := st_law_share) l37 c37 k37
  have F38 := fun_mk (st := st_law_whole) l38 c38 k38
  have F39 := fun_mk (st := st_law_word) l39 c39 k39
  have F40 := fun_mk (st := st_law_bent) l40 c40 k40
  have F41 := fun_mk (st := st_law_is) l41 c41 k41
  have F42 := fun_mk (st := st_law_right) l42 c42 k42
  have F43 := fun_mk (st := stlaw) l43 c43 k43
  have T : Txt K mg (fun i => match i with | 19 => f19 | 20 => f20 | 24 => f24 | 25 => f25 | 26 => f26 | 29 => f29 | 30 => f30 | 31 => f31 | 32 => f32 | 34 => f34 | 35 => f35 | 36 => f36 | 37 => f37 | 38 => f38 | 39 => f39 | 40 => f40 | 41 => f41 | 42 => f42 | 1 => f1 | 2 => f2 | 3 => f3 | 4 => f4 | 5 => f5 | 6 => f6 | 7 => f7 | 8 => f8 | 9 => f9 | 10 => f10 | 11 => f11 | 12 => f12 | 13 => f13 | 14 => f14 | 15 => f15 | 16 => f16 | 17 => f17 | _ => fa) (fun i => match i with | 19 => PySem.W.fnOf "is_whole" "is_whole" (defArgs stis_whole) (defBody stis_whole) (defScope stis_whole) .none kV19 dc19 pm19 an19 cd19 ct19 | 20 => PySem.W.fnOf "is_whole_from" "is_whole_from" (defArgs stis_whole_from) (defBody stis_whole_from) (defScope stis_whole_from) .none kV20 dc20 pm20 an20 cd20 ct20 | 24 => PySem.W.fnOf "is_falling" "is_falling" (defArgs stis_falling) (defBody stis_falling) (defScope stis_falling) .none kV24 dc24 pm24 an24 cd24 ct24 | 25 => PySem.W.fnOf "are_rows" "are_rows" (defArgs stare_rows) (defBody stare_rows) (defScope stare_rows) .none kV25 dc25 pm25 an25 cd25 ct25 | 26 => PySem.W.fnOf "share_of" "share_of" (defArgs stshare_of) (defBody stshare_of) (defScope stshare_of) .none kV26 dc26 pm26 an26 cd26 ct26 | 29 => PySem.W.fnOf "is_box" "is_box" (defArgs stis_box) (defBody stis_box) (defScope stis_box) .none kV29 dc29 pm29 an29 cd29 ct29 | 30 => PySem.W.fnOf "need_box" "need_box" (defArgs stneed_box) (defBody stneed_box) (defScope stneed_box) .none kV30 dc30 pm30 an30 cd30 ct30 | 31 => PySem.W.fnOf "fits_in" "fits_in" (defArgs stfits_in) (defBody stfits_in) (defScope stfits_in) .none kV31 dc31 pm31 an31 cd31 ct31 | 32 => PySem.W.fnOf "full_share" "full_share" (defArgs stfull_share) (defBody stfull_share) (defScope stfull_share) .none kV32 dc32 pm32 an32 cd32 ct32 | 34 => PySem.W.fnOf "_law_pen" "_law_pen" (defArgs st_law_pen) (defBody st_law_pen) (defScope st_law_pen) .none kV34 dc34 pm34 an34 cd34 ct34 | 35 => PySem.W.fnOf "_law_draw" "_law_draw" (defArgs st_law_draw) (defBody st_law_draw) (defScope st_law_draw) .none kV35 dc35 pm35 an35 cd35 ct35 | 36 => PySem.W.fnOf "_law_sides" "_law_sides" (defArgs st_law_sides) (defBody st_law_sides) (defScope st_law_sides) .none kV36 dc36 pm36 an36 cd36 ct36 | 37 => PySem.W.fnOf "_law_share" "_law_share" (defArgs st_law_share) (defBody st_law_share) (defScope st_law_share) .none kV37 dc37 pm37 an37 cd37 ct37 | 38 => PySem.W.fnOf "_law_whole" "_law_whole" (defArgs st_law_whole) (defBody st_law_whole) (defScope st_law_whole) .none kV38 dc38 pm38 an38 cd38 ct38 | 39 => PySem.W.fnOf "_law_word" "_law_word" (defArgs st_law_word) (defBody st_law_word) (defScope st_law_word) .none kV39 dc39 pm39 an39 cd39 ct39 | 40 => PySem.W.fnOf "_law_bent" "_law_bent" (defArgs st_law_bent) (defBody st_law_bent) (defScope st_law_bent) .none kV40 dc40 pm40 an40 cd40 ct40 | 41 => PySem.W.fnOf "_law_is" "_law_is" (defArgs st_law_is) (defBody st_law_is) (defScope st_law_is) .none kV41 dc41 pm41 an41 cd41 ct41 | 42 => PySem.W.fnOf "_law_right" "_law_right" (defArgs st_law_right) (defBody st_law_right) (defScope st_law_right) .none kV42 dc42 pm42 an42 cd42 ct42 | 43 => PySem.W.fnOf "law" "law" (defArgs stlaw) (defBody stlaw) (defScope stlaw) .none kV43 dc43 pm43 an43 cd43 ct43 | _ => PySem.W.fnOf "law" "law" (defArgs stlaw) (defBody stlaw) (defScope stlaw) .none kV43 dc43 pm43 an43 cd43 ct43) := {
    F19 := F19
    g19 := PySem.W.mg_of X G a19
    b19 := F19.binds (ps := ["thing"]) fun _ _ _ _ _ _ us hl => match us, hl with | [_], _ => rfl
    F20 := F20
    g20 := PySem.W.mg_of X G a20
    b20 := F20.binds (ps := ["least", "most", "thing"]) fun _ _ _ _ _ _ us hl => match us, hl with | [_, _, _], _ => rfl
    F24 := F24
    g24 := PySem.W.mg_of X G a24
    b24 := F24.binds (ps := ["numbers"]) fun _ _ _ _ _ _ us hl => match us, hl with | [_], _ => rfl
    F25 := F25
    g25 := PySem.W.mg_of X G a25
    b25 := F25.binds (ps := ["things", "shortest"]) fun _ _ _ _ _ _ us hl => match us, hl with | [_, _], _ => rfl
    F26 := F26
    g26 := PySem.W.mg_of X G a26
    b26 := F26.binds (ps := ["things"]) fun _ _ _ _ _ _ us hl => match us, hl with | [_], _ => rfl
    F29 := F29
    g29 := PySem.W.mg_of X G a29
    b29 := F29.binds (ps := ["thing"]) fun _ _ _ _ _ _ us hl => match us, hl with | [_], _ => rfl
    F30 := F30
    g30 := PySem.W.mg_of X G a30
    b30 := F30.binds (ps := ["thing"]) fun _ _ _ _ _ _ us hl => match us, hl with | [_], _ => rfl
    F31 := F31
    g31 := PySem.W.mg_of X G a31
    b31 := F31.binds (ps := ["box", "share"]) fun _ _ _ _ _ _ us hl => match us, hl with | [_, _], _ => rfl
    F32 := F32
    g32 := PySem.W.mg_of X G a32
    b32 := F32.binds (ps := ["box"]) fun _ _ _ _ _ _ us hl => match us, hl with | [_], _ => rfl
    F34 := F34
    g34 := PySem.W.mg_of X G a34
    b34 := F34.binds (ps := ["_law_script", "_law_k"]) fun _ _ _ _ _ _ us hl => match us, hl with | [_, _], _ => rfl
    F35 := F35
    g35 := PySem.W.mg_of X G a35
    b35 := F35.binds (ps := ["_law_pen_here", "_law_size"]) fun _ _ _ _ _ _ us hl => match us, hl with | [_, _], _ => rfl
    F36 := F36
    g36 := PySem.W.mg_of X G a36
    b36 := F36.binds (ps := ["_law_pen_here"]) fun _ _ _ _ _ _ us hl => match us, hl with | [_], _ => rfl
    F37 := F37
    g37 := PySem.W.mg_of X G a37
    b37 := F37.binds (ps := ["_law_pen_here", "_law_high", "_law_wide"]) fun _ _ _ _ _ _ us hl => match us, hl with | [_, _, _], _ => rfl
    F38 := F38
    g38 := PySem.W.mg_of X G a38
    b38 := F38.binds (ps := ["_law_thing"]) fun _ _ _ _ _ _ us hl => match us, hl with | [_], _ => rfl
    F39 := F39
    g39 := PySem.W.mg_of X G a39
    b39 := F39.binds (ps := ["_law_asked"]) fun _ _ _ _ _ _ us hl => match us, hl with | [_], _ => rfl
    F40 := F40
    g40 := PySem.W.mg_of X G a40
    b40 := F40.binds (ps := ["_law_pen_here", "_law_box"]) fun _ _ _ _ _ _ us hl => match us, hl with | [_, _], _ => rfl
    F41 := F41
    g41 := PySem.W.mg_of X G a41
    b41 := F41.binds (ps := ["_law_thing"]) fun _ _ _ _ _ _ us hl => match us, hl with | [_], _ => rfl
    F42 := F42
    g42 := PySem.W.mg_of X G a42
    b42 := F42.binds (ps := ["_law_thing", "_law_shares"]) fun _ _ _ _ _ _ us hl => match us, hl with | [_, _], _ => rfl
    g1 := PySem.W.mg_of X G a1
    g2 := PySem.W.mg_of X G a2
    g3 := PySem.W.mg_of X G a3
    g4 := PySem.W.mg_of X G a4
    g5 := PySem.W.mg_of X G a5
    g6 := PySem.W.mg_of X G a6
    g7 := PySem.W.mg_of X G a7
    g8 := PySem.W.mg_of X G a8
    g9 := PySem.W.mg_of X G a9
    g10 := PySem.W.mg_of X G a10
    g11 := PySem.W.mg_of X G a11
    g12 := PySem.W.mg_of X G a12
    g13 := PySem.W.mg_of X G a13
    g14 := PySem.W.mg_of X G a14
    g15 := PySem.W.mg_of X G a15
    g16 := PySem.W.mg_of X G a16
    g17 := PySem.W.mg_of X G a17
    x3 := x3_
    k3 := k3_
    t3 := t3_
    v3 := v3_
    m3 := m3_
    e3 := ⟨e3_hg_, e3_hk_, e3_hs_, e3_hd_, e3_ha_, e3_hn_, e3_ht_, e3_hm_⟩
    q3_1 := q3_1_
    q3_2 := q3_2_
    q3_3 := q3_3_
    q3_4 := q3_4_
    q3_5 := q3_5_
    q3_6 := q3_6_
    q3_7 := q3_7_
    q3_8 := q3_8_
    q3_9 := q3_9_
    q3_10 := q3_10_
    q3_11 := q3_11_
    q3_12 := q3_12_
    q3_13 := q3_13_
    q3_14 := q3_14_
    q3_15 := q3_15_
    q3_16 := q3_16_
    q3_17 := q3_17_
    c_MOST_ROWS := ⟨_, PySem.W.mg_of X G z_MOST_ROWS⟩
    c_LONGEST_ROW := ⟨_, PySem.W.mg_of X G z_LONGEST_ROW⟩
    c_LONGEST_SIDE := ⟨_, PySem.W.mg_of X G z_LONGEST_SIDE⟩
    m_ValueError := PySem.W.mg_none_of X G z_ValueError
    m_abs := PySem.W.mg_none_of X G z_abs
    m_all := PySem.W.mg_none_of X G z_all
    m_bool := PySem.W.mg_none_of X G z_bool
    m_dict := PySem.W.mg_none_of X G z_dict
    m_int := PySem.W.mg_none_of X G z_int
    m_isinstance := PySem.W.mg_none_of X G z_isinstance
    m_len := PySem.W.mg_none_of X G z_len
    m_list := PySem.W.mg_none_of X G z_list
    m_max := PySem.W.mg_none_of X G z_max
    m_min := PySem.W.mg_none_of X G z_min
    m_range := PySem.W.mg_none_of X G z_range
    m_repr := PySem.W.mg_none_of X G z_repr
    m_tuple := PySem.W.mg_none_of X G z_tuple
    m_zip := PySem.W.mg_none_of X G z_zip }
  obtain ⟨t1, t2⟩ := tops_at X tops rc_ (PySem.W.mg_of X G a42) l42 lu_ lv_ ly_
  have one : ∀ {q : Addr × Addr → Prop}, q (lc, lp) → ∀ p ∈ [(lc, lp)], q p := fun h p m => by rw [List.mem_singleton.mp m]; exact h
  exact ⟨_, [(lc, lp)], sp_law K lp, fun s v => .of_eq rfl, one t1, one ln_, one t2, fun base _ _ tb => oklaw (tp := lp) T ⟨lc, lu_, tb (lc, lp) List.mem_cons_self⟩ F43, fun H a ns hl hT hS => ⟨a, ns, rfl, hS, hl, hT (lc, lp) List.mem_cons_self, fun _ => rfl⟩⟩
end K04
open PySem PySem.W PyProof.Rows
set_option maxHeartbeats 0 in
theorem PySem.Challenge.cw_gridshares_k04_what_is_a_box_holds : PySem.Challenge.rw_gridshares_k04_what_is_a_box.Holds := by
  w_on; o_law; k_head; (case hw => w_witness2)
  k_fill
  refine GS.walkGT (l := PySem.Challenge.rw_gridshares_k04_what_is_a_box) (n := 63) (k := 9) (x := "_law_script") rfl (by decide) rfl ⟨rfl, by decide, by decide⟩ (fun w h Y => PySem.W.km_in_of Y) ?F
  case F =>
    intro w mg fa h KX G hmg tops
    refine' K04.all_mk KX G hmg ?a19 ?l19 ?c19 ?k19 ?a20 ?l20 ?c20 ?k20 ?a24 ?l24 ?c24 ?k24 ?a25 ?l25 ?c25 ?k25 ?a26 ?l26 ?c26 ?k26 ?a29 ?l29 ?c29 ?k29 ?a30 ?l30 ?c30 ?k30 ?a31 ?l31 ?c31 ?k31 ?a32 ?l32 ?c32 ?k32 ?a34 ?l34 ?c34 ?k34 ?a35 ?l35 ?c35 ?k35 ?a36 ?l36 ?c36 ?k36 ?a37 ?l37 ?c37 ?k37 ?a38 ?l38 ?c38 ?k38 ?a39 ?l39 ?c39 ?k39 ?a40 ?l40 ?c40 ?k40 ?a41 ?l41 ?c41 ?k41 ?a42 ?l42 ?c42 ?k42 ?a43 ?l43 ?c43 ?k43 ?a1 ?a2 ?a3 ?a4 ?a5 ?a6 ?a7 ?a8 ?a9 ?a10 ?a11 ?a12 ?a13 ?a14 ?a15 ?a16 ?a17 ?x3_ ?k3_ ?t3_ ?v3_ ?m3_ ?e3_hg_ ?e3_hk_ ?e3_hs_ ?e3_hd_ ?e3_ha_ ?e3_hn_ ?e3_ht_ ?e3_hm_ ?q3_1_ ?q3_2_ ?q3_3_ ?q3_4_ ?q3_5_ ?q3_6_ ?q3_7_ ?q3_8_ ?q3_9_ ?q3_10_ ?q3_11_ ?q3_12_ ?q3_13_ ?q3_14_ ?q3_15_ ?q3_16_ ?q3_17_ ?z_MOST_ROWS ?z_LONGEST_ROW ?z_LONGEST_SIDE ?z_ValueError ?z_abs ?z_all ?z_bool ?z_dict ?z_int ?z_isinstance ?z_len ?z_list ?z_max ?z_min ?z_range ?z_repr ?z_tuple ?z_zip tops ?rc_ ?lu_ ?lv_ ?ly_ ?ln_
    (case a19 => k_is); (case l19 => k_is); (case c19 => k_is); (case k19 => k_is); (case a20 => k_is); (case l20 => k_is); (case c20 => k_is); (case k20 => k_is); (case a24 => k_is); (case l24 => k_is); (case c24 => k_is); (case k24 => k_is); (case a25 => k_is); (case l25 => k_is); (case c25 => k_is); (case k25 => k_is); (case a26 => k_is); (case l26 => k_is); (case c26 => k_is); (case k26 => k_is); (case a29 => k_is); (case l29 => k_is); (case c29 => k_is); (case k29 => k_is); (case a30 => k_is); (case l30 => k_is); (case c30 => k_is); (case k30 => k_is); (case a31 => k_is); (case l31 => k_is); (case c31 => k_is); (case k31 => k_is); (case a32 => k_is); (case l32 => k_is); (case c32 => k_is); (case k32 => k_is); (case a34 => k_is); (case l34 => k_is); (case c34 => k_is); (case k34 => k_is); (case a35 => k_is); (case l35 => k_is); (case c35 => k_is); (case k35 => k_is); (case a36 => k_is); (case l36 => k_is); (case c36 => k_is); (case k36 => k_is); (case a37 => k_is); (case l37 => k_is); (case c37 => k_is); (case k37 => k_is); (case a38 => k_is); (case l38 => k_is); (case c38 => k_is); (case k38 => k_is); (case a39 => k_is); (case l39 => k_is); (case c39 => k_is); (case k39 => k_is); (case a40 => k_is); (case l40 => k_is); (case c40 => k_is); (case k40 => k_is); (case a41 => k_is); (case l41 => k_is); (case c41 => k_is); (case k41 => k_is); (case a42 => k_is); (case l42 => k_is); (case c42 => k_is); (case k42 => k_is); (case a43 => k_is); (case l43 => k_is); (case c43 => k_is); (case k43 => k_is); (case a1 => k_is); (case a2 => k_is); (case a3 => k_is); (case a4 => k_is); (case a5 => k_is); (case a6 => k_is); (case a7 => k_is); (case a8 => k_is); (case a9 => k_is); (case a10 => k_is); (case a11 => k_is); (case a12 => k_is); (case a13 => k_is); (case a14 => k_is); (case a15 => k_is); (case a16 => k_is); (case a17 => k_is); (case x3_ => k_exc); (case k3_ => first | rfl | k_is); (case t3_ => first | rfl | k_is); (case v3_ => first | rfl | k_is); (case m3_ => first | rfl | k_is); (case e3_hg_ => first | rfl | k_is); (case e3_hk_ => first | rfl | k_is); (case e3_hs_ => first | rfl | k_is); (case e3_hd_ => first | rfl | k_is); (case e3_ha_ => first | rfl | k_is); (case e3_hn_ => first | rfl | k_is); (case e3_ht_ => first | rfl | k_is); (case e3_hm_ => first | rfl | k_is); (case q3_1_ => first | rfl | k_is); (case q3_2_ => first | rfl | k_is); (case q3_3_ => first | rfl | k_is); (case q3_4_ => first | rfl | k_is); (case q3_5_ => first | rfl | k_is); (case q3_6_ => first | rfl | k_is); (case q3_7_ => first | rfl | k_is); (case q3_8_ => first | rfl | k_is); (case q3_9_ => first | rfl | k_is); (case q3_10_ => first | rfl | k_is); (case q3_11_ => first | rfl | k_is); (case q3_12_ => first | rfl | k_is); (case q3_13_ => first | rfl | k_is); (case q3_14_ => first | rfl | k_is); (case q3_15_ => first | rfl | k_is); (case q3_16_ => first | rfl | k_is); (case q3_17_ => first | rfl | k_is); (case z_MOST_ROWS => k_is); (case z_LONGEST_ROW => k_is); (case z_LONGEST_SIDE => k_is); (case z_ValueError => k_is); (case z_abs => k_is); (case z_all => k_is); (case z_bool => k_is); (case z_dict => k_is); (case z_int => k_is); (case z_isinstance => k_is); (case z_len => k_is); (case z_list => k_is); (case z_max => k_is); (case z_min => k_is); (case z_range => k_is); (case z_repr => k_is); (case z_tuple => k_is); (case z_zip => k_is); (case rc_ => rfl); (case lu_ => rfl); (case lv_ => k_is); (case ly_ => rfl); (case ln_ => first | rfl | k_is | decide)
