import PyProof.Rows.All
import Wide.All
import OpenK.AllK
import Wide.FinOn
import HandS.ForMost
import HandS.EndBits
import HandS.Wide
import HandS.IsInst
import PyProof.ReprRoads
import PyProof.ReprBulk
import KE.DataCmp
import KE.SortData
import HandS.SortRule
import HandS.TupAny
import HandS.CallLocal
import KE.DataMinMax
import HandS.Comp
import HandS.List
import HandS.Walk
import HandS.TupSets
import KE.KDictKeyed
import KE.KDictSum
import KE.KDictCopyH
import HandS.SetFor
import HandS.Strs
import HandS.SetBool
import HandS.DictComp
import HandS.SetKeys
import KE.GoesEnum
import HandS.Iter
import KE.GoesZip
import HandS.Zip
import HandS.Dict
import HandS.ForExc
import PyProof.DictCopy
import HandS.TupMul
import HandS.ExcInit
import KE.KExcSuper
import KE.KExcInit
import HandS.ExcIs
import HandS.ExcField
import KE.KExcIs
import HandS.ExcValue
import HandS.WordsExc
import HandS.Defaults
import PySem.Challenge.RW_fewturnsover_k13_what_machines_read
set_option Elab.async false
set_option linter.all false
set_option maxRecDepth 100000
set_option maxHeartbeats 4000000
namespace G0
open PySem PySem.Spec PyProof.Rows L2

/-! what repr tells of data of any depth -/
mutual
theorem nodict {K : PySem.W.Frag} {H : Hp} : ∀ (d : PyData) (v : V), Dp K H v d → d.hasDict = false
  | .none, _, _ => by simp [PyData.hasDict]
  | .bool _, _, _ => by simp [PyData.hasDict]
  | .int _, _, _ => by simp [PyData.hasDict]
  | .str _, _, _ => by simp [PyData.hasDict]
  | .list ds, _, h => by
    cases h with
    | lst _ ha => simp only [PyData.hasDict]; exact nodictAll ds _ ha
  | .tuple ds, _, h => by
    cases h with
    | tup _ ha => simp only [PyData.hasDict]; exact nodictAll ds _ ha
  | .dict _, _, h => by cases h
theorem nodictAll {K : PySem.W.Frag} {H : Hp} : ∀ (ds : List PyData) (vs : List V), DpAll K H vs ds → PyData.hasDictAll ds = false
  | [], _, _ => by simp [PyData.hasDictAll]
  | d :: ds, _, h => by
    cases h with
    | cons h1 h2 => simp only [PyData.hasDictAll, nodict d _ h1, nodictAll ds _ h2, Bool.or_self]
end

section
variable {X : Cx}
/-- repr(x) where nothing is being shown around -/
def rRepr (K : PySem.W.Frag) : List V → Hp → VK → Prop := fun xs H Q =>
  ∃ x d, xs = [x] ∧ Dp K H x d ∧ d.showable = true ∧ d.depth ≤ 60 ∧ d.shown.length ≤ sizeLine ∧ Q (.str d.shown) H
theorem call_reprD (gu : X.A.guards = some []) (ro : X.A.units + 64 < cLine) : CallR X (.builtin "repr") (rRepr X.K) := by
  intro pins s σ H xs us Q I rel hyp
  obtain ⟨x, d, rfl, dp, sh, dep, siz, fin⟩ := hyp
  obtain ⟨u, rfl, ru⟩ := vals1 rel
  cases dp with
  | non =>
    cases ru
    rw [PyData.shown_none] at fin
    exact PySem.P.repr_of_none ⟨.str _, H, I.tok _, ⟨_, rfl⟩, fin⟩
  | bl b =>
    cases ru
    rw [PyData.shown_bool] at fin
    exact PySem.P.repr_of_bool ⟨.str _, H, I.tok _, ⟨_, rfl⟩, by cases b <;> exact fin⟩
  | int i =>
    obtain ⟨t, rfl⟩ := ru
    rw [PyData.shown_int] at fin
    exact PySem.P.repr_of_int (by simpa [PyData.showable] using sh) ⟨.str _, H, I.tok _, ⟨_, rfl⟩, fin⟩
  | str z =>
    obtain ⟨t, rfl⟩ := ru
    rw [PyData.shown_str] at fin siz
    exact PySem.P.repr_of_str ⟨.str _, H, I.tok _, ⟨_, rfl⟩, fin⟩ siz
  | lst hs ha =>
    have hd := nodict _ _ (Dp.lst hs ha)
    obtain ⟨as, rd⟩ := Dp.reads I _ _ _ (Dp.lst hs ha) ru
    cases ru
    exact repr_of_reads' rd sh (fun q => absurd (q.symm.trans hd) (by decide)) gu (by omega) (fun _ _ e => e) (fun h' t k keep => ⟨.str _, H, I.kept keep, ⟨_, rfl⟩, fin⟩) siz
  | tup hs ha =>
    have hd := nodict _ _ (Dp.tup hs ha)
    obtain ⟨as, rd⟩ := Dp.reads I _ _ _ (Dp.tup hs ha) ru
    cases ru
    exact repr_of_reads' rd sh (fun q => absurd (q.symm.trans hd) (by decide)) gu (by omega) (fun _ _ e => e) (fun h' t k keep => ⟨.str _, H, I.kept keep, ⟨_, rfl⟩, fin⟩) siz
end
end G0

set_option maxHeartbeats 4000000
namespace G1
open PySem PySem.Spec PyProof.Rows L2

/-- the law's own def, run where nothing is around: its context knows that no repr is under way -/
structure LawDef (P : Program) (w : World) (K : PySem.W.Frag) (mg : Str → Option Value) (k : Nat) (fa : Addr) (x : Str) (want : Hp → Addr → List Int → Prop) : Prop where
  ex : ∃ (fd : FuncData) (nm ql : Str) (pr : Arguments) (bd : List Stmt) (sc : Scope) (dV kV doc pm cdv ct oc : Value) (an od : Option Addr) (osl : Array (Option Value)) (N : List Str),
    fd = PySem.W.fnOf nm ql pr bd sc dV kV doc pm an cdv ct ∧ K.lookup fa = some ⟨oc, od, .func fd, osl⟩ ∧ PySem.W.codeIn K cdv ql = true ∧ FnScope N [x] sc ∧
    (∀ (s : Shared) (u : Value), BindsTo s fd ⟨[u], []⟩ [(x, u)]) ∧
    ∀ base : Heap, K.In base → base.Ns mainGlobals mg → ∀ (s : Shared) (H : Hp) (a : Addr) (ns : List Int), want H a ns →
      Room k (callerA.deeper (envOfC ql sc s.heap.objs.size fa cdv)) →
      ∃ t, PSs (cxOf CX0 P w K mg base N ql sc fa cdv callerA [] s H (fun _ _ _ => False)) bd t ∧ t { nx := fun _ _ => False, rt := fun v _ => v = .bl true } (start N [.ref a]) H

section
variable {P : Program} {w : World} {K : PySem.W.Frag} {mg : Str → Option Value} {k : Nat} {fa : Addr} {x : Str} {want : Hp → Addr → List Int → Prop}
theorem LawDef.run (L : LawDef P w K mg k fa x want) {base : Heap} (hk : K.In base) (hm : base.Ns mainGlobals mg) {s : Shared} {H : Hp} {a : Addr} {ns : List Int} (hw : want H a ns) (ro : Room (k + 1) callerA)
    (e0 : Env0 P w K mg base callerA [] s H) :
    codeAny (model P w) callerA (.call (.ref fa) ⟨[.ref a], []⟩) (CR CX0 [] P w H s (fun v _ => v = .bl true) fun _ _ _ => False) s := by
  obtain ⟨fd, nm, ql, pr, bd, sc, dV, kV, doc, pm, cdv, ct, oc, an, od, osl, N, rfl, at1, cod, S, bnd, bod⟩ := L.ex
  have inS : K.In s.heap := e0.mod.kin.keeps fun b o e => (e0.bs b o e).1
  have noL : s.heap.NoLimit := e0.mod.nolimit.keeps fun b o e => (e0.bs b o e).1
  refine codeAny_call_function ro.depth (inS _ _ at1) rfl S.co S.gen rfl (PySem.W.codeRec_of inS cod) (bnd s (.ref a) _ _ _ _ ?_)
  refine wpAny_newFunctionEnv_cells S.kind (fun ⟨n, v⟩ hy => ?_) fun env he s1 y => ?_
  · have hn : n ∈ [x] := by
      have h1 := List.mem_singleton.mp hy
      rw [(Prod.mk.inj h1).1]
      exact List.mem_singleton.mpr rfl
    rcases S.par n hn with q | q
    · exact Or.inl q
    · exact Or.inr ⟨q, PySem.W.cellsFrom_some _ _ _ (Or.inl q)⟩
  subst he
  refine ⟨noL.keeps y.toInCall.keep, codeAny_func ?_⟩
  obtain ⟨t, pt, tt⟩ := bod base hk hm s H a ns hw (ro.deeper _)
  have I : Inv (cxOf CX0 P w K mg base N ql sc fa cdv callerA [] s H fun _ _ _ => False) [] (start N [.ref a]) H s1 := inv_start S ro.hd e0 rfl (.cons rfl .nil) y
  refine wpAny_mono (pt.run [] s1 _ H _ I tt) (fun fl s2 h2 => ?_) fun e s2 h2 => h2
  cases fl with
  | ret u =>
    obtain ⟨v, σ2, H2, J, rv, q⟩ := h2
    exact ⟨v, H2, J.os, J.bare, J.base, J.hok, rv, q⟩
  | next =>
    obtain ⟨_, _, _, q⟩ := h2
    exact q.elim
  | brk =>
    obtain ⟨_, _, _, q⟩ := h2
    exact q.elim
  | cont =>
    obtain ⟨_, _, _, q⟩ := h2
    exact q.elim
end
end G1

set_option maxHeartbeats 4000000
namespace G2
open PySem PySem.Spec PyProof.Rows L2 G1
section
variable {P : Program} {w : World} {K : PySem.W.Frag} {mg mb : Str → Option Value} {k : Nat} {fa a : Addr} {x : Str} {want : Hp → Addr → List Int → Prop} {S0 : Shared} {vs : List Value} {ns : List Int}
theorem not_in_nil {α : Type} {b : α} {p : Prop} (h : b ∈ ([] : List α)) : p := absurd h List.not_mem_nil
/-- from the run to what a row asks of it -/
theorem told_true {H : Hp} (fz : Only H) (hok : HOk P w H S0.heap) {r : Result} {S1 : Shared} (h : CR CX0 [] P w H S0 (fun v _ => v = .bl true) (fun _ _ _ => False) r S1) :
    r = .ok (.ret (.bool true)) ∧ OldK S0.heap S1.heap ∧ S1.os = S0.os ∧ AllBare S1.gens := by
  match r, h with
  | .error e, h => exact False.elim h
  | .ok .next, h => exact False.elim h
  | .ok .brk, h => exact False.elim h
  | .ok .cont, h => exact False.elim h
  | .ok (.ret u), ⟨v, H1, os, br, un, hk1, ru, vt⟩ =>
    have vt2 : v = .bl true := vt
    rw [vt2] at ru
    have ru2 : u = Value.bool true := ru
    subst ru2
    refine ⟨rfl, OldK.of_keep fun b o at0 => ?_, os, br⟩
    rcases fz b with free | ⟨ob, xs, frozen⟩
    · exact un.keep b o at0 free (fun z => not_in_nil z) (fun z => not_in_nil z)
    · have was := (hok b _ frozen).1
      have is := (hk1 b _ (un.frzs b ob _ frozen)).1
      rw [at0] at was
      cases was
      exact is
/-- the heap without the script -/
theorem bare_base (KX : K.In S0.heap) (gl : S0.heap.Ns mainGlobals mg) (bu : S0.heap.Ns builtinsNs mb) (bb : ∀ z : Str, z ≠ "__name__" → mb z = bootBuiltins z) (nl : S0.heap.NoLimit)
    (ob : S0.heap.get? a = some { cls := .type "list", data := .seq vs.toArray }) {H : Hp} (own : ∀ b, H b ≠ none → b = a) (out : H a ≠ none → K.lookup a = none) : Mod K mg (hidT S0.heap H) := by
  have plain : ∀ {b : Addr} {m : Str → Option Value}, S0.heap.Ns b m → (hidT S0.heap H).Ns b m := by
    rintro b m ⟨o, es, ep, at0, dat, more⟩
    refine ⟨o, es, ep, hidT_get at0 ?_, dat, more⟩
    cases hb : H b with
    | none => rfl
    | some u =>
      have ba : b = a := own b (by rw [hb]; exact Option.some_ne_none u)
      rw [ba, ob] at at0
      cases at0
      exact absurd dat (by intro z; cases z)
  refine ⟨fun b o lk => hidT_get (KX b o lk) ?_, plain gl, ⟨mb, plain bu, bb⟩, ?_⟩
  · cases hb : H b with
    | none => rfl
    | some u =>
      have ne : H b ≠ none := by rw [hb]; exact Option.some_ne_none u
      have ba : b = a := own b ne
      subst ba
      rw [out ne] at lk
      cases lk
  · obtain ⟨mc, n1, n2⟩ := nl
    exact ⟨mc, plain n1, n2⟩
theorem law_at (KX : K.In S0.heap) (gl : S0.heap.Ns mainGlobals mg) (bu : S0.heap.Ns builtinsNs mb) (bb : ∀ z : Str, z ≠ "__name__" → mb z = bootBuiltins z) (nl : S0.heap.NoLimit) (gn : S0.gens = #[])
    (ob : S0.heap.get? a = some { cls := .type "list", data := .seq vs.toArray }) (ia : IntsAre vs ns) (ln : ns.length ≤ sizeLine) (ro : Room (k + 1) callerA) (L : LawDef P w K mg k fa x want)
    (hw : ∀ H : Hp, SqL K H a (ns.map V.int) → want H a ns) :
    codeAny (model P w) callerA (.call (.ref fa) ⟨[.ref a], []⟩) (fun r S1 => r = .ok (.ret (.bool true)) ∧ OldK S0.heap S1.heap ∧ S1.os = S0.os ∧ AllBare S1.gens) S0 := by
  have lenV := ia.length
  have go : ∀ H : Hp, Only H → SqL K H a (ns.map V.int) → HOk P w H S0.heap → (∀ b, H b ≠ none → b = a) → (H a ≠ none → K.lookup a = none) →
      codeAny (model P w) callerA (.call (.ref fa) ⟨[.ref a], []⟩) (fun r S1 => r = .ok (.ret (.bool true)) ∧ OldK S0.heap S1.heap ∧ S1.os = S0.os ∧ AllBare S1.gens) S0 := by
    intro H fz sq hok own out
    have M := bare_base KX gl bu bb nl ob own out
    have e0 : Env0 P w K mg (hidT S0.heap H) callerA [] S0 H :=
      { frames := rfl, mod := M, bs := fun b o e => of_hidT e, bsz := Nat.le_of_eq (hidT_size _ _), funs := trivial, frf := fun b z => not_in_nil (show b ∈ ([] : List Addr) from z), hok := hok, bare := .of_eq gn }
    exact codeAny_mono (L.run M.kin M.glob (hw H sq) ro e0) fun r S1 h => told_true fz hok h
  by_cases hk : K.lookup a = none
  · let o0 : Obj := { cls := .type "list", data := .seq vs.toArray }
    let H0 : Hp := fun b => if b = a then some (.frz o0 (.lst (ns.map V.int))) else none
    have h1 : H0 a = some (.frz o0 (.lst (ns.map V.int))) := if_pos rfl
    have h2 : ∀ b, b ≠ a → H0 b = none := fun b hb => if_neg hb
    refine go H0 (fun b => ?_) (Or.inl (Or.inr ⟨o0, h1⟩)) (fun b u z => ?_) (fun b z => Decidable.byContradiction fun hb => z (h2 b hb)) (fun _ => hk)
    · by_cases hb : b = a
      · subst hb
        exact Or.inr ⟨_, _, h1⟩
      · exact Or.inl (h2 b hb)
    · by_cases hb : b = a
      · subst hb
        rw [h1] at z
        cases z
        exact ⟨ob, by rw [List.length_map]; exact ln, vs, _, vals_ints ia, ob⟩
      · rw [h2 b hb] at z
        cases z
  · obtain ⟨o, lk⟩ := Option.ne_none_iff_exists'.mp hk
    have same := KX a o lk
    rw [ob] at same
    cases same
    refine go (fun _ => none) (fun _ => Or.inl rfl) (Or.inr ⟨_, vs.toArray, _, lk, rfl, rfl, rfl, by rw [List.size_toArray, lenV]; exact ln, by simpa using vals_ints ia⟩) (fun b u z => by cases z) (fun b z => absurd rfl z) (fun z => absurd rfl z)
end
/-- what k_head leaves, from the law's def -/
theorem walk_G {l : PySem.W.OpenLaw} {n k : Nat} {q : Program} {loose : List Str} {XP : (Str → Option Value) → Heap → Prop} {YP : World → Heap → Prop} {d : DefRec} {K : Params → PySem.W.Frag} {x : Str} (want : PySem.W.Frag → Hp → Addr → List Int → Prop)
    (hn : l.most = some n) (hz : n ≤ sizeLine) (nodef : d.params.defaults = []) (ro : Room (k + 1) callerA) (hY : ∀ (w : World) (h : Heap), YP w h → (K w.params).In h)
    (F : ∀ (w : World) (mg : Str → Option Value) (fa : Addr) (h : Heap), (K w.params).In h → h.Ns mainGlobals mg → mg d.name = some (.ref fa) → LawDef l.prog w (K w.params) mg k fa x (want (K w.params)))
    (hw : ∀ (K : PySem.W.Frag) (H : Hp) (a : Addr) (ns : List Int), ns.length ≤ n → (∀ z ∈ ns, Builtin.Int.intBits z ≤ 1048576) → SqL K H a (ns.map V.int) → want K H a ns) :
    PySem.W.WalkO q loose XP YP l.row.toRowW d [] (fun f vs => PySem.call f vs) :=
  Att.attach_callB hn nodef fun w _ _ mg _ fa _ _ _ _ _ _ _ G Y _ _ _ atl ob ia ln bits gn =>
    law_at (hY w _ Y) G.T.g G.T.b G.T.builtins G.T.nolimit gn ob ia (Nat.le_trans ln hz) ro (F w mg fa _ (hY w _ Y) G.T.g atl) fun H sq => hw _ H _ _ ln bits sq
end G2

set_option maxHeartbeats 4000000
namespace G3
open PySem PySem.Spec PyProof.Rows L2
section
variable {X : Cx} {CX : CXT} {k : Nat} {f : Addr} {fd : FuncData} {ps ks : List Str} {sp : Sp} {E : XK} {x : Str} {p pos : Pos} {kws : List Keyword} {tk : TA} {g : List Value → List Value → List Value} {gV : List V → List V → List V}
/-- f(k = v, ..), nothing by place -/
theorem pe_named (F : FnOk X.prog X.w X.K X.mg X.base CX k f fd ps sp) (ro : Room k X.A) (gl : Gl X x) (at0 : X.mg x = some (.ref f)) (kp : PySem.W.keepIn X.K (.ref f) = true) (kb : KBinds X.K fd ps ks g gV) (px : Passes CX X E) (pk : PK X kws tk)
    (h1 : (backToKw pos (keywordEach kws X.env)).all (·.1.isSome) = true := by rfl) (h2 : (backToKw pos (keywordEach kws X.env)).filterMap (·.1) = ks := by rfl) (h3 : (x == ("__debug__" : Str)) = false := by decide)
    (h4 : ((backTo pos (starEach [] X.env)).any (·.1) || (backToKw pos (keywordEach kws X.env)).any (·.1.isNone)) = false := by rfl) :
    PE X (.Call (.Name x p) [] kws pos) (tCallK sp gV E tNil tk) := by
  refine ⟨fun pins s σ H Q I hyp => wpAny_Call_Name_kw (ld_glob I gl at0 ?_ h3)⟩
  refine PySem.W.callWith_KW0 (h₀ := X.base) I.ok.mod.kin kp h1 (thn (pk.run pos pins s σ H _ I hyp) fun ws s2 ⟨zs, H2, I2, rz, q2⟩ => ⟨I2.kIn, ?_⟩) h4
  rw [h2]
  exact run_fnk (us := []) (vs := []) F ro kb px I2 .nil rz q2
end
/-! heaps -/
theorem same_refl {H : Hp} : Same H H := fun _ _ e => e
theorem same_new {H : Hp} {p : Addr} {o : HO} (h : H p = none) : Same H (upd H p o) := fun b x e => by
  rw [upd_ne (ne_of_none e h)]
  exact e
/-- a store at what was not there at first -/
theorem same_put {H H1 : Hp} {p : Addr} {o : HO} (s : Same H H1) (h : H p = none) : Same H (upd H1 p o) := fun b x e => by
  rw [upd_ne (ne_of_none e h)]
  exact s b x e
theorem same_none {H H1 : Hp} {p : Addr} (s : Same H H1) (h : H1 p = none) : H p = none := by
  cases e : H p with
  | none => rfl
  | some o => rw [s _ _ e] at h; cases h
end G3

set_option maxHeartbeats 4000000
namespace N1
open PySem PySem.Spec PyProof.Rows L2 G3
section
variable {X : Cx}
/-- a < b, data of any depth that are alike -/
def rLtDp (K : PySem.W.Frag) : R2 := fun x y H Q => ∃ d e, Dp K H x d ∧ Dp K H y e ∧ PySem.W.alike d e = true ∧ d ≠ .none ∧ d.depth ≤ 60 ∧ Q (.bl (PySem.W.dataLt d e)) H
theorem op_ltDp (hu : X.A.units + 64 < cLine) : OpR X (compareOp .Lt) (rLtDp X.K) := by
  intro pins s σ H x y v u Q I rx ry h
  obtain ⟨d, e, hd, he, al, nn, dep, q⟩ := h
  obtain ⟨as, r1⟩ := Dp.reads I d x v hd rx
  obtain ⟨bs, r2⟩ := Dp.reads I e y u he ry
  exact PySem.W.lt_data r1 r2 al nn (by have := Nat.min_le_left d.depth e.depth; omega) ⟨.bl _, H, I, rfl, q⟩
theorem each_rel : ∀ {bs : List (V × PyData)} {us : List Value}, Vals (bs.map (·.1)) us → PySem.W.EachIs (fun v (b : V × PyData) => RelV b.1 v) us bs
  | [], _, .nil => .nil
  | _ :: _, _, .cons r t => .cons r (each_rel t)
theorem rel_each {us : List Value} {bs : List (V × PyData)} (h : PySem.W.EachIs (fun v (b : V × PyData) => RelV b.1 v) us bs) : Vals (bs.map (·.1)) us := by
  induction h with
  | nil => exact .nil
  | cons r _ ih => exact .cons r ih
theorem each_reads {pins : List (Addr × Obj)} {σ : L2.St} {H : Hp} {s : Shared} (I : Inv X pins σ H s) : ∀ {bs : List (V × PyData)} {us : List Value}, Vals (bs.map (·.1)) us → (∀ b ∈ bs, Dp X.K H b.1 b.2) → PySem.W.EachIs (fun v (b : V × PyData) => ∃ as, Reads s.heap v b.2 as) us bs
  | [], _, .nil, _ => .nil
  | b :: bs, _, .cons r t, h => .cons (Dp.reads I b.2 b.1 _ (h b List.mem_cons_self) r) (each_reads I t fun c hc => h c (List.mem_cons_of_mem _ hc))
/-- sorted(xs), data of any depth that are alike -/
def rSortD (K : PySem.W.Frag) : List V → Hp → VK → Prop := fun vs H Q => ∃ (a : Addr) (bs : List (V × PyData)), vs = [.ref a] ∧ SqL K H a (bs.map (·.1)) ∧ (∀ b ∈ bs, Dp K H b.1 b.2 ∧ b.2.depth ≤ 60) ∧ PySem.W.AllAlike (bs.map (·.2)) ∧ PySem.W.Sortable (bs.map (·.2)) ∧
  ∀ p, H p = none → Q (.ref p) (upd H p (.lst ((bs.mergeSort (PySem.W.dataLe false (·.2))).map (·.1))))
theorem cr_sortedD (hu : X.A.units + 64 < cLine) : CallR X (.builtin "sorted") (rSortD X.K) := by
  intro pins s σ H vs us Q I r h
  obtain ⟨a, bs, rfl, hs, hd, al, so, q⟩ := h
  obtain ⟨its, rv, hl, hz⟩ := I.list hs
  obtain ⟨u, rfl, ru⟩ := vals1 r
  obtain rfl : u = Value.ref a := ru
  rw [List.length_map] at hz
  refine PySem.W.sorted_data (enc := fun b : V × PyData => b.2) hl.isList (each_rel rv) (each_reads I rv fun b hb => (hd b hb).1) al so hz (fun b hb => by have := (hd b hb).2; omega) fun out ho eo => ?_
  obtain ⟨n, hn⟩ := sortedAll_at s.heap its out.toArray
  refine ⟨.ref (s.heap.objs.size + 1), _, I.laid (t' := s.toks) (o := .lst ((bs.mergeSort (PySem.W.dataLe false (·.2))).map (·.1))) (fun b o e => sortedAll_old e) (Nat.le_succ _) ⟨?_, out, n, rel_each eo, hn⟩, rfl, q _ (I.hok.fresh (Nat.le_succ _))⟩
  rw [List.length_map, List.length_mergeSort]
  exact hz
end
end N1

set_option maxHeartbeats 4000000
namespace G4
open PySem PySem.Spec PyProof.Rows L2
/-! data that is shown and compared: short leaves, no dicts -/
def nice (d : PyData) : Bool := d.showable && (d.canLay0 && d.leavesShort 13)
theorem nice_show {d : PyData} (h : nice d = true) : d.showable = true := (Bool.and_eq_true_iff.mp h).1
theorem nice_lay {d : PyData} (h : nice d = true) : d.canLay0 = true := (Bool.and_eq_true_iff.mp (Bool.and_eq_true_iff.mp h).2).1
theorem nice_short {d : PyData} (h : nice d = true) : d.leavesShort 13 = true := (Bool.and_eq_true_iff.mp (Bool.and_eq_true_iff.mp h).2).2
theorem nice_mk {d : PyData} (a : d.showable = true) (b : d.canLay0 = true) (c : d.leavesShort 13 = true) : nice d = true := by
  unfold nice
  rw [a, b, c]
  rfl
theorem nice_all : ∀ xs : List PyData, (∀ x ∈ xs, nice x = true) → PyData.showableAll xs = true ∧ PyData.canLayAll0 xs = true ∧ PyData.leavesShortAll 13 xs = true
  | [], _ => by simp only [PyData.showableAll, PyData.canLayAll0, PyData.leavesShortAll]; exact ⟨trivial, trivial, trivial⟩
  | x :: xs, h => by
    have hx := h x List.mem_cons_self
    have ih := nice_all xs fun y hy => h y (List.mem_cons_of_mem _ hy)
    simp only [PyData.showableAll, PyData.canLayAll0, PyData.leavesShortAll, nice_show hx, nice_lay hx, nice_short hx, ih.1, ih.2.1, ih.2.2, Bool.and_self]
    exact ⟨trivial, trivial, trivial⟩
theorem nice_list {xs : List PyData} (h : ∀ x ∈ xs, nice x = true) : nice (.list xs) = true := by
  have q := nice_all xs h
  exact nice_mk (by simp only [PyData.showable]; exact q.1) (by simp only [PyData.canLay0]; exact q.2.1) (by simp only [PyData.leavesShort]; exact q.2.2)
theorem nice_tuple {xs : List PyData} (h : ∀ x ∈ xs, nice x = true) : nice (.tuple xs) = true := by
  have q := nice_all xs h
  exact nice_mk (by simp only [PyData.showable]; exact q.1) (by simp only [PyData.canLay0]; exact q.2.1) (by simp only [PyData.leavesShort]; exact q.2.2)
theorem nice_none : nice .none = true := nice_mk (by simp only [PyData.showable]) (by simp only [PyData.canLay0]) (by simp only [PyData.leavesShort])
theorem nice_bool (b : Bool) : nice (.bool b) = true := nice_mk (by simp only [PyData.showable]) (by simp only [PyData.canLay0]) (by simp only [PyData.leavesShort])
theorem int_few : ∀ n : Nat, n < 200 → nice (.int (n - 100)) = true := by decide +kernel
theorem nice_int {i : Int} (h : -100 ≤ i) (h2 : i < 100) : nice (.int i) = true := by
  have q := int_few (i + 100).toNat (by omega)
  have e : (((i + 100).toNat : Nat) : Int) - 100 = i := by omega
  rw [e] at q
  exact q
theorem depth_all {k : Nat} : ∀ xs : List PyData, (∀ x ∈ xs, x.depth ≤ k) → PyData.depthAll xs ≤ k
  | [], _ => by simp only [PyData.depthAll]; exact Nat.zero_le _
  | x :: xs, h => by
    simp only [PyData.depthAll]
    exact Nat.max_le.mpr ⟨h x List.mem_cons_self, depth_all xs fun y hy => h y (List.mem_cons_of_mem _ hy)⟩
theorem depth_list {k : Nat} {xs : List PyData} (h : ∀ x ∈ xs, x.depth ≤ k) : (PyData.list xs).depth ≤ k + 1 := by
  simp only [PyData.depth]
  exact Nat.add_le_add_right (depth_all xs h) 1
theorem depth_tuple {k : Nat} {xs : List PyData} (h : ∀ x ∈ xs, x.depth ≤ k) : (PyData.tuple xs).depth ≤ k + 1 := by
  simp only [PyData.depth]
  exact Nat.add_le_add_right (depth_all xs h) 1
theorem bulk_all {m : Nat} : ∀ xs : List PyData, (∀ x ∈ xs, x.bulk ≤ m) → PyData.bulkAll xs ≤ (m + 1) * xs.length
  | [], _ => by simp only [PyData.bulkAll]; exact Nat.zero_le _
  | x :: xs, h => by
    have h1 := h x List.mem_cons_self
    have ih := bulk_all xs fun y hy => h y (List.mem_cons_of_mem _ hy)
    simp only [PyData.bulkAll, List.length_cons]
    rw [Nat.mul_add]
    omega
theorem bulk_list {m n : Nat} {xs : List PyData} (h : ∀ x ∈ xs, x.bulk ≤ m) (hn : xs.length ≤ n) : (PyData.list xs).bulk ≤ (m + 1) * n := by
  simp only [PyData.bulk]
  exact Nat.le_trans (bulk_all xs h) (Nat.mul_le_mul_left _ hn)
theorem bulk_tuple {m n : Nat} {xs : List PyData} (h : ∀ x ∈ xs, x.bulk ≤ m) (hn : xs.length ≤ n) : (PyData.tuple xs).bulk ≤ (m + 1) * n := by
  simp only [PyData.bulk]
  exact Nat.le_trans (bulk_all xs h) (Nat.mul_le_mul_left _ hn)
theorem nice_fits {d : PyData} (h : nice d = true) (hb : d.bulk ≤ 2 ^ 20) : d.shown.length ≤ sizeLine := PyData.shown_fits_bulk (B := 13) (by decide) (by decide) (nice_short h) hb
theorem nice_shaped {d : PyData} (h : nice d = true) (hd : d.depth ≤ 60) : SeqAt.shaped d = true := by
  unfold SeqAt.shaped
  rw [nice_lay h, decide_eq_true (show d.depth ≤ 64 by omega)]
  rfl
theorem dpAll_map {α : Type} {K : PySem.W.Frag} {H : Hp} {f : α → V} {g : α → PyData} : ∀ xs : List α, (∀ x ∈ xs, Dp K H (f x) (g x)) → DpAll K H (xs.map f) (xs.map g)
  | [], _ => .nil
  | x :: xs, h => .cons (h x List.mem_cons_self) (dpAll_map xs fun y hy => h y (List.mem_cons_of_mem _ hy))
end G4

set_option maxHeartbeats 4000000
namespace M0
open PySem PySem.Spec PyProof.Rows L2 G3 G4
/-! what a value reads as, from one heap to another -/
theorem same_tup {K : PySem.W.Frag} {H H' : Hp} {a : Addr} {xs : List V} (e : Same H H') (h : SqT K H a xs) : SqT K H' a xs := by
  rcases h with (h | ⟨o, h⟩) | h
  · exact .inl (.inl (e _ _ h))
  · exact .inl (.inr ⟨o, e _ _ h⟩)
  · exact .inr h
mutual
theorem dp_same {K : PySem.W.Frag} {H H' : Hp} (e : Same H H') : ∀ (d : PyData) (v : V), Dp K H v d → Dp K H' v d
  | .none, _, h => by cases h; exact .non
  | .bool _, _, h => by cases h; exact .bl _
  | .int _, _, h => by cases h; exact .int _
  | .str _, _, h => by cases h; exact .str _
  | .list ds, _, h => by
    cases h with
    | lst hs ha => exact .lst (e.seq hs) (dpAll_same e ds _ ha)
  | .tuple ds, _, h => by
    cases h with
    | tup hs ha => exact .tup (same_tup e hs) (dpAll_same e ds _ ha)
  | .dict _, _, h => by cases h
theorem dpAll_same {K : PySem.W.Frag} {H H' : Hp} (e : Same H H') : ∀ (ds : List PyData) (vs : List V), DpAll K H vs ds → DpAll K H' vs ds
  | [], _, h => by cases h; exact .nil
  | d :: ds, _, h => by
    cases h with
    | cons h1 h2 => exact .cons (dp_same e d _ h1) (dpAll_same e ds _ h2)
end
theorem dpAll_len {K : PySem.W.Frag} {H : Hp} : ∀ {vs : List V} {ds : List PyData}, DpAll K H vs ds → vs.length = ds.length
  | _, _, .nil => rfl
  | _, _, .cons _ t => congrArg (· + 1) (dpAll_len t)
theorem dpAll_get {K : PySem.W.Frag} {H : Hp} : ∀ {vs : List V} {ds : List PyData} {i : Nat} {v : V}, DpAll K H vs ds → vs[i]? = some v → ∃ d, ds[i]? = some d ∧ Dp K H v d
  | _, _, _, _, .nil, e => by simp at e
  | _, _, 0, _, .cons h _, e => by
    simp only [List.getElem?_cons_zero, Option.some.injEq] at e
    subst e
    exact ⟨_, rfl, h⟩
  | _, _, i + 1, _, .cons _ t, e => by
    simp only [List.getElem?_cons_succ] at e
    obtain ⟨d, h1, h2⟩ := dpAll_get t e
    exact ⟨d, h1, h2⟩
theorem dpAll_getD {K : PySem.W.Frag} {H : Hp} : ∀ {vs : List V} {ds : List PyData} {i : Nat} {d : PyData}, DpAll K H vs ds → ds[i]? = some d → ∃ v, vs[i]? = some v ∧ Dp K H v d
  | _, _, _, _, .nil, e => by simp at e
  | _, _, 0, _, .cons h _, e => by
    simp only [List.getElem?_cons_zero, Option.some.injEq] at e
    subst e
    exact ⟨_, rfl, h⟩
  | _, _, i + 1, _, .cons _ t, e => by
    simp only [List.getElem?_cons_succ] at e
    obtain ⟨d, h1, h2⟩ := dpAll_getD t e
    exact ⟨d, h1, h2⟩
theorem dpAll_app {K : PySem.W.Frag} {H : Hp} : ∀ {vs ws : List V} {ds es : List PyData}, DpAll K H vs ds → DpAll K H ws es → DpAll K H (vs ++ ws) (ds ++ es)
  | _, _, _, _, .nil, h => h
  | _, _, _, _, .cons h t, g => .cons h (dpAll_app t g)
theorem dpAll_take {K : PySem.W.Frag} {H : Hp} : ∀ {vs : List V} {ds : List PyData} (n : Nat), DpAll K H vs ds → DpAll K H (vs.take n) (ds.take n)
  | _, _, 0, _ => by simp only [List.take_zero]; exact .nil
  | _, _, _ + 1, .nil => by simp only [List.take_nil]; exact .nil
  | _, _, n + 1, .cons h t => by simp only [List.take_succ_cons]; exact .cons h (dpAll_take n t)
theorem dpAll_drop {K : PySem.W.Frag} {H : Hp} : ∀ {vs : List V} {ds : List PyData} (n : Nat), DpAll K H vs ds → DpAll K H (vs.drop n) (ds.drop n)
  | _, _, 0, h => h
  | _, _, _ + 1, .nil => by simp only [List.drop_nil]; exact .nil
  | _, _, n + 1, .cons _ t => by simp only [List.drop_succ_cons]; exact dpAll_drop n t
theorem dpAll_rev {K : PySem.W.Frag} {H : Hp} : ∀ {vs : List V} {ds : List PyData}, DpAll K H vs ds → DpAll K H vs.reverse ds.reverse
  | _, _, .nil => .nil
  | _, _, .cons h t => by
    rw [List.reverse_cons, List.reverse_cons]
    exact dpAll_app (dpAll_rev t) (.cons h .nil)
theorem dpAll_set {K : PySem.W.Frag} {H : Hp} {v : V} {d : PyData} (hv : Dp K H v d) : ∀ {vs : List V} {ds : List PyData} (n : Nat), DpAll K H vs ds → DpAll K H (vs.set n v) (ds.set n d)
  | _, _, _, .nil => by simp only [List.set_nil]; exact .nil
  | _, _, 0, .cons h t => by simp only [List.set_cons_zero]; exact .cons hv t
  | _, _, n + 1, .cons h t => by simp only [List.set_cons_succ]; exact .cons h (dpAll_set hv n t)
/-! which class a value is of -/
def tyName : PyData → String
  | .none => "NoneType"
  | .bool _ => "bool"
  | .int _ => "int"
  | .str _ => "str"
  | .list _ => "list"
  | .tuple _ => "tuple"
  | .dict _ => "dict"
theorem dp_ty {K : PySem.W.Frag} {H : Hp} {v : V} {d : PyData} (h : Dp K H v d) : TyX K H v (.type (tyName d)) := by
  cases h with
  | non => exact .base .non
  | bl b => exact .base (.bl b)
  | int i => exact .base (.int i)
  | str x => exact .base (.str x)
  | lst hs _ =>
    rcases hs with (h | ⟨o, h⟩) | ⟨o, _, _, h, c, _⟩
    · exact .base (.lst h)
    · exact .base (.frz h)
    · exact .kList h c
  | tup hs _ =>
    rcases hs with (h | ⟨o, h⟩) | ⟨o, _, _, h, c, _⟩
    · exact .base (.tup h)
    · exact .fTuple h
    · exact .kTuple h c
def isInt : PyData → Bool
  | .bool _ => true
  | .int _ => true
  | _ => false
def isBool : PyData → Bool
  | .bool _ => true
  | _ => false
def isTup : PyData → Bool
  | .tuple _ => true
  | _ => false
theorem kit_int (K : PySem.W.Frag) {v : V} {H : Hp} {d : PyData} (h : Dp K H v d) : PySem.W.kitOne K (.type (tyName d)) (.type "int") = some (isInt d) := by
  cases h <;> kernel_rfl
theorem kit_bool (K : PySem.W.Frag) {v : V} {H : Hp} {d : PyData} (h : Dp K H v d) : PySem.W.kitOne K (.type (tyName d)) (.type "bool") = some (isBool d) := by
  cases h <;> kernel_rfl
theorem kit_tup (K : PySem.W.Frag) {v : V} {H : Hp} {d : PyData} (h : Dp K H v d) : PySem.W.kitOne K (.type (tyName d)) (.type "tuple") = some (isTup d) := by
  cases h <;> kernel_rfl
/-! sizes -/
theorem bulk_mem {d : PyData} : ∀ {ds : List PyData}, d ∈ ds → d.bulk ≤ PyData.bulkAll ds
  | _ :: ds, h => by
    simp only [PyData.bulkAll]
    rcases List.mem_cons.mp h with e | h
    · subst e; omega
    · have := bulk_mem h; omega
theorem bulk_len : ∀ ds : List PyData, ds.length ≤ PyData.bulkAll ds
  | [] => Nat.zero_le _
  | d :: ds => by
    have := bulk_len ds
    simp only [PyData.bulkAll, List.length_cons]
    omega
/-! what stands beside the pool -/
def off (p : Addr) (H : Hp) : Hp := fun b => if b = p then none else H b
theorem off_upd {p : Addr} {H : Hp} {o : HO} : off p (upd H p o) = off p H := by
  funext b
  unfold off
  by_cases e : b = p
  · rw [if_pos e, if_pos e]
  · rw [if_neg e, if_neg e, upd_ne e]
theorem off_sub {p : Addr} {H : Hp} : Same (off p H) H := fun b o e => by
  unfold off at e
  by_cases z : b = p
  · rw [if_pos z] at e; cases e
  · rw [if_neg z] at e; exact e
theorem off_ne {p b : Addr} {H : Hp} (z : b ≠ p) : off p H b = H b := if_neg z
theorem off_mono {p : Addr} {H H' : Hp} (e : Same H H') : Same (off p H) (off p H') := fun b o h => by
  by_cases z : b = p
  · unfold off at h; rw [if_pos z] at h; cases h
  · rw [off_ne z] at h ⊢; exact e b o h
theorem off_new {p : Addr} {H : Hp} {o : HO} (h : H p = none) : Same H (off p (upd H p o)) := fun b x e => by
  have z : b ≠ p := ne_of_none e h
  rw [off_ne z, upd_ne z]
  exact e
end M0

set_option maxHeartbeats 4000000
/-! min of data -/
namespace XA
open PySem PySem.Spec PyProof.Rows L2 G3 M0
theorem call_min_twoH {prog : Program} {w : World} {A : Around} {E : Value → Shared → Prop} {s : Shared} {a b : Value} {Q : Value → Shared → Prop}
    (h : wpAny (model prog w) A.in1 (pyIter (.ref s.heap.objs.size)) (fun it s₂ => ∃ (I : Addr) (fp wr : List Addr) (G : Array GenState → Array GenState → Prop) (n : Nat) (P : Nat → Value → Prop) (St : Nat → Shared → Prop) (H : Heap) (bt : Nat → Nat → Bool), it = .ref I ∧ WalksS prog w A.in1 I fp wr G n P St ∧ St 0 s₂ ∧ (∀ b, b ∈ fp → b < s₂.heap.objs.size) ∧ 0 < n ∧
      (∀ b o, H.get? b = some o → b ∉ wr) ∧ (∀ b o, H.get? b = some o → s₂.heap.get? b = some o) ∧ CmpIn prog w A.in1 .Lt H P bt ∧ ∀ v s', P (argBest bt (n - 1)) v → Moved wr G s₂ s' → (∀ b o, H.get? b = some o → s'.heap.get? b = some o) → Q v s') E { heap := s.heap.push { cls := .type "tuple", data := .seq #[a, b] }, gens := s.gens, drawn := s.drawn, toks := s.toks, os := s.os }) :
    wpAny (model prog w) A (call (.builtin "min") [a, b]) Q E s := by
  refine call_function_tree F.kind_min F.plain_min F.entry_min (F.args_min2 a b) ?_
  unfold Builtin.min
  refine wpAny_bind (wpAny_of_eq rfl ?_)
  refine wpAny_bind (wpAny_newObj_type ?_ ?_)
  · refine wpAny_bind (wpAny_mono h (fun it s₂ h₂ => ?_) fun _ _ e => e)
    obtain ⟨I, fp, wr, G, n, P, St, Hp, bt, rfl, W, st, hfp, hn, hw, hk, hc, hQ⟩ := h₂
    have hSf : s₂.heap.objs.size ∉ fp := fun hm => Nat.lt_irrefl _ (hfp _ hm)
    have hno : Hp.get? s₂.heap.objs.size = none := fresh_in hk
    refine wpAny_bind (wpAny_newObj_type ?_ (show (0 : Nat) ≤ sizeLine by decide))
    rw [show (toString "min" ++ toString ".loop" : String) = "min.loop" from by decide +kernel]
    refine wpAny_pure ⟨rfl, ?_⟩
    have old : ∀ b o, s₂.heap.get? b = some o → (s₂.heap.push { cls := .type "list", dict := none, data := .seq #[] 0 }).get? b = some o := fun b o e => Heap.get?_push_of_some _ e
    refine codeAny_min_loop_firstH W Hp hw bt hc s₂.heap.objs.size hSf hno [] hn (c := 0) (fun b o e => old _ _ (hk _ _ e)) (W.frame 0 s₂ _ _ st (Nat.le_refl _) fun b _ o e => old b o e) ?_ fun v s' hP m => ?_
    · exact Heap.get?_push_size _ rfl
    · refine hQ v s' hP ⟨fun b o nb e => ?_, m.gens, m.drawn, m.os, m.toks⟩ fun b o e => ?_
      · refine m.heap b o (fun z => ?_) (old b o e)
        rcases List.mem_cons.mp z with y | y
        · rw [y] at e
          rw [fresh_in (H := s₂.heap) (h := s₂.heap) (fun _ _ q => q)] at e
          cases e
        · exact nb y
      · refine m.heap b o (fun z => ?_) (old b o (hk b o e))
        rcases List.mem_cons.mp z with y | y
        · rw [y, hno] at e; cases e
        · exact hw b o e y
  · exact (show (2 : Nat) ≤ sizeLine by decide)
section
variable {X : Cx} {pins : List (Addr × Obj)} {σ : L2.St} {H : Hp} {s : Shared}
theorem readsAll_of (I : Inv X pins σ H s) : ∀ {us : List V} {vs : List Value} {ds : List PyData}, Vals us vs → DpAll X.K H us ds → ∃ as, ReadsAll s.heap vs ds as
  | [], _, _, .nil, .nil => ⟨[], .nil⟩
  | u :: us, _, d :: ds, .cons r t, .cons h k => by
    obtain ⟨as, e⟩ := Dp.reads I d u _ h r
    obtain ⟨bs, f⟩ := readsAll_of I t k
    exact ⟨_, .cons e f⟩
theorem depthAll_le {n : Nat} : ∀ {ds : List PyData}, (∀ d ∈ ds, d.depth ≤ n) → PyData.depthAll ds ≤ n
  | [], _ => by simp [PyData.depthAll]
  | d :: ds, h => by
    have h1 := h d List.mem_cons_self
    have h2 := depthAll_le (ds := ds) fun e he => h e (List.mem_cons_of_mem _ he)
    simp only [PyData.depthAll]
    omega
theorem vals_getV : ∀ {us : List V} {vs : List Value} {i : Nat} {v : Value}, Vals us vs → vs[i]? = some v → ∃ u, us[i]? = some u ∧ RelV u v
  | _, _, _, _, .nil, h => by simp at h
  | u :: us, v :: vs, 0, _, .cons r _, h => by cases h; exact ⟨u, rfl, r⟩
  | u :: us, v :: vs, i + 1, _, .cons _ t, h => by
    rw [List.getElem?_cons_succ] at h
    obtain ⟨u', e, r⟩ := vals_getV t h
    exact ⟨u', by rw [List.getElem?_cons_succ]; exact e, r⟩
/-- min(xs), xs a list of data that are alike -/
def rMinD (K : PySem.W.Frag) : List V → Hp → VK → Prop := fun vs H Q => ∃ (a : Addr) (us : List V) (d : PyData) (ds : List PyData), vs = [.ref a] ∧ SqL K H a us ∧ DpAll K H us (d :: ds) ∧ PySem.W.AlikeAll (d :: ds) ∧ (∀ e ∈ d :: ds, e.depth ≤ 60) ∧
  ∀ (i : Nat) (u : V), us[i]? = some u → (d :: ds)[i]? = some (PySem.W.minD d ds) → Q u H
theorem cr_minD (calm : X.calm = true) (hu : X.A.units + 64 < cLine) : CallR X (.builtin "min") (rMinD X.K) := by
  intro pins s σ H vs us Q I r h
  obtain ⟨a, xs, d, ds, rfl, hs, hd, al, dep, q⟩ := h
  obtain ⟨its, rv, hl, hz⟩ := I.list hs
  obtain ⟨u, rfl, ru⟩ := vals1 r
  obtain rfl : u = Value.ref a := ru
  obtain ⟨as, hr⟩ := readsAll_of I rv hd
  refine PySem.W.min_list_data (I.ok.hd calm) hl.isList hr al (by have := depthAll_le dep; omega) fun i v h' tk bs hv hrd keep => ?_
  have hv' : its[i]? = some v := by simpa using hv
  obtain ⟨x, hx, rx⟩ := vals_getV rv hv'
  obtain ⟨e, he, hde⟩ := dpAll_get hd hx
  obtain ⟨cs, hre⟩ := Dp.reads I e x v hde rx
  have := (hrd.unique _ _ (PySem.W.reads_keeps keep hre)).1
  exact ⟨x, H, I.kept keep, rx, q i x hx (by rw [he, this])⟩
/-- min(x, y), data that are alike -/
def rMin2D (K : PySem.W.Frag) : List V → Hp → VK → Prop := fun vs H Q => ∃ (x y : V) (d e : PyData), vs = [x, y] ∧ Dp K H x d ∧ Dp K H y e ∧ PySem.W.AlikeAll [d, e] ∧ d.depth ≤ 60 ∧ e.depth ≤ 60 ∧ Q (if PySem.W.dataLt e d = true then y else x) H
theorem call_min2D (calm : X.calm = true) (hu : X.A.units + 64 < cLine) : CallR X (.builtin "min") (rMin2D X.K) := by
  intro pins s σ H vs us Q I r h
  obtain ⟨x, y, d, e, rfl, hd, he, al, dd, de, q⟩ := h
  obtain ⟨u, w, rfl, rx, ry⟩ := vals2 r
  obtain ⟨as, hr⟩ := readsAll_of I (.cons rx (.cons ry .nil)) (.cons hd (.cons he .nil))
  have lim : X.A.in1.units + PyData.depthAll [d, e] < cLine := by
    have := depthAll_le (n := 60) (ds := [d, e]) (fun z hz => by
      rcases List.mem_cons.mp hz with rfl | hz
      · exact dd
      · rw [List.mem_singleton.mp hz]; exact de)
    show X.A.units + 1 + _ < _
    omega
  refine call_min_twoH ?_
  have old : ∀ b o, s.heap.get? b = some o → (s.heap.push { cls := .type "tuple", dict := none, data := .seq #[u, w] 0 }).get? b = some o := fun b o q => Heap.get?_push_of_some _ q
  refine PySem.W.iter_tupleW (vs := #[u, w]) (I.ok.hd calm) ⟨_, Heap.get?_push_size _ rfl, rfl, _, rfl⟩ fun s₂ e₂ W st hfp hw hk => ?_
  refine ⟨_, _, _, _, _, _, _, s.heap, fun i j => PySem.W.dataLt ([d, e].getD i .none) ([d, e].getD j .none), rfl, W, st, hfp, (show 0 < 2 by decide), fun b o q => hw b o (old b o q), fun b o q => hk b o (old b o q), PySem.W.cmpIn_lt (vs := #[u, w]) hr al lim, fun v s' hP m keep => ?_⟩
  have hP' : (#[u, w] : Array Value)[(if PySem.W.dataLt e d = true then 1 else 0 : Nat)]? = some v := hP
  obtain ⟨h', tk, rfl⟩ : ∃ h' tk, s' = { s with heap := h', toks := tk } := by
    obtain ⟨h', tk, e', k'⟩ := PySem.W.moved_old e₂ rfl m
    exact ⟨h', tk, e'⟩
  refine ⟨if PySem.W.dataLt e d = true then y else x, H, I.kept keep, ?_, q⟩
  cases hb : PySem.W.dataLt e d with
  | true =>
    rw [hb] at hP'
    cases hP'
    exact ry
  | false =>
    rw [hb] at hP'
    cases hP'
    exact rx
end
end XA

set_option maxHeartbeats 4000000
/-! list comprehensions of more clauses: a clause's loop over what stands behind it, whatever that is -/
namespace L3
open PySem PySem.Spec PyProof.Rows L2
/-- how a clause's turn goes: what it draws is stored and tested, then k, else on with the loop -/
def Goes (c : Expr) (d : Nat) (p : Pos) (t : Expr) (ifs : List Expr) (it acc : Value) (env : Env) (k : Sem Fin) : Prop :=
  compTurn c d it acc env = (do
    standAt p
    match ← pyNext it with
    | none => pure (.done .next)
    | some v =>
      letOwnedTupleGo t it v
      assign t env v
      let ok ← (forIn ifs true fun c r => if r = true then do let ok ← isTrue c env (eval c env); pure (ForInStep.yield ok) else pure (ForInStep.yield r))
      if ok = true then k else again (.compLoop c d it acc env))
/-- a clause behind another one -/
def kIn (c : Expr) (d : Nat) (iter : Expr) (acc : Value) (env : Env) (a : Code) : Sem Fin := do
  let x ← eval iter env
  standAt iter.pos
  let x ← foldedSetIterable iter env x
  let _ ← runOwn (.compStart c d (← holding [x] (pyIter x)) acc env) env
  again a
def kEnd (elt : Expr) (acc : Value) (env : Env) (a : Code) : Sem Fin := do
  (do let _ ← call (.builtin "list.append") [acc, ← eval elt env])
  again a
theorem goes_in {elt : Expr} {gens : List Comprehension} {scope : Scope} {cpos : Pos} {d : Nat} {t i t1 i1 : Expr} {ifs ifs1 : List Expr} {it acc : Value} {env : Env} (h : gens[d]? = some ⟨t, i, ifs, 0⟩) (h1 : gens[d + 1]? = some ⟨t1, i1, ifs1, 0⟩) :
    Goes (.ListComp elt gens scope cpos) d i.pos t ifs it acc env (kIn (.ListComp elt gens scope cpos) (d + 1) i1 acc env (.compLoop (.ListComp elt gens scope cpos) d it acc env)) := by
  unfold Goes compTurn kIn
  simp only [h, h1]
  rfl
theorem goes_end {elt : Expr} {gens : List Comprehension} {scope : Scope} {cpos : Pos} {d : Nat} {t i : Expr} {ifs : List Expr} {it acc : Value} {env : Env} (h : gens[d]? = some ⟨t, i, ifs, 0⟩) (h1 : gens[d + 1]? = none) :
    Goes (.ListComp elt gens scope cpos) d i.pos t ifs it acc env (kEnd elt acc env (.compLoop (.ListComp elt gens scope cpos) d it acc env)) := by
  unfold Goes compTurn kEnd
  simp only [h, h1]
  rfl
/-- a piece of code at B that ends by a: from σ, H it comes to R; of the slots those in vs are forgotten -/
def Seg (B : Cx) (k : Sem Fin) (a : Code) (t : L2.St → Hp → (Hp → Prop) → Prop) (vs : List Nat) : Prop :=
  ∀ pins s σ H R, Inv B pins σ H s → t σ H R → wpAny (model B.prog B.w) B.A k (fun fin s' => fin = .again a ∧ ∃ H', Inv B pins (wipe σ vs) H' s' ∧ R H') (fun _ _ => False) s
abbrev Tc := L2.St → Hp → (Hp → Prop) → Prop
/-- a loop over J: D what is reached behind it -/
def tOver (g : TG) (tt : TT) (tb : Tc) (vs : List Nat) (J : It) (σ : L2.St) (H : Hp) (Dn : Hp → Prop) : Prop := ∃ W : Nat → Nat → Hp → Prop, (∃ m, W 0 m H) ∧ ∀ i m H, W i m H →
  (J.stop i H ∧ Dn H) ∨ (J.go i H ∧ ∃ Nx : Hp → Prop, (∀ H', Nx H' → ∃ m', m' < m ∧ W (i + 1) m' H') ∧ ∀ x H', J.yld i H x H' → g x (wipe σ vs) H' fun σ2 H2 => wipe σ2 vs = wipe σ vs ∧ tt σ2 H2 fun b H3 => if b = true then tb σ2 H3 Nx else Nx H3)
theorem wipe_off {σ : L2.St} {i : Nat} : ∀ {vs : List Nat}, i ∉ vs → (wipe σ vs)[i]? = σ[i]? := fun h => wipe_out h
section
variable {B : Cx}
/-- a loop of a clause, run -/
theorem run_over {elt tg : Expr} {gens : List Comprehension} {scope : Scope} {cpos : Pos} {d : Nat} {p : Pos} {ifs : List Expr} {it : Addr} {acc : Value} {k : Sem Fin} {g : TG} {tt : TT} {tb : Tc} {vs vs1 : List Nat} {J : It} {fp : List Addr} {tn : Nat → Heap → Prop} {pins : List (Addr × Obj)} {σ : L2.St} {H : Hp} {s : Shared} {Dn : Hp → Prop} {R : Result → Shared → Prop}
    (hc : B.calm = true) (hx : B.xe = fun _ _ => False) (T : Turn B.prog B.w B.K tg J fp it tn) (ht : Goes (.ListComp elt gens scope cpos) d p tg ifs (.ref it) acc B.env k) (pg : PG B tg g) (pt : PTs B ifs tt) (sg : Seg B k (.compLoop (.ListComp elt gens scope cpos) d (.ref it) acc B.env) tb vs1) (hv : ∀ i ∈ vs1, i ∈ vs)
    (ok : ∀ {σ' : L2.St} {H' : Hp} {s' : Shared}, Inv B pins σ' H' s' → (∀ b ∈ fp, H' b = none) → ∀ b ∈ fp, FpOk B pins H' b) (I : Inv B pins (wipe σ vs) H s) (st : tn 0 s.heap) (nf : ∀ b ∈ fp, H b = none) (hq : tOver g tt tb vs J σ H Dn)
    (fin : ∀ H' s', Inv B pins (wipe σ vs) H' s' → Dn H' → R (.ok .next) s') : codeAny (model B.prog B.w) B.A (.compLoop (.ListComp elt gens scope cpos) d (.ref it) acc B.env) R s := by
  obtain ⟨W, ⟨m0, w0⟩, turn⟩ := hq
  refine codeAny_loop rfl (fun n s' => ∃ i H', Inv B pins (wipe σ vs) H' s' ∧ tn i s'.heap ∧ (∀ b ∈ fp, H' b = none) ∧ W i n H') (fun n s1 hI => ?_) m0 ⟨0, H, I, st, nf, w0⟩
  obtain ⟨i, H1, I1, st1, n1, w1⟩ := hI
  show wpAny _ B.A ((compTurn (.ListComp elt gens scope cpos) d (.ref it) acc B.env).onRaise fun x => do noteFrame x B.env; theTreesLotGoes x) _ _ s1
  refine wpAny_noted ?_
  rw [show compTurn (.ListComp elt gens scope cpos) d (.ref it) acc B.env = _ from ht]
  refine wpAny_bind (wpAny_standAt ?_)
  refine wpAny_bind ?_
  rcases turn i n H1 w1 with ⟨stop, dn⟩ | ⟨go, Nx, hNx, step⟩
  · refine thnF (T.done B rfl rfl rfl hc i pins s1 _ H1 (fun _ _ => False) I1 (ok I1 n1) st1 stop) fun r s2 ⟨hr, I2⟩ => ?_
    subst hr
    exact wpAny_pure (fin H1 s2 I2 dn)
  · refine thnF (T.item B rfl rfl rfl hc i pins s1 _ H1 (fun _ _ => False) I1 (ok I1 n1) st1 go) fun r s2 ⟨u, hr, h2⟩ => ?_
    subst hr
    refine wpAny_bind (thnF h2 fun _ s3 ⟨x, H3, I3, r3, y3, st3, n3⟩ => ?_)
    have I3' := I3.pinned (ok I3 n3) (T.obj _ _ st3)
    have pr := pg.run _ s3 _ H3 x u _ I3' r3 (step x H3 y3)
    rw [hx] at pr
    refine wpAny_bind (thnF pr fun _ s4 ⟨σ4, H4, I4, hw4, q4⟩ => ?_)
    have tr := pt.run _ s4 σ4 H4 _ I4 q4
    rw [hx] at tr
    refine wpAny_bind (thnF tr fun b s5 ⟨H5, I5, q5⟩ => ?_)
    have done : ∀ {σ6 : L2.St} {s' : Shared} {H' : Hp}, Inv B (pins ++ pinsAt fp s3.heap) σ6 H' s' → (wipe σ vs).length = σ6.length → (∀ (j : Nat) v, (wipe σ vs)[j]? = some (some v) → σ6[j]? = some (some v)) → Nx H' →
        ∃ m, m < n ∧ ∃ i H', Inv B pins (wipe σ vs) H' s' ∧ tn i s'.heap ∧ (∀ b ∈ fp, H' b = none) ∧ W i m H' := fun {σ6 s' H'} I' l6 k6 nx => by
      obtain ⟨m', hm, w'⟩ := hNx H' nx
      have kept : ∀ b ∈ fp, ∀ o, s3.heap.get? b = some o → s'.heap.get? b = some o ∧ H' b = none := fun b hb o e => by
        have z := I'.pin (b, o) (List.mem_append_right _ (List.mem_append_right _ (mem_pinsAt hb e)))
        exact ⟨z.1, z.2.1⟩
      refine ⟨m', hm, i + 1, H', I'.unpinned.weak l6 k6, T.keep _ _ _ st3 fun b hb o e => (kept b hb o e).1, fun b hb => ?_, w'⟩
      obtain ⟨o, e, _⟩ := T.obj _ _ st3 b hb
      exact (kept b hb o e).2
    have l4 : (wipe σ vs).length = σ4.length := by rw [← hw4, wipe_length]
    have k4 : ∀ (j : Nat) v, (wipe σ vs)[j]? = some (some v) → σ4[j]? = some (some v) ∧ j ∉ vs := fun j v e => by
      rw [← hw4] at e
      exact wipe_some e
    cases b with
    | false =>
      rw [if_neg Bool.false_ne_true]
      rw [if_neg Bool.false_ne_true] at q5
      exact wpAny_pure ⟨rfl, done I5 l4 (fun j v e => (k4 j v e).1) q5⟩
    | true =>
      rw [if_pos rfl]
      rw [if_pos rfl] at q5
      refine thnF (sg _ s5 σ4 H5 _ I5 q5) fun fi s6 ⟨hf, H6, I6, nx⟩ => ?_
      subst hf
      exact ⟨rfl, done I6 (l4.trans (wipe_length σ4 vs1).symm) (fun j v e => by
        obtain ⟨e1, e2⟩ := k4 j v e
        rw [wipe_off fun z => e2 (hv j z)]
        exact e1) nx⟩
/-- what is made is put to the list -/
theorem seg_emit {elt : Expr} {te : TE} {D : Addr} {a : Code} (hx : B.xe = fun _ _ => False) (he : PE B elt te) :
    Seg B (kEnd elt (.ref D) B.env a) a (fun σ H R => te σ H fun y H4 => ∃ acc, H4 D = some (.lst acc) ∧ acc.length < sizeLine ∧ R (upd H4 D (.lst (acc ++ [y])))) [] := by
  intro pins s σ H R I h
  unfold kEnd
  have er := he.run pins s σ H _ I h
  rw [hx] at er
  refine wpAny_bind (wpAny_bind (thnF er fun v s1 ⟨y, H1, I1, r1, acc, hD, hz, q⟩ => ?_))
  refine wpAny_bind (app_ok I1 hD hz r1 fun s2 I2 => wpAny_pure ?_)
  exact wpAny_pure ⟨rfl, _, I2, q⟩
def tIn (wi : TI) (g : TG) (tt : TT) (tb : Tc) (vs : List Nat) : Tc := fun σ H R => wi σ H fun J H1 => tOver g tt tb vs J σ H1 R
theorem start_in {prog : Program} {w : World} {A : Around} {R : Result → Shared → Prop} {s : Shared} {elt : Expr} {gens : List Comprehension} {scope : Scope} {cpos : Pos} {d : Nat} {it acc : Value} {env : Env} {p : Pos} {t i : Expr} {ifs : List Expr} (hcl : gens[d]? = some ⟨t, i, ifs, 0⟩)
    (h0 : codeAny (model prog w) A (.compLoop (.ListComp elt gens scope cpos) d it acc env) R s) (h : wpAny (model prog w) A (pyIter it) (fun it' s' => codeAny (model prog w) A (.compLoop (.ListComp elt gens scope cpos) d it' acc env) R s') (notedBy (model prog w) A env fun x s' => R (.error x) s') s) :
    codeAny (model prog w) A (.compStart (.ListComp elt gens scope cpos) d it acc env) R s := by
  refine codeAny_of_tree ?_
  show wpAny _ _ ((compStart (.ListComp elt gens scope cpos) d it acc env).onRaise fun x => do noteFrame x env; standAt theWindowsPlace) _ _ s
  refine wpAny_notedAt ?_
  unfold compStart
  rw [show clausesOf (.ListComp elt gens scope cpos) = gens from rfl, hcl]
  show wpAny _ _ (ask >>= _) _ _ s
  refine wpAny_bind (wpAny_askSetting (wpAny_ite ?_))
  split
  · exact wpAny_bind (wpAny_pure (wpAny_pure ⟨rfl, h0⟩))
  · refine wpAny_bind (wpAny_rule ?_)
    show wpAny _ _ (standAt i.pos >>= _) _ _ s
    exact wpAny_bind (wpAny_standAt (wpAny_bind (wpAny_mono h (fun it' s' h' => wpAny_pure ⟨rfl, h'⟩) fun _ _ x => x)))
theorem seg_in {elt tg iter : Expr} {gens : List Comprehension} {scope : Scope} {cpos : Pos} {d : Nat} {p : Pos} {ifs : List Expr} {acc : Value} {a : Code} {k : Value → Sem Fin} {wi : TI} {g : TG} {tt : TT} {tb : Tc} {vs vs1 : List Nat} (hc : B.calm = true) (hx : B.xe = fun _ _ => False) (hcl : gens[d]? = some ⟨tg, iter, ifs, 0⟩)
    (ht : ∀ it, Goes (.ListComp elt gens scope cpos) d p tg ifs it acc B.env (k it)) (pi : PI B tg iter wi) (pg : PG B tg g) (pt : PTs B ifs tt) (sg : ∀ it, Seg B (k it) (.compLoop (.ListComp elt gens scope cpos) d it acc B.env) tb vs1) (hv : ∀ i ∈ vs1, i ∈ vs) (hs : ∀ x, foldedSetIterable iter B.env x = pure x) :
    Seg B (kIn (.ListComp elt gens scope cpos) d iter acc B.env a) a (tIn wi g tt tb vs) vs := by
  intro pins s σ H R I h
  have ir := pi.run pins s σ H _ I h
  rw [hx] at ir
  unfold kIn
  refine wpAny_bind (thnF ir fun xv s1 h1 => ?_)
  refine wpAny_bind (wpAny_standAt (wpAny_bind (wpAny_of_eq (hs xv) (wpAny_bind (wpAny_holding (thnF h1 fun itv s2 h2 => ?_))))))
  obtain ⟨it, fp, tn, J, H2, e, I2, T, st2, f2, hq⟩ := h2
  subst e
  refine wpAny_bind (wpAny_runOwn ?_)
  rw [Around.mark_none]
  have loop : codeAny (model B.prog B.w) B.A (.compLoop (.ListComp elt gens scope cpos) d (.ref it) acc B.env) (fun r s' => match r with | .ok f => wpAny (model B.prog B.w) B.A (again a : Sem Fin) (fun fin s' => fin = .again a ∧ ∃ H', Inv B pins (wipe σ vs) H' s' ∧ R H') (fun _ _ => False) s' | .error e => cameBackBy (model B.prog B.w) B.A B.env (fun _ _ => False) e s') s2 :=
    run_over hc hx T (ht (.ref it)) pg pt (sg (.ref it)) hv (fun I' hn b hb => ⟨hn b hb, (f2 b hb).2⟩) (I2.weak (wipe_length _ _) (fun j v e => (wipe_some e).1)) st2 (fun b hb => (f2 b hb).1) hq fun H' s' I' q => wpAny_pure ⟨rfl, H', I', q⟩
  exact start_in (p := p) hcl loop (T.self B.A 0 _ _ _ st2 loop)
end
section
variable {X : Cx}
/-- the whole of it -/
def tTop (wi : TI) (g : TG) (tt : TT) (tb : Addr → Tc) (vs : List Nat) : TE := fun σ H Q => wi σ H fun J H1 => ∀ D, H1 D = none → tOver g tt (tb D) vs J σ (upd H1 D (.lst [])) fun H2 => Q (.ref D) H2
theorem pe_lcN {elt tg iter : Expr} {ifs : List Expr} {rest : List Comprehension} {scope : Scope} {own : List (Str × Nat)} {vs1 : List Nat} {cpos p : Pos} {wi : TI} {g : TG} {tt : TT} {tb : Addr → Tc} (hc : X.calm = true) (hN : X.N.Nodup) (hi : PI X tg iter wi) (ok : BlkOk X.N X.env.scope scope own) (hv : ∀ i ∈ vs1, i ∈ own.map (·.2))
    (hg : ∀ (s : Shared) (H : Hp) (C : Addr) (cl : List (Str × Addr)) (fp : List Addr), PG (X.blk s H scope (compEnvC scope cl C X.env) fp) tg g) (ht : ∀ (s : Shared) (H : Hp) (C : Addr) (cl : List (Str × Addr)) (fp : List Addr), PTs (X.blk s H scope (compEnvC scope cl C X.env) fp) ifs tt)
    (hb : ∀ (s : Shared) (H : Hp) (C : Addr) (cl : List (Str × Addr)) (fp : List Addr) (D : Addr) (it : Value), ∃ k, Goes (.ListComp elt (⟨tg, iter, ifs, 0⟩ :: rest) scope cpos) 0 p tg ifs it (.ref D) (compEnvC scope cl C X.env) k ∧
      Seg (X.blk s H scope (compEnvC scope cl C X.env) fp) k (.compLoop (.ListComp elt (⟨tg, iter, ifs, 0⟩ :: rest) scope cpos) 0 it (.ref D) (compEnvC scope cl C X.env)) (tb D) vs1)
    (hs : ∀ x, foldedSetIterable iter X.env x = pure x := by intro _; rfl) : PE X (.ListComp elt (⟨tg, iter, ifs, 0⟩ :: rest) scope cpos) (tTop wi g tt tb (own.map (·.2))) := by
  refine ⟨fun pins s σ H Q I h => ?_⟩
  rw [eval_ListComp]
  have hfree : ∀ y ∈ scope.names, y.2 = .free → ∃ c, X.env.cells.lookup y.1 = some c := fun y hy e => (ok.free y hy e).elim (fun z => I.ok.has _ (.inl z)) fun z => I.ok.has _ (.inr z)
  refine wpAny_comprehension_free (use := none) rfl hs (closure_ok hfree) ok.kind (fun y hy e => by rw [ok.uniq y hy, e]) (thn (hi.run pins s σ H _ I h) fun xv s1 h1 => thn h1 fun itv s2 h2 => ?_)
  obtain ⟨it, fp, tn, J, H2, e, I2, T, st2, f2, q⟩ := h2
  subst e
  refine wpAny_newObj_type (newEnv_comp ?_) (by show 0 ≤ sizeLine; decide)
  have nD : H2 s2.heap.objs.size = none := I2.hok.fresh (Nat.le_refl _)
  have lt : ∀ b ∈ fp, b < s2.heap.objs.size := fun b hb => by
    obtain ⟨o, e, _⟩ := T.obj _ _ st2 b hb
    exact Heap.lt_size e
  have I3 : Inv X pins σ (upd H2 s2.heap.objs.size (.lst [])) { s2 with heap := s2.heap.push { cls := .type "list", data := .seq ([] : List Value).toArray } } := I2.lnew (its := []) (t' := s2.toks) .nil (Nat.zero_le _)
  have hq := q _ nD
  have f3 : ∀ b ∈ fp, FpOk X pins (upd H2 s2.heap.objs.size (.lst [])) b ∧ b < (s2.heap.push { cls := .type "list", data := .seq ([] : List Value).toArray }).objs.size := fun b hb =>
    ⟨⟨by rw [upd_ne (Nat.ne_of_lt (lt b hb))]; exact (f2 b hb).1, (f2 b hb).2⟩, by rw [Heap.size_push]; exact Nat.lt_succ_of_lt (lt b hb)⟩
  have st3 : tn 0 (s2.heap.push { cls := .type "list", data := .seq ([] : List Value).toArray }) := T.keep _ _ _ st2 fun b _ o e => Heap.get?_push_of_some _ e
  generalize s2.heap.objs.size = D at nD hq I3 f3
  generalize hs3 : ({ s2 with heap := s2.heap.push { cls := .type "list", data := .seq ([] : List Value).toArray } } : Shared) = s3 at I3
  have e3 : s2.heap.push { cls := .type "list", data := .seq ([] : List Value).toArray } = s3.heap := by rw [← hs3]
  rw [e3] at f3 st3
  generalize upd H2 D (.lst []) = H3 at hq I3 f3
  have I4 := block_start I3 ok hN f3
  have pg := hg s3 H3 s3.heap.objs.size (cellsFrom (s3.heap.objs.size + 1) scope.names (cloFrom X.env.cells scope.names [])) fp
  have pt := ht s3 H3 s3.heap.objs.size (cellsFrom (s3.heap.objs.size + 1) scope.names (cloFrom X.env.cells scope.names [])) fp
  have pb := hb s3 H3 s3.heap.objs.size (cellsFrom (s3.heap.objs.size + 1) scope.names (cloFrom X.env.cells scope.names [])) fp D (.ref it)
  show codeAny _ _ (.compStart _ 0 (.ref it) (.ref D) (compEnvC scope (cellsFrom (s3.heap.objs.size + 1) scope.names (cloFrom X.env.cells scope.names [])) s3.heap.objs.size X.env)) _ { s3 with heap := pushCells (s3.heap.push { cls := .type "dict", data := .dict #[] }) scope.names }
  generalize hce : compEnvC scope (cellsFrom (s3.heap.objs.size + 1) scope.names (cloFrom X.env.cells scope.names [])) s3.heap.objs.size X.env = ce at I4 pg pt pb ⊢
  have cL : ce.locals = s3.heap.objs.size := by rw [← hce]; rfl
  have st4 : tn 0 (pushCells (s3.heap.push { cls := .type "dict", data := .dict #[] }) scope.names) := T.keep _ _ _ st3 fun b _ o e => pushCells_keeps _ _ _ _ (Heap.get?_push_of_some _ e)
  obtain ⟨k, hk, sg⟩ := pb
  have st5 : tn 0 ({ s3 with heap := pushCells (s3.heap.push { cls := .type "dict", data := .dict #[] }) scope.names } : Shared).heap := st4
  generalize ({ s3 with heap := pushCells (s3.heap.push { cls := .type "dict", data := .dict #[] }) scope.names } : Shared) = s4 at I4 st5 ⊢
  have loop := run_over (B := X.blk s3 H3 scope ce fp) (R := compPost (model X.prog X.w) X.A X.xe none (EP X pins σ Q) (.ref D) s3.heap.objs.size) hc rfl T hk pg pt sg hv
    (fun {σ' H' s'} I' hn b hb => ⟨hn b hb, (I'.ok.exf b hb).1, I'.ok.exfs b hb, .inl hb, fun x c e => (I'.ok.exf b hb).2 x c e, fun p hp => absurd (show p ∈ ([] : List (Addr × Obj)) ++ [] from hp) (by simp)⟩) I4 st5 (fun b hb => (f3 b hb).1.1) hq fun H' s' I' q' => ?_
  · exact codeAny_compStart_list loop (T.self X.A 0 _ _ _ st5 loop)
  · have I6 : Inv X pins σ H' s' := I3.call' (ch := fp) I'.os I'.base I'.hok I'.bare fun b hb => by
      obtain ⟨_, n1, n2, n3, n4, n5⟩ := (f3 b hb).1
      exact ⟨n3, n1, n4, n5⟩
    have nC : H' s3.heap.objs.size = none := by
      have z : H' ce.locals = none := I'.free
      rwa [cL] at z
    obtain ⟨m, hn, _⟩ := I'.loc
    have hn2 : s'.heap.Ns ce.locals m := hn
    rw [cL] at hn2
    refine ⟨m, hn2, fun h'' sb => ?_⟩
    obtain ⟨f0, f1, f2', f3', f4, f5⟩ := I3.fpOk (Nat.le_refl _) nC
    exact ⟨.ref D, H', I6.turned (t' := s'.toks) (fun b o hb e => (sb.2 b hb).trans e) f0 f1 f3' f4 f5, rfl, q'⟩
/-- what is made is put to the list at D -/
def tEmit (D : Addr) (te : TE) : Tc := fun σ H R => te σ H fun y H4 => ∃ acc, H4 D = some (.lst acc) ∧ acc.length < sizeLine ∧ R (upd H4 D (.lst (acc ++ [y])))
/-- [elt for .. for .. for ..] -/
theorem pe_lc3 {elt tg iter tg1 iter1 tg2 iter2 : Expr} {ifs ifs1 ifs2 : List Expr} {scope : Scope} {own : List (Str × Nat)} {vs1 vs2 : List Nat} {cpos : Pos} {wi wi1 wi2 : TI} {g g1 g2 : TG} {tt tt1 tt2 : TT} {te : TE} (hc : X.calm = true) (hN : X.N.Nodup) (hi : PI X tg iter wi) (ok : BlkOk X.N X.env.scope scope own) (hv : ∀ i ∈ vs1, i ∈ own.map (·.2)) (hv2 : ∀ i ∈ vs2, i ∈ vs1)
    (hg : ∀ (s : Shared) (H : Hp) (C : Addr) (cl : List (Str × Addr)) (fp : List Addr), PG (X.blk s H scope (compEnvC scope cl C X.env) fp) tg g) (ht : ∀ (s : Shared) (H : Hp) (C : Addr) (cl : List (Str × Addr)) (fp : List Addr), PTs (X.blk s H scope (compEnvC scope cl C X.env) fp) ifs tt)
    (hi1 : ∀ (s : Shared) (H : Hp) (C : Addr) (cl : List (Str × Addr)) (fp : List Addr), PI (X.blk s H scope (compEnvC scope cl C X.env) fp) tg1 iter1 wi1) (hg1 : ∀ (s : Shared) (H : Hp) (C : Addr) (cl : List (Str × Addr)) (fp : List Addr), PG (X.blk s H scope (compEnvC scope cl C X.env) fp) tg1 g1)
    (ht1 : ∀ (s : Shared) (H : Hp) (C : Addr) (cl : List (Str × Addr)) (fp : List Addr), PTs (X.blk s H scope (compEnvC scope cl C X.env) fp) ifs1 tt1)
    (hi2 : ∀ (s : Shared) (H : Hp) (C : Addr) (cl : List (Str × Addr)) (fp : List Addr), PI (X.blk s H scope (compEnvC scope cl C X.env) fp) tg2 iter2 wi2) (hg2 : ∀ (s : Shared) (H : Hp) (C : Addr) (cl : List (Str × Addr)) (fp : List Addr), PG (X.blk s H scope (compEnvC scope cl C X.env) fp) tg2 g2)
    (ht2 : ∀ (s : Shared) (H : Hp) (C : Addr) (cl : List (Str × Addr)) (fp : List Addr), PTs (X.blk s H scope (compEnvC scope cl C X.env) fp) ifs2 tt2)
    (he : ∀ (s : Shared) (H : Hp) (C : Addr) (cl : List (Str × Addr)) (fp : List Addr), PE (X.blk s H scope (compEnvC scope cl C X.env) fp) elt te)
    (hs : ∀ x, foldedSetIterable iter X.env x = pure x := by intro _; rfl) (hs1 : ∀ env x, foldedSetIterable iter1 env x = pure x := by intro _ _; rfl) (hs2 : ∀ env x, foldedSetIterable iter2 env x = pure x := by intro _ _; rfl) :
    PE X (.ListComp elt [⟨tg, iter, ifs, 0⟩, ⟨tg1, iter1, ifs1, 0⟩, ⟨tg2, iter2, ifs2, 0⟩] scope cpos) (tTop wi g tt (fun D => tIn wi1 g1 tt1 (tIn wi2 g2 tt2 (tEmit D te) vs2) vs1) (own.map (·.2))) :=
  pe_lcN (p := iter.pos) (vs1 := vs1) hc hN hi ok hv hg ht (fun s H C cl fp D it => ⟨_, goes_in rfl rfl,
    seg_in (p := iter1.pos) hc rfl rfl (fun it1 => goes_in rfl rfl) (hi1 s H C cl fp) (hg1 s H C cl fp) (ht1 s H C cl fp) (fun it1 =>
      seg_in (p := iter2.pos) hc rfl rfl (fun it2 => goes_end rfl rfl) (hi2 s H C cl fp) (hg2 s H C cl fp) (ht2 s H C cl fp) (fun it2 => seg_emit rfl (he s H C cl fp)) (fun _ z => (nomatch z)) (hs2 _)) hv2 (hs1 _)⟩) hs
theorem over_it {J : It} {n : Nat} {Gd : Hp → Prop} {Y : Nat → Hp → V → Hp → Prop} {g : TG} {tt : TT} {tb : Tc} {vs : List Nat} {σ : L2.St} {H : Hp} {Dn : Hp → Prop} (w : Walk J n Gd Y) (Pv : Nat → Hp → Prop) (h0 : Pv 0 H) (hG : ∀ i H, i ≤ n → Pv i H → Gd H)
    (hs : ∀ i x H H', i < n → Pv i H → Y i H x H' → g x (wipe σ vs) H' fun σ2 H2 => wipe σ2 vs = wipe σ vs ∧ tt σ2 H2 fun b H3 => if b = true then tb σ2 H3 (Pv (i + 1)) else Pv (i + 1) H3) (hd : ∀ H, Pv n H → Dn H) : tOver g tt tb vs J σ H Dn := by
  refine ⟨fun i m H => m = n - i ∧ i ≤ n ∧ Pv i H, ⟨n, rfl, Nat.zero_le _, h0⟩, fun i m H hI => ?_⟩
  obtain ⟨rfl, hi, p⟩ := hI
  by_cases hlt : i < n
  · exact .inr ⟨w.goes i H hlt (hG i H hi p), Pv (i + 1), fun H' p' => ⟨n - (i + 1), by omega, rfl, hlt, p'⟩, fun x H' y => hs i x H H' hlt p (w.yields i H x H' hlt (hG i H hi p) y)⟩
  · obtain rfl : i = n := by omega
    exact .inl ⟨w.stops H (hG i H hi p), hd H p⟩
end
end L3

set_option maxHeartbeats 4000000
namespace S1
open PySem PySem.Spec PyProof.Rows L2

/-! keys that may stand in a set -/
mutual
/-- a key of whole numbers and tuples alone -/
def figures : NestedKey → Bool
  | .num _ => true
  | .tup ks => figuresAll ks
  | .none => false
  | .text _ => false
def figuresAll : List NestedKey → Bool
  | [] => true
  | k :: ks => figures k && figuresAll ks
end
section
variable {P : Program} {w : World} {E : Value → Shared → Prop}
theorem loop_false {A : Around} {s : Shared} {f : Value → Sem Bool} {vs : Array Value} {Q : Bool → Shared → Prop} (each : ∀ v ∈ vs.toList, ∀ (Q' : Bool → Shared → Prop), Q' false s → wpAny (model P w) A (f v) Q' E s) (fin : Q false s) :
    wpAny (model P w) A (do
      for y in vs do
        if ← f y then return true
      return false : Sem Bool) Q E s := by
  refine wpAny_bind ?_
  rw [← Array.forIn_toList]
  refine wpAny_forIn_list _ (fun rest r s1 => r.1 = none ∧ s1 = s ∧ ∀ v ∈ rest, v ∈ vs.toList) _ ?_ ?_ _ _ ⟨rfl, rfl, fun v hv => hv⟩
  · rintro v rest r s1 ⟨r0, rfl, inside⟩
    refine wpAny_bind (each v (inside v List.mem_cons_self) _ ?_)
    simp only [Bool.false_eq_true, if_false]
    exact wpAny_pure ⟨rfl, rfl, fun u hu => inside u (List.mem_cons_of_mem _ hu)⟩
  · rintro ⟨r1, r2⟩ s1 ⟨r0, rfl, _⟩
    simp only at r0
    subst r0
    exact wpAny_pure fin
theorem loop_true {A : Around} {s : Shared} {f : Value → Sem Bool} {vs : Array Value} {Q : Bool → Shared → Prop} (each : ∀ v ∈ vs.toList, ∀ (Q' : Bool → Shared → Prop), Q' true s → wpAny (model P w) A (f v) Q' E s) (fin : Q true s) :
    wpAny (model P w) A (do
      for y in vs do
        if !(← f y) then return false
      return true : Sem Bool) Q E s := by
  refine wpAny_bind ?_
  rw [← Array.forIn_toList]
  refine wpAny_forIn_list _ (fun rest r s1 => r.1 = none ∧ s1 = s ∧ ∀ v ∈ rest, v ∈ vs.toList) _ ?_ ?_ _ _ ⟨rfl, rfl, fun v hv => hv⟩
  · rintro v rest r s1 ⟨r0, rfl, inside⟩
    refine wpAny_bind (each v (inside v List.mem_cons_self) _ ?_)
    simp only [Bool.not_true, Bool.false_eq_true, if_false]
    exact wpAny_pure ⟨rfl, rfl, fun u hu => inside u (List.mem_cons_of_mem _ hu)⟩
  · rintro ⟨r1, r2⟩ s1 ⟨r0, rfl, _⟩
    simp only at r0
    subst r0
    exact wpAny_pure fin
mutual
theorem no_class : ∀ (k : NestedKey) (v : Value) (n : Nat) (A : Around) (s : Shared) (Q : Bool → Shared → Prop), NestedIs s.heap k v → figures k = true → k.depth ≤ n → Q false s → wpAny (model P w) A (ofAClassStatement n v) Q E s
  | .num i, v, n, A, s, Q, is, fg, dn, q => by
    have e : ofAClassStatement n v = pure false := by
      cases is <;> (cases n <;> rfl)
    rw [e]
    exact wpAny_pure q
  | .none, _, _, _, _, _, _, fg, _, _ => by simp [figures] at fg
  | .text _, _, _, _, _, _, _, fg, _, _ => by simp [figures] at fg
  | .tup ks, v, 0, A, s, Q, is, fg, dn, q => by simp only [NestedKey.depth] at dn; omega
  | .tup ks, v, n + 1, A, s, Q, is, fg, dn, q => by
    cases is with
    | tup hg hc hd hk =>
      rename_i a o vs m
      simp only [NestedKey.depth] at dn
      simp only [figures] at fg
      unfold ofAClassStatement
      refine wpAny_bind (wpAny_typeOf (⟨o, hg, hc⟩ : s.TypeIs (.ref a) "tuple") ?_)
      dsimp only
      have e : (("tuple" : String) == "tuple") = true := by decide
      simp only [e, if_true, Bool.not_true, Bool.false_eq_true, if_false]
      try refine wpAny_bind (wpAny_pure ?_)
      try simp only [Bool.not_true, Bool.false_eq_true, if_false]
      show wpAny _ _ (seqItems? (.ref a) >>= _) _ _ s
      refine wpAny_bind (wpAny_seqItems hg hd ?_)
      exact loop_false (fun u hu Q' q' => no_classes ks vs.toList n A s hk fg (by omega) u hu Q' q') q
theorem no_classes : ∀ (ks : List NestedKey) (vs : List Value) (n : Nat) (A : Around) (s : Shared), NestedAll s.heap ks vs → figuresAll ks = true → NestedKey.depthAll ks ≤ n → ∀ u ∈ vs, ∀ Q : Bool → Shared → Prop, Q false s → wpAny (model P w) A (ofAClassStatement n u) Q E s
  | [], _, _, _, _, is, _, _, u, hu, _, _ => by cases is; cases hu
  | k :: ks, _, n, A, s, is, fg, dn, u, hu, Q, q => by
    cases is with
    | cons i1 i2 =>
      simp only [figuresAll, Bool.and_eq_true] at fg
      simp only [NestedKey.depthAll] at dn
      rcases List.mem_cons.mp hu with e | hu
      · rw [e]; exact no_class k _ n A s Q i1 fg.1 (by omega) q
      · exact no_classes ks _ n A s i2 fg.2 (by omega) u hu Q q
end
mutual
theorem by_value : ∀ (k : NestedKey) (v : Value) (n : Nat) (A : Around) (s : Shared) (Q : Bool → Shared → Prop), NestedIs s.heap k v → figures k = true → k.depth ≤ n → Q true s → wpAny (model P w) A (hashByValue n v) Q E s
  | .num i, v, n, A, s, Q, is, fg, dn, q => by
    have e : hashByValue n v = pure true := by
      cases is <;> (cases n <;> rfl)
    rw [e]
    exact wpAny_pure q
  | .none, _, _, _, _, _, _, fg, _, _ => by simp [figures] at fg
  | .text _, _, _, _, _, _, _, fg, _, _ => by simp [figures] at fg
  | .tup ks, v, 0, A, s, Q, is, fg, dn, q => by simp only [NestedKey.depth] at dn; omega
  | .tup ks, v, n + 1, A, s, Q, is, fg, dn, q => by
    cases is with
    | tup hg hc hd hk =>
      rename_i a o vs m
      simp only [NestedKey.depth] at dn
      simp only [figures] at fg
      unfold hashByValue
      refine wpAny_bind (wpAny_specialOf (⟨o, hg, hc⟩ : s.TypeIs (.ref a) "tuple") F.slot_tuple_hash.lookup ?_)
      show wpAny _ _ (seqItems? (.ref a) >>= _) _ _ s
      refine wpAny_bind (wpAny_seqItems hg hd ?_)
      exact loop_true (vs := vs) (fun u hu Q' q' => by_values ks vs.toList n A s hk fg (by omega) u hu Q' q') q
theorem by_values : ∀ (ks : List NestedKey) (vs : List Value) (n : Nat) (A : Around) (s : Shared), NestedAll s.heap ks vs → figuresAll ks = true → NestedKey.depthAll ks ≤ n → ∀ u ∈ vs, ∀ Q : Bool → Shared → Prop, Q true s → wpAny (model P w) A (hashByValue n u) Q E s
  | [], _, _, _, _, is, _, _, u, hu, _, _ => by cases is; cases hu
  | k :: ks, _, n, A, s, is, fg, dn, u, hu, Q, q => by
    cases is with
    | cons i1 i2 =>
      simp only [figuresAll, Bool.and_eq_true] at fg
      simp only [NestedKey.depthAll] at dn
      rcases List.mem_cons.mp hu with e | hu
      · rw [e]; exact by_value k _ n A s Q i1 fg.1 (by omega) q
      · exact by_values ks _ n A s i2 fg.2 (by omega) u hu Q q
end
end
/-- the tuple at b is the key k, of figures, not deep -/
structure Fig (h : Heap) (k : NestedKey) (b : Addr) : Prop where
  is : NestedIs h k (.ref b)
  fg : figures k = true
  dp : k.depth ≤ 8
theorem Fig.inj {h : Heap} {k k' : NestedKey} {b : Addr} (x : Fig h k b) (y : Fig h k' b) : k = k' := NestedIs.inj _ _ _ x.is y.is
theorem Fig.on {h h' : Heap} {k : NestedKey} {b : Addr} (x : Fig h k b) (keep : ∀ c o, h.get? c = some o → h'.get? c = some o) : Fig h' k b := ⟨NestedIs.at (fun a o vs n e _ => keep a o e) k _ x.is, x.fg, x.dp⟩
/-- what is done to a set turns no key -/
theorem Fig.off {h h' : Heap} {k : NestedKey} {a b : Addr} {o : Obj} {es : Array (Int × Value)} {ep : Nat} {t : SetTable} (x : Fig h k b) (at0 : h.get? a = some o) (dat : o.data = .set es ep t) (sb : Heap.SameBut a h h') : Fig h' k b := by
  refine ⟨NestedIs.at (fun c oc vs n e ed => ?_) k _ x.is, x.fg, x.dp⟩
  have ne : c ≠ a := fun z => by
    rw [z, at0] at e
    cases e
    rw [dat] at ed
    cases ed
  rw [sb.2 c ne]
  exact e
end S1

set_option maxHeartbeats 4000000
namespace S2
open PySem PySem.Spec PyProof.Rows L2 S1
abbrev Row := Addr × NestedKey
/-- how a row stands in the table -/
abbrev cell (w : World) (p : Row) : Int × Value := (p.2.hash w, .ref p.1)
/-- the step c of the way of a hash -/
abbrev pr (m : Nat) (x : Int) (c : Nat) : SetTable.Probe := nth m (runAt m (SetTable.bits x % (m + 1)) (SetTable.bits x)) c
/-- a set of keys of figures, all of it -/
structure Has (w : World) (h : Heap) (a : Addr) (L : List Row) (es : Array (Int × Value)) (ep : Nat) (t : SetTable) : Prop where
  o : ∃ o, h.get? a = some o ∧ o.ExactSet ∧ o.data = .set es ep t
  cells : es.toList = L.map (cell w)
  tab : TabOk t (L.map fun p => p.2.hash w)
  once : (L.map (·.2)).Nodup
  keys : ∀ p ∈ L, Fig h p.2 p.1
  flat : t.plain = true
  led : w.params.followText "set-order" = true ∨ t.led = true
  spare : L.length * 5 < t.mask * 3
  few : L.length < 64
section
variable {w : World} {h : Heap} {a : Addr} {L : List Row} {es : Array (Int × Value)} {ep : Nat} {t : SetTable}
theorem many (e : es.toList = L.map (cell w)) : es.size = L.length := by
  have q := congrArg List.length e
  simpa using q
theorem fits_of (e1 : t.place.size = es.size) (e2 : t.dummies = #[]) (e3 : es.size ≤ t.mask) : t.fits es.size = true := by
  have q : t.place.size = es.size ∧ t.place.size + 0 ≤ t.mask := ⟨e1, by omega⟩
  unfold SetTable.fits SetTable.fill
  rw [e2, Bool.and_eq_true, beq_iff_eq, decide_eq_true_eq]
  exact q
theorem Has.places (R : Has w h a L es ep t) : t.place.size = L.length := by
  have q := R.tab.sz
  rwa [List.length_map] at q
theorem Has.fits (R : Has w h a L es ep t) : t.fits es.size = true := by
  have q1 := R.places
  have q2 := many R.cells
  have q3 := R.spare
  exact fits_of (by omega) R.tab.dm (by omega)
theorem at_cell (e : es.toList = L.map (cell w)) {i : Nat} {p : Row} (q : L[i]? = some p) : es[i]? = some (cell w p) := by
  rw [← Array.getElem?_toList, e, List.getElem?_map, q, Option.map_some]
theorem no_dummy (m : Nat) (x : Int) : ∀ c, (pr m x c).dummy = none := by
  have step : ∀ (n : Nat) (p : SetTable.Probe), p.dummy = none → (nth m p n).dummy = none := by
    intro n
    induction n with
    | zero => exact fun _ z => z
    | succ n ih =>
      intro p z
      apply ih (adv m p)
      unfold adv
      split
      · exact z
      · exact z
  exact fun c => step c _ rfl
end
section
variable {P : Program} {w : World} {A : Around} {E : Value → Shared → Prop} {s : Shared} {a : Addr} {L : List Row} {es : Array (Int × Value)} {ep : Nat} {t : SetTable}
/-- two such keys are asked whether they are equal -/
theorem eq_figs {x y : Addr} {k k' : NestedKey} {Q : Bool → Shared → Prop} (fx : Fig s.heap k x) (fy : Fig s.heap k' y) (hu : A.units + 8 < cLine) (q : Q (decide (k = k')) s) : wpAny (model P w) A (eqBool (.ref x) (.ref y)) Q E s :=
  (nestedKind P w).eqBool (show A.units + 8 < cLine from hu) ⟨fx.is, fx.dp⟩ ⟨fy.is, fy.dp⟩ q
/-- no search among such keys shows the table -/
theorem unseen {x : Addr} {k : NestedKey} {ys : List Value} {Q : Bool → Shared → Prop} (fx : Fig s.heap k x) (all : ∀ y ∈ ys, ∃ k' c, y = Value.ref c ∧ Fig s.heap k' c) (q : Q false s) : wpAny (model P w) A (searchCouldBeSeen (.ref x) ys) Q E s := by
  unfold searchCouldBeSeen
  refine wpAny_bind ?_
  refine wpAny_forIn_list _ (fun rest r s1 => r.1 = none ∧ s1 = s ∧ ∀ y ∈ rest, y ∈ ys) _ ?_ ?_ _ _ ⟨rfl, rfl, fun y hy => hy⟩
  · rintro y rest r s1 ⟨r0, rfl, sub⟩
    obtain ⟨k', c, rfl, fc⟩ := all y (sub y List.mem_cons_self)
    have sub2 : ∀ z ∈ rest, z ∈ ys := fun z hz => sub z (List.mem_cons_of_mem _ hz)
    dsimp only
    by_cases very : (x == c || (carriedByValue (.ref x) && carriedByValue (.ref c))) = true
    · exact wp_if_pos very (wpAny_pure ⟨rfl, rfl, sub2⟩)
    · refine wp_if_neg very (wpAny_bind ((nestedKind P w).quiet ⟨fx.is, fx.dp⟩ ?_))
      simp only [Bool.not_true, Bool.false_eq_true, if_false]
      refine wpAny_bind ((nestedKind P w).quiet ⟨fc.is, fc.dp⟩ ?_)
      simp only [Bool.not_true, Bool.false_eq_true, if_false]
      refine wpAny_bind (no_class _ _ 8 _ _ _ fx.is fx.fg fx.dp ?_)
      simp only [Bool.false_eq_true, if_false]
      refine wpAny_bind (no_class _ _ 8 _ _ _ fc.is fc.fg fc.dp ?_)
      simp only [Bool.false_eq_true, if_false]
      exact wpAny_pure ⟨rfl, rfl, sub2⟩
  · rintro ⟨r1, r2⟩ s1 ⟨r0, rfl, _⟩
    simp only at r0
    subst r0
    exact wpAny_pure q
/-- the search for a key, from a step of its way on: f turns are enough where no more steps are left to the first free place -/
theorem seek (R : Has w s.heap a L es ep t) {x : Addr} {k : NestedKey} (fx : Fig s.heap k x) (hu : A.units + 8 < cLine) {top : Nat} (short : top < 10 * SetTable.turns t.mask)
    (free : way t.mask (k.hash w) top ∉ t.place.toList) (taken : ∀ c, c < top → way t.mask (k.hash w) c ∈ t.place.toList) {Q : SetFound → Shared → Prop}
    (is : k ∈ L.map (·.2) → Q (.there none) s) (isnt : k ∉ L.map (·.2) → Q (.free (way t.mask (k.hash w) top) false) s) :
    ∀ (f c : Nat) (from_ : Option SetTable.Probe), from_.getD (t.probeStart (k.hash w)) = pr t.mask (k.hash w) c → c ≤ top → top - c < f →
      (∀ (i : Nat) (p : Row), L[i]? = some p → p.2 = k → ∃ d, c ≤ d ∧ d < top ∧ t.place.toList[i]? = some (way t.mask (k.hash w) d)) →
      wpAny (model P w) A (setSearchFrom a (.ref x) (k.hash w) true f from_) Q E s := by
  obtain ⟨o, at0, ex, dat⟩ := R.o
  generalize hh : k.hash w = hx at *
  intro f
  induction f with
  | zero => exact fun c from_ _ _ z => absurd z (Nat.not_lt_zero _)
  | succ f ih =>
    intro c from_ e0 le0 lt0 ahead
    rw [setSearchFrom_succ]
    refine wpAny_bind (wpAny_setState_of at0 dat R.fits ?_)
    dsimp only
    refine wp_if_neg (by unfold SetTable.gaveWay; rw [mask_odd R.tab.mok]; decide) ?_
    try refine wpAny_bind (wpAny_pure ?_)
    have onward : ∀ q, nth t.mask (pr t.mask hx c) q = pr t.mask hx (c + q) := fun q => (nth_add t.mask c _ q).symm
    have place : ∀ q, (nth t.mask (pr t.mask hx c) q).j = way t.mask hx (c + q) := fun q => congrArg SetTable.Probe.j (onward q)
    have hashes : ∀ (i : Nat) (p : Row), L[i]? = some p → (es[i]?.map (·.1)).getD 0 = p.2.hash w := fun i p q => by
      rw [at_cell R.cells q]
      rfl
    have back : c + (top - c) = top := by omega
    rw [e0]
    rcases go_spec t R.tab.ris R.tab.dm (fun i => (es[i]?.map (·.1)).getD 0) hx (10 * SetTable.turns t.mask) (top - c) _ (no_dummy t.mask hx c) (by omega)
      (fun q hq => by rw [place]; exact taken (c + q) (by omega)) (by rw [place, back]; exact free) with ⟨q, i, lt1, at1, eq1, none1, found⟩ | ⟨none1, found⟩
    · -- one of the same hash
      rw [place, onward] at found
      rw [place] at at1
      have found2 : t.probe (fun i => (es[i]?.map (·.1)).getD 0) hx (pr t.mask hx c) = some (.candidate (way t.mask hx (c + q)) i (pr t.mask hx (c + (q + 1)))) := found
      rw [found2]
      dsimp only
      have il : i < L.length := by
        have z := (List.getElem?_eq_some_iff.mp at1).1
        rw [Array.length_toList, R.places] at z
        exact z
      obtain ⟨p, hp⟩ : ∃ p, L[i]? = some p := ⟨_, List.getElem?_eq_getElem il⟩
      have mp : p ∈ L := List.mem_of_getElem? hp
      have live : t.slot (way t.mask hx (c + q)) = .live i := slot_live R.tab.ris at1
      have rest : wpAny (model P w) A (searchRest a (.ref x) hx true f es t (way t.mask hx (c + q)) i (pr t.mask hx (c + (q + 1)))) Q E s := by
        unfold searchRest
        rw [at_cell R.cells hp]
        dsimp only
        refine wpAny_bind (wpAny_holding (eq_figs (R.keys p mp) fx hu ?_))
        refine wpAny_bind (wpAny_setState_of at0 dat R.fits ?_)
        dsimp only
        by_cases same : p.2 = k
        · refine wp_if_pos (by simp [same]) (wpAny_pure (is ?_))
          exact List.mem_map.mpr ⟨p, mp, same⟩
        · refine wp_if_neg (by simp [same]) ?_
          try refine wpAny_bind (wpAny_pure ?_)
          rw [sameMem]
          dsimp only
          simp only [if_true, live, at_cell R.cells hp]
          refine wpAny_bind (wpAny_isSame_ref_self (wpAny_bind (wpAny_pure ?_)))
          simp only [if_true]
          refine wp_if_neg (by simp [same]) (ih (c + (q + 1)) _ rfl (by omega) (by omega) fun i2 p2 h2 k2 => ?_)
          obtain ⟨d, d1, d2, d3⟩ := ahead i2 p2 h2 k2
          have other : i2 ≠ i := fun z => by
            rw [z, hp] at h2
            cases h2
            exact same k2
          refine ⟨d, ?_, d2, d3⟩
          rcases Nat.lt_trichotomy d (c + q) with z | z | z
          · have dz : c + (d - c) = d := by omega
            refine absurd ?_ (none1 (d - c) i2 (by omega) (by rw [place, dz]; exact d3))
            rw [hashes i2 p2 h2, k2]
            exact hh
          · rw [z] at d3
            have two := slot_live R.tab.ris d3
            rw [live] at two
            cases two
            exact absurd rfl other
          · omega
      by_cases hl : t.led = true
      · refine wp_if_neg (by simp [hl]) ?_
        try refine wpAny_bind (wpAny_pure ?_)
        exact rest
      · refine wp_if_pos (by simp [hl]) (wpAny_bind (unseen fx (fun y hy => ?_) ?_))
        · obtain ⟨e, me, rfl⟩ := List.mem_map.mp hy
          have me2 : e ∈ es.toList := by
            have z : e ∈ es ∧ e.1 = hx := by simpa using me
            simpa using z.1
          rw [R.cells] at me2
          obtain ⟨p2, mp2, rfl⟩ := List.mem_map.mp me2
          exact ⟨p2.2, p2.1, rfl, R.keys p2 mp2⟩
        · refine wp_if_neg (by decide) ?_
          try refine wpAny_bind (wpAny_pure ?_)
          exact rest
    · rw [place, back] at found
      have found2 : t.probe (fun i => (es[i]?.map (·.1)).getD 0) hx (pr t.mask hx c) = some (.empty (way t.mask hx top) none) := found
      rw [found2]
      dsimp only
      refine wpAny_pure (isnt fun mem => ?_)
      obtain ⟨p, mp, kp⟩ := List.mem_map.mp mem
      obtain ⟨i, hi⟩ := List.getElem?_of_mem mp
      obtain ⟨d, d1, d2, d3⟩ := ahead i p hi kp
      have dz : c + (d - c) = d := by omega
      refine none1 (d - c) i (by omega) (by rw [place, dz]; exact d3) ?_
      rw [hashes i p hi, kp]
      exact hh
/-- the search as adding asks for it -/
theorem seek_all (R : Has w s.heap a L es ep t) {x : Addr} {k : NestedKey} (fx : Fig s.heap k x) (hu : A.units + 8 < cLine) {Q : SetFound → Shared → Prop}
    (is : k ∈ L.map (·.2) → Q (.there none) s)
    (isnt : ∀ top, k ∉ L.map (·.2) → way t.mask (k.hash w) top ∉ t.place.toList → (∀ c, c < top → way t.mask (k.hash w) c ∈ t.place.toList) → Q (.free (way t.mask (k.hash w) top) false) s) :
    wpAny (model P w) A (setSearch a (.ref x) (k.hash w) true) Q E s := by
  have sp := R.spare
  obtain ⟨top, short, free, taken⟩ := R.tab.first (by rw [List.length_map]; omega) (k.hash w)
  have small : 10 * SetTable.turns t.mask < 100000 := by
    unfold SetTable.turns
    rcases R.tab.mok with z | z | z <;> omega
  unfold setSearch
  refine seek R fx hu short free taken is (fun z => isnt top z free taken) 100000 0 none rfl (Nat.zero_le _) (by omega) fun i p hp kp => ?_
  have il : i < t.place.toList.length := by
    rw [Array.length_toList, R.places]
    exact (List.getElem?_eq_some_iff.mp hp).1
  have at1 := List.getElem?_eq_getElem il
  obtain ⟨d, d2, d3⟩ := R.tab.before free (i := i) (h := k.hash w) (by rw [List.getElem?_map, hp, ← kp, Option.map_some]) at1
  exact ⟨d, Nat.zero_le _, d2, by rw [at1, d3]⟩
end
end S2

set_option maxHeartbeats 4000000
namespace S2
open PySem PySem.Spec PyProof.Rows L2 S1
theorem pick_all {α : Type} (l : List α) : (List.range l.length).filterMap (fun i => l[i]?) = l := by
  have upto : ∀ n, n ≤ l.length → (List.range n).filterMap (fun i => l[i]?) = l.take n := by
    intro n
    induction n with
    | zero => exact fun _ => rfl
    | succ n ih =>
      intro le
      rw [List.range_succ, List.filterMap_append, ih (Nat.le_of_lt le), List.take_succ]
      congr 1
  rw [upto _ (Nat.le_refl _), List.take_length]
/-- rows put in another order -/
theorem reorder {α : Type} (L : List α) (f : α → Int × Value) (es : Array (Int × Value)) (order : Array Nat) (e : es.toList = L.map f) (pm : order.toList.Perm (List.range L.length)) :
    ∃ M : List α, (order.filterMap (es[·]?)).toList = M.map f ∧ M.Perm L ∧ (M.map fun p => (f p).1) = order.toList.map fun i => (es.map (·.1)).getD i 0 := by
  have at_ : ∀ i, es[i]? = (L[i]?).map f := fun i => by rw [← Array.getElem?_toList, e, List.getElem?_map]
  have pick : ∀ l : List Nat, (∀ i ∈ l, i < L.length) → l.filterMap (fun i => es[i]?) = (l.filterMap (fun i => L[i]?)).map f ∧ ((l.filterMap (fun i => L[i]?)).map fun p => (f p).1) = l.map fun i => (es.map (·.1)).getD i 0 := by
    intro l
    induction l with
    | nil => exact fun _ => ⟨rfl, rfl⟩
    | cons i l ih =>
      intro sub
      have lt := sub i List.mem_cons_self
      obtain ⟨q1, q2⟩ := ih fun j hj => sub j (List.mem_cons_of_mem _ hj)
      have g : L[i]? = some L[i] := List.getElem?_eq_getElem lt
      have ge : es[i]? = some (f L[i]) := by rw [at_, g, Option.map_some]
      have gd : (es.map (·.1)).getD i 0 = (f L[i]).1 := by
        rw [Array.getD_eq_getD_getElem?, Array.getElem?_map, ge]
        rfl
      refine ⟨?_, ?_⟩
      · rw [List.filterMap_cons_some (f := fun i => es[i]?) ge, List.filterMap_cons_some (f := fun i => L[i]?) g, List.map_cons, q1]
      · rw [List.filterMap_cons_some (f := fun i => L[i]?) g, List.map_cons, List.map_cons, q2, gd]
  obtain ⟨q1, q2⟩ := pick order.toList fun i hi => List.mem_range.mp (pm.mem_iff.mp hi)
  refine ⟨order.toList.filterMap (fun i => L[i]?), ?_, ?_, q2⟩
  · rw [Array.toList_filterMap]
    exact q1
  · have z := pm.filterMap (fun i => L[i]?)
    rwa [pick_all] at z
section
variable {P : Program} {w : World} {A : Around} {E : Value → Shared → Prop} {s : Shared} {a : Addr} {L : List Row} {es : Array (Int × Value)} {ep : Nat} {t : SetTable}
/-- the table laid anew -/
theorem wider {o : Obj} (at0 : s.heap.get? a = some o) (ex : o.ExactSet) (dat : o.data = .set es ep t) (cs : es.toList = L.map (cell w)) (pz : t.place.size = es.size) (dz : t.dummies = #[]) (mz : es.size ≤ t.mask)
    (once : (L.map (·.2)).Nodup) (keys : ∀ p ∈ L, Fig s.heap p.2 p.1) (flat : t.plain = true) (led : w.params.followText "set-order" = true ∨ t.led = true) (few : L.length < 64) {want M : Nat}
    (big : SetTable.sizeAbove want - 1 = M) (mo : MaskOk M) (line : SetTable.sizeAbove want ≤ 128) (spare : L.length * 5 < M * 3) {Q : Unit → Shared → Prop}
    (q : ∀ h1 L1 es1 ep1 t1, Heap.SameBut a s.heap h1 → Has w h1 a L1 es1 ep1 t1 → L1.Perm L → Q () { s with heap := h1 }) : wpAny (model P w) A (setRelay a want) Q E s := by
  have len := many cs
  obtain ⟨t1, order, laid, pm, T, em, el, epl, ed⟩ := relaid_ok t (hs := es.map (·.1)) (wanted := want) big mo (by rw [Array.size_map]; omega)
  rw [Array.size_map, len] at pm
  obtain ⟨L1, c1, p1, hs1⟩ := reorder L (cell w) es order cs pm
  have T1 : TabOk t1 (L1.map fun p => p.2.hash w) := by
    have z : (L1.map fun p => p.2.hash w) = order.toList.map fun i => (es.map (·.1)).getD i 0 := hs1
    rw [z]
    exact T
  have len1 : (order.filterMap (es[·]?)).size = es.size := by
    rw [many c1, p1.length_eq, len]
  rw [setRelay_eq]
  refine wpAny_bind (wpAny_setState_of at0 dat (fits_of pz dz mz) ?_)
  dsimp only
  refine wp_if_neg (by rw [sizeLine_eq]; omega) ?_
  try refine wpAny_bind (wpAny_pure ?_)
  rw [laid]
  dsimp only
  refine wpAny_bind ?_
  refine wp_if_neg (by rw [len1]; simp) ?_
  try refine wpAny_bind (wpAny_pure ?_)
  refine wpAny_pure ?_
  dsimp only
  refine wpAny_storeSet_of at0 dat ?_ (by rw [len1, len, sizeLine_eq]; omega)
  have sb : Heap.SameBut a s.heap (s.heap.update a (Obj.putSet (order.filterMap (es[·]?)) t1)) := Heap.SameBut.update ..
  refine q _ L1 _ (ep + 1) t1 sb { o := ⟨_, store_at at0 dat, ⟨ex.1, ex.2.1, ex.2.2⟩, rfl⟩, cells := c1, tab := T1, once := ?_, keys := fun p hp => (keys p (p1.mem_iff.mp hp)).off at0 dat sb, flat := ?_, led := ?_, spare := ?_, few := ?_ } p1
  · exact (p1.map (·.2)).nodup_iff.mpr once
  · rw [epl]; exact flat
  · rw [el]; exact led
  · rw [p1.length_eq, em]; exact spare
  · rw [p1.length_eq]; exact few
/-- a key put in -/
theorem put_in (R : Has w s.heap a L es ep t) {x : Addr} {k : NestedKey} (fx : Fig s.heap k x) (hu : A.units + 8 < cLine) (few : L.length + 1 < 64) {Q : Bool → Shared → Prop}
    (q : ∀ b h1 L1 es1 ep1 t1, Heap.SameBut a s.heap h1 → Has w h1 a L1 es1 ep1 t1 → (k ∈ L.map (·.2) ∧ L1 = L ∨ k ∉ L.map (·.2) ∧ L1.Perm ((x, k) :: L)) → Q b { s with heap := h1 }) :
    wpAny (model P w) A (setAddHashed a (.ref x) (k.hash w)) Q E s := by
  obtain ⟨o, at0, ex, dat⟩ := R.o
  have len := many R.cells
  have sp := R.spare
  unfold setAddHashed
  refine wpAny_holding ?_
  rw [show (100000 : Nat) = 99999 + 1 from rfl, setAddHashedIn_succ]
  refine wpAny_bind (wpAny_setState_of at0 dat R.fits ?_)
  dsimp only
  refine wp_if_neg (by simp [byScan, Value.scannable]) ?_
  try refine wpAny_bind (wpAny_pure ?_)
  refine wpAny_bind (seek_all R fx hu (fun mem => ?_) fun top mem free taken => ?_)
  · exact wpAny_pure (q false s.heap L es ep t (Heap.SameBut.refl a s.heap) R (.inl ⟨mem, rfl⟩))
  · dsimp only
    refine wpAny_bind (wpAny_setState_of at0 dat R.fits ?_)
    dsimp only
    obtain ⟨b1, b2, b3, b4, b5, b6, b7, b8, b9⟩ := R.tab.put free taken
    rw [List.length_map] at b2 b9
    have fl : (t.put (way t.mask (k.hash w) top)).1.plain = true := by rw [b6]; exact R.flat
    have ld : w.params.followText "set-order" = true ∨ (t.put (way t.mask (k.hash w) top)).1.led = true := by rw [b5]; exact R.led
    generalize t.put (way t.mask (k.hash w) top) = put at *
    obtain ⟨t1, n⟩ := put
    dsimp only at b1 b3 b4 b5 b6 b7 b8 b9 fl ld ⊢
    rw [← b1] at b2 b3
    clear b1 b7 b8
    first
      | (refine wpAny_bind ?_; refine wp_if_pos fl ?_; refine by_value _ _ 8 _ _ _ fx.is fx.fg fx.dp ?_)
      | refine wp_if_pos fl (wpAny_bind (by_value _ _ 8 _ _ _ fx.is fx.fg fx.dp ?_))
    simp only [if_true]
    -- the rows with the new one
    obtain ⟨L1, eL⟩ : ∃ L1, L1 = L.take n ++ (x, k) :: L.drop n := ⟨_, rfl⟩
    have pm : L1.Perm ((x, k) :: L) := by
      have z := List.perm_middle (a := (x, k)) (l₁ := L.take n) (l₂ := L.drop n)
      rw [List.take_append_drop] at z
      rw [eL]
      exact z
    have len1 : L1.length = L.length + 1 := pm.length_eq
    have T1 : TabOk t1 (L1.map fun p => p.2.hash w) := by
      rw [eL, List.map_append, List.map_cons, List.map_take, List.map_drop]
      exact b3
    have c1 : (SetTable.insertAt es n (k.hash w, Value.ref x)).toList = L1.map (cell w) := by
      rw [SetTable.toList_insertAt, R.cells, eL, List.map_append, List.map_cons, List.map_take, List.map_drop]
    have once1 : (L1.map (·.2)).Nodup := (pm.map (·.2)).nodup_iff.mpr (List.nodup_cons.mpr ⟨mem, R.once⟩)
    have esz : (SetTable.insertAt es n (k.hash w, Value.ref x)).size = L.length + 1 := (many c1).trans len1
    clear eL b3
    generalize SetTable.insertAt es n (k.hash w, Value.ref x) = es1 at c1 esz ⊢
    refine wpAny_bind (wpAny_storeSet_of at0 dat ?_ (by rw [esz, sizeLine_eq]; omega))
    have sb : Heap.SameBut a s.heap (s.heap.update a (Obj.putSet es1 t1)) := Heap.SameBut.update ..
    have at1 := store_at (es' := es1) (t' := t1) at0 dat
    have keys1 : ∀ p ∈ L1, Fig (s.heap.update a (Obj.putSet es1 t1)) p.2 p.1 := fun p hp => by
      rcases List.mem_cons.mp (pm.mem_iff.mp hp) with z | z
      · rw [z]; exact fx.off at0 dat sb
      · exact (R.keys p z).off at0 dat sb
    generalize s.heap.update a (Obj.putSet es1 t1) = h1 at sb at1 keys1 ⊢
    have pz1 : t1.place.size = L.length + 1 := by
      have z := T1.sz
      rwa [List.length_map, len1] at z
    have full : (t1.tooFull = true) ↔ t1.mask * 3 ≤ (L.length + 1) * 5 := by
      unfold SetTable.tooFull
      rw [decide_eq_true_eq, b9]
    by_cases over : t1.tooFull = true
    · have ov := full.mp over
      first
        | (refine wpAny_bind ?_; refine wp_if_pos (by simp [over]) ?_)
        | (refine wp_if_pos (by simp [over]) ?_; refine wpAny_bind ?_)
      rw [len]
      have two : (t.mask = 7 ∧ L.length = 4) ∨ (t.mask = 31 ∧ L.length = 18) := by
        rcases R.tab.mok with z | z | z
        · exact .inl ⟨z, by omega⟩
        · exact .inr ⟨z, by omega⟩
        · omega
      have lay : ∀ M, SetTable.sizeAbove (SetTable.grown (L.length + 1)) - 1 = M → MaskOk M → SetTable.sizeAbove (SetTable.grown (L.length + 1)) ≤ 128 → (L.length + 1) * 5 < M * 3 →
          wpAny (model P w) A (setRelay a (SetTable.grown (L.length + 1))) (fun _ s1 => wpAny (model P w) A (pure true) Q E s1) E { s with heap := h1 } := fun M z1 z2 z3 z4 => by
        refine wider (s := { s with heap := h1 }) at1 ⟨ex.1, ex.2.1, ex.2.2⟩ rfl c1 (by omega) T1.dm (by omega) once1 keys1 fl ld (by omega) z1 z2 z3 (by rw [len1]; exact z4) ?_
        exact fun h2 L2 es2 ep2 t2 sb2 R2 pm2 => wpAny_pure (q true h2 L2 es2 ep2 t2 (sb.trans sb2) R2 (.inr ⟨mem, pm2.trans pm⟩))
      rcases two with ⟨_, z⟩ | ⟨_, z⟩
      · exact lay 31 (by rw [z, size_20]) (.inr (.inl rfl)) (by rw [z, size_20]; decide) (by omega)
      · exact lay 127 (by rw [z, size_76]) (.inr (.inr rfl)) (by rw [z, size_76]; decide) (by omega)
    · have ov : ¬ t1.mask * 3 ≤ (L.length + 1) * 5 := fun z => over (full.mpr z)
      first
        | refine wp_if_neg (by simp [over]) ?_
        | (refine wpAny_bind ?_; refine wp_if_neg (by simp [over]) ?_; refine wpAny_pure ?_)
      exact wpAny_pure (q true h1 L1 es1 (ep + 1) t1 sb { o := ⟨_, at1, ⟨ex.1, ex.2.1, ex.2.2⟩, rfl⟩, cells := c1, tab := T1, once := once1, keys := keys1, flat := fl, led := ld, spare := by omega, few := by omega } (.inr ⟨mem, pm⟩))
end
end S2

set_option maxHeartbeats 4000000
namespace S2
open PySem PySem.Spec PyProof.Rows L2 S1
/-- a set that was just made -/
abbrev bareSet (w : World) : Obj := { cls := .type "set", dict := none, data := .set #[] 0 (.fresh 0 0 (!w.params.followText "set-order")) }
section
variable {P : Program} {w : World} {A : Around} {E : Value → Shared → Prop} {s : Shared}
/-- how an item is put into the set at S, whatever a word Wd says of the first i ones put in -/
def Puts (P : Program) (w : World) (A : Around) (S n : Nat) (Pv : Nat → Value → Prop) (Wd : Nat → Heap → Prop) : Prop :=
  ∀ (i : Nat) (v : Value) (s : Shared) (E : Value → Shared → Prop) (Q : Bool → Shared → Prop), i < n → Pv i v → Wd i s.heap → (∀ b h1 tk, s.toks ≤ tk → Heap.SameBut S s.heap h1 → Wd (i + 1) h1 → Q b { s with heap := h1, toks := tk }) → wpAny (model P w) A (setAdd S v) Q E s
theorem put_all {I S : Addr} {fp wr : List Addr} {G : Array GenState → Array GenState → Prop} {n : Nat} {Pv : Nat → Value → Prop} {St : Nat → Shared → Prop} {Wd : Nat → Heap → Prop} {R : Result → Shared → Prop}
    (W : WalksS P w A.in1 I fp wr G n Pv St) (apart : S ∉ fp) (stay : ∀ i h h1, Wd i h → (∀ b o, b ∉ wr → h.get? b = some o → h1.get? b = some o) → Wd i h1) (puts : Puts P w A.in1 S n Pv Wd) :
    ∀ (left i : Nat) (s : Shared), n - i = left → i ≤ n → St i s → Wd i s.heap → (∀ s1, Moved (S :: wr) G s s1 → Wd n s1.heap → R (.ok (.ret .none)) s1) →
      codeAny (model P w) A (.builtin "set.update.loop" ⟨[.ref S, .ref I], []⟩) R s := by
  have more : ∀ b ∈ wr, b ∈ S :: wr := fun b m => List.mem_cons_of_mem _ m
  intro left
  induction left with
  | zero =>
    intro i s hz hi st wd fin
    obtain rfl : i = n := by omega
    refine codeAny_builtin F.entry_set_update_loop ?_
    rw [Around.under_plainId F.plain_set_update_loop _]
    show wpAny _ A.in1 (pyNext (.ref I) >>= _) _ _ s
    refine wpAny_bind (W.done s _ _ st fun s1 mv => ?_)
    show wpAny _ A.in1 (ret Value.none) _ _ s1
    exact wpAny_pure (fin s1 (mv.mono more) (stay _ _ _ wd mv.heap))
  | succ left ih =>
    intro i s hz hi st wd fin
    have lt : i < n := by omega
    refine codeAny_builtin F.entry_set_update_loop ?_
    rw [Around.under_plainId F.plain_set_update_loop _]
    show wpAny _ A.in1 (pyNext (.ref I) >>= _) _ _ s
    refine wpAny_bind (W.item i s _ _ lt st fun v s1 pv st1 mv => ?_)
    show wpAny _ A.in1 (holding [v] (setAdd S v) >>= _) _ _ s1
    refine wpAny_bind (wpAny_holding (puts i v s1 _ _ lt pv (stay _ _ _ wd mv.heap) fun b h2 tk le sb wd2 => ?_))
    refine wpAny_pure ⟨plainId_quiet F.plain_set_update_loop _, ih (i + 1) _ (by omega) lt (W.frame _ s1 _ _ st1 le fun c m o e => ?_) wd2 fun s3 mv3 wd3 => fin s3 (Moved.trans W.gtrans ((mv.mono more).then_heap le fun c o m e => ?_) mv3) wd3⟩
    · rw [sb.2 c fun z : c = S => apart (z ▸ m)]
      exact e
    · rw [sb.2 c fun z : c = S => m (z ▸ List.mem_cons_self)]
      exact e
set_option maxRecDepth 100000 in
set_option maxHeartbeats 3200000 in
/-- set(t), t a tuple -/
theorem set_of_tuple {l : Addr} {items : Array Value} {Wd : Nat → Heap → Prop} {Q : Value → Shared → Prop} (calm : A.handled = none) (tl : s.heap.IsTuple l items)
    (wd0 : ∀ h1, (∀ b o, s.heap.get? b = some o → h1.get? b = some o) → h1.get? s.heap.objs.size = some (bareSet w) → Wd 0 h1)
    (stay : ∀ i h h1, Wd i h → (∀ b o, b ∉ [s.heap.objs.size + 1] → h.get? b = some o → h1.get? b = some o) → Wd i h1)
    (puts : Puts P w A.in1.in1.in1 s.heap.objs.size items.size (fun i v => items[i]? = some v) Wd)
    (fin : ∀ (h1 : Heap) (tk : Nat), Wd items.size h1 → (∀ b o, s.heap.get? b = some o → h1.get? b = some o) → Q (.ref s.heap.objs.size) { s with heap := h1, toks := tk }) :
    wpAny (model P w) A (call (.type "set") [.ref l]) Q E s := by
  obtain ⟨cM, tM, m0⟩ := F.called_set.mro
  have m1 := F.called_set.made
  have m2 := F.called_set.sub
  refine wpAny_call (codeAny_of_tree ?_)
  show wpAny _ _ (callAny (.type "set") _) _ _ _
  refine wpAny_pure ⟨Code.quiet_builtin _ (by decide +kernel), codeAny_builtin F.entry_type_call ?_⟩
  rw [Around.under_plain (weight_type_call_type "set" [.ref l] []) rfl]
  have m3 := F.called_set.notType
  have m4 := F.called_set.canCreate
  have m5 := F.typeCall_set_1 (.ref l)
  repeat (any_goals (first | assumption | wp_step))
  refine codeAny_mono (code_set_led1 (.ref l) (E := E) (Q₁ := fun u s1 => u = .ref s.heap.objs.size ∧ s1 = { s with heap := s.heap.push (bareSet w) }) ⟨rfl, rfl⟩) fun r s1 got => ?_
  match r, got with
  | .error _, got => exact got
  | .ok .next, got => exact got.elim
  | .ok .brk, got => exact got.elim
  | .ok .cont, got => exact got.elim
  | .ok (.ret u), ⟨eu, es1⟩ =>
    subst eu
    subst es1
    have new0 : (s.heap.push (bareSet w)).get? s.heap.objs.size = some (bareSet w) := Heap.get?_push_size _ rfl
    have ty0 : Shared.TypeIs { s with heap := s.heap.push (bareSet w) } (.ref s.heap.objs.size) "set" := ⟨_, new0, rfl⟩
    have m6 := F.called_set.init.lookup
    have m7 := F.called_set.init.bind (.ref s.heap.objs.size)
    repeat (any_goals (first | assumption | wp_step))
    refine codeAny_mono (codeAny_call_builtin (R := wants (fun r s2 => r = .none ∧ ∃ h1 tk, s2 = { s with heap := h1, toks := tk } ∧ Wd items.size h1 ∧ (∀ b o, s.heap.get? b = some o → h1.get? b = some o)) E) F.called_set.init.plain F.entry_set_init (check_set_init_1 ty0 ?_)) fun r2 s2 got2 => ?_
    · have old : ∀ b o, s.heap.get? b = some o → (s.heap.push (bareSet w)).get? b = some o := fun b o e => Heap.get?_push_of_some _ e
      have sz1 : (s.heap.push (bareSet w)).objs.size = s.heap.objs.size + 1 := Heap.size_push ..
      obtain ⟨⟨c0, d0, da0, sl0⟩, at0, ec, nl, ed⟩ := tl
      simp only at ec ed
      subst ec
      subst ed
      have lt0 : l < s.heap.objs.size := Heap.lt_size at0
      have at1 := old _ _ at0
      have tl1 : (s.heap.push (bareSet w)).IsTuple l items := ⟨_, at1, rfl, nl, rfl⟩
      have n1 := F.sub_tuple_set
      have n2 := F.sub_tuple_frozenset
      have n3 : (Value.type "tuple" == Value.type "dict") = false := by decide
      unfold Builtin.«set.__init__» noKeywords Builtin.Frozenset.updateFrom
      generalize ePI : pyIter = PI
      wp_walk
      subst ePI
      refine wpAny_pyIter_tuple tl1 (wpAny_bind (wpAny_runValue ?_))
      have ap : s.heap.objs.size ∉ [(s.heap.push (bareSet w)).objs.size, l] := by
        rw [sz1]
        intro m
        rcases List.mem_cons.mp m with z | z
        · omega
        · rw [List.mem_singleton.mp z] at lt0
          exact absurd lt0 (Nat.lt_irrefl _)
      have calm3 : A.in1.in1.in1.handled = none := by simp [calm]
      refine put_all ((Walks.tuple calm3 _ l (by rw [sz1]; exact Nat.ne_of_lt (Nat.lt_succ_of_lt lt0)) items).toS) ap (by rw [sz1]; exact stay) puts (items.size - 0) 0 _ (by omega) (Nat.zero_le _) ⟨⟨_, Heap.get?_push_size _ rfl, rfl, rfl⟩, (tl1.push _)⟩ (wd0 _ (fun b o e => Heap.get?_push_of_some _ (old b o e)) (Heap.get?_push_of_some _ new0)) fun s3 mv wd3 => ?_
      obtain ⟨h3, g3, d3, tk3, os3⟩ := s3
      obtain rfl : g3 = s.gens := mv.gens
      obtain rfl : d3 = s.drawn := mv.drawn
      obtain rfl : os3 = s.os := mv.os
      show wpAny _ _ _ _ _ _
      refine wpAny_pure ?_
      show wpAny _ _ (ret Value.none) _ _ _
      refine wpAny_pure ⟨rfl, h3, tk3, rfl, wd3, fun b o e => mv.heap b o (fun m => ?_) (Heap.get?_push_of_some _ (old b o e))⟩
      have lt := Heap.lt_size e
      rw [sz1] at m
      rcases List.mem_cons.mp m with z | z
      · exact absurd lt (z ▸ Nat.lt_irrefl _)
      · have z2 : b = s.heap.objs.size + 1 := List.mem_singleton.mp z
        rw [z2] at lt
        exact absurd (Nat.lt_of_succ_lt lt) (Nat.lt_irrefl _)
    · match r2, got2 with
      | .error _, got2 => exact got2
      | .ok .next, got2 => exact got2.elim
      | .ok .brk, got2 => exact got2.elim
      | .ok .cont, got2 => exact got2.elim
      | .ok (.ret r3), ⟨e3, h3, tk3, es3, wd3, old3⟩ =>
        subst e3
        subst es3
        repeat (any_goals (first | assumption | wp_step))
        exact fin _ _ wd3 old3
end
end S2

set_option maxHeartbeats 4000000
namespace S2
open PySem PySem.Spec PyProof.Rows L2 S1
/-! keys as data -/
mutual
theorem eqv_key : ∀ k k' : NestedKey, figures k = true → figures k' = true → PyData.eqv k.data k'.data = NestedKey.beq k k'
  | .num a, .num b, _, _ => by simp only [NestedKey.data, PyData.eqv, NestedKey.beq]; by_cases h : a = b <;> simp [h]
  | .num _, .tup _, _, _ => by simp [NestedKey.data, PyData.eqv, NestedKey.beq]
  | .tup _, .num _, _, _ => by simp [NestedKey.data, PyData.eqv, NestedKey.beq]
  | .tup ks, .tup ls, h, h' => by
    simp only [figures] at h h'
    simp only [NestedKey.data, PyData.eqv, NestedKey.beq]
    exact eqv_keys ks ls h h'
  | .none, _, h, _ => by simp [figures] at h
  | .text _, _, h, _ => by simp [figures] at h
  | .num _, .none, _, h => by simp [figures] at h
  | .num _, .text _, _, h => by simp [figures] at h
  | .tup _, .none, _, h => by simp [figures] at h
  | .tup _, .text _, _, h => by simp [figures] at h
theorem eqv_keys : ∀ ks ls : List NestedKey, figuresAll ks = true → figuresAll ls = true → PyData.eqvAll (NestedKey.datas ks) (NestedKey.datas ls) = NestedKey.beqAll ks ls
  | [], [], _, _ => by simp [NestedKey.datas, PyData.eqvAll, NestedKey.beqAll]
  | [], _ :: _, _, _ => by simp [NestedKey.datas, PyData.eqvAll, NestedKey.beqAll]
  | _ :: _, [], _, _ => by simp [NestedKey.datas, PyData.eqvAll, NestedKey.beqAll]
  | k :: ks, l :: ls, h, h' => by
    simp only [figuresAll, Bool.and_eq_true] at h h'
    simp only [NestedKey.datas, PyData.eqvAll, NestedKey.beqAll]
    rw [eqv_key k l h.1 h'.1, eqv_keys ks ls h.2 h'.2]
end
mutual
theorem depth_key : ∀ k : NestedKey, k.data.depth = k.depth
  | .none => by simp [NestedKey.data, PyData.depth, NestedKey.depth]
  | .num _ => by simp [NestedKey.data, PyData.depth, NestedKey.depth]
  | .text _ => by simp [NestedKey.data, PyData.depth, NestedKey.depth]
  | .tup ks => by simp only [NestedKey.data, PyData.depth, NestedKey.depth]; rw [depth_keys ks]
theorem depth_keys : ∀ ks : List NestedKey, PyData.depthAll (NestedKey.datas ks) = NestedKey.depthAll ks
  | [] => by simp [NestedKey.datas, PyData.depthAll, NestedKey.depthAll]
  | k :: ks => by simp only [NestedKey.datas, PyData.depthAll, NestedKey.depthAll]; rw [depth_key k, depth_keys ks]
end
mutual
theorem key_reads {h : Heap} : ∀ (k : NestedKey) (v : Value) (as : List Addr), figures k = true → Reads h v k.data as → NestedIs h k v ∧ as = []
  | .num i, v, as, _, r => by
    simp only [NestedKey.data] at r
    cases r with
    | int _ t => exact ⟨.int i t, rfl⟩
  | .none, _, _, f, _ => by simp [figures] at f
  | .text _, _, _, f, _ => by simp [figures] at f
  | .tup ks, v, as, f, r => by
    simp only [NestedKey.data] at r
    simp only [figures] at f
    cases r with
    | tuple h1 h2 h3 h4 =>
      obtain ⟨n1, n2⟩ := keys_reads ks _ _ f h4
      exact ⟨.tup h1 h2 h3 n1, n2⟩
theorem keys_reads {h : Heap} : ∀ (ks : List NestedKey) (vs : List Value) (as : List Addr), figuresAll ks = true → ReadsAll h vs (NestedKey.datas ks) as → NestedAll h ks vs ∧ as = []
  | [], vs, as, _, r => by
    simp only [NestedKey.datas] at r
    cases r
    exact ⟨.nil, rfl⟩
  | k :: ks, vs, as, f, r => by
    simp only [NestedKey.datas] at r
    simp only [figuresAll, Bool.and_eq_true] at f
    cases r with
    | cons r1 r2 =>
      obtain ⟨n1, rfl⟩ := key_reads k _ _ f.1 r1
      obtain ⟨m1, rfl⟩ := keys_reads ks _ _ f.2 r2
      exact ⟨.cons n1 m1, rfl⟩
end
/-- the order of keys -/
def kLt (k k' : NestedKey) : Bool := PySem.W.dataLt k.data k'.data
theorem kLt_irr (k : NestedKey) : kLt k k = false := (PyProof.Rows.listOrd PyProof.Rows.itemOrd).irrefl _
theorem kLt_tr {a b c : NestedKey} (h : kLt a b = true) (h' : kLt b c = true) : kLt a c = true := (PyProof.Rows.listOrd PyProof.Rows.itemOrd).trans _ _ _ h h'
theorem kLt_as {a b : NestedKey} (h : kLt a b = true) : kLt b a = false := by
  cases e : kLt b a with
  | false => rfl
  | true =>
    have z := kLt_tr h e
    rw [kLt_irr] at z
    cases z
theorem toks_same {x y : PyData} (al : PySem.W.alike x y = true) (e : PySem.W.keyToks x = PySem.W.keyToks y) : PyData.eqv x y = true := by
  cases q : PyData.eqv x y with
  | true => rfl
  | false =>
    have z := (PySem.W.toks_eqv x y al).2 q [] [.inl 0]
    rw [e, List.append_nil] at z
    have z2 := PySem.W.lex_pre (PySem.W.keyToks y) [] [.inl 0]
    have irr : PyProof.Rows.lexLt PyProof.Rows.itemOrd (PySem.W.keyToks y) (PySem.W.keyToks y) = false := (PyProof.Rows.listOrd PyProof.Rows.itemOrd).irrefl _
    rw [List.append_nil, z, irr] at z2
    exact absurd z2 (by simp [PyProof.Rows.lexLt])
theorem kLt_tri {a b : NestedKey} (fa : figures a = true) (fb : figures b = true) (al : PySem.W.alike a.data b.data = true) (h : kLt a b = false) (h' : kLt b a = false) : a = b := by
  have e := (PyProof.Rows.listOrd PyProof.Rows.itemOrd).total _ _ h h'
  have q := toks_same al e
  rw [eqv_key a b fa fb] at q
  exact NestedKey.eq_of_beq a b q
/-- keys that stand in a row that is sorted, each once -/
abbrev Rises (ks : List NestedKey) : Prop := ks.Pairwise (fun a b => kLt a b = true)
theorem rises_once {ks : List NestedKey} (h : Rises ks) : ks.Nodup := h.imp fun {a b} q e => by
  rw [e, kLt_irr] at q
  cases q
theorem rises_one : ∀ {ks ls : List NestedKey}, Rises ks → Rises ls → (∀ k, k ∈ ks ↔ k ∈ ls) → ks = ls
  | [], [], _, _, _ => rfl
  | [], l :: ls, _, _, m => absurd ((m l).mpr List.mem_cons_self) List.not_mem_nil
  | k :: ks, [], _, _, m => absurd ((m k).mp List.mem_cons_self) List.not_mem_nil
  | k :: ks, l :: ls, h, h', m => by
    obtain ⟨h1, h2⟩ := List.pairwise_cons.mp h
    obtain ⟨g1, g2⟩ := List.pairwise_cons.mp h'
    have e : k = l := by
      rcases List.mem_cons.mp ((m k).mp List.mem_cons_self) with z | z
      · exact z
      · rcases List.mem_cons.mp ((m l).mpr List.mem_cons_self) with y | y
        · exact y.symm
        · have q := kLt_tr (h1 l y) (g1 k z)
          rw [kLt_irr] at q
          cases q
    subst e
    have n1 := (List.nodup_cons.mp (rises_once h)).1
    have n2 := (List.nodup_cons.mp (rises_once h')).1
    rw [rises_one h2 g2 fun x => ⟨fun z => ?_, fun z => ?_⟩]
    · rcases List.mem_cons.mp ((m x).mp (List.mem_cons_of_mem _ z)) with y | y
      · rw [y] at z; exact absurd z n1
      · exact y
    · rcases List.mem_cons.mp ((m x).mpr (List.mem_cons_of_mem _ z)) with y | y
      · rw [y] at z; exact absurd z n2
      · exact y
/-- a list that is another one's image, in another order, is the image of one in another order -/
theorem perm_image {α β : Type} (f : α → β) {xs ys : List β} (pm : xs.Perm ys) : ∀ bs : List α, ys = bs.map f → ∃ M : List α, M.Perm bs ∧ xs = M.map f := by
  induction pm with
  | nil =>
    intro bs e
    cases bs with
    | nil => exact ⟨[], .nil, rfl⟩
    | cons b bs => cases e
  | cons x _ ih =>
    intro bs e
    cases bs with
    | nil => cases e
    | cons b bs =>
      rw [List.map_cons] at e
      obtain ⟨e1, e2⟩ := List.cons.inj e
      obtain ⟨M, p, q⟩ := ih bs e2
      exact ⟨b :: M, p.cons b, by rw [List.map_cons, e1, q]⟩
  | swap x y l =>
    intro bs e
    match bs, e with
    | [], e => cases e
    | [b], e => simp at e
    | b :: c :: bs, e =>
      simp only [List.map_cons, List.cons.injEq] at e
      obtain ⟨e1, e2, e3⟩ := e
      exact ⟨c :: b :: bs, .swap _ _ _, by simp only [List.map_cons]; rw [e1, e2, e3]⟩
  | trans _ _ ih1 ih2 =>
    intro bs e
    obtain ⟨M2, p2, q2⟩ := ih2 bs e
    obtain ⟨M1, p1, q1⟩ := ih1 M2 q2
    exact ⟨M1, p1.trans p2, q1⟩
theorem each_refs : ∀ M : List Row, PySem.W.EachIs (fun (v : Value) (b : Row) => v = .ref b.1) (M.map fun p => Value.ref p.1) M
  | [] => .nil
  | _ :: M => .cons rfl (each_refs M)
theorem refs_each {vs : List Value} {M : List Row} (h : PySem.W.EachIs (fun (v : Value) (b : Row) => v = .ref b.1) vs M) : vs = M.map fun p => Value.ref p.1 := by
  induction h with
  | nil => rfl
  | cons r _ ih => rw [List.map_cons, r, ih]
theorem each_figs {h : Heap} {l : Addr} : ∀ M : List Row, (∀ p ∈ M, ∃ as, Reads h (.ref p.1) p.2.data as ∧ as = []) → PySem.W.EachIs (fun (v : Value) (b : Row) => ∃ as, Reads h v b.2.data as ∧ l ∉ as) (M.map fun p => Value.ref p.1) M
  | [], _ => .nil
  | p :: M, k => by
    refine .cons ?_ (each_figs M fun q hq => k q (List.mem_cons_of_mem _ hq))
    obtain ⟨as, r, e⟩ := k p List.mem_cons_self
    exact ⟨as, r, by rw [e]; exact List.not_mem_nil⟩
section
variable {P : Program} {w : World} {A : Around} {E : Value → Shared → Prop} {s : Shared}
/-- sorted of what gives rows, in whatever order -/
theorem sorted_rows {a : Addr} {bs : List Row} {Q : Value → Shared → Prop}
    (coll : ∀ Q1 : List Value → Shared → Prop, (∀ s1 out, (∀ b o, s.heap.get? b = some o → s1.heap.get? b = some o) → s.heap.objs.size ≤ s1.heap.objs.size → s1.gens = s.gens → s1.os = s.os → out.Perm (bs.map fun p => Value.ref p.1) → Q1 out s1) →
      wpAny (model P w) A.in1 (collect (.ref a)) Q1 E s)
    (rd : ∀ p ∈ bs, figures p.2 = true ∧ p.2.depth ≤ 8 ∧ ∃ as, Reads s.heap (.ref p.1) p.2.data as) (al : PySem.W.AllAlike (bs.map fun p => p.2.data)) (so : PySem.W.Sortable (bs.map fun p => p.2.data)) (hu : A.units + 64 < cLine) (hL : bs.length ≤ sizeLine)
    (q : ∀ s1 p (out : Array Value) c (M : List Row), (∀ b o, s.heap.get? b = some o → s1.heap.get? b = some o) → s1.gens = s.gens → s1.os = s.os → s.heap.objs.size ≤ p → s1.heap.get? p = some (seqObj "list" out c) → out.toList = M.map (fun p : Row => Value.ref p.1) → M.Perm bs →
      M.Pairwise (fun x y => kLt y.2 x.2 = false) → Q (.ref p) s1) :
    wpAny (model P w) A (call (.builtin "sorted") [.ref a]) Q E s := by
  refine Calls.call_function_entry kind_sorted plain_sorted entry_sorted (args_sorted1 _) ?_
  unfold Builtin.«sorted»
  refine wpAny_bind (m := checkCount "sorted" 1 1 _) (wpAny_pure ?_)
  refine wpAny_bind (coll _ fun s1 out keep sz g o pm => ?_)
  obtain ⟨M0, pm0, e0⟩ := perm_image _ pm bs rfl
  subst e0
  have len0 : M0.length ≤ sizeLine := by rw [pm0.length_eq]; exact hL
  refine wpAny_bind (wpAny_newList ?_ (by rw [List.length_map]; exact len0))
  have atL : (s1.heap.push (seqObj "list" (M0.map fun p => Value.ref p.1).toArray 0)).get? s1.heap.objs.size = some (seqObj "list" (M0.map fun p => Value.ref p.1).toArray 0) := Heap.get?_push_size _ rfl
  have keep2 : ∀ b o, s.heap.get? b = some o → (s1.heap.push (seqObj "list" (M0.map fun p => Value.ref p.1).toArray 0)).get? b = some o := fun b o e => Heap.get?_push_of_some _ (keep b o e)
  have rd2 : ∀ p ∈ M0, ∃ as, Reads (s1.heap.push (seqObj "list" (M0.map fun p => Value.ref p.1).toArray 0)) (.ref p.1) p.2.data as ∧ as = [] := fun p hp => by
    obtain ⟨f, _, as, r⟩ := rd p (pm0.mem_iff.mp hp)
    exact ⟨as, PyProof.Rows.Reads.keeps keep2 r, (key_reads _ _ _ f r).2⟩
  have sub : ∀ d, d ∈ M0.map (fun p => p.2.data) → d ∈ bs.map (fun p => p.2.data) := fun d hd => (pm0.map _).mem_iff.mp hd
  refine wpAny_bind (wpAny_holding (PySem.W.list_sort_data (enc := fun p : Row => p.2.data) (s := { s1 with heap := s1.heap.push (seqObj "list" (M0.map fun p => Value.ref p.1).toArray 0) }) atL (each_refs M0) (each_figs M0 rd2) (fun d hd d' hd' => al d (sub d hd) d' (sub d' hd')) ?so len0 (fun p hp => ?dep) fun out len1 each1 => ?_))
  case so =>
    rcases so with z | z
    · exact .inl fun d hd => z d (sub d hd)
    · exact .inr fun d hd => z d (sub d hd)
  case dep =>
    have z := (rd p (pm0.mem_iff.mp hp)).2.1
    have y : p.2.data.depth = p.2.depth := depth_key p.2
    have u : A.in1.units = A.units + 1 := rfl
    rw [u, y]
    omega
  obtain ⟨c, atc⟩ := sortedHeap_at (vs := M0.map fun p => Value.ref p.1) (out := out.toArray) atL
  refine wpAny_pure ⟨_, rfl, q _ s1.heap.objs.size out.toArray c (M0.mergeSort (PySem.W.dataLe false fun p : Row => p.2.data)) (fun b o e => ?_) g o sz atc (refs_each each1) ((List.mergeSort_perm _ _).trans pm0) ?_⟩
  · have z := keep b o e
    have lt := Heap.lt_size z
    show (sortedHeap (s1.heap.push (seqObj "list" (M0.map fun p => Value.ref p.1).toArray 0)) s1.heap.objs.size (M0.map fun p => Value.ref p.1) out.toArray).get? b = some o
    rw [sortedHeap_old (Nat.ne_of_lt lt) (by rw [size_push']; exact Nat.lt_succ_of_lt lt)]
    exact Heap.get?_push_of_some _ z
  · refine (PySem.W.sort_pairwise (PySem.W.sortLe_total _ false _) M0).imp fun {x y} h => ?_
    have h2 : (!kLt y.2 x.2) = true := h
    rwa [Bool.not_eq_true'] at h2
end
end S2

set_option maxHeartbeats 4000000
namespace S2
open PySem PySem.Spec PyProof.Rows L2 S1 G3
/-- the rows of which a word speaks: tuples that read as keys of figures -/
def Rows (K : PySem.W.Frag) (H : Hp) (bs : List Row) : Prop := ∀ p ∈ bs, Dp K H (.ref p.1) p.2.data ∧ figures p.2 = true ∧ p.2.depth ≤ 8
section
variable {X : Cx} {pins : List (Addr × Obj)} {σ : L2.St} {H : Hp} {s : Shared}
theorem rows_rd (I : Inv X pins σ H s) {bs : List Row} (h : Rows X.K H bs) : ∀ p ∈ bs, figures p.2 = true ∧ p.2.depth ≤ 8 ∧ ∃ as, Reads s.heap (.ref p.1) p.2.data as := fun p hp => by
  obtain ⟨d, f, n⟩ := h p hp
  exact ⟨f, n, Dp.reads I _ _ _ d rfl⟩
theorem rows_fig (I : Inv X pins σ H s) {bs : List Row} (h : Rows X.K H bs) : ∀ p ∈ bs, Fig s.heap p.2 p.1 := fun p hp => by
  obtain ⟨f, n, as, r⟩ := rows_rd I h p hp
  exact ⟨(key_reads _ _ _ f r).1, f, n⟩
end
/-- the set at a, the keys' own tuples aside -/
def Stands (w : World) (a : Addr) (L : List Row) (h : Heap) : Prop :=
  ∃ (es : Array (Int × Value)) (ep : Nat) (t : SetTable), (∃ o, h.get? a = some o ∧ o.ExactSet ∧ o.data = .set es ep t) ∧ es.toList = L.map (cell w) ∧ TabOk t (L.map fun p => p.2.hash w) ∧ (L.map (·.2)).Nodup ∧ t.plain = true ∧
    (w.params.followText "set-order" = true ∨ t.led = true) ∧ L.length * 5 < t.mask * 3 ∧ L.length < 64
def setO (w : World) (a : Addr) (L : List Row) : HO := .ext (Stands w a L)
theorem setO_ok {P : Program} {w : World} {H : Hp} {h : Heap} {a : Addr} {L : List Row} {es : Array (Int × Value)} {ep : Nat} {t : SetTable} (R : Has w h a L es ep t) : ObjOk P w H h a (setO w a L) := by
  obtain ⟨o, e, r⟩ := R.o
  refine ⟨⟨es, ep, t, ⟨o, e, r⟩, R.cells, R.tab, R.once, R.flat, R.led, R.spare, R.few⟩, ⟨o, e⟩, ?_⟩
  rintro h1 h2 ⟨es1, ep1, t1, ⟨o1, e1, r1⟩, more⟩ k
  exact ⟨es1, ep1, t1, ⟨o1, k o1 e1, r1⟩, more⟩
theorem has_of {w : World} {h : Heap} {a : Addr} {L : List Row} (st : Stands w a L h) (k : ∀ p ∈ L, Fig h p.2 p.1) : ∃ es ep t, Has w h a L es ep t := by
  obtain ⟨es, ep, t, x1, x2, x3, x4, x5, x6, x7, x8⟩ := st
  exact ⟨es, ep, t, ⟨x1, x2, x3, x4, k, x5, x6, x7, x8⟩⟩
theorem has_bare {w : World} {h : Heap} {a : Addr} (e : h.get? a = some (bareSet w)) : Has w h a [] #[] 0 (.fresh 0 0 (!w.params.followText "set-order")) where
  o := ⟨_, e, ⟨rfl, rfl, rfl⟩, rfl⟩
  cells := rfl
  tab := ⟨List.Pairwise.nil, rfl, rfl, .inl rfl, fun x z => (nomatch z), fun i h j z => by simp at z⟩
  once := List.nodup_nil
  keys := fun p z => (nomatch z)
  flat := rfl
  led := by
    show _ ∨ (!w.params.followText "set-order") = true
    cases w.params.followText "set-order"
    · exact .inr rfl
    · exact .inl rfl
  spare := by show 0 * 5 < 7 * 3; decide
  few := by show 0 < 64; decide
/-- behind i items of bs: a set of these, and what stood ahead of it stands -/
def Upto (w : World) (h0 : Heap) (bs : List Row) (S : Addr) (i : Nat) (h : Heap) : Prop := (∀ b o, h0.get? b = some o → h.get? b = some o) ∧ ∃ L, Stands w S L h ∧ (∀ p ∈ L, p ∈ bs.take i) ∧ (∀ p ∈ bs.take i, p.2 ∈ L.map (·.2)) ∧ True
theorem stands_at {w : World} {S : Addr} {L : List Row} {h h1 : Heap} (st : Stands w S L h) (k : ∀ o, h.get? S = some o → h1.get? S = some o) : Stands w S L h1 := by
  obtain ⟨es, ep, t, ⟨o, e, r⟩, more⟩ := st
  exact ⟨es, ep, t, ⟨o, k o e, r⟩, more⟩
theorem stands_of {w : World} {S : Addr} {L : List Row} {h : Heap} {es : Array (Int × Value)} {ep : Nat} {t : SetTable} (R : Has w h S L es ep t) : Stands w S L h := ⟨es, ep, t, R.o, R.cells, R.tab, R.once, R.flat, R.led, R.spare, R.few⟩
theorem nd_len {α : Type} : ∀ {l U : List α}, l.Nodup → (∀ x ∈ l, x ∈ U) → l.length ≤ U.length
  | [], _, _, _ => Nat.zero_le _
  | x :: l, U, nd, h => by
    classical
    have z := List.nodup_cons.mp nd
    have hx := h x List.mem_cons_self
    have a := nd_len (l := l) (U := U.erase x) z.2 fun y hy => (List.mem_erase_of_ne (fun e => by subst e; exact z.1 hy)).mpr (h y (List.mem_cons_of_mem _ hy))
    rw [List.length_erase_of_mem hx] at a
    have b := List.length_pos_of_mem hx
    simp only [List.length_cons]
    omega
theorem upto_puts {P : Program} {w : World} {A : Around} {h0 : Heap} {bs : List Row} {S : Addr} {items : Array Value} (figs : ∀ p ∈ bs, Fig h0 p.2 p.1) (gone : h0.get? S = none) (it : items.toList = bs.map fun p => Value.ref p.1) {U : List NestedKey} (hU : ∀ p ∈ bs, p.2 ∈ U) (few : U.length < 63) (hu : A.units + 8 < cLine) :
    Puts P w A S items.size (fun i v => items[i]? = some v) (Upto w h0 bs S) := by
  intro i v s E Q lt pv ⟨old, L, st, sub, all, len⟩ fin
  have sz : items.size = bs.length := by
    have z := congrArg List.length it
    simpa using z
  have lt2 : i < bs.length := by omega
  obtain ⟨p, hp⟩ : ∃ p, bs[i]? = some p := ⟨_, List.getElem?_eq_getElem lt2⟩
  have ev : v = .ref p.1 := by
    have z : items.toList[i]? = some v := by rw [Array.getElem?_toList]; exact pv
    rw [it, List.getElem?_map, hp] at z
    exact (Option.some.inj z).symm
  subst ev
  have fp := (figs p (List.mem_of_getElem? hp)).on old
  obtain ⟨es, ep, t, R⟩ := has_of st fun q hq => (figs q (List.mem_of_mem_take (sub q hq))).on old
  have tk : bs.take (i + 1) = bs.take i ++ [p] := by rw [List.take_succ, hp]; rfl
  unfold setAdd
  refine wpAny_holding (wpAny_bind ((nestedKind P w).pyHash (show A.units + 8 < cLine from hu) ⟨fp.is, fp.dp⟩ ?_))
  have lle : L.length ≤ U.length := by
    have z := nd_len (U := U) R.once fun k hk => by
      obtain ⟨q, hq, rfl⟩ := List.mem_map.mp hk
      exact hU q (List.mem_of_mem_take (sub q hq))
    rwa [List.length_map] at z
  refine put_in (s := { s with toks := s.toks + p.2.draws }) R fp hu (by omega) fun b h1 L1 es1 ep1 t1 sb R1 how => ?_
  refine fin b h1 (s.toks + p.2.draws) (Nat.le_add_right _ _) sb ⟨fun c o e => ?_, L1, stands_of R1, ?_⟩
  · rw [sb.2 c fun z => by rw [z, gone] at e; cases e]
    exact old c o e
  · rw [tk]
    rcases how with ⟨m, rfl⟩ | ⟨m, pm⟩
    · refine ⟨fun q hq => List.mem_append_left _ (sub q hq), fun q hq => ?_, trivial⟩
      rcases List.mem_append.mp hq with z | z
      · exact all q z
      · rw [List.mem_singleton.mp z]; exact m
    · refine ⟨fun q hq => ?_, fun q hq => ?_, trivial⟩
      · rcases List.mem_cons.mp (pm.mem_iff.mp hq) with z | z
        · rw [z]; exact List.mem_append_right _ (List.mem_singleton.mpr rfl)
        · exact List.mem_append_left _ (sub q z)
      · rw [(pm.map (·.2)).mem_iff, List.map_cons]
        rcases List.mem_append.mp hq with z | z
        · exact List.mem_cons_of_mem _ (all q z)
        · rw [List.mem_singleton.mp z]; exact List.mem_cons_self
theorem refs_vals : ∀ {bs : List Row} {us : List Value}, Vals (bs.map fun p => V.ref p.1) us → us = bs.map fun p => Value.ref p.1
  | [], _, .nil => rfl
  | p :: bs, _, .cons r t => by
    cases r
    rw [refs_vals t]
    rfl
theorem vals_refs : ∀ bs : List Row, Vals (bs.map fun p => V.ref p.1) (bs.map fun p => Value.ref p.1)
  | [] => .nil
  | _ :: bs => .cons rfl (vals_refs bs)
section
variable {X : Cx}
/-- set(t), t a tuple of such tuples -/
def rSetK (K : PySem.W.Frag) (w : World) : List V → Hp → VK → Prop := fun vs H Q => ∃ (t : Addr) (bs : List Row), vs = [.ref t] ∧ SqT K H t (bs.map fun p => V.ref p.1) ∧ Rows K H bs ∧ (∃ U : List NestedKey, (∀ p ∈ bs, p.2 ∈ U) ∧ U.length < 63) ∧
  ∀ a L, H a = none → (∀ p ∈ L, p ∈ bs) → (∀ p ∈ bs, p.2 ∈ L.map (·.2)) → Q (.ref a) (upd H a (setO w a L))
theorem cr_setK (calm : X.calm = true) (hu : X.A.units + 64 < cLine) : CallR X (.type "set") (rSetK X.K X.w) := by
  intro pins s σ H vs us Q I r ⟨t, bs, e, ht, rw0, ⟨U, hU, few⟩, q⟩
  subst e
  rw [Vals.ref1 r]
  obtain ⟨its, rv, ⟨o, at0, oc, n, od⟩, hz⟩ := I.tuple ht
  have it : its.toArray.toList = bs.map fun p => Value.ref p.1 := by simpa using refs_vals rv
  have it2 : (its.toArray).size = bs.length := by
    have z := congrArg List.length it
    simpa using z
  have figs := rows_fig I rw0
  have gone : ∀ b, s.heap.objs.size ≤ b → s.heap.get? b = none := fun b le => by
    cases e : s.heap.get? b with
    | none => rfl
    | some o => exact absurd (Nat.lt_of_lt_of_le (Heap.lt_size e) le) (Nat.lt_irrefl _)
  refine set_of_tuple (Wd := Upto X.w s.heap bs s.heap.objs.size) (I.ok.hd calm) ⟨o, at0, oc, n, od⟩ (fun h1 old new => ⟨old, [], stands_of (has_bare new), fun _ z => (nomatch z), fun p z => by simp at z, trivial⟩) ?stay (upto_puts figs (gone _ (Nat.le_refl _)) it hU few ?ro) fun h1 tk wd old => ?_
  case ro =>
    show X.A.units + 3 + 8 < cLine
    omega
  case stay =>
    rintro i h h1 ⟨old, L, st, more⟩ k
    refine ⟨fun b o e => k b o (fun m => ?_) (old b o e), L, stands_at st fun o e => k _ o (fun m => ?_) e, more⟩
    · rw [List.mem_singleton.mp m, gone _ (Nat.le_succ _)] at e
      cases e
    · exact absurd (List.mem_singleton.mp m) (Nat.ne_of_lt (Nat.lt_succ_self _))
  obtain ⟨_, L, st, a1, a2, a3⟩ := wd
  obtain ⟨es, ep, t1, R⟩ := has_of st fun q hq => (figs q (List.mem_of_mem_take (a1 q hq))).on old
  refine ⟨.ref s.heap.objs.size, _, I.laid (t' := tk) old (Nat.le_refl _) (setO_ok R), rfl, q _ L (I.hok.fresh (Nat.le_refl _)) (fun p hp => List.mem_of_mem_take (a1 p hp)) fun p hp => a2 p (by rw [it2, List.take_length]; exact hp)⟩
/-- a new list of sorted rows, laid behind a call that keeps all -/
theorem laid_rows {pins : List (Addr × Obj)} {σ : L2.St} {H : Hp} {s s1 : Shared} {p : Addr} {out : Array Value} {c : Nat} {M : List Row} {Q : VK} (I : Inv X pins σ H s) (keep : ∀ b o, s.heap.get? b = some o → s1.heap.get? b = some o) (g : s1.gens = s.gens) (os : s1.os = s.os)
    (sz : s.heap.objs.size ≤ p) (at1 : s1.heap.get? p = some (seqObj "list" out c)) (eo : out.toList = M.map fun p => Value.ref p.1) (hL : M.length ≤ sizeLine) (q : H p = none → Q (.ref p) (upd H p (.lst (M.map fun p => V.ref p.1)))) :
    ∃ v H1, Inv X pins σ H1 s1 ∧ RelV v (.ref p) ∧ Q v H1 := by
  have fr : H p = none := I.hok.fresh sz
  have rv : Vals (M.map fun p => V.ref p.1) out.toList := by rw [eo]; exact vals_refs M
  refine ⟨.ref p, upd H p (.lst (M.map fun p => V.ref p.1)), ?_, rfl, q fr⟩
  exact I.call' (ch := []) os (Un.laid keep sz fr) (I.hok.laid keep sz ⟨by rw [List.length_map]; exact hL, out.toList, c, rv, at1⟩) (by rw [g]; exact I.bare) (fun _ z => nomatch z)
/-- sorted(s) of such a set -/
def rSortK (K : PySem.W.Frag) (w : World) : List V → Hp → VK → Prop := fun vs H Q => ∃ (a : Addr) (L : List Row), vs = [.ref a] ∧ H a = some (setO w a L) ∧ Rows K H L ∧ PySem.W.AllAlike (L.map fun p => p.2.data) ∧ PySem.W.Sortable (L.map fun p => p.2.data) ∧
  ∀ (p : Addr) (M : List Row), H p = none → M.Perm L → Rises (M.map (·.2)) → Q (.ref p) (upd H p (.lst (M.map fun p => V.ref p.1)))
theorem rises_sorted {L M : List Row} (once : (L.map (·.2)).Nodup) (fg : ∀ p ∈ L, figures p.2 = true) (al : PySem.W.AllAlike (L.map fun p => p.2.data)) (pm : M.Perm L) (le : M.Pairwise (fun x y => kLt y.2 x.2 = false)) : Rises (M.map (·.2)) := by
  have onceM : (M.map (·.2)).Nodup := (pm.map (·.2)).nodup_iff.mpr once
  have both := (List.pairwise_map.mp onceM).and le
  refine List.pairwise_map.mpr (both.imp_of_mem fun {x y} hx hy h => ?_)
  cases e : kLt x.2 y.2 with
  | true => rfl
  | false =>
    have mx := pm.mem_iff.mp hx
    have my := pm.mem_iff.mp hy
    exact absurd (kLt_tri (fg x mx) (fg y my) (al _ (List.mem_map.mpr ⟨x, mx, rfl⟩) _ (List.mem_map.mpr ⟨y, my, rfl⟩)) e h.2) h.1
theorem cr_sortK (calm : X.calm = true) (hu : X.A.units + 64 < cLine) : CallR X (.builtin "sorted") (rSortK X.K X.w) := by
  intro pins s σ H vs us Q I r ⟨a, L, e, ha, rw0, al, so, q⟩
  subst e
  rw [Vals.ref1 r]
  have figs := rows_fig I rw0
  obtain ⟨es, ep, t, R⟩ := has_of ((I.hok a _ ha).1 : Stands X.w a L s.heap) figs
  obtain ⟨o, at0, ex, dat⟩ := R.o
  have line : L.length ≤ sizeLine := by have z := R.few; rw [sizeLine_eq]; omega
  have ev : es.toList.map (·.2) = L.map fun p => Value.ref p.1 := by
    rw [R.cells, List.map_map]
    rfl
  refine sorted_rows (bs := L) (fun Q1 q1 => collect_set (A := X.A.in1) (I.ok.hd calm) ⟨o, at0, ex.1, dat⟩ R.fits (by unfold scanBound; have z := R.few; have y := many R.cells; omega) R.tab.ris R.led fun s1 out k sz g os pm => q1 s1 out k sz g os (by rw [← ev]; exact pm)) (rows_rd I rw0) al so hu line ?_
  intro s1 p out c M keep g os sz at1 eo pm le
  exact laid_rows I keep g os sz at1 eo (by rw [pm.length_eq]; exact line) fun fr => q p M fr pm (rises_sorted R.once (fun p hp => (rw0 p hp).2.1) al pm le)
end
end S2

set_option maxHeartbeats 4000000
namespace S2
open PySem PySem.Spec PyProof.Rows L2 S1 G3
section
variable {X : Cx}
/-- set(t), t a tuple of ints -/
def rSetI (K : PySem.W.Frag) (w : World) : List V → Hp → VK → Prop := fun vs H Q => ∃ (t : Addr) (ns : List Int), vs = [.ref t] ∧ SqT K H t (ns.map V.int) ∧ ns.length < 60 ∧
  ∀ a c, H a = none → c ≤ ns.length → Q (.ref a) (upd H a (SetO w a (fun j => decide (j ∈ ns)) c))
theorem cr_setI (calm : X.calm = true) : CallR X (.type "set") (rSetI X.K X.w) := by
  intro pins s σ H vs us Q I r ⟨t, ns, e, ht, few, q⟩
  subst e
  rw [Vals.ref1 r]
  obtain ⟨its, rv, ⟨o, at0, oc, n, od⟩, hz⟩ := I.tuple ht
  refine call_set_tupI ns (I.ok.hd calm) ⟨o, at0, oc, n, od⟩ (by simpa using ints_of_vals rv) (by unfold scanBound; omega) fun h1 tk c R le old => ?_
  exact ⟨.ref s.heap.objs.size, _, I.laid (t' := tk) old (Nat.le_refl _) (setO_new R), rfl, q _ c (I.hok.fresh (Nat.le_refl _)) le⟩
def rSet2 (K : PySem.W.Frag) (w : World) : List V → Hp → VK → Prop := fun vs H Q => rSetK K w vs H Q ∨ rSetI K w vs H Q
theorem cr_set2 (calm : X.calm = true) (hu : X.A.units + 64 < cLine) : CallR X (.type "set") (rSet2 X.K X.w) := by
  intro pins s σ H vs us Q I r h
  rcases h with h | h
  · exact cr_setK calm hu pins s σ H vs us Q I r h
  · exact cr_setI calm pins s σ H vs us Q I r h
def rSort2 (K : PySem.W.Frag) (w : World) : List V → Hp → VK → Prop := fun vs H Q => rSortK K w vs H Q ∨ rSortedSet w vs H Q
theorem cr_sort2 (calm : X.calm = true) (hu : X.A.units + 64 < cLine) : CallR X (.builtin "sorted") (rSort2 X.K X.w) := by
  intro pins s σ H vs us Q I r h
  rcases h with h | h
  · exact cr_sortK calm hu pins s σ H vs us Q I r h
  · exact cr_sortedSet calm pins s σ H vs us Q I r h
end
end S2

set_option maxHeartbeats 4000000
namespace S2
open PySem PySem.Spec PyProof.Rows L2 S1 G3
/-! dicts whose keys are such tuples, all values True -/
abbrev ent (P : Program) (w : World) (p : Row) : DictEntry := entryOfKey (nestedKind P w) (p.2, p.1, Value.bool true)
/-- rows as entries -/
abbrev ents (L : List Row) : List (NestedKey × Addr × Value) := L.map fun p => (p.2, p.1, Value.bool true)
def DStands (P : Program) (w : World) (d : Addr) (L : List Row) (h : Heap) : Prop :=
  (d == sysModules) = false ∧ ∃ (o : Obj) (es : Array DictEntry) (ep : Nat), h.get? d = some o ∧ o.ExactDict ∧ o.data = .dict es ep ∧ es.toList = L.map (ent P w) ∧ (L.map (·.2)).Nodup
def dicO (P : Program) (w : World) (d : Addr) (L : List Row) : HO := .ext (DStands P w d L)
section
variable {P : Program} {w : World} {h : Heap} {d : Addr} {L : List Row}
theorem dicO_ok {H : Hp} (R : DStands P w d L h) : ObjOk P w H h d (dicO P w d L) := by
  obtain ⟨ns, o, es, ep, e, r⟩ := R
  refine ⟨⟨ns, o, es, ep, e, r⟩, ⟨o, e⟩, ?_⟩
  rintro h1 h2 ⟨n1, o1, es1, ep1, e1, r1⟩ k
  exact ⟨n1, o1, es1, ep1, k o1 e1, r1⟩
theorem dic_of (R : DStands P w d L h) (k : ∀ p ∈ L, Fig h p.2 p.1) : h.DictOfH (nestedKind P w) d (ents L) := by
  obtain ⟨_, o, es, ep, e, ex, da, en, nd⟩ := R
  refine ⟨o, es, ep, e, ex, da, ?_, ?_, ?_⟩
  · rw [en, List.map_map]
    rfl
  · intro x hx
    obtain ⟨p, hp, rfl⟩ := List.mem_map.mp hx
    exact ⟨(k p hp).is, (k p hp).dp⟩
  · rw [List.map_map]
    exact nd
theorem of_dic (ns : (d == sysModules) = false) (R : h.DictOfH (nestedKind P w) d (ents L)) : DStands P w d L h := by
  obtain ⟨o, es, ep, e, ex, da, en, _, nd⟩ := R
  refine ⟨ns, o, es, ep, e, ex, da, ?_, ?_⟩
  · rw [en, List.map_map]
    rfl
  · rw [List.map_map] at nd
    exact nd
theorem at_none {k : NestedKey} (h : k ∉ L.map (·.2)) : atKey (ents L) k = none := by
  unfold atKey
  rw [Option.map_eq_none_iff, List.find?_eq_none]
  intro x hx e
  obtain ⟨p, hp, rfl⟩ := List.mem_map.mp hx
  exact h (List.mem_map.mpr ⟨p, hp, of_decide_eq_true e⟩)
theorem at_some {k : NestedKey} (h : k ∈ L.map (·.2)) : ∃ p, atKey (ents L) k = some p := by
  cases e : atKey (ents L) k with
  | some p => exact ⟨p, rfl⟩
  | none =>
    exfalso
    unfold atKey at e
    rw [Option.map_eq_none_iff, List.find?_eq_none] at e
    obtain ⟨p, hp, rfl⟩ := List.mem_map.mp h
    exact e (p.2, p.1, Value.bool true) (List.mem_map.mpr ⟨p, hp, rfl⟩) (decide_eq_true rfl)
theorem stored_old {k : NestedKey} {a : Addr} (h : k ∈ L.map (·.2)) : storedH (ents L) k a (.bool true) = ents L := by
  obtain ⟨p, e⟩ := at_some h
  rw [storedH_old e, List.map_map]
  refine List.map_congr_left fun x _ => ?_
  show putAt k (.bool true) (x.2, x.1, Value.bool true) = _
  unfold putAt
  split <;> rfl
theorem stored_new {k : NestedKey} {a : Addr} (h : k ∉ L.map (·.2)) : storedH (ents L) k a (.bool true) = ents (L ++ [(a, k)]) := by
  rw [storedH_new (at_none h)]
  unfold ents
  rw [List.map_append]
  rfl
end
section
variable {X : Cx}
/-- {} -/
def tDNewN (P : Program) (w : World) : TE := fun _ H Q => ∀ p, H p = none → Q (.ref p) (upd H p (dicO P w p []))
theorem pe_dnewN {pos : Pos} : PE X (.Dict [] [] pos) (tDNewN X.prog X.w) := ⟨fun pins s σ H Q I h => by
  refine wpAny_Dict_empty ⟨.ref s.heap.objs.size, _, I.laid (a := s.heap.objs.size) (o := dicO X.prog X.w s.heap.objs.size []) (t' := s.toks) (fun _ _ q => Heap.get?_push_of_some _ q) (Nat.le_refl _) (dicO_ok (of_dic ?_ (Heap.DictOfH.new _))), rfl, h _ (I.hok.fresh (Nat.le_refl _))⟩
  exact beq_eq_false_iff_ne.mpr (Ne.symm (Nat.ne_of_lt I.big))⟩
/-- d[k] = True -/
def rDicN (K : PySem.W.Frag) (P : Program) (w : World) : TSet := fun o i v H Q => ∃ (d a : Addr) (k : NestedKey) (L : List Row), o = .ref d ∧ i = .ref a ∧ v = .bl true ∧ H d = some (dicO P w d L) ∧ Rows K H ((a, k) :: L) ∧ L.length < 1000 ∧
  ∀ L', (k ∈ L.map (·.2) ∧ L' = L ∨ k ∉ L.map (·.2) ∧ L' = L ++ [(a, k)]) → Q (upd H d (dicO P w d L'))
theorem set_dicN (hu : X.A.units + 64 < cLine) : PSet X (rDicN X.K X.prog X.w) := by
  intro pins s σ H o i v ov iv u Q I ro ri rv h
  obtain ⟨d, a, k, L, rfl, rfl, rfl, hd, rows, few, q⟩ := h
  cases ro
  cases ri
  cases rv
  have figs := rows_fig I rows
  have R : DStands X.prog X.w d L s.heap := (I.hok d _ hd).1
  have fa := figs (a, k) List.mem_cons_self
  refine wpAny_setItem_heap (knd := nestedKind X.prog X.w) (k := k) (xs := ents L) (show X.A.in1.units + 8 < cLine from by show X.A.units + 1 + 8 < cLine; omega) ⟨fa.is, fa.dp⟩ (dic_of R fun p hp => figs p (List.mem_cons_of_mem _ hp)) (fun h1 new sb => ?_) (by rw [List.length_map, sizeLine_eq]; omega)
  obtain ⟨L', how, e⟩ : ∃ L', (k ∈ L.map (·.2) ∧ L' = L ∨ k ∉ L.map (·.2) ∧ L' = L ++ [(a, k)]) ∧ storedH (ents L) k a (.bool true) = ents L' := by
    by_cases m : k ∈ L.map (·.2)
    · exact ⟨L, .inl ⟨m, rfl⟩, stored_old m⟩
    · exact ⟨_, .inr ⟨m, rfl⟩, stored_new m⟩
  rw [e] at new
  have R' := of_dic R.1 new
  have he : ∃ u, h1.get? d = some u := by
    obtain ⟨_, o, _, _, ho, _⟩ := R'
    exact ⟨o, ho⟩
  exact ⟨_, I.write (e := d) (t' := s.toks + (nestedKind X.prog X.w).draws k) (by rw [hd]; trivial) (.inl rfl) (fun b u hb hx => (sb.2 b hb).trans hx) he (dicO_ok R'), q L' how⟩
/-- sorted(d) -/
def rSortN (K : PySem.W.Frag) (P : Program) (w : World) : List V → Hp → VK → Prop := fun vs H Q => ∃ (a : Addr) (L : List Row), vs = [.ref a] ∧ H a = some (dicO P w a L) ∧ Rows K H L ∧ L.length < 1000 ∧ PySem.W.AllAlike (L.map fun p => p.2.data) ∧ PySem.W.Sortable (L.map fun p => p.2.data) ∧
  ∀ (p : Addr) (M : List Row), H p = none → M.Perm L → Rises (M.map (·.2)) → Q (.ref p) (upd H p (.lst (M.map fun p => V.ref p.1)))
theorem cr_sortN (calm : X.calm = true) (hu : X.A.units + 64 < cLine) : CallR X (.builtin "sorted") (rSortN X.K X.prog X.w) := by
  intro pins s σ H vs us Q I r ⟨a, L, e, ha, rw0, few, al, so, q⟩
  subst e
  rw [Vals.ref1 r]
  have R : DStands X.prog X.w a L s.heap := (I.hok a _ ha).1
  obtain ⟨ns, o, es, ep, at0, ex, dat, en, once⟩ := R
  have len : es.size = L.length := by
    have z := congrArg List.length en
    simpa using z
  have line : L.length ≤ sizeLine := by rw [sizeLine_eq]; omega
  refine Calls.call_function_entry kind_sorted plain_sorted entry_sorted (args_sorted1 _) ?_
  unfold Builtin.«sorted»
  refine wpAny_bind (m := checkCount "sorted" 1 1 _) (wpAny_pure ?_)
  refine wpAny_bind (PySem.W.kdu_collect (A := X.A.in1) (KdlSrc.rawDict (es := es) (ep := ep) ns) (I.ok.hd calm) ⟨o, at0, ex, dat⟩ (by rw [len]; exact line) fun h1 tk acc keep items => ?_)
  have I1 : Inv X pins σ H { s with heap := h1, toks := tk } := I.kept keep
  have eo : acc.toList = L.map fun p => Value.ref p.1 := by
    apply List.ext_getElem?
    intro j
    by_cases hj : j < L.length
    · have hs : acc.size = L.length := by rw [items.1, len]
      have ga : acc[j]? = some acc[j] := Array.getElem?_eq_getElem (by omega)
      obtain ⟨hi, ev⟩ := items.2 j _ ga
      have ge : es.toList[j]? = some (ent X.prog X.w L[j]) := by rw [en, List.getElem?_map, List.getElem?_eq_getElem hj]; rfl
      have ge2 : es[j] = ent X.prog X.w L[j] := by
        rw [Array.getElem?_toList, Array.getElem?_eq_getElem hi] at ge
        exact Option.some.inj ge
      rw [Array.getElem?_toList, ga, ev, ge2, List.getElem?_map, List.getElem?_eq_getElem hj]
      rfl
    · have hs : acc.toList.length = L.length := by rw [Array.length_toList, items.1, len]
      rw [List.getElem?_eq_none (by omega), List.getElem?_eq_none (by rw [List.length_map]; omega)]
  rw [eo]
  refine wpAny_bind (wpAny_newList ?_ (by rw [List.length_map]; exact line))
  have atL : (h1.push (seqObj "list" (L.map fun p => Value.ref p.1).toArray 0)).get? h1.objs.size = some (seqObj "list" (L.map fun p => Value.ref p.1).toArray 0) := Heap.get?_push_size _ rfl
  have keep2 : ∀ b o, s.heap.get? b = some o → (h1.push (seqObj "list" (L.map fun p => Value.ref p.1).toArray 0)).get? b = some o := fun b o e => Heap.get?_push_of_some _ (keep b o e)
  have rd := rows_rd I rw0
  have rd2 : ∀ p ∈ L, ∃ as, Reads (h1.push (seqObj "list" (L.map fun p => Value.ref p.1).toArray 0)) (.ref p.1) p.2.data as ∧ as = [] := fun p hp => by
    obtain ⟨f, _, as, r⟩ := rd p hp
    exact ⟨as, PyProof.Rows.Reads.keeps keep2 r, (key_reads _ _ _ f r).2⟩
  refine wpAny_bind (wpAny_holding (PySem.W.list_sort_data (enc := fun p : Row => p.2.data) (s := { s with heap := h1.push (seqObj "list" (L.map fun p => Value.ref p.1).toArray 0), toks := tk }) atL (each_refs L) (each_figs L rd2) al so line (fun p hp => ?dep) fun out len1 each1 => ?_))
  case dep =>
    have z := (rd p hp).2.1
    have y : p.2.data.depth = p.2.depth := depth_key p.2
    have u : X.A.in1.units = X.A.units + 1 := rfl
    rw [u, y]
    omega
  obtain ⟨c, atc⟩ := sortedHeap_at (vs := L.map fun p => Value.ref p.1) (out := out.toArray) atL
  obtain ⟨M, eM⟩ : ∃ M, M = L.mergeSort (PySem.W.dataLe false fun p : Row => p.2.data) := ⟨_, rfl⟩
  have pm : M.Perm L := by rw [eM]; exact List.mergeSort_perm _ _
  have le : M.Pairwise (fun x y => kLt y.2 x.2 = false) := by
    rw [eM]
    refine (PySem.W.sort_pairwise (PySem.W.sortLe_total _ false _) L).imp fun {x y} h => ?_
    have h2 : (!kLt y.2 x.2) = true := h
    rwa [Bool.not_eq_true'] at h2
  have eout : out = M.map fun p : Row => Value.ref p.1 := by
    rw [eM]
    exact refs_each each1
  refine wpAny_pure ⟨_, rfl, ?_⟩
  refine laid_rows (s1 := { s with heap := sortedHeap (h1.push (seqObj "list" (L.map fun p => Value.ref p.1).toArray 0)) h1.objs.size (L.map fun p => Value.ref p.1) out.toArray, toks := tk }) (out := out.toArray) (M := M) I1 (fun b o e => ?_) rfl rfl (Nat.le_refl _) atc (by simpa using eout) (by rw [pm.length_eq]; exact line) fun fr => q _ M fr pm (rises_sorted once (fun p hp => (rw0 p hp).2.1) al pm le)
  have lt := Heap.lt_size e
  show (sortedHeap (h1.push (seqObj "list" (L.map fun p => Value.ref p.1).toArray 0)) h1.objs.size (L.map fun p => Value.ref p.1) out.toArray).get? b = some o
  rw [sortedHeap_old (Nat.ne_of_lt lt) (by rw [size_push']; exact Nat.lt_succ_of_lt lt)]
  exact Heap.get?_push_of_some _ e
end
end S2

set_option maxHeartbeats 4000000
/-! set comprehensions of nested tuples -/
namespace XB
open PySem PySem.Spec PyProof.Rows L2 L3 S1 S2 G3
def kEndS (elt : Expr) (acc : Value) (env : Env) (a : Code) : Sem Fin := do
  (do let v ← eval elt env; standAt elt.pos; let _ ← call (.builtin "set.add") [acc, v])
  again a
theorem goes_endS {elt : Expr} {scope : Scope} {cpos : Pos} {t i : Expr} {ifs : List Expr} {it acc : Value} {env : Env} :
    Goes (.SetComp elt [⟨t, i, ifs, 0⟩] scope cpos) 0 i.pos t ifs it acc env (kEndS elt acc env (.compLoop (.SetComp elt [⟨t, i, ifs, 0⟩] scope cpos) 0 it acc env)) := by
  unfold L3.Goes kEndS
  rw [PpSet.compTurn_set]
  rfl
section
variable {X : Cx} {pins : List (Addr × Obj)} {σ : L2.St} {H : Hp} {s : Shared}
theorem addN_ok {D t : Addr} {k : NestedKey} {L : List S2.Row} {Q : Value → Shared → Prop} {E : Value → Shared → Prop} (I : Inv X pins σ H s) (hu : X.A.units + 64 < cLine) (hD : H D = some (setO X.w D L)) (rw0 : Rows X.K H ((t, k) :: L)) (few : L.length + 1 < 64)
    (q : ∀ s' L1, (k ∈ L.map (·.2) ∧ L1 = L ∨ k ∉ L.map (·.2) ∧ L1.Perm ((t, k) :: L)) → Inv X pins σ (upd H D (setO X.w D L1)) s' → Q .none s') : wpAny (model X.prog X.w) X.A (call (.builtin "set.add") [.ref D, .ref t]) Q E s := by
  have figs := rows_fig I rw0
  have st : Stands X.w D L s.heap := (I.hok D _ hD).1
  obtain ⟨es, ep, tb, R⟩ := has_of st fun q hq => figs q (List.mem_cons_of_mem _ hq)
  have fp := figs (t, k) List.mem_cons_self
  obtain ⟨o, at0, ex, dat⟩ := R.o
  refine wpAny_call_entry F.slot_set_add (show s.TypeIs (.ref D) "set" from ⟨o, at0, ex.1⟩) F.entry_set_add ?_ (F.args_set_add_2 (.ref D) (.ref t))
  unfold Builtin.«set.add»
  refine wpAny_bind (wpAny_bind (wpAny_pure (wpAny_pure ?_)))
  show wpAny _ _ (setAdd D (.ref t) >>= _) _ _ _
  unfold setAdd
  refine wpAny_bind (wpAny_holding (wpAny_bind ((nestedKind X.prog X.w).pyHash (show X.A.in1.units + 8 < cLine from by show X.A.units + 1 + 8 < cLine; omega) ⟨fp.is, fp.dp⟩ ?_)))
  refine put_in (s := { s with toks := s.toks + k.draws }) R fp (by show X.A.units + 1 + 8 < cLine; omega) few fun b h1 L1 es1 ep1 t1 sb R1 how => ?_
  refine wpAny_pure ⟨_, rfl, q _ L1 how ?_⟩
  have he : ∃ u, h1.get? D = some u := by
    obtain ⟨o, ho, _⟩ := R1.o
    exact ⟨o, ho⟩
  exact I.write (e := D) (by rw [hD]; trivial) (.inl rfl) (fun b u hb hx => (sb.2 b hb).trans hx) he (setO_ok R1)
end
section
variable {B : Cx}
/-- a loop of a clause, run -/
theorem run_overS {elt tg : Expr} {gens : List Comprehension} {scope : Scope} {cpos : Pos} {d : Nat} {p : Pos} {ifs : List Expr} {it : Addr} {acc : Value} {k : Sem Fin} {g : TG} {tt : TT} {tb : Tc} {vs vs1 : List Nat} {J : It} {fp : List Addr} {tn : Nat → Heap → Prop} {pins : List (Addr × Obj)} {σ : L2.St} {H : Hp} {s : Shared} {Dn : Hp → Prop} {R : Result → Shared → Prop}
    (hc : B.calm = true) (hx : B.xe = fun _ _ => False) (T : Turn B.prog B.w B.K tg J fp it tn) (ht : Goes (.SetComp elt gens scope cpos) d p tg ifs (.ref it) acc B.env k) (pg : PG B tg g) (pt : PTs B ifs tt) (sg : Seg B k (.compLoop (.SetComp elt gens scope cpos) d (.ref it) acc B.env) tb vs1) (hv : ∀ i ∈ vs1, i ∈ vs)
    (ok : ∀ {σ' : L2.St} {H' : Hp} {s' : Shared}, Inv B pins σ' H' s' → (∀ b ∈ fp, H' b = none) → ∀ b ∈ fp, FpOk B pins H' b) (I : Inv B pins (wipe σ vs) H s) (st : tn 0 s.heap) (nf : ∀ b ∈ fp, H b = none) (hq : tOver g tt tb vs J σ H Dn)
    (fin : ∀ H' s', Inv B pins (wipe σ vs) H' s' → Dn H' → R (.ok .next) s') : codeAny (model B.prog B.w) B.A (.compLoop (.SetComp elt gens scope cpos) d (.ref it) acc B.env) R s := by
  obtain ⟨W, ⟨m0, w0⟩, turn⟩ := hq
  refine codeAny_loop rfl (fun n s' => ∃ i H', Inv B pins (wipe σ vs) H' s' ∧ tn i s'.heap ∧ (∀ b ∈ fp, H' b = none) ∧ W i n H') (fun n s1 hI => ?_) m0 ⟨0, H, I, st, nf, w0⟩
  obtain ⟨i, H1, I1, st1, n1, w1⟩ := hI
  show wpAny _ B.A ((compTurn (.SetComp elt gens scope cpos) d (.ref it) acc B.env).onRaise fun x => do noteFrame x B.env; theTreesLotGoes x) _ _ s1
  refine wpAny_noted ?_
  rw [show compTurn (.SetComp elt gens scope cpos) d (.ref it) acc B.env = _ from ht]
  refine wpAny_bind (wpAny_standAt ?_)
  refine wpAny_bind ?_
  rcases turn i n H1 w1 with ⟨stop, dn⟩ | ⟨go, Nx, hNx, step⟩
  · refine thnF (T.done B rfl rfl rfl hc i pins s1 _ H1 (fun _ _ => False) I1 (ok I1 n1) st1 stop) fun r s2 ⟨hr, I2⟩ => ?_
    subst hr
    exact wpAny_pure (fin H1 s2 I2 dn)
  · refine thnF (T.item B rfl rfl rfl hc i pins s1 _ H1 (fun _ _ => False) I1 (ok I1 n1) st1 go) fun r s2 ⟨u, hr, h2⟩ => ?_
    subst hr
    refine wpAny_bind (thnF h2 fun _ s3 ⟨x, H3, I3, r3, y3, st3, n3⟩ => ?_)
    have I3' := I3.pinned (ok I3 n3) (T.obj _ _ st3)
    have pr := pg.run _ s3 _ H3 x u _ I3' r3 (step x H3 y3)
    rw [hx] at pr
    refine wpAny_bind (thnF pr fun _ s4 ⟨σ4, H4, I4, hw4, q4⟩ => ?_)
    have tr := pt.run _ s4 σ4 H4 _ I4 q4
    rw [hx] at tr
    refine wpAny_bind (thnF tr fun b s5 ⟨H5, I5, q5⟩ => ?_)
    have done : ∀ {σ6 : L2.St} {s' : Shared} {H' : Hp}, Inv B (pins ++ pinsAt fp s3.heap) σ6 H' s' → (wipe σ vs).length = σ6.length → (∀ (j : Nat) v, (wipe σ vs)[j]? = some (some v) → σ6[j]? = some (some v)) → Nx H' →
        ∃ m, m < n ∧ ∃ i H', Inv B pins (wipe σ vs) H' s' ∧ tn i s'.heap ∧ (∀ b ∈ fp, H' b = none) ∧ W i m H' := fun {σ6 s' H'} I' l6 k6 nx => by
      obtain ⟨m', hm, w'⟩ := hNx H' nx
      have kept : ∀ b ∈ fp, ∀ o, s3.heap.get? b = some o → s'.heap.get? b = some o ∧ H' b = none := fun b hb o e => by
        have z := I'.pin (b, o) (List.mem_append_right _ (List.mem_append_right _ (mem_pinsAt hb e)))
        exact ⟨z.1, z.2.1⟩
      refine ⟨m', hm, i + 1, H', I'.unpinned.weak l6 k6, T.keep _ _ _ st3 fun b hb o e => (kept b hb o e).1, fun b hb => ?_, w'⟩
      obtain ⟨o, e, _⟩ := T.obj _ _ st3 b hb
      exact (kept b hb o e).2
    have l4 : (wipe σ vs).length = σ4.length := by rw [← hw4, wipe_length]
    have k4 : ∀ (j : Nat) v, (wipe σ vs)[j]? = some (some v) → σ4[j]? = some (some v) ∧ j ∉ vs := fun j v e => by
      rw [← hw4] at e
      exact wipe_some e
    cases b with
    | false =>
      rw [if_neg Bool.false_ne_true]
      rw [if_neg Bool.false_ne_true] at q5
      exact wpAny_pure ⟨rfl, done I5 l4 (fun j v e => (k4 j v e).1) q5⟩
    | true =>
      rw [if_pos rfl]
      rw [if_pos rfl] at q5
      refine thnF (sg _ s5 σ4 H5 _ I5 q5) fun fi s6 ⟨hf, H6, I6, nx⟩ => ?_
      subst hf
      exact ⟨rfl, done I6 (l4.trans (wipe_length σ4 vs1).symm) (fun j v e => by
        obtain ⟨e1, e2⟩ := k4 j v e
        rw [wipe_off fun z => e2 (hv j z)]
        exact e1) nx⟩
/-- what is made is put to the set -/
theorem seg_put {elt : Expr} {te : TE} {D : Addr} {a : Code} (hx : B.xe = fun _ _ => False) (hu : B.A.units + 64 < cLine) (he : PE B elt te) :
    Seg B (kEndS elt (.ref D) B.env a) a (fun σ H R => te σ H fun y H4 => ∃ t k L, y = .ref t ∧ H4 D = some (setO B.w D L) ∧ Rows B.K H4 ((t, k) :: L) ∧ L.length + 1 < 64 ∧ ∀ L1, (k ∈ L.map (·.2) ∧ L1 = L ∨ k ∉ L.map (·.2) ∧ L1.Perm ((t, k) :: L)) → R (upd H4 D (setO B.w D L1))) [] := by
  intro pins s σ H R I h
  unfold kEndS
  have er := he.run pins s σ H _ I h
  rw [hx] at er
  refine wpAny_bind (wpAny_bind (thnF er fun v s1 ⟨y, H1, I1, r1, t, k, L, ey, hD, hrows, few, q⟩ => ?_))
  subst ey
  obtain rfl : v = Value.ref t := r1
  refine wpAny_bind (wpAny_standAt (wpAny_bind (addN_ok I1 hu hD hrows few fun s2 L1 how I2 => wpAny_pure ?_)))
  exact wpAny_pure ⟨rfl, _, I2, q L1 how⟩
theorem start_inS {prog : Program} {w : World} {A : Around} {R : Result → Shared → Prop} {s : Shared} {elt : Expr} {gens : List Comprehension} {scope : Scope} {cpos : Pos} {d : Nat} {it acc : Value} {env : Env} {p : Pos} {t i : Expr} {ifs : List Expr} (hcl : gens[d]? = some ⟨t, i, ifs, 0⟩)
    (h0 : codeAny (model prog w) A (.compLoop (.SetComp elt gens scope cpos) d it acc env) R s) (h : wpAny (model prog w) A (pyIter it) (fun it' s' => codeAny (model prog w) A (.compLoop (.SetComp elt gens scope cpos) d it' acc env) R s') (notedBy (model prog w) A env fun x s' => R (.error x) s') s) :
    codeAny (model prog w) A (.compStart (.SetComp elt gens scope cpos) d it acc env) R s := by
  refine codeAny_of_tree ?_
  show wpAny _ _ ((compStart (.SetComp elt gens scope cpos) d it acc env).onRaise fun x => do noteFrame x env; standAt theWindowsPlace) _ _ s
  refine wpAny_notedAt ?_
  unfold compStart
  rw [show clausesOf (.SetComp elt gens scope cpos) = gens from rfl, hcl]
  show wpAny _ _ (ask >>= _) _ _ s
  refine wpAny_bind (wpAny_askSetting (wpAny_ite ?_))
  split
  · exact wpAny_bind (wpAny_pure (wpAny_pure ⟨rfl, h0⟩))
  · refine wpAny_bind (wpAny_rule ?_)
    show wpAny _ _ (standAt i.pos >>= _) _ _ s
    exact wpAny_bind (wpAny_standAt (wpAny_bind (wpAny_mono h (fun it' s' h' => wpAny_pure ⟨rfl, h'⟩) fun _ _ x => x)))
end
section
variable {X : Cx}
/-- the whole of it -/
def tTopS (w : World) (wi : TI) (g : TG) (tt : TT) (tb : Addr → Tc) (vs : List Nat) : TE := fun σ H Q => wi σ H fun J H1 => ∀ D, H1 D = none → tOver g tt (tb D) vs J σ (upd H1 D (setO w D [])) fun H2 => Q (.ref D) H2
theorem pe_scL {elt tg iter : Expr} {ifs : List Expr} {rest : List Comprehension} {scope : Scope} {own : List (Str × Nat)} {vs1 : List Nat} {cpos p : Pos} {wi : TI} {g : TG} {tt : TT} {tb : Addr → Tc} (hc : X.calm = true) (hN : X.N.Nodup) (hi : PI X tg iter wi) (ok : BlkOk X.N X.env.scope scope own) (hv : ∀ i ∈ vs1, i ∈ own.map (·.2))
    (hg : ∀ (s : Shared) (H : Hp) (C : Addr) (cl : List (Str × Addr)) (fp : List Addr), PG (X.blk s H scope (compEnvC scope cl C X.env) fp) tg g) (ht : ∀ (s : Shared) (H : Hp) (C : Addr) (cl : List (Str × Addr)) (fp : List Addr), PTs (X.blk s H scope (compEnvC scope cl C X.env) fp) ifs tt)
    (hb : ∀ (s : Shared) (H : Hp) (C : Addr) (cl : List (Str × Addr)) (fp : List Addr) (D : Addr) (it : Value), ∃ k, Goes (.SetComp elt (⟨tg, iter, ifs, 0⟩ :: rest) scope cpos) 0 p tg ifs it (.ref D) (compEnvC scope cl C X.env) k ∧
      Seg (X.blk s H scope (compEnvC scope cl C X.env) fp) k (.compLoop (.SetComp elt (⟨tg, iter, ifs, 0⟩ :: rest) scope cpos) 0 it (.ref D) (compEnvC scope cl C X.env)) (tb D) vs1)
    (hs : ∀ x, foldedSetIterable iter X.env x = pure x := by intro _; rfl) : PE X (.SetComp elt (⟨tg, iter, ifs, 0⟩ :: rest) scope cpos) (tTopS X.w wi g tt tb (own.map (·.2))) := by
  refine ⟨fun pins s σ H Q I h => ?_⟩
  rw [PpSet.eval_SetComp]
  have hfree : ∀ y ∈ scope.names, y.2 = .free → ∃ c, X.env.cells.lookup y.1 = some c := fun y hy e => (ok.free y hy e).elim (fun z => I.ok.has _ (.inl z)) fun z => I.ok.has _ (.inr z)
  refine wpAny_comprehension_free (use := none) rfl hs (closure_ok hfree) ok.kind (fun y hy e => by rw [ok.uniq y hy, e]) (thn (hi.run pins s σ H _ I h) fun xv s1 h1 => thn h1 fun itv s2 h2 => ?_)
  obtain ⟨it, fp, tn, J, H2, e, I2, T, st2, f2, q⟩ := h2
  subst e
  refine PpSet.newSet_ok (newEnv_comp ?_)
  have nD : H2 s2.heap.objs.size = none := I2.hok.fresh (Nat.le_refl _)
  have lt : ∀ b ∈ fp, b < s2.heap.objs.size := fun b hb => by
    obtain ⟨o, e, _⟩ := T.obj _ _ st2 b hb
    exact Heap.lt_size e
  have I3 : Inv X pins σ (upd H2 s2.heap.objs.size (setO X.w s2.heap.objs.size [])) { s2 with heap := s2.heap.push (bareSet X.w) } := I2.laid (t' := s2.toks) (fun b o e => Heap.get?_push_of_some _ e) (Nat.le_refl _) (setO_ok (has_bare (Heap.get?_push_size _ rfl)))
  have hq := q _ nD
  have f3 : ∀ b ∈ fp, FpOk X pins (upd H2 s2.heap.objs.size (setO X.w s2.heap.objs.size [])) b ∧ b < (s2.heap.push (bareSet X.w)).objs.size := fun b hb =>
    ⟨⟨by rw [upd_ne (Nat.ne_of_lt (lt b hb))]; exact (f2 b hb).1, (f2 b hb).2⟩, by rw [Heap.size_push]; exact Nat.lt_succ_of_lt (lt b hb)⟩
  have st3 : tn 0 (s2.heap.push (bareSet X.w)) := T.keep _ _ _ st2 fun b _ o e => Heap.get?_push_of_some _ e
  generalize s2.heap.objs.size = D at nD hq I3 f3
  generalize hs3 : ({ s2 with heap := s2.heap.push (bareSet X.w) } : Shared) = s3 at I3
  have e3 : s2.heap.push (bareSet X.w) = s3.heap := by rw [← hs3]
  rw [e3] at f3 st3
  generalize upd H2 D (setO X.w D []) = H3 at hq I3 f3
  have I4 := block_start I3 ok hN f3
  have pg := hg s3 H3 s3.heap.objs.size (cellsFrom (s3.heap.objs.size + 1) scope.names (cloFrom X.env.cells scope.names [])) fp
  have pt := ht s3 H3 s3.heap.objs.size (cellsFrom (s3.heap.objs.size + 1) scope.names (cloFrom X.env.cells scope.names [])) fp
  have pb := hb s3 H3 s3.heap.objs.size (cellsFrom (s3.heap.objs.size + 1) scope.names (cloFrom X.env.cells scope.names [])) fp D (.ref it)
  show codeAny _ _ (.compStart _ 0 (.ref it) (.ref D) (compEnvC scope (cellsFrom (s3.heap.objs.size + 1) scope.names (cloFrom X.env.cells scope.names [])) s3.heap.objs.size X.env)) _ { s3 with heap := pushCells (s3.heap.push { cls := .type "dict", data := .dict #[] }) scope.names }
  generalize hce : compEnvC scope (cellsFrom (s3.heap.objs.size + 1) scope.names (cloFrom X.env.cells scope.names [])) s3.heap.objs.size X.env = ce at I4 pg pt pb ⊢
  have cL : ce.locals = s3.heap.objs.size := by rw [← hce]; rfl
  have st4 : tn 0 (pushCells (s3.heap.push { cls := .type "dict", data := .dict #[] }) scope.names) := T.keep _ _ _ st3 fun b _ o e => pushCells_keeps _ _ _ _ (Heap.get?_push_of_some _ e)
  obtain ⟨k, hk, sg⟩ := pb
  have st5 : tn 0 ({ s3 with heap := pushCells (s3.heap.push { cls := .type "dict", data := .dict #[] }) scope.names } : Shared).heap := st4
  generalize ({ s3 with heap := pushCells (s3.heap.push { cls := .type "dict", data := .dict #[] }) scope.names } : Shared) = s4 at I4 st5 ⊢
  have loop := run_overS (B := X.blk s3 H3 scope ce fp) (R := compPost (model X.prog X.w) X.A X.xe none (EP X pins σ Q) (.ref D) s3.heap.objs.size) hc rfl T hk pg pt sg hv
    (fun {σ' H' s'} I' hn b hb => ⟨hn b hb, (I'.ok.exf b hb).1, I'.ok.exfs b hb, .inl hb, fun x c e => (I'.ok.exf b hb).2 x c e, fun p hp => absurd (show p ∈ ([] : List (Addr × Obj)) ++ [] from hp) (by simp)⟩) I4 st5 (fun b hb => (f3 b hb).1.1) hq fun H' s' I' q' => ?_
  · exact PpSet.codeAny_compStart_set loop (T.self X.A 0 _ _ _ st5 loop)
  · have I6 : Inv X pins σ H' s' := I3.call' (ch := fp) I'.os I'.base I'.hok I'.bare fun b hb => by
      obtain ⟨_, n1, n2, n3, n4, n5⟩ := (f3 b hb).1
      exact ⟨n3, n1, n4, n5⟩
    have nC : H' s3.heap.objs.size = none := by
      have z : H' ce.locals = none := I'.free
      rwa [cL] at z
    obtain ⟨m, hn, _⟩ := I'.loc
    have hn2 : s'.heap.Ns ce.locals m := hn
    rw [cL] at hn2
    refine ⟨m, hn2, fun h'' sb => ?_⟩
    obtain ⟨f0, f1, f2', f3', f4, f5⟩ := I3.fpOk (Nat.le_refl _) nC
    exact ⟨.ref D, H', I6.turned (t' := s'.toks) (fun b o hb e => (sb.2 b hb).trans e) f0 f1 f3' f4 f5, rfl, q'⟩
/-- what is made is put to the set at D -/
def tPutS (K : PySem.W.Frag) (w : World) (te : TE) (D : Addr) : Tc := fun σ H R => te σ H fun y H4 => ∃ t k L, y = .ref t ∧ H4 D = some (setO w D L) ∧ Rows K H4 ((t, k) :: L) ∧ L.length + 1 < 64 ∧ ∀ L1, (k ∈ L.map (·.2) ∧ L1 = L ∨ k ∉ L.map (·.2) ∧ L1.Perm ((t, k) :: L)) → R (upd H4 D (setO w D L1))
/-- {elt for .. if ..}, nested tuples -/
theorem pe_scN {elt tg iter : Expr} {ifs : List Expr} {scope : Scope} {own : List (Str × Nat)} {cpos : Pos} {wi : TI} {g : TG} {tt : TT} {te : TE} (hu : X.A.units + 64 < cLine) (hc : X.calm = true) (hN : X.N.Nodup) (hi : PI X tg iter wi) (ok : BlkOk X.N X.env.scope scope own)
    (hg : ∀ (s : Shared) (H : Hp) (C : Addr) (cl : List (Str × Addr)) (fp : List Addr), PG (X.blk s H scope (compEnvC scope cl C X.env) fp) tg g) (ht : ∀ (s : Shared) (H : Hp) (C : Addr) (cl : List (Str × Addr)) (fp : List Addr), PTs (X.blk s H scope (compEnvC scope cl C X.env) fp) ifs tt)
    (he : ∀ (s : Shared) (H : Hp) (C : Addr) (cl : List (Str × Addr)) (fp : List Addr), PE (X.blk s H scope (compEnvC scope cl C X.env) fp) elt te)
    (hs : ∀ x, foldedSetIterable iter X.env x = pure x := by intro _; rfl) : PE X (.SetComp elt [⟨tg, iter, ifs, 0⟩] scope cpos) (tTopS X.w wi g tt (tPutS X.K X.w te) (own.map (·.2))) :=
  pe_scL (p := iter.pos) (vs1 := []) hc hN hi ok (fun _ z => nomatch z) hg ht (fun s H C cl fp D it => ⟨_, goes_endS, seg_put rfl hu (he s H C cl fp)⟩) hs
end
end XB

set_option maxHeartbeats 4000000
/-! machines: what they read, the least that they read -/
namespace MM
open PySem PySem.Spec PyProof.Rows L2 G3 M0
abbrev Pn := Int × Int
abbrev Ct := List Int
abbrev Ed := Int × Pn × Int
abbrev Web := List (Ct × Int) × List Ed × List Int
def ctD (c : Ct) : PyData := .tuple (c.map .int)
def pnD (p : Pn) : PyData := .tuple [.int p.1, .int p.2]
def beginD (b : Ct × Int) : PyData := .tuple [ctD b.1, .int b.2]
def edgeD (e : Ed) : PyData := .tuple [.int e.1, pnD e.2.1, .int e.2.2]
def pileD (l : List Pn) : PyData := .tuple (l.map pnD)
def webD (w : Web) : PyData := .tuple [.tuple (w.1.map beginD), .tuple (w.2.1.map edgeD), .tuple (w.2.2.map .int)]
/-! roads -/
def Path (E : List Ed) : Int → List Pn → Int → Prop
  | s, [], q => s = q
  | s, p :: l, q => ∃ t, (s, p, t) ∈ E ∧ Path E t l q
theorem path_snoc {E : List Ed} {p : Pn} {q : Int} : ∀ {l : List Pn} {s : Int}, Path E s (l ++ [p]) q ↔ ∃ t, Path E s l t ∧ (t, p, q) ∈ E
  | [], s => ⟨fun ⟨t, h, e⟩ => ⟨s, rfl, by rw [← show t = q from e]; exact h⟩, fun ⟨t, e, h⟩ => ⟨q, by rw [show s = t from e]; exact h, rfl⟩⟩
  | a :: l, s => ⟨fun ⟨t, h, r⟩ => let ⟨u, h1, h2⟩ := path_snoc.mp r; ⟨u, ⟨t, h, h1⟩, h2⟩, fun ⟨u, ⟨t, h, h1⟩, h2⟩ => ⟨t, h, path_snoc.mpr ⟨u, h1, h2⟩⟩⟩
theorem path_app {E : List Ed} {m : List Pn} {q : Int} : ∀ {l : List Pn} {s : Int}, Path E s (l ++ m) q ↔ ∃ t, Path E s l t ∧ Path E t m q
  | [], s => ⟨fun h => ⟨s, rfl, h⟩, fun ⟨t, e, h⟩ => by rw [show s = t from e]; exact h⟩
  | a :: l, s => ⟨fun ⟨t, h, r⟩ => let ⟨u, h1, h2⟩ := path_app.mp r; ⟨u, ⟨t, h, h1⟩, h2⟩, fun ⟨u, ⟨t, h, h1⟩, h2⟩ => ⟨t, h, path_app.mpr ⟨u, h1, h2⟩⟩⟩
/-- from one of B by l to q -/
def Reach (E : List Ed) (B : Int → Prop) (l : List Pn) (q : Int) : Prop := ∃ s, B s ∧ Path E s l q
theorem reach_nil {E : List Ed} {B : Int → Prop} {q : Int} : Reach E B [] q ↔ B q := ⟨fun ⟨s, h, e⟩ => by rw [← show s = q from e]; exact h, fun h => ⟨q, h, rfl⟩⟩
theorem reach_snoc {E : List Ed} {B : Int → Prop} {l : List Pn} {p : Pn} {q : Int} : Reach E B (l ++ [p]) q ↔ ∃ t, Reach E B l t ∧ (t, p, q) ∈ E :=
  ⟨fun ⟨s, h, r⟩ => let ⟨t, a, b⟩ := path_snoc.mp r; ⟨t, ⟨s, h, a⟩, b⟩, fun ⟨t, ⟨s, h, a⟩, b⟩ => ⟨s, h, path_snoc.mpr ⟨t, a, b⟩⟩⟩
def Starts (w : Web) (c : Ct) : Int → Prop := fun s => (c, s) ∈ w.1
/-- w reads l under c -/
def Acc (w : Web) (c : Ct) (l : List Pn) : Prop := ∃ e, e ∈ w.2.2 ∧ Reach w.2.1 (Starts w c) l e
/-! the order of piles -/
def pLt (a b : Pn) : Bool := decide (a.1 < b.1 ∨ a.1 = b.1 ∧ a.2 < b.2)
theorem pLt_irr (a : Pn) : pLt a a = false := decide_eq_false (by omega)
theorem pLt_tri {a b : Pn} (h : pLt a b = false) (k : pLt b a = false) : a = b := by
  have h' := of_decide_eq_false h
  have k' := of_decide_eq_false k
  exact Prod.ext (by omega) (by omega)
theorem pLt_tr {a b c : Pn} (h : pLt b a = false) (k : pLt c b = false) : pLt c a = false := by
  have h' := of_decide_eq_false h
  have k' := of_decide_eq_false k
  exact decide_eq_false (by omega)
def lLt : List Pn → List Pn → Bool
  | [], [] => false
  | [], _ :: _ => true
  | _ :: _, [] => false
  | a :: r, b :: t => if a = b then lLt r t else pLt a b
theorem lLt_irr : ∀ l : List Pn, lLt l l = false
  | [] => rfl
  | a :: l => by
    unfold lLt
    rw [if_pos rfl]
    exact lLt_irr l
theorem lLt_tri : ∀ {a b : List Pn}, lLt a b = false → lLt b a = false → a = b
  | [], [], _, _ => rfl
  | [], _ :: _, h, _ => by simp [lLt] at h
  | _ :: _, [], _, h => by simp [lLt] at h
  | a :: r, b :: t, h, k => by
    unfold lLt at h k
    by_cases e : a = b
    · rw [if_pos e] at h
      rw [if_pos e.symm] at k
      rw [e, lLt_tri h k]
    · rw [if_neg e] at h
      rw [if_neg fun z => e z.symm] at k
      exact absurd (pLt_tri h k) e
/-- not less, one behind another -/
theorem lLt_tr : ∀ {a b c : List Pn}, lLt b a = false → lLt c b = false → lLt c a = false
  | [], [], [], _, _ => rfl
  | [], [], _ :: _, _, _ => rfl
  | [], _ :: _, [], _, h => by simp [lLt] at h
  | [], _ :: _, _ :: _, _, _ => rfl
  | _ :: _, [], _, h, _ => by simp [lLt] at h
  | _ :: _, _ :: _, [], _, h => by simp [lLt] at h
  | a :: r, b :: t, c :: u, h, k => by
    unfold lLt at h k ⊢
    by_cases e : b = a
    · rw [if_pos e] at h
      subst e
      by_cases f : c = b
      · rw [if_pos f] at k
        rw [if_pos f]
        exact lLt_tr h k
      · rw [if_neg f] at k
        rw [if_neg f]
        exact k
    · rw [if_neg e] at h
      by_cases f : c = b
      · subst f
        rw [if_neg e]
        exact h
      · rw [if_neg f] at k
        by_cases g : c = a
        · subst g
          exact absurd (pLt_tri k h) f
        · rw [if_neg g]
          exact pLt_tr h k
/-- longer by a point each -/
theorem lLt_snoc : ∀ {a b : List Pn} {p q : Pn}, a.length = b.length → lLt b a = false → (a = b → pLt q p = false) → lLt (b ++ [q]) (a ++ [p]) = false
  | [], [], p, q, _, _, h => by
    show (if q = p then lLt [] [] else pLt q p) = false
    by_cases e : q = p
    · rw [if_pos e]; rfl
    · rw [if_neg e]; exact h rfl
  | [], _ :: _, _, _, l, _, _ => by simp at l
  | _ :: _, [], _, _, l, _, _ => by simp at l
  | a :: r, b :: t, p, q, l, h, k => by
    show (if b = a then lLt (t ++ [q]) (r ++ [p]) else pLt b a) = false
    have h' : (if b = a then lLt t r else pLt b a) = false := h
    by_cases e : b = a
    · rw [if_pos e] at h' ⊢
      exact lLt_snoc (Nat.succ.inj l) h' fun z => k (by rw [e, z])
    · rw [if_neg e] at h' ⊢
      exact h'
def IsLeast (w : Web) (c : Ct) (l : List Pn) : Prop := Acc w c l ∧ ∀ m, Acc w c m → l.length < m.length ∨ (l.length = m.length ∧ lLt m l = false)
def LeastOf (w : Web) (c : Ct) : Option (List Pn) → Prop
  | none => ∀ l, ¬ Acc w c l
  | some l => IsLeast w c l
theorem least_one {w : Web} {c : Ct} : ∀ {a b : Option (List Pn)}, LeastOf w c a → LeastOf w c b → a = b
  | none, none, _, _ => rfl
  | none, some l, h, k => absurd k.1 (h l)
  | some l, none, h, k => absurd h.1 (k l)
  | some l, some m, h, k => by
    rcases h.2 m k.1 with a | ⟨a, b⟩
    · rcases k.2 l h.1 with c | ⟨c, _⟩ <;> omega
    · rcases k.2 l h.1 with c | ⟨_, d⟩
      · omega
      · rw [lLt_tri d b]
/-! how far from an end -/
structure FarOk (w : Web) (f : List (Int × Int)) : Prop where
  nd : (f.map (·.1)).Nodup
  road : ∀ x ∈ f, ∃ l e, (l.length : Int) = x.2 ∧ e ∈ w.2.2 ∧ Path w.2.1 x.1 l e
  all : ∀ l s e, e ∈ w.2.2 → Path w.2.1 s l e → ∃ n, (s, n) ∈ f ∧ n ≤ (l.length : Int)
section
variable {w : Web} {f : List (Int × Int)}
theorem FarOk.one (h : FarOk w f) {s n m : Int} (a : (s, n) ∈ f) (b : (s, m) ∈ f) : n = m := by
  have key : ∀ (g : List (Int × Int)), (g.map (·.1)).Nodup → (s, n) ∈ g → (s, m) ∈ g → n = m := fun g => by
    induction g with
    | nil => intro _ h; cases h
    | cons x g ih =>
      intro nd h1 h2
      rw [List.map_cons, List.nodup_cons] at nd
      rcases List.mem_cons.mp h1 with e1 | e1
      · rcases List.mem_cons.mp h2 with e2 | e2
        · rw [← e2] at e1
          exact congrArg Prod.snd e1
        · exact absurd (List.mem_map.mpr ⟨_, e2, by rw [← e1]⟩) nd.1
      · rcases List.mem_cons.mp h2 with e2 | e2
        · exact absurd (List.mem_map.mpr ⟨_, e1, by rw [← e2]⟩) nd.1
        · exact ih nd.2 e1 e2
  exact key f h.nd a b
theorem FarOk.nonneg (h : FarOk w f) {s n : Int} (a : (s, n) ∈ f) : 0 ≤ n := by
  obtain ⟨l, _, e, _⟩ := h.road _ a
  have e' : (l.length : Int) = n := e
  omega
theorem FarOk.zero (h : FarOk w f) {s : Int} (a : (s, 0) ∈ f) : s ∈ w.2.2 := by
  obtain ⟨l, e, hl, he, hp⟩ := h.road _ a
  have hl' : (l.length : Int) = 0 := hl
  have : l = [] := List.eq_nil_of_length_eq_zero (by omega)
  subst this
  rw [show s = e from hp]
  exact he
/-- a step nearer -/
theorem FarOk.nearer (h : FarOk w f) {s n : Int} (a : (s, n) ∈ f) (pos : 0 < n) : ∃ p t, (s, p, t) ∈ w.2.1 ∧ (t, n - 1) ∈ f := by
  obtain ⟨l, e, hl, he, hp⟩ := h.road _ a
  have hl' : (l.length : Int) = n := hl
  match l, hl', hp with
  | [], hl', _ => simp at hl'; omega
  | p :: r, hl', ⟨t, h1, h2⟩ =>
    rw [List.length_cons] at hl'
    obtain ⟨m, h3, h4⟩ := h.all r t e he h2
    obtain ⟨r2, e2, h5, h6, h7⟩ := h.road _ h3
    have h5' : (r2.length : Int) = m := h5
    obtain ⟨n2, h8, h9⟩ := h.all (p :: r2) s e2 h6 ⟨t, h1, h7⟩
    have := h.one a h8
    rw [List.length_cons] at h9
    refine ⟨p, t, h1, ?_⟩
    rw [show n - 1 = m by omega]
    exact h3
theorem FarOk.step (h : FarOk w f) {s t n m : Int} {p : Pn} (e : (s, p, t) ∈ w.2.1) (a : (t, m) ∈ f) (b : (s, n) ∈ f) : n ≤ m + 1 := by
  obtain ⟨l, e2, hl, he, hp⟩ := h.road _ a
  have hl' : (l.length : Int) = m := hl
  obtain ⟨n2, h1, h2⟩ := h.all (p :: l) s e2 he ⟨t, e, hp⟩
  have := h.one b h1
  rw [List.length_cons] at h2
  omega
/-- no farther than there are edges -/
theorem FarOk.edges (h : FarOk w f) {s n : Int} (a : (s, n) ∈ f) : n ≤ (w.2.1.length : Int) := by
  have key : ∀ (k : Nat) (s : Int), (s, (k : Int)) ∈ f → ∃ L : List Int, L.Nodup ∧ L.length = k ∧ (∀ x ∈ L, x ∈ w.2.1.map (·.1)) ∧ ∀ x ∈ L, ∃ m, (x, m) ∈ f ∧ m ≤ (k : Int) := fun k => by
    induction k with
    | zero => exact fun s _ => ⟨[], List.nodup_nil, rfl, fun _ z => (nomatch z), fun _ z => nomatch z⟩
    | succ k ih =>
      intro s hs
      obtain ⟨p, t, e, ht⟩ := h.nearer hs (by omega)
      rw [show ((k + 1 : Nat) : Int) - 1 = (k : Int) by omega] at ht
      obtain ⟨L, l1, l2, l3, l4⟩ := ih t ht
      refine ⟨s :: L, List.nodup_cons.mpr ⟨fun z => ?_, l1⟩, by rw [List.length_cons, l2], fun x hx => ?_, fun x hx => ?_⟩
      · obtain ⟨m, a, b⟩ := l4 s z
        have := h.one hs a
        omega
      · rcases List.mem_cons.mp hx with z | z
        · rw [z]; exact List.mem_map.mpr ⟨_, e, rfl⟩
        · exact l3 x z
      · rcases List.mem_cons.mp hx with z | z
        · rw [z]; exact ⟨_, hs, Int.le_refl _⟩
        · obtain ⟨m, a, b⟩ := l4 x z
          exact ⟨m, a, by omega⟩
  have nn := h.nonneg a
  obtain ⟨k, rfl⟩ : ∃ k : Nat, n = k := ⟨n.toNat, (Int.toNat_of_nonneg nn).symm⟩
  obtain ⟨L, l1, l2, l3, _⟩ := key k s a
  have := S2.nd_len (U := w.2.1.map (·.1)) l1 l3
  rw [List.length_map, l2] at this
  omega
end
end MM

set_option maxHeartbeats 4000000
/-! comprehensions over anything whose items are known: each item turned, some left out -/
namespace LC
open PySem PySem.Spec PyProof.Rows L2 G3
theorem small_line {n : Nat} (h : n ≤ 1000000) : n < sizeLine := Nat.lt_of_le_of_lt h (by decide)
section
variable {J : It} {G : Hp → Prop} {xs : List V} {g : TG} {tt : TT} {te : TE} {vs : List Nat} {σ : L2.St} {H1 : Hp} {D : Addr} {Qd : Hp → Prop}
theorem lc_map (w : Walk J xs.length G (YAt xs)) (hG : ∀ H, Same H1 H → G H) (len : xs.length ≤ 100000) (nD : H1 D = none) (f : V → V)
    (turn : ∀ x H (R : V → Hp → Prop), x ∈ xs → Same H1 H → (∀ H', Same H H' → R (f x) H') → g x (wipe σ vs) H fun σ2 H2 => wipe σ2 vs = wipe σ vs ∧ te σ2 H2 R)
    (fin : ∀ H', Same H1 H' → H' D = some (.lst (xs.map f)) → Qd H') :
    ∃ W : Nat → Nat → Hp → Prop, (∃ m, W 0 m (upd H1 D (.lst []))) ∧ ∀ i m H, W i m H →
      (J.stop i H ∧ Qd H) ∨ (J.go i H ∧ ∃ Nx : Hp → Prop, (∀ H', Nx H' → ∃ m', m' < m ∧ W (i + 1) m' H') ∧ ∀ x H', J.yld i H x H' → g x (wipe σ vs) H' fun σ2 H2 => wipe σ2 vs = wipe σ vs ∧ tYes σ2 H2 fun b H3 =>
        if b = true then te σ2 H3 fun y H4 => ∃ acc, H4 D = some (.lst acc) ∧ acc.length < sizeLine ∧ Nx (upd H4 D (.lst (acc ++ [y]))) else Nx H3) := by
  refine lc_it w (fun i H => Same H1 H ∧ H D = some (.lst ((xs.take i).map f))) ⟨same_new nD, upd_same⟩ (fun i H _ h => hG H h.1) (fun i x H H' hi h y => ?_) (fun H h => fin H h.1 ?_)
  · obtain ⟨rfl, ex⟩ := y
    have t := turn x H' (fun y H4 => ∃ acc, H4 D = some (.lst acc) ∧ acc.length < sizeLine ∧ (Same H1 (upd H4 D (.lst (acc ++ [y]))) ∧ (upd H4 D (.lst (acc ++ [y]))) D = some (.lst ((xs.take (i + 1)).map f)))) (List.mem_of_getElem? ex) h.1 (fun H5 s => ?_)
    · dsimp only [tYes]
      simp only [if_true]
      exact t
    · refine ⟨_, s _ _ h.2, ?_, same_put (h.1.trans s) nD, ?_⟩
      · rw [List.length_map, List.length_take]
        exact small_line (by omega)
      · rw [upd_same, List.take_succ, ex]
        simp
  · have e : xs.take xs.length = xs := List.take_length
    rw [e] at h
    exact h.2
theorem lc_sift (w : Walk J xs.length G (YAt xs)) (hG : ∀ H, Same H1 H → G H) (len : xs.length ≤ 100000) (nD : H1 D = none) (p : V → Bool)
    (turn : ∀ x H (R : L2.St → Bool → Hp → Prop), x ∈ xs → Same H1 H → (∀ σ2 H', Same H H' → (∀ Q' : VK, Q' x H' → te σ2 H' Q') → R σ2 (p x) H') → g x (wipe σ vs) H fun σ2 H2 => wipe σ2 vs = wipe σ vs ∧ tt σ2 H2 (R σ2))
    (fin : ∀ H', Same H1 H' → H' D = some (.lst (xs.filter p)) → Qd H') :
    ∃ W : Nat → Nat → Hp → Prop, (∃ m, W 0 m (upd H1 D (.lst []))) ∧ ∀ i m H, W i m H →
      (J.stop i H ∧ Qd H) ∨ (J.go i H ∧ ∃ Nx : Hp → Prop, (∀ H', Nx H' → ∃ m', m' < m ∧ W (i + 1) m' H') ∧ ∀ x H', J.yld i H x H' → g x (wipe σ vs) H' fun σ2 H2 => wipe σ2 vs = wipe σ vs ∧ tt σ2 H2 fun b H3 =>
        if b = true then te σ2 H3 fun y H4 => ∃ acc, H4 D = some (.lst acc) ∧ acc.length < sizeLine ∧ Nx (upd H4 D (.lst (acc ++ [y]))) else Nx H3) := by
  refine lc_it w (fun i H => Same H1 H ∧ H D = some (.lst ((xs.take i).filter p))) ⟨same_new nD, upd_same⟩ (fun i H _ h => hG H h.1) (fun i x H H' hi h y => ?_) (fun H h => fin H h.1 ?_)
  · obtain ⟨rfl, ex⟩ := y
    have tk : xs.take (i + 1) = xs.take i ++ [x] := by rw [List.take_succ, ex]; rfl
    refine turn x H' (fun σ2 b H3 => if b = true then te σ2 H3 fun y H4 => ∃ acc, H4 D = some (.lst acc) ∧ acc.length < sizeLine ∧ (Same H1 (upd H4 D (.lst (acc ++ [y]))) ∧ (upd H4 D (.lst (acc ++ [y]))) D = some (.lst ((xs.take (i + 1)).filter p)))
      else Same H1 H3 ∧ H3 D = some (.lst ((xs.take (i + 1)).filter p))) (List.mem_of_getElem? ex) h.1 (fun σ2 H5 s t => ?_)
    refine ite2 (fun e1 => ?_) (fun e1 => ?_)
    · refine t _ ⟨_, s _ _ h.2, ?_, same_put (h.1.trans s) nD, ?_⟩
      · have z := List.length_filter_le p (xs.take i)
        rw [List.length_take] at z
        exact small_line (by omega)
      · rw [upd_same, tk, List.filter_append, List.filter_cons_of_pos (p := p) e1]
        rfl
    · refine ⟨h.1.trans s, ?_⟩
      rw [tk, List.filter_append, List.filter_cons_of_neg (p := p) e1, List.filter_nil, List.append_nil]
      exact s _ _ h.2
  · have e : xs.take xs.length = xs := List.take_length
    rw [e] at h
    exact h.2
end
/-- the signs of a text -/
def sgn (z : Str) : List V := z.cps.toList.map fun c => V.str ⟨#[c]⟩
theorem walk_sgn (z : Str) : Walk (Its z) (sgn z).length (fun _ => True) (YAt (sgn z)) := by
  have e : (sgn z).length = z.cps.size := by
    unfold sgn
    rw [List.length_map, Array.length_toList]
  rw [e]
  refine (walk_str (z := z)).mono (fun _ h => h) fun i H x H' hi _ y => ?_
  obtain ⟨e1, c, hc, rfl⟩ := y
  refine ⟨e1, ?_⟩
  unfold sgn
  rw [List.getElem?_map, Array.getElem?_toList, hc]
  rfl
end LC

set_option maxHeartbeats 4000000
namespace LR
open PySem PySem.Spec PyProof.Rows L2 G3 M0
/-! ### comprehensions, by place -/
theorem dpAll_of {K : PySem.W.Frag} {H : Hp} : ∀ {vs : List V} {ds : List PyData}, vs.length = ds.length → (∀ (i : Nat) v d, vs[i]? = some v → ds[i]? = some d → Dp K H v d) → DpAll K H vs ds
  | [], [], _, _ => .nil
  | [], _ :: _, e, _ => by simp at e
  | _ :: _, [], e, _ => by simp at e
  | v :: vs, d :: ds, e, h => by
    refine .cons (h 0 v d rfl rfl) (dpAll_of (Nat.succ.inj e) fun i v' d' a b => h (i + 1) v' d' ?_ ?_)
    · rw [List.getElem?_cons_succ]
      exact a
    · rw [List.getElem?_cons_succ]
      exact b
section
variable {J : It} {G : Hp → Prop} {xs : List V} {g : TG} {te : TE} {vs : List Nat} {σ : L2.St} {H1 : Hp} {D : Addr} {Qd : Hp → Prop}
/-- each item by its place: R i H u, whatever is new stands beside the list that is made -/
theorem lc_rel (w : Walk J xs.length G (YAt xs)) (hG : ∀ H, Same H1 H → G H) (len : xs.length ≤ 100000) (nD : H1 D = none) (R : Nat → Hp → V → Prop) (mono : ∀ i H H' u, Same H H' → R i H u → R i H' u)
    (turn : ∀ i x H (Kk : V → Hp → Prop), xs[i]? = some x → Same H1 H → (∃ acc, H D = some (.lst acc)) → (∀ u H', Same H H' → R i (off D H') u → Kk u H') → g x (wipe σ vs) H fun σ2 H2 => wipe σ2 vs = wipe σ vs ∧ te σ2 H2 Kk)
    (fin : ∀ H' us, Same H1 H' → H' D = some (.lst us) → us.length = xs.length → (∀ (i : Nat) u, us[i]? = some u → R i (off D H') u) → Qd H') :
    ∃ W : Nat → Nat → Hp → Prop, (∃ m, W 0 m (upd H1 D (.lst []))) ∧ ∀ i m H, W i m H →
      (J.stop i H ∧ Qd H) ∨ (J.go i H ∧ ∃ Nx : Hp → Prop, (∀ H', Nx H' → ∃ m', m' < m ∧ W (i + 1) m' H') ∧ ∀ x H', J.yld i H x H' → g x (wipe σ vs) H' fun σ2 H2 => wipe σ2 vs = wipe σ vs ∧ tYes σ2 H2 fun b H3 =>
        if b = true then te σ2 H3 fun y H4 => ∃ acc, H4 D = some (.lst acc) ∧ acc.length < sizeLine ∧ Nx (upd H4 D (.lst (acc ++ [y]))) else Nx H3) := by
  refine lc_it w (fun i H => Same H1 H ∧ ∃ us, H D = some (.lst us) ∧ us.length = i ∧ ∀ (j : Nat) u, us[j]? = some u → R j (off D H) u) ⟨same_new nD, [], upd_same, rfl, fun j u z => by simp at z⟩ (fun i H _ h => hG H h.1) (fun i x H H' hi h y => ?_) (fun H h => ?_)
  · obtain ⟨rfl, ex⟩ := y
    obtain ⟨s1, us, hD, hl, hR⟩ := h
    have t := turn i x H' (fun y H4 => ∃ acc, H4 D = some (.lst acc) ∧ acc.length < sizeLine ∧ (Same H1 (upd H4 D (.lst (acc ++ [y]))) ∧ ∃ us, (upd H4 D (.lst (acc ++ [y]))) D = some (.lst us) ∧ us.length = i + 1 ∧ ∀ (j : Nat) u, us[j]? = some u → R j (off D (upd H4 D (.lst (acc ++ [y])))) u)) ex s1 ⟨us, hD⟩ (fun u H5 s r => ?_)
    · dsimp only [tYes]
      simp only [if_true]
      exact t
    · refine ⟨us, s _ _ hD, LC.small_line (by omega), same_put (s1.trans s) nD, us ++ [u], upd_same, by rw [List.length_append, hl]; rfl, fun j u' hj => ?_⟩
      rw [off_upd]
      rcases Nat.lt_or_ge j us.length with z | z
      · rw [List.getElem?_append_left z] at hj
        exact mono j _ _ u' (off_mono s) (hR j u' hj)
      · rw [List.getElem?_append_right z] at hj
        have z2 : j - us.length = 0 := by
          rcases Nat.eq_zero_or_pos (j - us.length) with q | q
          · exact q
          · rw [List.getElem?_eq_none (by simp; omega)] at hj
            cases hj
        rw [z2] at hj
        cases hj
        have : j = i := by omega
        rw [this]
        exact r
  · obtain ⟨s1, us, hD, hl, hR⟩ := h
    exact fin H us s1 hD hl hR
theorem tup_hide {K : PySem.W.Frag} {H : Hp} {D a : Addr} {us xs : List V} (hD : H D = some (.lst us)) (h : SqT K H a xs) : SqT K (off D H) a xs := by
  rcases h with (h | ⟨o, h⟩) | h
  · exact .inl (.inl (by rw [off_ne (fun e => by rw [e, hD] at h; cases h)]; exact h))
  · exact .inl (.inr ⟨o, by rw [off_ne (fun e => by rw [e, hD] at h; cases h)]; exact h⟩)
  · exact .inr h
/-- each item as data -/
theorem lc_dp {K : PySem.W.Frag} (w : Walk J xs.length G (YAt xs)) (hG : ∀ H, Same H1 H → G H) (len : xs.length ≤ 100000) (nD : H1 D = none) (ds : List PyData) (hl : ds.length = xs.length)
    (turn : ∀ (i : Nat) (x : V) (d : PyData) (H : Hp) (R : V → Hp → Prop), xs[i]? = some x → ds[i]? = some d → Same H1 H → (∃ acc, H D = some (.lst acc)) → (∀ u H', Same H H' → Dp K (off D H') u d → R u H') → g x (wipe σ vs) H fun σ2 H2 => wipe σ2 vs = wipe σ vs ∧ te σ2 H2 R)
    (fin : ∀ H' us, Same H1 H' → H' D = some (.lst us) → DpAll K H' us ds → Qd H') :
    ∃ W : Nat → Nat → Hp → Prop, (∃ m, W 0 m (upd H1 D (.lst []))) ∧ ∀ i m H, W i m H →
      (J.stop i H ∧ Qd H) ∨ (J.go i H ∧ ∃ Nx : Hp → Prop, (∀ H', Nx H' → ∃ m', m' < m ∧ W (i + 1) m' H') ∧ ∀ x H', J.yld i H x H' → g x (wipe σ vs) H' fun σ2 H2 => wipe σ2 vs = wipe σ vs ∧ tYes σ2 H2 fun b H3 =>
        if b = true then te σ2 H3 fun y H4 => ∃ acc, H4 D = some (.lst acc) ∧ acc.length < sizeLine ∧ Nx (upd H4 D (.lst (acc ++ [y]))) else Nx H3) := by
  refine lc_rel w hG len nD (fun i H u => ∀ d, ds[i]? = some d → Dp K H u d) (fun i H H' u s h d hd => dp_same s _ _ (h d hd)) (fun i x H Kk hx s1 ac go => ?_) (fun H' us s1 hD hl2 hR => ?_)
  · have hi : i < ds.length := by
      have := (List.getElem?_eq_some_iff.mp hx).1
      omega
    exact turn i x ds[i] H Kk hx (List.getElem?_eq_getElem hi) s1 ac fun u H' s hd => go u H' s fun d h => by
      rw [List.getElem?_eq_getElem hi] at h
      cases h
      exact hd
  · exact fin H' us s1 hD (dpAll_of (by omega) fun i v d h1 h2 => dp_same off_sub _ _ (hR i v h1 d h2))
/-- data without lists -/
inductive Flat : PyData → Prop where
  | non : Flat .none
  | bl (b : Bool) : Flat (.bool b)
  | int (i : Int) : Flat (.int i)
  | str (z : Str) : Flat (.str z)
  | tup {ds : List PyData} (h : ∀ d ∈ ds, Flat d) : Flat (.tuple ds)
theorem flat_map {α : Type} {f : α → PyData} {xs : List α} (h : ∀ x ∈ xs, Flat (f x)) : Flat (.tuple (xs.map f)) := .tup fun d hd => by
  obtain ⟨x, hx, rfl⟩ := List.mem_map.mp hd
  exact h x hx
theorem flat_nil : ∀ d ∈ ([] : List PyData), Flat d := fun _ z => nomatch z
theorem flat_cons {d : PyData} {ds : List PyData} (h1 : Flat d) (h2 : ∀ e ∈ ds, Flat e) : ∀ e ∈ d :: ds, Flat e := fun e he => by
  rcases List.mem_cons.mp he with rfl | he
  · exact h1
  · exact h2 e he
mutual
theorem dp_hideF {K : PySem.W.Frag} {H : Hp} {D : Addr} {us : List V} (hD : H D = some (.lst us)) : ∀ (d : PyData) (v : V), Flat d → Dp K H v d → Dp K (off D H) v d
  | .none, _, _, h => by cases h; exact .non
  | .bool _, _, _, h => by cases h; exact .bl _
  | .int _, _, _, h => by cases h; exact .int _
  | .str _, _, _, h => by cases h; exact .str _
  | .list _, _, t, _ => nomatch t
  | .tuple ds, _, t, h => by
    cases h with
    | tup hs ha =>
      cases t with
      | tup tt => exact .tup (tup_hide hD hs) (dpAll_hideF hD ds _ tt ha)
  | .dict _, _, t, _ => nomatch t
theorem dpAll_hideF {K : PySem.W.Frag} {H : Hp} {D : Addr} {us : List V} (hD : H D = some (.lst us)) : ∀ (ds : List PyData) (vs : List V), (∀ d ∈ ds, Flat d) → DpAll K H vs ds → DpAll K (off D H) vs ds
  | [], _, _, h => by cases h; exact .nil
  | d :: ds, _, t, h => by
    cases h with
    | cons h1 h2 => exact .cons (dp_hideF hD d _ (t d List.mem_cons_self) h1) (dpAll_hideF hD ds _ (fun e he => t e (List.mem_cons_of_mem _ he)) h2)
end
theorem walk_rangeAt {lo : Int} {n : Nat} : Walk (Itr lo n) ((List.range n).map fun i : Nat => V.int (lo + i)).length (fun _ => True) (YAt ((List.range n).map fun i : Nat => V.int (lo + i))) :=
  ⟨fun i _ hi _ => (show i < n by simpa using hi), fun _ _ => (show n ≤ _ by simp), fun i _ _ _ hi _ y => by
    obtain ⟨h1, h2⟩ := y
    refine ⟨h1, ?_⟩
    have hi2 : i < n := by simpa using hi
    rw [List.getElem?_map, List.getElem?_range hi2]
    exact congrArg some h2.symm⟩
end
end LR

set_option maxHeartbeats 4000000
/-! slices of tuples, whatever they are (as in k27's PS) -/
namespace SA
open PySem PySem.Spec PyProof.Rows L2 G3
theorem cut_whole {xs : List V} {lo hi : Option Int} (h : HT.sIx xs.length 0 lo = 0 ∧ HT.sIx xs.length xs.length hi = xs.length) : cutV xs lo hi = xs := by
  unfold cutV
  rw [h.1, h.2, List.drop_zero, Nat.sub_zero, List.take_length]
theorem cut_take {xs : List V} (j : Nat) : cutV xs none (some (j : Int)) = xs.take j := by
  unfold cutV
  rw [HT.sIx_none, HT.sIx_nat, List.drop_zero, Nat.sub_zero, List.take_eq_take_iff]
  omega
theorem cut_drop {xs : List V} (j : Nat) : cutV xs (some (j : Int)) none = xs.drop j := by
  unfold cutV
  rw [HT.sIx_none, HT.sIx_nat]
  by_cases h : j ≤ xs.length
  · rw [Nat.min_eq_left h, List.take_of_length_le (by rw [List.length_drop]; omega)]
  · have e : min j xs.length = xs.length := by omega
    rw [e, List.drop_length, List.take_nil, List.drop_eq_nil_of_le (by omega)]
theorem sl_any {K : PySem.W.Frag} {G : Hp} {a : Addr} {xs : List V} {lo hi : Option Int} {T : VK} (h : SqT K G a xs) (go : ∀ c G', SqT K G' c (cutV xs lo hi) → Same G G' → T (.ref c) G') : rSlA K (.ref a) lo hi G T := by
  refine ⟨a, xs, rfl, h, fun z => go a G (by rw [cut_whole z]; exact h) (Same.refl G), fun _ q nq => go q _ (SqT.of upd_same) (same_new nq)⟩
end SA

set_option maxHeartbeats 4000000
namespace G5
open PySem PySem.Spec PyProof.Rows L2 G3
/-- a def's promise where no repr is under way -/
structure FnG (P : Program) (w : World) (K : PySem.W.Frag) (mg : Str → Option Value) (base : Heap) (CX : CXT) (k : Nat) (f : Addr) (fd : FuncData) (ps : List Str) (sp : Sp) : Prop where
  len : ∀ vs H Q E, sp vs H Q E → vs.length = ps.length
  run : ∀ (A : Around) (outer : List Env) (s : Shared) (H : Hp) (args : Args) (us : List Value) (vs : List V) (Q : VK) (E : XK), A.guards = some [] → Room k A → Env0 P w K mg base A outer s H → BindsTo s fd args (ps.zip us) → Vals vs us → sp vs H Q E →
    codeAny (model P w) A (.call (.ref f) args) (CR CX outer P w H s Q E) s
theorem FnG.of {P : Program} {w : World} {K : PySem.W.Frag} {mg : Str → Option Value} {base : Heap} {CX : CXT} {k : Nat} {f : Addr} {fd : FuncData} {ps : List Str} {sp : Sp} (F : FnOk P w K mg base CX k f fd ps sp) : FnG P w K mg base CX k f fd ps sp :=
  ⟨F.len, fun A outer s H args us vs Q E _ => F.run A outer s H args us vs Q E⟩
section
variable {P : Program} {w : World} {K : PySem.W.Frag} {mg : Str → Option Value} {base : Heap} {CX : CXT}
/-- a def by its body -/
theorem body_of {x ql : Str} {st : Stmt} {f : Addr} {fd : FuncData} {N ps : List Str} {k : Nat} {sp : Sp} (F : Fun K x ql st f fd) (S : FnScope N ps (defScope st)) (len : ∀ vs H Q E, sp vs H Q E → vs.length = ps.length)
    (body : ∀ (cdv : Value) (A : Around) (outer : List Env) (s : Shared) (H : Hp) (vs : List V) (Q : VK) (E : XK), A.guards = some [] → Room k (A.deeper (envOfC ql (defScope st) s.heap.objs.size f cdv)) → sp vs H Q E →
      ∃ t, PSs (cxOf CX P w K mg base N ql (defScope st) f cdv A outer s H E) (defBody st) t ∧ t { nx := fun _ H' => Q .non H', rt := Q } (start N vs) H) : FnG P w K mg base CX (k + 1) f fd ps sp := by
  obtain ⟨oc, od, kV, doc, pm, an, cdv, ct, osl, rfl, lk, hcd⟩ := F.ex
  refine ⟨len, fun A outer s H args us vs Q E gu hr e0 hb r hyp => ?_⟩
  have inS : K.In s.heap := e0.mod.kin.keeps fun b o e => (e0.bs b o e).1
  have noL : s.heap.NoLimit := e0.mod.nolimit.keeps fun b o e => (e0.bs b o e).1
  refine codeAny_call_function hr.depth (inS _ _ lk) rfl S.co S.gen rfl (PySem.W.codeRec_of inS hcd) (hb _ _ _ _ ?_)
  refine wpAny_newFunctionEnv_cells S.kind (fun ⟨n, v⟩ hy => ?_) fun env he s1 y => ?_
  · rcases S.par n (List.of_mem_zip hy).1 with q | q
    · exact Or.inl q
    · exact Or.inr ⟨q, PySem.W.cellsFrom_some _ _ _ (Or.inl q)⟩
  subst he
  refine ⟨noL.keeps y.toInCall.keep, codeAny_func ?_⟩
  obtain ⟨t, pt, tt⟩ := body cdv A outer s H vs Q E gu (hr.deeper _) hyp
  have I : Inv (cxOf CX P w K mg base N ql (defScope st) f cdv A outer s H E) [] (start N vs) H s1 := inv_start S hr.hd e0 (len _ _ _ _ hyp) r y
  refine wpAny_mono (pt.run [] s1 _ H _ I tt) (fun fl s2 h2 => ?_) fun e s2 h2 => h2
  cases fl with
  | ret u =>
    obtain ⟨v, σ2, H2, J, rv, q⟩ := h2
    exact ⟨v, H2, J.os, J.bare, J.base, J.hok, rv, q⟩
  | next =>
    obtain ⟨σ2, H2, J, q⟩ := h2
    exact ⟨.non, H2, J.os, J.bare, J.base, J.hok, rfl, q⟩
  | brk =>
    obtain ⟨_, _, _, q⟩ := h2
    exact q.elim
  | cont =>
    obtain ⟨_, _, _, q⟩ := h2
    exact q.elim
/-- the same where nothing is raised -/
theorem body_of0 {x ql : Str} {st : Stmt} {f : Addr} {fd : FuncData} {N ps : List Str} {k : Nat} {sp : Sp} (F : Fun K x ql st f fd) (S : FnScope N ps (defScope st)) (len : ∀ vs H Q E, sp vs H Q E → vs.length = ps.length)
    (body : ∀ (cdv : Value) (A : Around) (outer : List Env) (s : Shared) (H : Hp) (vs : List V) (Q : VK) (E : XK), A.guards = some [] → Room k (A.deeper (envOfC ql (defScope st) s.heap.objs.size f cdv)) → sp vs H Q E →
      ∃ t, PSs (cxOf CX0 P w K mg base N ql (defScope st) f cdv A outer s H E).nox (defBody st) t ∧ t { nx := fun _ H' => Q .non H', rt := Q } (start N vs) H) : FnG P w K mg base CX0 (k + 1) f fd ps sp :=
  body_of F S len fun cdv A outer s H vs Q E gu hr hyp => by
    obtain ⟨t, h1, h2⟩ := body cdv A outer s H vs Q E gu hr hyp
    exact ⟨t, h1.nox, h2⟩
end
section
variable {X : Cx} {CX : CXT} {k : Nat} {f : Addr} {fd : FuncData} {ps ks : List Str} {sp : Sp} {E : XK} {x : Str} {p pos : Pos} {e : Expr} {es : List Expr} {t tk : TA} {kws : List Keyword} {g : List Value → List Value → List Value} {gV : List V → List V → List V}
theorem run_G {pins : List (Addr × Obj)} {σ : L2.St} {H : Hp} {s : Shared} {Q : VK} {us ws : List Value} {vs zs : List V} (F : FnG X.prog X.w X.K X.mg X.base CX k f fd ps sp) (gu : X.A.guards = some []) (hr : Room k X.A) (kb : KBinds X.K fd ps ks g gV) (hx : Passes CX X E)
    (I : Inv X pins σ H s) (r : Vals vs us) (rz : Vals zs ws) (hyp : sp (gV vs zs) H Q E) : wpAny (model X.prog X.w) X.A (call (.ref f) us (ks.zip ws)) (EP X pins σ Q) X.xe s := by
  have r2 := kb.rel r rz
  have hl : (g us ws).length = ps.length := by rw [← r2.length]; exact F.len _ _ _ _ hyp
  refine wpAny_call (codeAny_mono (F.run X.A X.stack s H ⟨us, ks.zip ws⟩ (g us ws) _ Q E gu hr I.env0 (kb.to s us ws I.kIn hl) r2 hyp) fun rr s' hq => ?_)
  match rr, hq with
  | .error er, z => exact hx pins σ H s er s' I z
  | .ok .next, z => exact False.elim z
  | .ok .brk, z => exact False.elim z
  | .ok .cont, z => exact False.elim z
  | .ok (.ret u), z => exact I.after z
/-- by place alone -/
theorem kb_place {K : PySem.W.Frag} (b : Binds K fd ps []) : KBinds K fd ps [] (fun us _ => us) (fun vs _ => vs) := by
  refine ⟨fun s us ws X hl => ?_, fun r1 _ => r1⟩
  have h := b s us X (by rw [List.append_nil]; exact hl)
  rw [List.append_nil] at h
  cases ws <;> exact h
theorem pe_callG (F : FnG X.prog X.w X.K X.mg X.base CX k f fd ps sp) (gu : X.A.guards = some []) (hr : Room k X.A) (hg : Gl X x) (hm : X.mg x = some (.ref f)) (hk : PySem.W.keepIn X.K (.ref f) = true) (b : Binds X.K fd ps []) (hx : Passes CX X E) (ha : PA X (e :: es) t)
    (hdb : (x == ("__debug__" : Str)) = false := by decide) (he : starEach (e :: es) X.env = (false, eval e X.env) :: starEach es X.env := by rfl) (hpl : (backTo pos (starEach es X.env)).any (·.1) = false := by rfl) :
    PE X (.Call (.Name x p) (e :: es) [] pos) (fun σ H Q => t σ H fun vs H1 => sp vs H1 Q E) := by
  refine ⟨fun pins s σ H Q I hyp => wpAny_Call_Name_kw (ld_glob I hg hm ?_ hdb)⟩
  refine PySem.W.callWith_K (h₀ := X.base) I.ok.mod.kin hk (thn (ha.run pos pins s σ H _ I hyp) fun us s1 ⟨vs, H1, I1, r, q⟩ => ⟨I1.kIn, ?_⟩) he hpl
  exact run_G (ks := []) (ws := []) (zs := []) F gu hr (kb_place b) hx I1 r .nil q
end
end G5

set_option maxHeartbeats 4000000
namespace MM
open PySem PySem.Spec PyProof.Rows L2
def topS (i : Nat) : Stmt := PySem.Challenge.pw_fewturnsover_k13_what_machines_read.main.body.getD i (.Pass ⟨0, 0, 0, 0⟩)
abbrev s_states_of : Stmt := topS 1
abbrev s_edges_ahead : Stmt := topS 2
abbrev s_edges_behind : Stmt := topS 3
abbrev s_far_from_end : Stmt := topS 4
abbrev s_reads : Stmt := topS 5
abbrev s_controls_of : Stmt := topS 6
abbrev s_least_pile : Stmt := topS 7
abbrev s_law_longer : Stmt := topS 9
abbrev s_law_live : Stmt := topS 10
abbrev s_law_piles : Stmt := topS 11
abbrev s_law_reads : Stmt := topS 12
abbrev s_law_pool : Stmt := topS 13
abbrev s_law_take : Stmt := topS 14
abbrev s_law_machine : Stmt := topS 15
abbrev s_law_line : Stmt := topS 16
abbrev s_law_least : Stmt := topS 17
abbrev s_law_controls : Stmt := topS 18
abbrev s_law_right : Stmt := topS 19
abbrev s_law : Stmt := topS 20
structure Def (P : Program) (w : World) (K : PySem.W.Frag) (mg : Str → Option Value) (base : Heap) (CX : CXT) (k : Nat) (x : Str) (ps : List Str) (sp : Sp) where
  f : Addr
  d : FuncData
  ok : FnOk P w K mg base CX k f d ps sp
  g : mg x = some (.ref f)
  kp : PySem.W.keepIn K (.ref f) = true
  b : Binds K d ps []
end MM

set_option maxHeartbeats 4000000
namespace XC
open PySem PySem.Spec PyProof.Rows L2 L3
section
variable {X : Cx}
/-- [elt for .. for ..] -/
theorem pe_lc2 {elt tg iter tg1 iter1 : Expr} {ifs ifs1 : List Expr} {scope : Scope} {own : List (Str × Nat)} {vs1 : List Nat} {cpos : Pos} {wi wi1 : TI} {g g1 : TG} {tt tt1 : TT} {te : TE} (hc : X.calm = true) (hN : X.N.Nodup) (hi : PI X tg iter wi) (ok : BlkOk X.N X.env.scope scope own) (hv : ∀ i ∈ vs1, i ∈ own.map (·.2))
    (hg : ∀ (s : Shared) (H : Hp) (C : Addr) (cl : List (Str × Addr)) (fp : List Addr), PG (X.blk s H scope (compEnvC scope cl C X.env) fp) tg g) (ht : ∀ (s : Shared) (H : Hp) (C : Addr) (cl : List (Str × Addr)) (fp : List Addr), PTs (X.blk s H scope (compEnvC scope cl C X.env) fp) ifs tt)
    (hi1 : ∀ (s : Shared) (H : Hp) (C : Addr) (cl : List (Str × Addr)) (fp : List Addr), PI (X.blk s H scope (compEnvC scope cl C X.env) fp) tg1 iter1 wi1) (hg1 : ∀ (s : Shared) (H : Hp) (C : Addr) (cl : List (Str × Addr)) (fp : List Addr), PG (X.blk s H scope (compEnvC scope cl C X.env) fp) tg1 g1)
    (ht1 : ∀ (s : Shared) (H : Hp) (C : Addr) (cl : List (Str × Addr)) (fp : List Addr), PTs (X.blk s H scope (compEnvC scope cl C X.env) fp) ifs1 tt1)
    (he : ∀ (s : Shared) (H : Hp) (C : Addr) (cl : List (Str × Addr)) (fp : List Addr), PE (X.blk s H scope (compEnvC scope cl C X.env) fp) elt te)
    (hs : ∀ x, foldedSetIterable iter X.env x = pure x := by intro _; rfl) (hs1 : ∀ env x, foldedSetIterable iter1 env x = pure x := by intro _ _; rfl) :
    PE X (.ListComp elt [⟨tg, iter, ifs, 0⟩, ⟨tg1, iter1, ifs1, 0⟩] scope cpos) (tTop wi g tt (fun D => tIn wi1 g1 tt1 (tEmit D te) vs1) (own.map (·.2))) :=
  pe_lcN (p := iter.pos) (vs1 := vs1) hc hN hi ok hv hg ht (fun s H C cl fp D it => ⟨_, goes_in rfl rfl,
    seg_in (p := iter1.pos) hc rfl rfl (fun it1 => goes_end rfl rfl) (hi1 s H C cl fp) (hg1 s H C cl fp) (ht1 s H C cl fp) (fun it2 => seg_emit rfl (he s H C cl fp)) (fun _ z => nomatch z) (hs1 _)⟩) hs
end
end XC
namespace MM
open PySem PySem.Spec PyProof.Rows L2 G3 M0
/-! ### what changes, and the data beside it -/
def offs (ms : List Addr) (H : Hp) : Hp := fun a => if a ∈ ms then none else H a
def NotT (o : HO) : Prop := (∀ xs, o ≠ .tup xs) ∧ ∀ ob xs, o ≠ .frz ob (.tup xs)
theorem notT_lst {us : List V} : NotT (.lst us) := ⟨(fun _ z => by cases z), (fun _ _ z => by cases z)⟩
theorem notT_dK {kvs : List (L2.Key × V)} : NotT (.dK kvs) := ⟨(fun _ z => by cases z), (fun _ _ z => by cases z)⟩
def Cells (ms : List Addr) (H : Hp) : Prop := ∀ m ∈ ms, ∀ o, H m = some o → NotT o
theorem offs_ne {ms : List Addr} {H : Hp} {a : Addr} (h : a ∉ ms) : offs ms H a = H a := if_neg h
theorem offs_in {ms : List Addr} {H : Hp} {a : Addr} (h : a ∈ ms) : offs ms H a = none := if_pos h
theorem offs_sub {ms : List Addr} {H : Hp} : Same (offs ms H) H := fun a o e => by
  by_cases z : a ∈ ms
  · rw [offs_in z] at e; cases e
  · rwa [offs_ne z] at e
theorem offs_mono {ms : List Addr} {H H' : Hp} (s : Same H H') : Same (offs ms H) (offs ms H') := fun a o e => by
  by_cases z : a ∈ ms
  · rw [offs_in z] at e; cases e
  · rw [offs_ne z] at e ⊢
    exact s _ _ e
theorem offs_put {ms : List Addr} {H : Hp} {a : Addr} {o : HO} (h : a ∈ ms) : offs ms (upd H a o) = offs ms H := by
  funext b
  by_cases z : b ∈ ms
  · rw [offs_in z, offs_in z]
  · rw [offs_ne z, offs_ne z, upd_ne fun e => z (by rw [e]; exact h)]
/-- a cell more that was not there -/
theorem offs_more {ms ns : List Addr} {H H' : Hp} (s : Same (offs ms H) H') (le : ∀ m ∈ ns, m ∈ ms ∨ H m = none) : Same (offs ms H) (offs ns H') := fun a o e => by
  have n1 : a ∉ ms := fun z => by rw [offs_in z] at e; cases e
  have e' := e
  rw [offs_ne n1] at e'
  have n2 : a ∉ ns := fun z => by
    rcases le a z with y | y
    · exact n1 y
    · rw [y] at e'; cases e'
  rw [offs_ne n2]
  exact s _ _ e
theorem offs_new {ms : List Addr} {H : Hp} {a : Addr} {o : HO} (n : H a = none) : Same (offs ms H) (offs ms (upd H a o)) := offs_mono (same_new n)
theorem cells_ne {ms : List Addr} {H : Hp} {a : Addr} {o : HO} (c : Cells ms H) (h : H a = some o) (n : ¬ NotT o) : a ∉ ms := fun z => n (c a z o h)
theorem tup_offs {K : PySem.W.Frag} {ms : List Addr} {H : Hp} (c : Cells ms H) {a : Addr} {xs : List V} (h : SqT K H a xs) : SqT K (offs ms H) a xs := by
  rcases h with (h | ⟨o, h⟩) | h
  · exact .inl (.inl (by rw [offs_ne (cells_ne c h fun z => z.1 _ rfl)]; exact h))
  · exact .inl (.inr ⟨o, by rw [offs_ne (cells_ne c h fun z => z.2 _ _ rfl)]; exact h⟩)
  · exact .inr h
mutual
theorem dp_offs {K : PySem.W.Frag} {ms : List Addr} {H : Hp} (c : Cells ms H) : ∀ (d : PyData) (v : V), LR.Flat d → Dp K H v d → Dp K (offs ms H) v d
  | .none, _, _, h => by cases h; exact .non
  | .bool _, _, _, h => by cases h; exact .bl _
  | .int _, _, _, h => by cases h; exact .int _
  | .str _, _, _, h => by cases h; exact .str _
  | .list _, _, t, _ => nomatch t
  | .tuple ds, _, t, h => by
    cases h with
    | tup hs ha =>
      cases t with
      | tup tt => exact .tup (tup_offs c hs) (dpAll_offs c ds _ tt ha)
  | .dict _, _, t, _ => nomatch t
theorem dpAll_offs {K : PySem.W.Frag} {ms : List Addr} {H : Hp} (c : Cells ms H) : ∀ (ds : List PyData) (vs : List V), (∀ d ∈ ds, LR.Flat d) → DpAll K H vs ds → DpAll K (offs ms H) vs ds
  | [], _, _, h => by cases h; exact .nil
  | d :: ds, _, t, h => by
    cases h with
    | cons h1 h2 => exact .cons (dp_offs c d _ (t d List.mem_cons_self) h1) (dpAll_offs c ds _ (fun e he => t e (List.mem_cons_of_mem _ he)) h2)
end
/-! ### flat data of a machine -/
theorem flat_int (i : Int) : LR.Flat (.int i) := .int i
theorem flat_ct (c : Ct) : LR.Flat (ctD c) := LR.flat_map fun i _ => .int i
theorem flat_pn (p : Pn) : LR.Flat (pnD p) := .tup (LR.flat_cons (.int _) (LR.flat_cons (.int _) LR.flat_nil))
theorem flat_pile (l : List Pn) : LR.Flat (pileD l) := LR.flat_map fun p _ => flat_pn p
theorem flat_begin (b : Ct × Int) : LR.Flat (beginD b) := .tup (LR.flat_cons (flat_ct _) (LR.flat_cons (.int _) LR.flat_nil))
theorem flat_edge (e : Ed) : LR.Flat (edgeD e) := .tup (LR.flat_cons (.int _) (LR.flat_cons (flat_pn _) (LR.flat_cons (.int _) LR.flat_nil)))
theorem flat_web (w : Web) : LR.Flat (webD w) := .tup (LR.flat_cons (LR.flat_map fun b _ => flat_begin b) (LR.flat_cons (LR.flat_map fun e _ => flat_edge e) (LR.flat_cons (LR.flat_map fun i _ => .int i) LR.flat_nil)))
theorem dp2 {K : PySem.W.Frag} {H : Hp} {v : V} {d e : PyData} (h : Dp K H v (.tuple [d, e])) : ∃ a x y, v = .ref a ∧ SqT K H a [x, y] ∧ Dp K H x d ∧ Dp K H y e := by
  cases h with
  | tup hs ha =>
    cases ha with
    | cons h1 ha =>
      cases ha with
      | cons h2 ha =>
        cases ha
        exact ⟨_, _, _, rfl, hs, h1, h2⟩
theorem dp3 {K : PySem.W.Frag} {H : Hp} {v : V} {d e g : PyData} (h : Dp K H v (.tuple [d, e, g])) : ∃ a x y z, v = .ref a ∧ SqT K H a [x, y, z] ∧ Dp K H x d ∧ Dp K H y e ∧ Dp K H z g := by
  cases h with
  | tup hs ha =>
    cases ha with
    | cons h1 ha =>
      cases ha with
      | cons h2 ha =>
        cases ha with
        | cons h3 ha =>
          cases ha
          exact ⟨_, _, _, _, rfl, hs, h1, h2, h3⟩
theorem dpT {K : PySem.W.Frag} {H : Hp} {v : V} {ds : List PyData} (h : Dp K H v (.tuple ds)) : ∃ a xs, v = .ref a ∧ SqT K H a xs ∧ DpAll K H xs ds := by
  cases h with
  | tup hs ha => exact ⟨_, _, rfl, hs, ha⟩
theorem dp_int {K : PySem.W.Frag} {H : Hp} {v : V} {i : Int} (h : Dp K H v (.int i)) : v = .int i := by cases h; rfl
theorem ints_of {K : PySem.W.Frag} {H : Hp} : ∀ {is : List Int} {xs : List V}, DpAll K H xs (is.map .int) → xs = is.map V.int
  | [], _, h => by cases h; rfl
  | i :: is, _, h => by
    cases h with
    | cons h1 h2 =>
      rw [dp_int h1, ints_of h2]
      rfl
theorem of_ints {K : PySem.W.Frag} {H : Hp} : ∀ is : List Int, DpAll K H (is.map V.int) (is.map .int)
  | [] => .nil
  | i :: is => .cons (.int i) (of_ints is)
/-- its parts -/
theorem web_of {K : PySem.W.Frag} {H : Hp} {v : V} {w : Web} (h : Dp K H v (webD w)) : ∃ a b c d bs es, v = .ref a ∧ SqT K H a [.ref b, .ref c, .ref d] ∧ SqT K H b bs ∧ DpAll K H bs (w.1.map beginD) ∧ SqT K H c es ∧ DpAll K H es (w.2.1.map edgeD) ∧ SqT K H d (w.2.2.map V.int) := by
  obtain ⟨a, x, y, z, rfl, hs, h1, h2, h3⟩ := dp3 h
  obtain ⟨b, bs, rfl, g1, g2⟩ := dpT h1
  obtain ⟨c, es, rfl, g3, g4⟩ := dpT h2
  obtain ⟨d, ns, rfl, g5, g6⟩ := dpT h3
  rw [ints_of g6] at g5
  exact ⟨a, b, c, d, bs, es, rfl, hs, g1, g2, g3, g4, g5⟩
structure WebOk (w : Web) : Prop where
  b : w.1.length ≤ 30
  e : w.2.1.length ≤ 30
  n : w.2.2.length ≤ 30
  c : ∀ x ∈ w.1, x.1.length ≤ 10
  u : w.2.2.Nodup
theorem ct_shaped {c : Ct} : SeqAt.shaped (ctD c) = true := by
  have e1 : ∀ l : List Int, PyData.canLayAll0 (l.map .int) = true := fun l => by
    induction l with
    | nil => simp [PyData.canLayAll0]
    | cons a l ih => simp only [List.map_cons, PyData.canLayAll0, PyData.canLay0, ih, Bool.and_self]
  have e2 : ∀ l : List Int, PyData.depthAll (l.map .int) = 0 := fun l => by
    induction l with
    | nil => simp [PyData.depthAll]
    | cons a l ih => simp only [List.map_cons, PyData.depthAll, PyData.depth, ih]; rfl
  unfold SeqAt.shaped ctD
  simp only [PyData.canLay0, e1, PyData.depth, e2, Bool.true_and]
  rfl
theorem ct_eqv : ∀ a b : Ct, PyData.eqv (ctD a) (ctD b) = decide (a = b) := fun a b => by
  have key : ∀ a b : List Int, PyData.eqvAll (a.map .int) (b.map .int) = decide (a = b) := fun a => by
    induction a with
    | nil => intro b; cases b <;> simp [PyData.eqvAll]
    | cons x a ih =>
      intro b
      cases b with
      | nil => simp [PyData.eqvAll]
      | cons y b =>
        simp only [List.map_cons, PyData.eqvAll, ih, PyData.eqv]
        by_cases h1 : x = y <;> by_cases h2 : a = b <;> simp [h1, h2]
  unfold ctD
  simp only [PyData.eqv, key]
theorem pn_shaped (p : Pn) : SeqAt.shaped (pnD p) = true := by rfl
theorem pn_eqv (a b : Pn) : PyData.eqv (pnD a) (pnD b) = decide (a = b) := by
  unfold pnD
  simp only [PyData.eqv, PyData.eqvAll, Bool.and_true]
  obtain ⟨a1, a2⟩ := a
  obtain ⟨b1, b2⟩ := b
  by_cases h1 : a1 = b1 <;> by_cases h2 : a2 = b2 <;> simp [h1, h2]
end MM

set_option maxHeartbeats 4000000
namespace EN
open PySem PySem.Spec PyProof.Rows L2 G3 M0
/-- enumerate(v) made -/
theorem new1 {v : Value} {o : Obj} {H : Heap → Prop} (B : Begins v o H) :
    Meets (Builtin.«enumerate.__new__» ⟨[.type "enumerate", v], []⟩) (fun _ R s => H s.heap ∧
      R (.ok (.ret (.ref (s.heap.push o).objs.size))) { s with heap := (s.heap.push o).push { cls := .type "enumerate", data := .fields #[.none, .bool false, .ref s.heap.objs.size, rawInt 0, .none, .none] } }) :=
  .of_wp fun prog w A R s h => by
    obtain ⟨hp, g, d, tk, os⟩ := s
    obtain ⟨h1, h⟩ := h
    have z1 := sub_enumerate
    have z2 : ∀ {A' : Around} {E : Value → Shared → Prop} {Q : Value → Shared → Prop}, Q (.ref hp.objs.size) ⟨hp.push o, g, d, tk, os⟩ → wpAny (model prog w) A' (pyIter v) Q E ⟨hp, g, d, tk, os⟩ := fun q => B.iter prog w _ _ ⟨hp, g, d, tk, os⟩ _ h1 q
    wp_walk using z2
    refine wpAny_stack_any fun st => wpAny_pure ?_
    split
    · rename_i c _ _ _ _ _
      cases (c == Value.type "enumerate") <;> (wp_walk using z2; exact ⟨_, rfl, h⟩)
    · wp_walk using z2
      exact ⟨_, rfl, h⟩
section
variable {prog : Program} {w : World} {A : Around} {E : Value → Shared → Prop} {s : Shared}
theorem begun1 {v : Value} {o : Obj} {H : Heap → Prop} {Q : Value → Shared → Prop} (B : Begins v o H) (h1 : H s.heap)
    (h : ∀ h', IsEnum h' (s.heap.objs.size + 1) s.heap.objs.size 0 .none → h'.get? s.heap.objs.size = some o → (∀ b o, s.heap.get? b = some o → h'.get? b = some o) → Q (.ref (s.heap.objs.size + 1)) { s with heap := h' }) :
    wpAny (model prog w) A (call (.type "enumerate") [v]) Q E s := by
  refine callType_new F.called_enumerate (by decide) (F.typeCall_enumerate_1 _) (F.newCall_enumerate_1 _) (fun obj => F.args_object_init_2 obj _) F.entry_enumerate_new (new1 B) ⟨h1, ?_⟩
  have hz : (s.heap.push o).objs.size = s.heap.objs.size + 1 := Heap.size_push ..
  show _ ∧ _
  rw [hz]
  have he : IsEnum ((s.heap.push o).push { cls := .type "enumerate", data := .fields #[.none, .bool false, .ref s.heap.objs.size, rawInt 0, .none, .none] }) (s.heap.objs.size + 1) s.heap.objs.size 0 .none := by
    have z := Heap.get?_push_size (s.heap.push o) (o := { cls := .type "enumerate", data := .fields #[.none, .bool false, .ref s.heap.objs.size, rawInt 0, .none, .none] }) rfl
    rw [hz] at z
    exact z
  exact ⟨⟨_, he, rfl⟩, h _ he (Heap.get?_push_of_some _ (Heap.get?_push_size _ B.free)) fun b o x => Heap.get?_push_of_some _ (Heap.get?_push_of_some _ x)⟩
end
/-- the tuple at a, each item in a new pair -/
def Iet (K : PySem.W.Frag) (a : Addr) : It :=
  ⟨fun i H => ∃ (xs : List V) (x : V), SqT K H a xs ∧ xs[i]? = some x, fun i H v H' => ∃ T x, v = .ref T ∧ H T = none ∧ H' = upd H T (.tup [.int (i : Nat), x]) ∧ ∀ xs, SqT K H a xs → xs[i]? = some x, fun i H => ∃ xs : List V, SqT K H a xs ∧ xs.length = i⟩
theorem apart {h : Heap} {a b : Addr} {o o' : Obj} {x y : String} (h1 : h.get? a = some o) (c1 : o.cls = .type x) (h2 : h.get? b = some o') (c2 : o'.cls = .type y) (ne : x ≠ y) : a ≠ b := fun e => by
  subst e
  rw [h1] at h2
  cases h2
  rw [c1] at c2
  cases c2
  exact ne rfl
theorem turn_enumT {P : Program} {w : World} {K : PySem.W.Frag} {elts : List Expr} {kk : Nat} {tpos : Pos} (a e it : Addr) :
    Turn P w K (.Tuple elts kk tpos) (Iet K a) [e, it] e (fun i h => (∃ old, IsEnum h e it ((i : Nat) : Int) old) ∧ h.IsTupleIter it a i ∧ e ≠ it) where
  mem := by simp
  obj := fun i h st b hb => by
    obtain ⟨⟨old, he⟩, ⟨o, ho, hc, hd⟩, _⟩ := st
    have e' : b = e ∨ b = it := by simpa using hb
    rcases e' with z | z
    · rw [z]; exact ⟨_, he, fun v q => nomatch q⟩
    · rw [z]; exact ⟨o, ho, fun v q => by rw [hd] at q; cases q⟩
  keep := fun i h h' st k => let ⟨⟨old, he⟩, hi, hne⟩ := st; ⟨⟨old, k e (by simp) _ he⟩, hi.at fun o q => k it (by simp) o q, hne⟩
  item := by
    intro X hP hw hK hc i pins s σ H E I hf st hg
    subst hP hw hK
    obtain ⟨⟨old, he⟩, hit, hne⟩ := st
    obtain ⟨xs, x, hq, hx⟩ := hg
    obtain ⟨its, rv, p, hz⟩ := I.tuple hq
    obtain ⟨u, hu, ru⟩ := rv.get hx
    have hel : e < s.heap.objs.size := Heap.lt_size he
    have hil : it < s.heap.objs.size := by obtain ⟨_, q, _⟩ := hit; exact Heap.lt_size q
    have ai : a ≠ it := by
      obtain ⟨o1, p1, p2, _⟩ := p
      obtain ⟨o2, q1, q2, _⟩ := hit
      exact apart p1 p2 q1 q2 (by decide)
    have ae : e ∉ [it, a] := by
      obtain ⟨o1, p1, p2, _⟩ := p
      have z : e ≠ a := apart he rfl p1 p2 (by decide)
      intro m
      rcases List.mem_cons.mp m with y | y
      · exact hne y
      · exact z (List.mem_singleton.mp y)
    have lt : i < its.toArray.size := by
      have := (List.getElem?_eq_some_iff.mp hu).1
      simpa using this
    refine wpAny_pyNext_enum_itemD (Draws.tuple (A := X.A.in1) (by have z := I.ok.hd hc; simpa using z) it a ai its.toArray) he ⟨hit, p⟩ lt hne ae fun u2 h' tk pu ho st' hT hsz hk => ?_
    have eu : u2 = u := by
      have z : its[i]? = some u2 := by simpa using pu
      rw [hu] at z
      exact (Option.some.inj z).symm
    subst eu
    refine ⟨_, rfl, wpAny_letOwnedTupleGo_enum (s := { s with heap := h', toks := tk + 1 }) ho fun h'' he' sb => ?_⟩
    have hT2 : h''.get? s.heap.objs.size = some { cls := .type "tuple", data := .seq #[.int i tk, u2] } := (sb.2 _ (Nat.ne_of_gt hel)).trans hT
    have new : ObjOk X.prog X.w (upd H s.heap.objs.size (.tup [.int (i : Nat), x])) h'' s.heap.objs.size (.tup [.int (i : Nat), x]) :=
      ⟨by show 2 ≤ sizeLine; decide, [.int i tk, u2], .cons ⟨_, rfl⟩ (.cons ru .nil), ⟨_, hT2, rfl, _, rfl⟩⟩
    have I1 : Inv X pins σ (upd H s.heap.objs.size (.tup [.int (i : Nat), x])) { s with heap := h'', toks := tk + 1 } :=
      I.turnedNew (ch := [e, it]) (fun b ob hb q => (sb.2 b (fun z => hb (by simp [z]))).trans (hk b ob (fun z => hb (by simp [z])) (fun z => hb (by simp [z])) q)) hf (Nat.le_refl _) new
    refine ⟨.ref s.heap.objs.size, _, I1, rfl, ⟨_, x, rfl, I.hok.fresh (Nat.le_refl _), rfl, fun ys hy => by rw [I.tuple_inj hy hq]; exact hx⟩, ⟨⟨u2, ?_⟩, st'.1.at fun o q => (sb.2 it (Ne.symm hne)).trans q, hne⟩, fun b hb => ?_⟩
    · have e1 : ((i + 1 : Nat) : Int) = (i : Int) + 1 := by omega
      rw [e1]; exact he'
    · have hb' : b < s.heap.objs.size := by
        have e' : b = e ∨ b = it := by simpa using hb
        rcases e' with z | z
        · rw [z]; exact hel
        · rw [z]; exact hil
      rw [upd_ne (Nat.ne_of_lt hb')]
      exact (hf b hb).1
  done := by
    intro X hP hw hK hc i pins s σ H E I hf st hg
    subst hP hw hK
    obtain ⟨⟨old, he⟩, hit, hne⟩ := st
    obtain ⟨xs, hq, hx⟩ := hg
    obtain ⟨its, rv, p, hz⟩ := I.tuple hq
    obtain ⟨f0, f1, f2, f3, f4, f5⟩ := hf it (by simp)
    have hl := rv.length
    have ai : a ≠ it := by
      obtain ⟨o1, p1, p2, _⟩ := p
      obtain ⟨o2, q1, q2, _⟩ := hit
      exact apart p1 p2 q1 q2 (by decide)
    have ei : its.toArray.size = i := by rw [List.size_toArray]; omega
    refine wpAny_pyNext_enum_endD (Draws.tuple (A := X.A.in1) (by have z := I.ok.hd hc; simpa using z) it a ai its.toArray) he (by rw [ei]; exact ⟨hit, p⟩) fun h' eb => ⟨rfl, I.turned (t' := s.toks) (fun b o hb q => eb b o hb q) f0 f1 f3 f4 f5⟩
  self := fun A i s Q E st h => let ⟨⟨_, he⟩, _⟩ := st; wpAny_pyIter_enum he h
def iEnumT (K : PySem.W.Frag) (ta : TA) : TI := fun σ H R => ta σ H fun vs H1 => ∃ a xs, vs = [.ref a] ∧ SqT K H1 a xs ∧ R (Iet K a) H1
theorem pi_enumT {X : Cx} {e : Expr} {ta : TA} {p pos tpos : Pos} {elts : List Expr} {kk : Nat} (hg : Gl X "enumerate") (hm : X.mg "enumerate" = none) (ha : PA X [e] ta) (hs : starEach [e] X.env = [(false, eval e X.env)] := by rfl) :
    PI X (.Tuple elts kk tpos) (.Call (.Name "enumerate" p) [e] [] pos) (iEnumT X.K ta) := by
  refine ⟨fun pins s σ H R I h => ?_⟩
  refine Call_ (ld_blt I hg hm boot_enumerate (PyProof.Rows.callWith_type1 (thn (ha.run pos pins s σ H _ I h) fun us s1 ⟨vs, H1, I1, r1, q1⟩ => ?_) hs rfl))
  obtain ⟨a, xs, ex, hq, q⟩ := q1
  subst ex
  cases r1 with
  | cons r rr =>
    cases rr
    cases r
    obtain ⟨its, rv, p', hz⟩ := I1.tuple hq
    refine begun1 (begins_tuple a its.toArray) p' fun h' he hit hk => wpAny_pyIter_enum he ?_
    have I2 : Inv X pins σ H1 { s1 with heap := h' } := I1.kept (t' := s1.toks) hk
    refine ⟨s1.heap.objs.size + 1, [s1.heap.objs.size + 1, s1.heap.objs.size], _, _, H1, rfl, I2, turn_enumT a (s1.heap.objs.size + 1) s1.heap.objs.size, ⟨⟨.none, he⟩, ⟨_, hit, rfl, rfl⟩, Nat.succ_ne_self _⟩, fun b hb => ?_, q⟩
    have e' : b = s1.heap.objs.size + 1 ∨ b = s1.heap.objs.size := by simpa using hb
    have hle : s1.heap.objs.size ≤ b := by
      rcases e' with z | z
      · rw [z]; exact Nat.le_add_right _ _
      · rw [z]; exact Nat.le_refl _
    exact I1.fpOk hle (I1.hok.fresh hle)
theorem for_enumT {K : PySem.W.Frag} {a : Addr} {xs : List V} {g : TG} {tb : TS} {D : Ends} {σ : L2.St} {H : Hp} (Pv : Nat → L2.St → Hp → Prop) (h0 : Pv 0 σ H) (hl : ∀ i σ H, Pv i σ H → SqT K H a xs)
    (hs : ∀ (i : Nat) (x : V) (T : Addr) (σ : L2.St) (H : Hp), xs[i]? = some x → Pv i σ H → H T = none → g (.ref T) σ (upd H T (.tup [.int (i : Nat), x])) fun σ2 H2 => tb { D with nx := Pv (i + 1), ct := Pv (i + 1), bk := D.nx } σ2 H2) (hd : ∀ σ H, Pv xs.length σ H → D.nx σ H) :
    ∃ W : Nat → Nat → L2.St → Hp → Prop, (∃ m, W 0 m σ H) ∧ ∀ i m σ H, W i m σ H →
      ((Iet K a).stop i H ∧ D.nx σ H) ∨ ((Iet K a).go i H ∧ ∃ N : L2.St → Hp → Prop, (∀ σ' H', N σ' H' → ∃ m', m' < m ∧ W (i + 1) m' σ' H') ∧ ∀ x H', (Iet K a).yld i H x H' → g x σ H' fun σ2 H2 => tb { D with nx := N, ct := N, bk := D.nx } σ2 H2) := by
  refine ⟨fun i m σ H => m = xs.length - i ∧ i ≤ xs.length ∧ Pv i σ H, ⟨xs.length, rfl, Nat.zero_le _, h0⟩, ?_⟩
  rintro i m σ H ⟨rfl, hi, p⟩
  have q := hl i σ H p
  by_cases hlt : i < xs.length
  · refine .inr ⟨⟨xs, xs[i], q, by simp [hlt]⟩, Pv (i + 1), fun σ' H' p' => ⟨xs.length - (i + 1), by omega, rfl, hlt, p'⟩, fun v H' y => ?_⟩
    obtain ⟨T, x, rfl, hT, rfl, y⟩ := y
    exact hs i x T σ H (y xs q) p hT
  · have e : i = xs.length := by omega
    subst e
    exact .inl ⟨⟨xs, q, rfl⟩, hd σ H p⟩
end EN

set_option maxHeartbeats 4000000
/-! for x, y in zip(t, l): t a tuple, l a list -/
namespace ZM
open PySem PySem.Spec PyProof.Rows L2 G3 M0
def Itm (K : PySem.W.Frag) (a b : Addr) : It :=
  ⟨fun i H => ∃ (xs ys : List V) (x y : V), SqT K H a xs ∧ SqL K H b ys ∧ xs[i]? = some x ∧ ys[i]? = some y,
   fun i H v H' => ∃ T x y, v = .ref T ∧ H T = none ∧ H' = upd H T (.tup [x, y]) ∧ (∀ xs, SqT K H a xs → xs[i]? = some x) ∧ ∀ ys, SqL K H b ys → ys[i]? = some y,
   fun i H => ∃ xs ys : List V, SqT K H a xs ∧ SqL K H b ys ∧ i ≤ xs.length ∧ i ≤ ys.length ∧ (i = xs.length ∨ i = ys.length)⟩
theorem turn_zipM {P : Program} {w : World} {K : PySem.W.Frag} {elts : List Expr} {kk : Nat} {tpos : Pos} (a b z TI TO i1 i2 : Addr) (D : ZipSep2 z TI TO i1 i2 [i1, a] [i2, b]) (n1 : a ≠ i1) (n2 : b ≠ i2) :
    Turn P w K (.Tuple elts kk tpos) (Itm K a b) [z, TI, TO, i1, i2] z (fun i h => IsZip h z TI TO .none ∧ IsTupOf2 h TI (.ref i1) (.ref i2) ∧ (∃ x y, IsTupOf2 h TO x y) ∧ h.IsTupleIter i1 a i ∧ h.IsListIter i2 b i) where
  mem := by simp
  obj := fun i h st c hc => by
    obtain ⟨hz, hTI, ⟨x, y, hTO⟩, ⟨o1, g1, _, d1⟩, ⟨o2, g2, _, d2⟩⟩ := st
    simp only [List.mem_cons, List.not_mem_nil, or_false] at hc
    rcases hc with rfl | rfl | rfl | rfl | rfl
    · exact ⟨_, hz, fun v q => nomatch q⟩
    · exact ⟨_, hTI, fun v q => nomatch q⟩
    · exact ⟨_, hTO, fun v q => nomatch q⟩
    · exact ⟨o1, g1, fun v q => by rw [d1] at q; cases q⟩
    · exact ⟨o2, g2, fun v q => by rw [d2] at q; cases q⟩
  keep := fun i h h' st k => by
    obtain ⟨hz, hTI, ⟨x, y, hTO⟩, ⟨o1, g1, c1, d1⟩, ⟨o2, g2, c2, d2⟩⟩ := st
    exact ⟨k z (by simp) _ hz, k TI (by simp) _ hTI, ⟨x, y, k TO (by simp) _ hTO⟩, ⟨o1, k i1 (by simp) _ g1, c1, d1⟩, ⟨o2, k i2 (by simp) _ g2, c2, d2⟩⟩
  item := by
    intro X hP hw hK hc i pins s σ H E I hf st hg
    subst hP hw hK
    obtain ⟨hz, hTI, ⟨p, q, hTO⟩, h1, h2⟩ := st
    obtain ⟨xs, ys, x, y, hq1, hq2, hx, hy⟩ := hg
    obtain ⟨its, rv, p1, _⟩ := I.tuple hq1
    obtain ⟨its2, rv2, ⟨ol, nl, l1, l2, l3, l4⟩, _⟩ := I.list hq2
    obtain ⟨u, hu, ru⟩ := rv.get hx
    obtain ⟨u2, hu2, ru2⟩ := rv2.get hy
    have hd : X.A.in1.handled = none := by have z := I.ok.hd hc; simpa using z
    have lt1 : i < its.toArray.size := by
      have := (List.getElem?_eq_some_iff.mp hu).1
      simpa using this
    have lt2 : i < its2.toArray.size := by
      have := (List.getElem?_eq_some_iff.mp hu2).1
      simpa using this
    refine wpAny_pyNext_zipD2_item D (Draws.tuple (A := X.A.in1) hd i1 a n1 its.toArray) (Draws.list (A := X.A.in1) hd i2 b n2 its2.toArray) hz hTI hTO ⟨h1, p1⟩ ⟨h2, ⟨ol, l1, l2, nl, l4⟩⟩ lt1 lt2 fun v1 v2 h' tk e1 e2 hz' hTO' s1 s2 hT hsz hk => ?_
    have e1' : v1 = u := by
      have z : its[i]? = some v1 := by simpa using e1
      rw [hu] at z
      exact (Option.some.inj z).symm
    have e2' : v2 = u2 := by
      have z : its2[i]? = some v2 := by simpa using e2
      rw [hu2] at z
      exact (Option.some.inj z).symm
    subst e1' e2'
    have lz : z < s.heap.objs.size := Heap.lt_size hz
    refine ⟨_, rfl, wpAny_letOwnedTupleGo_zip (s := { s with heap := h', toks := tk }) hz' fun h'' hz'' sb => ?_⟩
    have hT2 : h''.get? s.heap.objs.size = some { cls := .type "tuple", data := .seq #[v1, v2] } := (sb.2 _ (Nat.ne_of_gt lz)).trans hT
    have new : ObjOk X.prog X.w (upd H s.heap.objs.size (.tup [x, y])) h'' s.heap.objs.size (.tup [x, y]) :=
      ⟨by show 2 ≤ sizeLine; decide, [v1, v2], .cons ru (.cons ru2 .nil), ⟨_, hT2, rfl, _, rfl⟩⟩
    have I1 : Inv X pins σ (upd H s.heap.objs.size (.tup [x, y])) { s with heap := h'', toks := tk } :=
      I.turnedNew (ch := [z, TO, i1, i2]) (fun c ob hb q => (sb.2 c (fun e => hb (by simp [e]))).trans (hk c ob (fun e => hb (by simp [e])) (fun e => hb (by simp [e])) (fun e => hb (by simp [e])) (fun e => hb (by simp [e])) q))
        (fun c hc2 => hf c (by
          simp only [List.mem_cons, List.not_mem_nil, or_false] at hc2 ⊢
          rcases hc2 with rfl | rfl | rfl | rfl <;> simp)) (Nat.le_refl _) new
    have up : ∀ c o, c ≠ z → h'.get? c = some o → h''.get? c = some o := fun c o ne q => (sb.2 c ne).trans q
    have dz1 : i1 ≠ z := fun e => D.zf1 (by simp [e])
    have dz2 : i2 ≠ z := fun e => D.zf2 (by simp [e])
    obtain ⟨⟨o1, g1, c1, d1⟩, _⟩ := s1
    obtain ⟨⟨o2, g2, c2, d2⟩, _⟩ := s2
    have hTI' : IsTupOf2 h' TI (.ref i1) (.ref i2) := hk TI _ D.TIz D.TITO D.TIi1 D.TIi2 hTI
    refine ⟨.ref s.heap.objs.size, _, I1, rfl, ⟨_, x, y, rfl, I.hok.fresh (Nat.le_refl _), rfl, fun zs hy2 => by rw [I.tuple_inj hy2 hq1]; exact hx, fun zs hy2 => by rw [I.list_inj hy2 hq2]; exact hy⟩,
      ⟨hz'', up _ _ D.TIz hTI', ⟨_, _, up _ _ D.TOz hTO'⟩, ⟨o1, up _ _ dz1 g1, c1, d1⟩, ⟨o2, up _ _ dz2 g2, c2, d2⟩⟩, fun c hc2 => ?_⟩
    have hb' : c < s.heap.objs.size := by
      simp only [List.mem_cons, List.not_mem_nil, or_false] at hc2
      rcases hc2 with rfl | rfl | rfl | rfl | rfl
      · exact lz
      · exact Heap.lt_size hTI
      · exact Heap.lt_size hTO
      · obtain ⟨_, q, _⟩ := h1
        exact Heap.lt_size q
      · obtain ⟨_, q, _⟩ := h2
        exact Heap.lt_size q
    rw [upd_ne (Nat.ne_of_lt hb')]
    exact (hf c hc2).1
  done := by
    intro X hP hw hK hc i pins s σ H E I hf st hg
    subst hP hw hK
    obtain ⟨hz, hTI, ⟨p, q, hTO⟩, h1, h2⟩ := st
    obtain ⟨xs, ys, hq1, hq2, l1, l2, l3⟩ := hg
    obtain ⟨its, rv, p1, _⟩ := I.tuple hq1
    obtain ⟨its2, rv2, ⟨ol, nl, g1, g2, g3, g4⟩, _⟩ := I.list hq2
    have hd : X.A.in1.handled = none := by have z := I.ok.hd hc; simpa using z
    have e1 : its.toArray.size = xs.length := by rw [List.size_toArray]; exact rv.length.symm
    have e2 : its2.toArray.size = ys.length := by rw [List.size_toArray]; exact rv2.length.symm
    refine wpAny_pyNext_zipD2_end D (Draws.tuple (A := X.A.in1) hd i1 a n1 its.toArray) (Draws.list (A := X.A.in1) hd i2 b n2 its2.toArray) hz hTI hTO ⟨h1, p1⟩ ⟨h2, ⟨ol, g1, g2, nl, g4⟩⟩ (by rw [e1]; exact l1) (by rw [e2]; exact l2) (by rw [e1, e2]; exact l3) fun h' tk hk => ⟨rfl, ?_⟩
    exact I.turnedL (ch := [z, TO, i1, i2]) (fun c ob hb q => hk c ob (fun e => hb (by simp [e])) (fun e => hb (by simp [e])) (fun e => hb (by simp [e])) (fun e => hb (by simp [e])) q)
        (fun c hc2 => hf c (by
          simp only [List.mem_cons, List.not_mem_nil, or_false] at hc2 ⊢
          rcases hc2 with rfl | rfl | rfl | rfl <;> simp))
  self := fun A i s Q E st h => wpAny_pyIter_zip st.1 h
theorem nn {x y : Addr} (h : Nat.lt x y ∨ Nat.lt y x) : x ≠ y := fun e => by
  subst e
  rcases h with h | h <;> exact absurd h (Nat.lt_irrefl _)
theorem nin2 {x a b : Addr} (h1 : x ≠ a) (h2 : x ≠ b) : ¬ x ∈ [a, b] := fun m => by
  rcases List.mem_cons.mp m with e | m
  · exact h1 e
  · exact h2 (List.mem_singleton.mp m)
theorem sep_of (N a b : Nat) (la : a < N) (lb : b < N) : ZipSep2 (N + 4) (N + 2) (N + 3) N (N + 1) [N, a] [N + 1, b] := by
  have l : ∀ {x y : Nat}, x < y → @Ne Addr x y := fun h => nn (.inl h)
  have g : ∀ {x y : Nat}, y < x → @Ne Addr x y := fun h => nn (.inr h)
  exact ⟨l (by omega), l (by omega), l (by omega), g (by omega), List.mem_cons_self, nin2 (g (by omega)) (g (by omega)), nin2 (g (by omega)) (g (by omega)), g (by omega), List.mem_cons_self, nin2 (g (by omega)) (g (by omega)), nin2 (g (by omega)) (g (by omega)), nin2 (l (by omega)) (g (by omega)), nin2 (g (by omega)) (g (by omega))⟩
def iZipM (K : PySem.W.Frag) (ta : TA) : TI := fun σ H R => ta σ H fun vs H1 => ∃ a b xs ys, vs = [.ref a, .ref b] ∧ SqT K H1 a xs ∧ SqL K H1 b ys ∧ R (Itm K a b) H1
theorem pi_zipM {X : Cx} {e e2 : Expr} {ta : TA} {p pos tpos : Pos} {elts : List Expr} {kk : Nat} (hg : Gl X "zip") (hm : X.mg "zip" = none) (ha : PA X [e, e2] ta) (hs : starEach (e :: [e2]) X.env = (false, eval e X.env) :: starEach [e2] X.env := by rfl) (hpl : (backTo pos (starEach [e2] X.env)).any (·.1) = false := by rfl) :
    PI X (.Tuple elts kk tpos) (.Call (.Name "zip" p) [e, e2] [] pos) (iZipM X.K ta) := by
  refine ⟨fun pins s σ H R I h => ?_⟩
  refine Call_ (ld_blt I hg hm PyProof.Rows.boot_zip (PyProof.Rows.callWith_type1 (thn (ha.run pos pins s σ H _ I h) fun us s1 ⟨vs, H1, I1, r1, q1⟩ => ?_) hs hpl))
  obtain ⟨a, b, xs, ys, ex, hq1, hq2, q⟩ := q1
  subst ex
  cases r1 with
  | cons r rr =>
    cases rr with
    | cons r2 rr2 =>
      cases rr2
      cases r
      cases r2
      obtain ⟨its, rv, p1, _⟩ := I1.tuple hq1
      obtain ⟨its2, rv2, ⟨ol, nl, l1, l2, l3, l4⟩, _⟩ := I1.list hq2
      have p2 : s1.heap.IsList b its2.toArray := ⟨ol, l1, l2, nl, l4⟩
      have la : a < s1.heap.objs.size := by
        obtain ⟨_, q, _⟩ := p1
        exact Heap.lt_size q
      have lb : b < s1.heap.objs.size := Heap.lt_size l1
      refine zip_begins2 (begins_tuple a its.toArray) (begins_list b its2.toArray) p1 p2 fun h' hz hTI hTO hi1 hi2 hsz hk => wpAny_pyIter_zip hz ?_
      have I2 : Inv X pins σ H1 { s1 with heap := h' } := I1.kept (t' := s1.toks) hk
      refine ⟨s1.heap.objs.size + 4, [s1.heap.objs.size + 4, s1.heap.objs.size + 2, s1.heap.objs.size + 3, s1.heap.objs.size, s1.heap.objs.size + 1], _, _, H1, rfl, I2,
        turn_zipM a b (s1.heap.objs.size + 4) (s1.heap.objs.size + 2) (s1.heap.objs.size + 3) s1.heap.objs.size (s1.heap.objs.size + 1) (sep_of s1.heap.objs.size a b la lb) (nn (.inl la)) (nn (.inl (Nat.lt_succ_of_lt lb))), ⟨hz, hTI, ⟨_, _, hTO⟩, ⟨_, hi1, rfl, rfl⟩, ⟨_, hi2, rfl, rfl⟩⟩, fun c hc => ?_, q⟩
      have hle : s1.heap.objs.size ≤ c := by
        simp only [List.mem_cons, List.not_mem_nil, or_false] at hc
        rcases hc with rfl | rfl | rfl | rfl | rfl
        · exact Nat.le_add_right _ _
        · exact Nat.le_add_right _ _
        · exact Nat.le_add_right _ _
        · exact Nat.le_refl _
        · exact Nat.le_add_right _ _
      exact I1.fpOk hle (I1.hok.fresh hle)
theorem for_zipM {K : PySem.W.Frag} {a b : Addr} {xs ys : List V} {g : TG} {tb : TS} {D : Ends} {σ : L2.St} {H : Hp} (hl0 : xs.length = ys.length) (Pv : Nat → L2.St → Hp → Prop) (h0 : Pv 0 σ H) (hl : ∀ i σ H, Pv i σ H → SqT K H a xs ∧ SqL K H b ys)
    (hs : ∀ (i : Nat) (x y : V) (T : Addr) (σ : L2.St) (H : Hp), xs[i]? = some x → ys[i]? = some y → Pv i σ H → H T = none → g (.ref T) σ (upd H T (.tup [x, y])) fun σ2 H2 => tb { D with nx := Pv (i + 1), ct := Pv (i + 1), bk := D.nx } σ2 H2) (hd : ∀ σ H, Pv xs.length σ H → D.nx σ H) :
    ∃ W : Nat → Nat → L2.St → Hp → Prop, (∃ m, W 0 m σ H) ∧ ∀ i m σ H, W i m σ H →
      ((Itm K a b).stop i H ∧ D.nx σ H) ∨ ((Itm K a b).go i H ∧ ∃ N : L2.St → Hp → Prop, (∀ σ' H', N σ' H' → ∃ m', m' < m ∧ W (i + 1) m' σ' H') ∧ ∀ x H', (Itm K a b).yld i H x H' → g x σ H' fun σ2 H2 => tb { D with nx := N, ct := N, bk := D.nx } σ2 H2) := by
  refine ⟨fun i m σ H => m = xs.length - i ∧ i ≤ xs.length ∧ Pv i σ H, ⟨xs.length, rfl, Nat.zero_le _, h0⟩, ?_⟩
  rintro i m σ H ⟨rfl, hi, p⟩
  obtain ⟨q1, q2⟩ := hl i σ H p
  by_cases hlt : i < xs.length
  · have hlt2 : i < ys.length := by omega
    refine .inr ⟨⟨xs, ys, xs[i], ys[i], q1, q2, List.getElem?_eq_getElem hlt, List.getElem?_eq_getElem hlt2⟩, Pv (i + 1), fun σ' H' p' => ⟨xs.length - (i + 1), by omega, rfl, hlt, p'⟩, fun v H' y => ?_⟩
    obtain ⟨T, x, y, rfl, hT, rfl, y1, y2⟩ := y
    exact hs i x y T σ H (y1 xs q1) (y2 ys q2) p hT
  · have e : i = xs.length := by omega
    subst e
    exact .inl ⟨⟨xs, ys, q1, q2, Nat.le_refl _, by omega, .inl rfl⟩, hd σ H p⟩
end ZM

set_option maxHeartbeats 4000000
namespace LP
open PySem PySem.Spec PyProof.Rows L2 G3 M0
/-! comprehensions over pairs, by place; comprehensions that pick -/
theorem walk_zipM {K : PySem.W.Frag} {a b : Addr} {xs ys : List V} (hl : xs.length = ys.length) : Walk (ZM.Itm K a b) xs.length (fun H => SqT K H a xs ∧ SqL K H b ys) (YPair (fun i => xs[i]?) (fun i => ys[i]?)) := by
  refine ⟨fun i _ hi q => ?_, fun _ q => ⟨xs, ys, q.1, q.2, Nat.le_refl _, by omega, .inl rfl⟩, fun i H v H' _ q y => ?_⟩
  · have h2 : i < ys.length := by omega
    exact ⟨xs, ys, xs[i], ys[i], q.1, q.2, by simp [hi], by simp [h2]⟩
  · obtain ⟨T, x, z, h1, h2, h3, h4, h5⟩ := y
    exact ⟨T, x, z, h1, h2, h3, h4 xs q.1, h5 ys q.2⟩
def picked (l : List (Bool × V)) : List V := (l.filter (·.1)).map (·.2)
theorem picked_snoc (l : List (Bool × V)) (b : Bool) (y : V) : picked (l ++ [(b, y)]) = picked l ++ (if b = true then [y] else []) := by
  unfold picked
  rw [List.filter_append, List.map_append]
  cases b <;> rfl
theorem picked_len (l : List (Bool × V)) : (picked l).length ≤ l.length := by
  unfold picked
  rw [List.length_map]
  exact List.length_filter_le _ _
section
variable {J : It} {G : Hp → Prop} {n : Nat} {f1 f2 : Nat → Option V} {xs : List V} {g : TG} {tt : TT} {te : TE} {vs : List Nat} {σ : L2.St} {H1 : Hp} {D : Addr} {Qd : Hp → Prop}
theorem lc_dpP {K : PySem.W.Frag} (w : Walk J n G (YPair f1 f2)) (hG : ∀ H, Same H1 H → G H) (len : n ≤ 100000) (nD : H1 D = none) (ds : List PyData) (hl : ds.length = n)
    (turn : ∀ (i : Nat) (x y : V) (T : Addr) (d : PyData) (H : Hp) (R : V → Hp → Prop), f1 i = some x → f2 i = some y → ds[i]? = some d → Same H1 H → H T = some (.tup [x, y]) → (∃ acc, H D = some (.lst acc)) → (∀ u H', Same H H' → Dp K (off D H') u d → R u H') → g (.ref T) (wipe σ vs) H fun σ2 H2 => wipe σ2 vs = wipe σ vs ∧ te σ2 H2 R)
    (fin : ∀ H' us, Same H1 H' → H' D = some (.lst us) → DpAll K H' us ds → Qd H') :
    ∃ W : Nat → Nat → Hp → Prop, (∃ m, W 0 m (upd H1 D (.lst []))) ∧ ∀ i m H, W i m H →
      (J.stop i H ∧ Qd H) ∨ (J.go i H ∧ ∃ Nx : Hp → Prop, (∀ H', Nx H' → ∃ m', m' < m ∧ W (i + 1) m' H') ∧ ∀ x H', J.yld i H x H' → g x (wipe σ vs) H' fun σ2 H2 => wipe σ2 vs = wipe σ vs ∧ tYes σ2 H2 fun b H3 =>
        if b = true then te σ2 H3 fun y H4 => ∃ acc, H4 D = some (.lst acc) ∧ acc.length < sizeLine ∧ Nx (upd H4 D (.lst (acc ++ [y]))) else Nx H3) := by
  refine lc_it w (fun i H => Same H1 H ∧ ∃ us, H D = some (.lst us) ∧ DpAll K (off D H) us (ds.take i)) ⟨same_new nD, [], upd_same, .nil⟩ (fun i H _ h => hG H h.1) (fun i v H H' hi h y => ?_) (fun H h => ?_)
  · obtain ⟨T, x, z, rfl, nT, rfl, e1, e2⟩ := y
    obtain ⟨s1, us, hD, hU⟩ := h
    have sT : Same H (upd H T (.tup [x, z])) := same_new nT
    have hi' : ds[i]? = some (ds[i]'(by omega)) := List.getElem?_eq_getElem (by omega)
    have ul : us.length = i := by
      rw [dpAll_len hU, List.length_take]
      omega
    have t := turn i x z T _ _ (fun y H4 => ∃ acc, H4 D = some (.lst acc) ∧ acc.length < sizeLine ∧ (Same H1 (upd H4 D (.lst (acc ++ [y]))) ∧ ∃ us, (upd H4 D (.lst (acc ++ [y]))) D = some (.lst us) ∧ DpAll K (off D (upd H4 D (.lst (acc ++ [y])))) us (ds.take (i + 1)))) e1 e2 hi' (s1.trans sT) upd_same ⟨us, sT _ _ hD⟩ (fun u H5 s hu => ?_)
    · dsimp only [tYes]
      simp only [if_true]
      exact t
    · have s2 := sT.trans s
      refine ⟨us, s2 _ _ hD, LC.small_line (by omega), same_put (s1.trans s2) nD, us ++ [u], upd_same, ?_⟩
      rw [off_upd, List.take_add_one, hi']
      exact dpAll_app (dpAll_same (off_mono s2) _ _ hU) (.cons hu .nil)
  · obtain ⟨s1, us, hD, hU⟩ := h
    rw [List.take_of_length_le (by omega)] at hU
    exact fin H us s1 hD (dpAll_same off_sub _ _ hU)
theorem lc_pick (w : Walk J xs.length G (YAt xs)) (hG : ∀ H, Same H1 H → G H) (len : xs.length ≤ 100000) (nD : H1 D = none) (ps : List (Bool × V)) (hl : ps.length = xs.length)
    (turn : ∀ (i : Nat) (x : V) (b : Bool) (y : V) (H : Hp) (R : L2.St → Bool → Hp → Prop), xs[i]? = some x → ps[i]? = some (b, y) → Same H1 H → (∀ σ2 H', Same H H' → (b = true → ∀ Q' : VK, (∀ H'', Same H' H'' → Q' y H'') → te σ2 H' Q') → R σ2 b H') →
      g x (wipe σ vs) H fun σ2 H2 => wipe σ2 vs = wipe σ vs ∧ tt σ2 H2 (R σ2))
    (fin : ∀ H', Same H1 H' → H' D = some (.lst (picked ps)) → Qd H') :
    ∃ W : Nat → Nat → Hp → Prop, (∃ m, W 0 m (upd H1 D (.lst []))) ∧ ∀ i m H, W i m H →
      (J.stop i H ∧ Qd H) ∨ (J.go i H ∧ ∃ Nx : Hp → Prop, (∀ H', Nx H' → ∃ m', m' < m ∧ W (i + 1) m' H') ∧ ∀ x H', J.yld i H x H' → g x (wipe σ vs) H' fun σ2 H2 => wipe σ2 vs = wipe σ vs ∧ tt σ2 H2 fun b H3 =>
        if b = true then te σ2 H3 fun y H4 => ∃ acc, H4 D = some (.lst acc) ∧ acc.length < sizeLine ∧ Nx (upd H4 D (.lst (acc ++ [y]))) else Nx H3) := by
  refine lc_it w (fun i H => Same H1 H ∧ H D = some (.lst (picked (ps.take i)))) ⟨same_new nD, upd_same⟩ (fun i H _ h => hG H h.1) (fun i x H H' hi h yy => ?_) (fun H h => fin H h.1 ?_)
  · obtain ⟨rfl, ex⟩ := yy
    obtain ⟨s1, hD⟩ := h
    have hp : ps[i]? = some ps[i] := List.getElem?_eq_getElem (by omega)
    have tk : ps.take (i + 1) = ps.take i ++ [(ps[i].1, ps[i].2)] := by rw [List.take_add_one, hp]; rfl
    refine turn i x ps[i].1 ps[i].2 H' (fun σ2 b H3 => if b = true then te σ2 H3 fun y H4 => ∃ acc, H4 D = some (.lst acc) ∧ acc.length < sizeLine ∧ (Same H1 (upd H4 D (.lst (acc ++ [y]))) ∧ (upd H4 D (.lst (acc ++ [y]))) D = some (.lst (picked (ps.take (i + 1)))))
      else Same H1 H3 ∧ H3 D = some (.lst (picked (ps.take (i + 1))))) ex hp s1 (fun σ2 H5 s t => ?_)
    refine ite2 (fun e1 => ?_) (fun e1 => ?_)
    · refine t e1 _ fun H6 s6 => ⟨_, s6 _ _ (s _ _ hD), ?_, same_put ((s1.trans s).trans s6) nD, ?_⟩
      · have z := picked_len (ps.take i)
        rw [List.length_take] at z
        exact LC.small_line (by omega)
      · rw [upd_same, tk, picked_snoc, if_pos e1]
    · refine ⟨s1.trans s, ?_⟩
      rw [tk, picked_snoc, if_neg e1, List.append_nil]
      exact s _ _ hD
  · have e : ps.take xs.length = ps := List.take_of_length_le (by omega)
    rw [e] at h
    exact h.2
end
end LP

set_option maxHeartbeats 4000000
namespace MM
open PySem PySem.Spec PyProof.Rows L2 G3 M0
/-! ### a dict of lists that grow -/
abbrev Tab := List (Int × Addr × List V)
def tabK (T : Tab) : List (L2.Key × V) := T.map fun t => ((Sum.inl t.1 : L2.Key), V.ref t.2.1)
def cellsT (d : Addr) (T : Tab) : List Addr := d :: T.map (·.2.1)
def ofKey (its : List (Int × PyData)) (s : Int) : List PyData := (its.filter fun x => decide (x.1 = s)).map (·.2)
structure AdjT (K : PySem.W.Frag) (B H : Hp) (d : Addr) (its : List (Int × PyData)) (T : Tab) : Prop where
  hd : H d = some (.dK (tabK T))
  nk : (T.map (·.1)).Nodup
  na : (cellsT d T).Nodup
  sm : Same B (offs (cellsT d T) H)
  at_ : ∀ t ∈ T, H t.2.1 = some (.lst t.2.2) ∧ DpAll K (offs (cellsT d T) H) t.2.2 (ofKey its t.1)
  al : ∀ x ∈ its, x.1 ∈ T.map (·.1)
theorem tabK_none {T : Tab} {s : Int} (h : valV (tabK T) (Sum.inl s) = none) : s ∉ T.map (·.1) := fun z => by
  obtain ⟨t, ht, e⟩ := List.mem_map.mp z
  unfold valV at h
  rw [Option.map_eq_none_iff, List.find?_eq_none] at h
  exact h (Sum.inl t.1, V.ref t.2.1) (List.mem_map.mpr ⟨t, ht, rfl⟩) (decide_eq_true (by rw [e]))
theorem tabK_some {T : Tab} {s : Int} {v : V} (h : valV (tabK T) (Sum.inl s) = some v) : ∃ t ∈ T, t.1 = s ∧ v = .ref t.2.1 := by
  unfold valV at h
  obtain ⟨x, hx, e⟩ := Option.map_eq_some_iff.mp h
  obtain ⟨t, ht, rfl⟩ := List.mem_map.mp (List.mem_of_find?_eq_some hx)
  have h2 := List.find?_some (p := fun kv : L2.Key × V => decide (kv.1 = Sum.inl s)) hx
  have h3 : (Sum.inl t.1 : L2.Key) = Sum.inl s := of_decide_eq_true h2
  exact ⟨t, ht, by injection h3, e.symm⟩
section
variable {K : PySem.W.Frag} {B H H' : Hp} {d q : Addr} {its : List (Int × PyData)} {T : Tab} {s : Int} {v : V} {dat : PyData}
theorem AdjT.same (h : AdjT K B H d its T) (e : Same H H') : AdjT K B H' d its T :=
  ⟨e _ _ h.hd, h.nk, h.na, h.sm.trans (offs_mono e), fun t ht => ⟨e _ _ (h.at_ t ht).1, dpAll_same (offs_mono e) _ _ (h.at_ t ht).2⟩, h.al⟩
theorem AdjT.cells (h : AdjT K B H d its T) : Cells (cellsT d T) H := fun m hm o e => by
  rcases List.mem_cons.mp hm with z | z
  · rw [z, h.hd] at e
    cases e
    exact notT_dK
  · obtain ⟨t, ht, rfl⟩ := List.mem_map.mp z
    rw [(h.at_ t ht).1] at e
    cases e
    exact notT_lst
/-- begun -/
theorem AdjT.nil (n : H d = none) : AdjT K H (upd H d (.dK [])) d [] [] :=
  ⟨upd_same, List.nodup_nil, by simp [cellsT], fun b o e => by
    have ne : b ≠ d := fun z => by rw [z, n] at e; cases e
    rw [offs_ne (by simpa [cellsT] using ne), upd_ne ne]
    exact e, fun t ht => (nomatch ht), fun x hx => nomatch hx⟩
/-- a key more -/
theorem AdjT.new (h : AdjT K B H d its T) (nq : H q = none) (ns : s ∉ T.map (·.1)) : AdjT K B (upd (upd H q (.lst [])) d (.dK (tabK T ++ [(Sum.inl s, .ref q)]))) d its (T ++ [(s, q, [])]) := by
  have qd : q ≠ d := fun z => by rw [z, h.hd] at nq; cases nq
  have qT : q ∉ T.map (·.2.1) := fun z => by
    obtain ⟨t, ht, e⟩ := List.mem_map.mp z
    rw [← e, (h.at_ t ht).1] at nq
    cases nq
  have ec : cellsT d (T ++ [(s, q, [])]) = cellsT d T ++ [q] := by unfold cellsT; rw [List.map_append]; rfl
  have eo : offs (cellsT d T ++ [q]) (upd (upd H q (.lst [])) d (.dK (tabK T ++ [(Sum.inl s, .ref q)]))) = offs (cellsT d T ++ [q]) H := by
    rw [offs_put (by simp [cellsT]), offs_put (by simp)]
  have so : Same (offs (cellsT d T) H) (offs (cellsT d T ++ [q]) H) := offs_more offs_sub fun m hm => by
    rcases List.mem_append.mp hm with z | z
    · exact .inl z
    · exact .inr (by rw [List.mem_singleton.mp z]; exact nq)
  refine ⟨?_, ?_, ?_, ?_, fun t ht => ?_, fun x hx => ?_⟩
  · rw [upd_same]
    unfold tabK
    rw [List.map_append]
    rfl
  · rw [List.map_append]
    refine List.nodup_append.mpr ⟨h.nk, by simp, fun a ha b hb e => ?_⟩
    rw [List.mem_singleton.mp hb] at e
    have e' : a = s := e
    rw [e'] at ha
    exact ns ha
  · rw [ec]
    refine List.nodup_append.mpr ⟨h.na, by simp, fun a ha b hb e => ?_⟩
    rw [List.mem_singleton.mp hb] at e
    subst e
    rcases List.mem_cons.mp ha with z | z
    · exact qd z
    · exact qT z
  · rw [ec, eo]
    exact h.sm.trans so
  · rw [ec, eo]
    rcases List.mem_append.mp ht with z | z
    · have n1 : t.2.1 ≠ d := fun y => by
        have := h.na
        rw [cellsT, List.nodup_cons] at this
        exact this.1 (y ▸ List.mem_map.mpr ⟨t, z, rfl⟩)
      have n2 : t.2.1 ≠ q := fun y => qT (y ▸ List.mem_map.mpr ⟨t, z, rfl⟩)
      exact ⟨by rw [upd_ne n1, upd_ne n2]; exact (h.at_ t z).1, dpAll_same so _ _ (h.at_ t z).2⟩
    · rw [List.mem_singleton.mp z]
      refine ⟨by show upd (upd H q _) d _ q = _; rw [upd_ne qd, upd_same], ?_⟩
      have : ofKey its s = [] := by
        unfold ofKey
        rw [List.map_eq_nil_iff, List.filter_eq_nil_iff]
        intro x hx e
        exact ns (of_decide_eq_true e ▸ h.al x hx)
      show DpAll K _ [] (ofKey its s)
      rw [this]
      exact .nil
  · rw [List.map_append]
    exact List.mem_append_left _ (h.al x hx)
/-- an item more to a list that is there -/
theorem AdjT.put (h : AdjT K B H d its T) {t : Int × Addr × List V} (ht : t ∈ T) (hv : Dp K (offs (cellsT d T) H) v dat) :
    AdjT K B (upd H t.2.1 (.lst (t.2.2 ++ [v]))) d (its ++ [(t.1, dat)]) (T.map fun x => if x.1 = t.1 then (x.1, x.2.1, x.2.2 ++ [v]) else x) := by
  have keep1 : ∀ x : Int × Addr × List V, (if x.1 = t.1 then (x.1, x.2.1, x.2.2 ++ [v]) else x).1 = x.1 := fun x => by split <;> rfl
  have keep2 : ∀ x : Int × Addr × List V, (if x.1 = t.1 then (x.1, x.2.1, x.2.2 ++ [v]) else x).2.1 = x.2.1 := fun x => by split <;> rfl
  have ek : tabK (T.map fun x => if x.1 = t.1 then (x.1, x.2.1, x.2.2 ++ [v]) else x) = tabK T := by
    unfold tabK
    rw [List.map_map]
    refine List.map_congr_left fun x _ => ?_
    show ((Sum.inl (if x.1 = t.1 then (x.1, x.2.1, x.2.2 ++ [v]) else x).1 : L2.Key), V.ref (if x.1 = t.1 then (x.1, x.2.1, x.2.2 ++ [v]) else x).2.1) = _
    rw [keep1, keep2]
  have e1 : (T.map fun x => if x.1 = t.1 then (x.1, x.2.1, x.2.2 ++ [v]) else x).map (·.1) = T.map (·.1) := by
    rw [List.map_map]
    exact List.map_congr_left fun x _ => keep1 x
  have e2 : cellsT d (T.map fun x => if x.1 = t.1 then (x.1, x.2.1, x.2.2 ++ [v]) else x) = cellsT d T := by
    unfold cellsT
    rw [List.map_map]
    exact congrArg _ (List.map_congr_left fun x _ => keep2 x)
  have inL : t.2.1 ∈ cellsT d T := List.mem_cons_of_mem _ (List.mem_map.mpr ⟨t, ht, rfl⟩)
  have ndd : d ≠ t.2.1 := fun y => by
    have := h.na
    rw [cellsT, List.nodup_cons] at this
    exact this.1 (y ▸ List.mem_map.mpr ⟨t, ht, rfl⟩)
  have same_key : ∀ x ∈ T, x.1 = t.1 → x = t := fun x hx e => by
    have key : ∀ (T : Tab), (T.map (·.1)).Nodup → x ∈ T → t ∈ T → x = t := fun T => by
      induction T with
      | nil => intro _ h; cases h
      | cons y T ih =>
        intro nd h1 h2
        rw [List.map_cons, List.nodup_cons] at nd
        rcases List.mem_cons.mp h1 with a | a
        · rcases List.mem_cons.mp h2 with b | b
          · exact a.trans b.symm
          · exact absurd (List.mem_map.mpr ⟨t, b, by rw [← e, a]⟩) nd.1
        · rcases List.mem_cons.mp h2 with b | b
          · exact absurd (List.mem_map.mpr ⟨x, a, by rw [e, b]⟩) nd.1
          · exact ih nd.2 a b
    exact key T h.nk hx ht
  have same_adr : ∀ x ∈ T, x.1 ≠ t.1 → x.2.1 ≠ t.2.1 := fun x hx ne e => by
    have key : ∀ (T : Tab), (T.map (·.2.1)).Nodup → x ∈ T → t ∈ T → x = t := fun T => by
      induction T with
      | nil => intro _ h; cases h
      | cons y T ih =>
        intro nd h1 h2
        rw [List.map_cons, List.nodup_cons] at nd
        rcases List.mem_cons.mp h1 with a | a
        · rcases List.mem_cons.mp h2 with b | b
          · exact a.trans b.symm
          · exact absurd (List.mem_map.mpr ⟨t, b, by rw [← e, a]⟩) nd.1
        · rcases List.mem_cons.mp h2 with b | b
          · exact absurd (List.mem_map.mpr ⟨x, a, by rw [e, b]⟩) nd.1
          · exact ih nd.2 a b
    have nd := h.na
    rw [cellsT, List.nodup_cons] at nd
    exact ne (by rw [key T nd.2 hx ht])
  have of_app : ∀ s, ofKey (its ++ [(t.1, dat)]) s = ofKey its s ++ (if t.1 = s then [dat] else []) := fun s => by
    unfold ofKey
    rw [List.filter_append, List.map_append]
    by_cases e : t.1 = s
    · rw [if_pos e, List.filter_cons_of_pos (by simpa using e)]
      rfl
    · rw [if_neg e, List.filter_cons_of_neg (by simpa using e)]
      rfl
  refine ⟨?_, by rw [e1]; exact h.nk, by rw [e2]; exact h.na, by rw [e2, offs_put inL]; exact h.sm, fun x hx => ?_, fun x hx => ?_⟩
  · rw [upd_ne ndd, ek]
    exact h.hd
  · rw [e2, offs_put inL]
    obtain ⟨y, hy, rfl⟩ := List.mem_map.mp hx
    by_cases e : y.1 = t.1
    · have := same_key y hy e
      subst this
      rw [if_pos rfl]
      refine ⟨upd_same, ?_⟩
      show DpAll K _ (y.2.2 ++ [v]) (ofKey (its ++ [(y.1, dat)]) y.1)
      rw [of_app, if_pos rfl]
      exact dpAll_app (h.at_ y hy).2 (.cons hv .nil)
    · rw [if_neg e]
      refine ⟨by rw [upd_ne (same_adr y hy e)]; exact (h.at_ y hy).1, ?_⟩
      rw [of_app, if_neg fun z => e z.symm, List.append_nil]
      exact (h.at_ y hy).2
  · rw [e1]
    rcases List.mem_append.mp hx with z | z
    · exact h.al x z
    · rw [List.mem_singleton.mp z]
      exact List.mem_map.mpr ⟨t, ht, rfl⟩
/-- what it tells of a key -/
theorem AdjT.get (h : AdjT K B H d its T) (s : Int) : (∃ L us, valV (tabK T) (Sum.inl s) = some (.ref L) ∧ H L = some (.lst us) ∧ DpAll K H us (ofKey its s)) ∨ (valV (tabK T) (Sum.inl s) = none ∧ ofKey its s = []) := by
  cases e : valV (tabK T) (Sum.inl s) with
  | none =>
    refine .inr ⟨rfl, ?_⟩
    have ns := tabK_none e
    unfold ofKey
    rw [List.map_eq_nil_iff, List.filter_eq_nil_iff]
    intro x hx z
    exact ns (of_decide_eq_true z ▸ h.al x hx)
  | some v =>
    obtain ⟨t, ht, rfl, rfl⟩ := tabK_some e
    exact .inl ⟨t.2.1, t.2.2, rfl, (h.at_ t ht).1, dpAll_same offs_sub _ _ (h.at_ t ht).2⟩
end
end MM

set_option maxHeartbeats 4000000
namespace XC
open PySem PySem.Spec PyProof.Rows L2
section
variable {X : Cx}
theorem sw_trueD {kx vx : Expr} {gs : List Comprehension} {scope : Scope} {pos py : Pos} {y : Str} {l : Nat} {env : Env} (h1 : (env.blockKind == ScopeKind.function) = true) (h2 : (env.kindOf y == some NameKind.local) = true) (h3 : (py.line == pos.line) = true)
    (h4 : (!scope.names.any fun x => match x with | (n, k) => n == y && (k == NameKind.local || k == NameKind.cell)) = true) : swapsWith (.DictComp kx vx gs scope pos) (some (.Name y py)) l env = pure true := by
  show pure (env.blockKind == ScopeKind.function && env.kindOf y == some NameKind.local && py.line == pos.line && !scope.names.any fun x => match x with | (n, k) => n == y && (k == NameKind.local || k == NameKind.cell)) = _
  rw [h1, h2, h3, h4]
  rfl
/-- x = {k: v for ..}, x a local -/
theorem ps_setDc {i : Nat} {y : Str} {py : Pos} {kx vx tg iter : Expr} {ifs : List Expr} {scope : Scope} {own : List (Str × Nat)} {pos spos : Pos} {wi : TI} {g : TG} {tt : TT} {tk tv : TE} (hc : X.calm = true) (hN : X.N.Nodup) (hy : X.N[i]? = some y) (hyl : X.env.scope.names.lookup y = some .local)
    (hsw : swapsWith (.DictComp kx vx [⟨tg, iter, ifs, 0⟩] scope pos) (some (.Name y py)) spos.line X.env = pure true) (hi : PI X tg iter wi) (ok : BlkOk X.N X.env.scope scope own)
    (hg : ∀ (s : Shared) (H : Hp) (C : Addr) (cl : List (Str × Addr)) (fp : List Addr), PG (X.blk s H scope (compEnvC scope cl C X.env) fp) tg g) (ht : ∀ (s : Shared) (H : Hp) (C : Addr) (cl : List (Str × Addr)) (fp : List Addr), PTs (X.blk s H scope (compEnvC scope cl C X.env) fp) ifs tt)
    (hk : ∀ (s : Shared) (H : Hp) (C : Addr) (cl : List (Str × Addr)) (fp : List Addr), PE (X.blk s H scope (compEnvC scope cl C X.env) fp) kx tk) (hv : ∀ (s : Shared) (H : Hp) (C : Addr) (cl : List (Str × Addr)) (fp : List Addr), PE (X.blk s H scope (compEnvC scope cl C X.env) fp) vx tv)
    (hs : ∀ x, foldedSetIterable iter X.env x = pure x := by intro _; rfl) : PS X (.Assign [.Name y py] (.DictComp kx vx [⟨tg, iter, ifs, 0⟩] scope pos) spos) (tAsg (tDc wi g tt tk tv (own.map (·.2))) (gName i)) := by
  refine ⟨fun pins s σ H D I h => ?_⟩
  rw [exec_Assign_Name_used y py (.DictComp kx vx [⟨tg, iter, ifs, 0⟩] scope pos) spos hsw]
  refine wpAny_bind (wpAny_standAt (wpAny_bind ?_))
  have h' : tDc wi g tt tk tv (own.map (·.2)) σ H (fun x H1 => gName i x σ H1 D.nx) := h
  refine wpAny_bind (thn (dc_core hc hN I hi ok hg ht hk hv hs h' fun L C s' m H' I' q hn f => ?_) fun x s' hq => wpAny_pure (wpAny_pure hq))
  refine wpAny_assign_Name (store_ok2 (v := .ref L) I' hN hy (.inl hyl) rfl (fun s2 I2 ⟨a, sb, ha⟩ => ?_) (.inr hyl))
  obtain ⟨f0, f1, f2, f3, f4, f5⟩ := f
  have haC : C ≠ a := by
    rcases ha with z | z
    · rw [z]; exact f1
    · exact fun e => f4 y a z e.symm
  exact ⟨m, hn.sameBut sb haC, fun h3 sb3 => ⟨σ.set i (some (.ref L)), H', I2.turned (fun b o hb e => (sb3.2 b hb).trans e) f0 f1 f3 f4 f5, q⟩⟩
end
end XC

set_option maxHeartbeats 4000000
namespace MM
open PySem PySem.Spec PyProof.Rows L2 G3 M0 LP
theorem lz1 : 1 ≤ sizeLine := by decide
theorem lz2 : 2 ≤ sizeLine := by decide
theorem lz3 : 3 ≤ sizeLine := by decide
/-- an inner loop that puts to the list at D -/
theorem inner_over {J : It} {G : Hp → Prop} {us : List V} {g1 : TG} {tt1 : TT} {te : TE} {vs1 : List Nat} {σ : L2.St} {X H : Hp} {D : Addr} {acc : List V} {Dn : Hp → Prop} (w : Walk J us.length G (YAt us)) (hG : ∀ H, Same X H → G H) (sX : Same X H) (hX : X D = none) (hD : H D = some (.lst acc)) (ps : List (Bool × V)) (hl : ps.length = us.length) (len : acc.length + us.length ≤ 100000)
    (turn : ∀ (j : Nat) (x : V) (b : Bool) (y : V) (H : Hp) (R : L2.St → Bool → Hp → Prop), us[j]? = some x → ps[j]? = some (b, y) → Same X H → (∀ σ2 H', Same H H' → (b = true → ∀ Q' : VK, (∀ H'', Same H' H'' → Q' y H'') → te σ2 H' Q') → R σ2 b H') → g1 x (wipe σ vs1) H fun σ2 H2 => wipe σ2 vs1 = wipe σ vs1 ∧ tt1 σ2 H2 (R σ2))
    (fin : ∀ H', Same X H' → H' D = some (.lst (acc ++ picked ps)) → Dn H') : L3.tOver g1 tt1 (L3.tEmit D te) vs1 J σ H Dn := by
  refine L3.over_it w (fun j H => Same X H ∧ H D = some (.lst (acc ++ picked (ps.take j)))) ⟨sX, by rw [List.take_zero]; simpa [picked] using hD⟩ (fun i H _ h => hG H h.1) (fun j x H H' hj h yy => ?_) (fun H h => fin H h.1 ?_)
  · obtain ⟨rfl, ex⟩ := yy
    obtain ⟨s1, hD'⟩ := h
    have hp : ps[j]? = some ps[j] := List.getElem?_eq_getElem (by omega)
    have tk : ps.take (j + 1) = ps.take j ++ [(ps[j].1, ps[j].2)] := by rw [List.take_add_one, hp]; rfl
    refine turn j x ps[j].1 ps[j].2 H' (fun σ2 b H3 => if b = true then L3.tEmit D te σ2 H3 (fun H => Same X H ∧ H D = some (.lst (acc ++ picked (ps.take (j + 1))))) else Same X H3 ∧ H3 D = some (.lst (acc ++ picked (ps.take (j + 1))))) ex hp s1 (fun σ2 H5 s t => ?_)
    refine ite2 (fun e1 => ?_) (fun e1 => ?_)
    · refine t e1 _ fun H6 s6 => ⟨_, s6 _ _ (s _ _ hD'), ?_, same_put ((s1.trans s).trans s6) hX, ?_⟩
      · have z := picked_len (ps.take j)
        rw [List.length_take] at z
        rw [List.length_append]
        exact LC.small_line (by omega)
      · rw [upd_same, tk, picked_snoc, if_pos e1, List.append_assoc]
    · refine ⟨s1.trans s, ?_⟩
      rw [tk, picked_snoc, if_neg e1, List.append_nil]
      exact s _ _ hD'
  · have e : ps.take us.length = ps := List.take_of_length_le (by omega)
    rw [e] at h
    exact h.2
/-- an outer loop, each turn of which puts its items to the list at D -/
theorem outer_over {J : It} {n : Nat} {G : Hp → Prop} {Y : Nat → Hp → V → Hp → Prop} {g : TG} {tt : TT} {tb : L3.Tc} {vs : List Nat} {σ : L2.St} {X : Hp} {D : Addr} {Dn : Hp → Prop} (w : Walk J n G Y) (hG : ∀ H, Same X H → G H) (hX : X D = none) (item : Nat → List V)
    (turn : ∀ (i : Nat) (x : V) (H H' : Hp) (acc : List V) (R : Hp → Prop), i < n → Same X H → H D = some (.lst acc) → acc.length = ((List.range i).flatMap item).length → Y i H x H' → (∀ H'', Same X H'' → H'' D = some (.lst (acc ++ item i)) → R H'') → g x (wipe σ vs) H' fun σ2 H2 => wipe σ2 vs = wipe σ vs ∧ tt σ2 H2 fun b H3 => if b = true then tb σ2 H3 R else R H3)
    (fin : ∀ H', Same X H' → H' D = some (.lst ((List.range n).flatMap item)) → Dn H') : L3.tOver g tt tb vs J σ (upd X D (.lst [])) Dn := by
  refine L3.over_it w (fun i H => Same X H ∧ H D = some (.lst ((List.range i).flatMap item))) ⟨same_new hX, upd_same⟩ (fun i H _ h => hG H h.1) (fun i x H H' hi h y => ?_) (fun H h => fin H h.1 h.2)
  refine turn i x H H' _ _ hi h.1 h.2 rfl y fun H'' s hd => ⟨s, ?_⟩
  rw [List.range_succ, List.flatMap_append]
  simpa using hd
/-! ### states_of, edges_ahead, edges_behind -/
def statesM (w : Web) (c : Ct) : List Int := (w.1.filter fun b => decide (b.1 = c)).map (·.2)
def aheadI (w : Web) : List (Int × PyData) := w.2.1.map fun e => (e.1, .tuple [pnD e.2.1, .int e.2.2])
def behindI (w : Web) : List (Int × PyData) := w.2.1.map fun e => (e.2.2, .int e.1)
abbrev nStOf : List Str := ["machine", "control", "known", "state"]
theorem scStOf : FnScope nStOf ["machine", "control"] (defScope s_states_of) := ⟨rfl, rfl, rfl, by decide +kernel, rfl, by decide +kernel, by decide +kernel⟩
abbrev nAh : List Str := ["machine", "ahead", "state", "point", "other"]
theorem scAh : FnScope nAh ["machine"] (defScope s_edges_ahead) := ⟨rfl, rfl, rfl, by decide +kernel, rfl, by decide +kernel, by decide +kernel⟩
abbrev nBh : List Str := ["machine", "behind", "state", "point", "other"]
theorem scBh : FnScope nBh ["machine"] (defScope s_edges_behind) := ⟨rfl, rfl, rfl, by decide +kernel, rfl, by decide +kernel, by decide +kernel⟩
section
variable {P : Program} {w : World} {K : PySem.W.Frag} {mg : Str → Option Value} {base : Heap}
def spStOf (K : PySem.W.Frag) : Sp := fun vs H Q _ => ∃ (m c : V) (wb : Web) (k : Ct), vs = [m, c] ∧ Dp K H m (webD wb) ∧ WebOk wb ∧ Dp K H c (ctD k) ∧ ∀ H' L, Same H H' → H L = none → H' L = some (.lst ((statesM wb k).map V.int)) → Q (.ref L) H'
set_option maxHeartbeats 16000000 in
theorem ok_stof {f : Addr} {fd : FuncData} {k : Nat} (F : Fun K "states_of" "states_of" s_states_of f fd) : FnOk P w K mg base CX0 (k + 1) f fd ["machine", "control"] (spStOf K) := by
  refine F.ok scStOf (fun vs H Q E h => ?_) (fun cdv A outer s H vs Q E hr h => ?_)
  · obtain ⟨m, c, wb, k, rfl, _⟩ := h
    rfl
  obtain ⟨m, c, wb, k, rfl, hm, ok, hc, q⟩ := h
  have nd := scStOf.nd
  refine ⟨_, (pss_one (ps_ret (pe_lc (own := [("known", 2), ("state", 3)]) (g := (gTup K 2 (gCons (gName 2) (gCons (gName 3) gNil)))) (by rfl) nd (pi_tup (pe_ix ix_tup (pv 0) pe_int (fun _ _ => rfl))) (blkOk_by (N := nStOf) (sc := defScope s_states_of) (by decide +kernel)) (fun _ _ _ _ _ => (pg_tup rfl (pgs_cons (pg_name (i := 2) nd rfl (.inl rfl)) (pgs_cons (pg_name (i := 3) nd rfl (.inl rfl)) pgs_nil)))) (fun _ _ _ _ _ => (pts_one  (pt_cmpR (r := rEqD K) (op_eqD hr.units) (pv 2) (pv 1) (nomark _)))) (fun _ _ _ _ _ => (pv 3))))), ?_⟩
  obtain ⟨a, ba, ca, da, bs, es, rfl, h0, h1, h2, _, _, _⟩ := web_of hm
  have bl : bs.length = wb.1.length := by rw [dpAll_len h2, List.length_map]
  have n := ok.b
  refine ⟨_, rfl, a, _, 0, .ref ba, rfl, rfl, h0, atI_nat (j := 0) rfl, ba, rfl, ⟨_, h1⟩, fun D nD => ?_⟩
  refine lc_pick (walk_tup (a := ba) (xs := bs) (K := K)) (fun G s' => same_tup s' h1) (by omega) nD (wb.1.map fun b => (decide (b.1 = k), V.int b.2)) (by rw [List.length_map, bl]) (fun i x b y G R hx hp s1 go => ?_) (fun H' s1 hD => q H' D s1 nD (by rw [hD]; unfold picked statesM; rw [List.filter_map, List.map_map, List.map_map]; rfl))
  obtain ⟨d, hd, hxd⟩ := dpAll_get h2 hx
  rw [List.getElem?_map] at hd hp
  obtain ⟨b0, hb0, rfl⟩ := Option.map_eq_some_iff.mp hd
  rw [hb0] at hp
  cases hp
  obtain ⟨t, u0, u1, rfl, ht, e0, e1⟩ := dp2 hxd
  cases dp_int e1
  refine ⟨t, _, rfl, same_tup s1 ht, rfl, _, _, rfl, _, _, rfl, rfl, rfl, ?_⟩
  refine ⟨_, rfl, _, rfl, _, _, dp_same s1 _ _ e0, dp_same s1 _ _ hc, ct_shaped, ct_shaped, _, rfl, ?_⟩
  rw [ct_eqv]
  exact go _ _ (Same.refl _) fun _ Q' hQ => ⟨_, rfl, hQ _ (Same.refl _)⟩
def spAdj (K : PySem.W.Frag) (its : Web → List (Int × PyData)) : Sp := fun vs H Q _ => ∃ (m : V) (wb : Web), vs = [m] ∧ Dp K H m (webD wb) ∧ WebOk wb ∧ ∀ H' d T, Same H H' → AdjT K H H' d (its wb) T → Q (.ref d) H'
theorem tabK_app (T : Tab) (s : Int) (q : Addr) (us : List V) : tabK (T ++ [(s, q, us)]) = tabK T ++ [(Sum.inl s, .ref q)] := by unfold tabK; rw [List.map_append]; rfl
theorem putK_new {T : Tab} {s : Int} {q : Addr} (h : valV (tabK T) (Sum.inl s) = none) : putK (tabK T) (Sum.inl s) (.ref q) = tabK T ++ [(Sum.inl s, .ref q)] := by
  unfold putK
  rw [if_neg]
  intro z
  obtain ⟨x, hx, e⟩ := List.any_eq_true.mp z
  obtain ⟨t, ht, rfl⟩ := List.mem_map.mp hx
  have e' : (Sum.inl t.1 : L2.Key) = Sum.inl s := of_decide_eq_true e
  exact tabK_none h (List.mem_map.mpr ⟨t, ht, by injection e'⟩)
theorem adj_base {B H : Hp} {d : Addr} {its : List (Int × PyData)} {T : Tab} (h : AdjT K B H d its T) : Same B H := h.sm.trans offs_sub
theorem tab_len {B H : Hp} {d : Addr} {its : List (Int × PyData)} {T : Tab} {U : List Int} (h : AdjT K B H d its T) (hU : ∀ s ∈ T.map (·.1), s ∈ U) : (tabK T).length ≤ U.length := by
  have := S2.nd_len h.nk hU
  unfold tabK
  rw [List.length_map] at this ⊢
  exact this
end
end MM

set_option maxHeartbeats 4000000
namespace MM
open PySem PySem.Spec PyProof.Rows L2 G3 M0 LP
section
variable {P : Program} {w : World} {K : PySem.W.Frag} {mg : Str → Option Value} {base : Heap}
theorem tab_keys_put {T : Tab} {t : Int × Addr × List V} {v : V} : (T.map fun x => if x.1 = t.1 then (x.1, x.2.1, x.2.2 ++ [v]) else x).map (·.1) = T.map (·.1) := by
  rw [List.map_map]
  refine List.map_congr_left fun x _ => ?_
  show (if x.1 = t.1 then (x.1, x.2.1, x.2.2 ++ [v]) else x).1 = x.1
  split <;> rfl
theorem keys_small {its : List (Int × PyData)} {U : List Int} {T : Tab} {H B : Hp} {d : Addr} (h : AdjT K B H d its T) (hU : ∀ s ∈ T.map (·.1), s ∈ U) (u : U.length ≤ 100000) : (tabK T).length < sizeLine := LC.small_line (by have := tab_len h hU; omega)
set_option maxHeartbeats 16000000 in
theorem ok_ahead {f : Addr} {fd : FuncData} {k : Nat} (F : Fun K "edges_ahead" "edges_ahead" s_edges_ahead f fd) : FnOk P w K mg base CX0 (k + 1) f fd ["machine"] (spAdj K aheadI) := by
  refine F.ok scAh (fun vs H Q E h => ?_) (fun cdv A outer s H vs Q E hr h => ?_)
  · obtain ⟨m, wb, rfl, _⟩ := h
    rfl
  obtain ⟨m, wb, rfl, hm, ok, q⟩ := h
  have nd := scAh.nd
  refine ⟨_, (pss_cons (ps_set (i := 1) nd rfl (.inl rfl) pe_dnewK)
    (pss_cons (ps_for PassesOwn.never rfl (pi_tup (pe_ix ix_tup (pv 0) pe_int (fun _ _ => rfl))) (pg_tup rfl (pgs_cons (pg_name (i := 2) nd rfl (.inl rfl)) (pgs_cons (pg_name (i := 3) nd rfl (.inl rfl)) (pgs_cons (pg_name (i := 4) nd rfl (.inl rfl)) pgs_nil))))
      (pss_one (ps_expr (pe_bm PySem.F.plainAttrs_list PySem.F.slot_list_append PySem.F.type_list_append mt_append (pe_dsetd (pv 1) (pv 2) (pe_lst pa_nil) ⟨rfl, rfl, rfl, rfl⟩) (pa_cons (pe_tup (pa_cons (pv 3) (pa_cons (pv 4) pa_nil))) pa_nil)))))
    (pss_one (ps_ret (pv 1))))), ?_⟩
  obtain ⟨a, ba, ca, da, bs, es, rfl, h0, _, _, h3, h4, _⟩ := web_of hm
  have el : es.length = wb.2.1.length := by rw [dpAll_len h4, List.length_map]
  have n := ok.e
  refine fun d nd' => ?_
  have A0 : AdjT K H (upd H d (.dK [])) d [] [] := AdjT.nil nd'
  generalize upd H d (.dK []) = H1 at A0 ⊢
  have s1 := adj_base A0
  refine ⟨_, rfl, a, _, 1, .ref ca, rfl, rfl, same_tup s1 h0, atI_nat (j := 1) rfl, ca, rfl, ⟨_, same_tup s1 h3⟩, for_tup (xs := es) (fun i σ G => ∃ y2 y3 y4 T, σ = [some (.ref a), some (.ref d), y2, y3, y4] ∧ AdjT K H G d ((aheadI wb).take i) T ∧ ∀ s ∈ T.map (·.1), s ∈ wb.2.1.map (·.1)) ⟨_, _, _, _, rfl, A0, fun s z => nomatch z⟩ (fun i σ G _ hP => ?_) (fun i x σ G hx hP => ?_) (fun σ G hP => ?_)⟩
  · obtain ⟨_, _, _, T, _, A1, _⟩ := hP
    exact same_tup (adj_base A1) h3
  · obtain ⟨y2, y3, y4, T, rfl, A1, ks⟩ := hP
    obtain ⟨dd, hdd, hxd⟩ := dpAll_get h4 hx
    rw [List.getElem?_map] at hdd
    obtain ⟨e, he, rfl⟩ := Option.map_eq_some_iff.mp hdd
    obtain ⟨t, u0, u1, u2, rfl, ht, e0, e1, e2⟩ := dp3 (show Dp K H x (.tuple [.int e.1, pnD e.2.1, .int e.2.2]) from hxd)
    cases dp_int e0
    cases dp_int e2
    have sG := adj_base A1
    have tk : (aheadI wb).take (i + 1) = (aheadI wb).take i ++ [(e.1, .tuple [pnD e.2.1, .int e.2.2])] := by
      rw [List.take_add_one]
      unfold aheadI
      rw [List.getElem?_map, he]
      rfl
    have fin : ∀ (G2 : Hp) (T2 : Tab) (t2 : Int × Addr × List V), AdjT K H G2 d ((aheadI wb).take i) T2 → t2 ∈ T2 → t2.1 = e.1 → (∀ s ∈ T2.map (·.1), s ∈ wb.2.1.map (·.1)) → Same H G2 →
        (∀ tt : Addr, G2 tt = none → ∃ (p : Addr) (xs : List V) (v : V), V.ref t2.2.1 = .ref p ∧ [V.ref tt] = [v] ∧ upd G2 tt (.tup [u1, .int e.2.2]) p = some (.lst xs) ∧ xs.length < sizeLine ∧ ∃ y2 y3 y4 T, [some (V.ref a), some (V.ref d), some (V.int e.1), some u1, some (V.int e.2.2)] = [some (V.ref a), some (V.ref d), y2, y3, y4] ∧ AdjT K H (upd (upd G2 tt (.tup [u1, .int e.2.2])) p (.lst (xs ++ [v]))) d ((aheadI wb).take (i + 1)) T ∧ ∀ s ∈ T.map (·.1), s ∈ wb.2.1.map (·.1)) := fun G2 T2 t2 A2 ht2 ek ks2 s2 tt nt => by
      have sT : Same G2 (upd G2 tt (.tup [u1, .int e.2.2])) := same_new nt
      have A3 := A2.same sT
      have ne : tt ∉ cellsT d T2 := fun z => by
        rcases List.mem_cons.mp z with y | y
        · rw [y, A2.hd] at nt; cases nt
        · obtain ⟨x, hx, ex⟩ := List.mem_map.mp y
          rw [← ex, (A2.at_ x hx).1] at nt
          cases nt
      have hv : Dp K (offs (cellsT d T2) (upd G2 tt (.tup [u1, .int e.2.2]))) (.ref tt) (.tuple [pnD e.2.1, .int e.2.2]) :=
        .tup (SqT.of (by rw [offs_ne ne]; exact upd_same)) (.cons (dp_same (A2.sm.trans (offs_mono sT)) _ _ e1) (.cons (.int _) .nil))
      have A4 := A3.put ht2 hv
      have L1 := (A3.at_ t2 ht2).1
      refine ⟨t2.2.1, t2.2.2, .ref tt, rfl, rfl, L1, ?_, _, _, _, _, rfl, by rw [tk, ← ek]; exact A4, fun s hs => ks2 s (by rw [tab_keys_put] at hs; exact hs)⟩
      have := dpAll_len (A3.at_ t2 ht2).2
      rw [this]
      refine LC.small_line ?_
      unfold ofKey
      rw [List.length_map]
      have l1 := List.length_filter_le (fun x => decide (x.1 = t2.1)) ((aheadI wb).take i)
      have l2 : ((aheadI wb).take i).length ≤ (aheadI wb).length := by rw [List.length_take]; omega
      have l3 : (aheadI wb).length = wb.2.1.length := by unfold aheadI; rw [List.length_map]
      omega
    refine ⟨t, _, rfl, same_tup sG ht, rfl, _, _, rfl, _, _, rfl, _, _, rfl, rfl, ?_⟩
    refine ⟨_, rfl, d, rfl, .inl ⟨_, .inl A1.hd⟩, _, rfl, Nat.zero_le _, fun ql nq => ?_⟩
    have sq : Same G (upd G ql (.lst [])) := same_new nq
    refine ⟨tabK T, Sum.inl e.1, sq _ _ A1.hd, rfl, keys_small A1 ks (by rw [List.length_map]; omega), fun v hv => ?_, fun hn => ?_⟩
    · obtain ⟨t2, ht2, ek, rfl⟩ := tabK_some hv
      refine ⟨.inl ⟨rfl, _, SqL.of (sq _ _ (A1.at_ t2 ht2).1)⟩, _, rfl, _, rfl, lz2, fun tt nt => ?_⟩
      exact fin _ T t2 (A1.same sq) ht2 ek ks (sG.trans sq) tt nt
    · have A2 : AdjT K H (upd (upd G ql (.lst [])) d (.dK (tabK T ++ [(Sum.inl e.1, .ref ql)]))) d ((aheadI wb).take i) (T ++ [(e.1, ql, [])]) := A1.new nq (tabK_none hn)
      rw [← putK_new hn] at A2
      refine ⟨.inl ⟨rfl, _, SqL.of (A2.at_ (e.1, ql, []) (List.mem_append_right _ (List.mem_singleton.mpr rfl))).1⟩, _, rfl, _, rfl, lz2, fun tt nt => ?_⟩
      refine fin _ _ (e.1, ql, []) A2 (List.mem_append_right _ (List.mem_singleton.mpr rfl)) rfl (fun s hs => ?_) (adj_base A2) tt nt
      rw [List.map_append] at hs
      rcases List.mem_append.mp hs with z | z
      · exact ks s z
      · rw [List.mem_singleton.mp z]
        exact List.mem_map.mpr ⟨e, List.mem_of_getElem? he, rfl⟩
  · obtain ⟨y2, y3, y4, T, rfl, A1, ks⟩ := hP
    have e : (aheadI wb).take es.length = aheadI wb := List.take_of_length_le (by unfold aheadI; rw [List.length_map]; omega)
    rw [e] at A1
    exact ⟨_, rfl, q _ d T (adj_base A1) A1⟩
set_option maxHeartbeats 16000000 in
theorem ok_behind {f : Addr} {fd : FuncData} {k : Nat} (F : Fun K "edges_behind" "edges_behind" s_edges_behind f fd) : FnOk P w K mg base CX0 (k + 1) f fd ["machine"] (spAdj K behindI) := by
  refine F.ok scBh (fun vs H Q E h => ?_) (fun cdv A outer s H vs Q E hr h => ?_)
  · obtain ⟨m, wb, rfl, _⟩ := h
    rfl
  obtain ⟨m, wb, rfl, hm, ok, q⟩ := h
  have nd := scBh.nd
  refine ⟨_, (pss_cons (ps_set (i := 1) nd rfl (.inl rfl) pe_dnewK)
    (pss_cons (ps_for PassesOwn.never rfl (pi_tup (pe_ix ix_tup (pv 0) pe_int (fun _ _ => rfl))) (pg_tup rfl (pgs_cons (pg_name (i := 2) nd rfl (.inl rfl)) (pgs_cons (pg_name (i := 3) nd rfl (.inl rfl)) (pgs_cons (pg_name (i := 4) nd rfl (.inl rfl)) pgs_nil))))
      (pss_one (ps_expr (pe_bm PySem.F.plainAttrs_list PySem.F.slot_list_append PySem.F.type_list_append mt_append (pe_dsetd (pv 1) (pv 4) (pe_lst pa_nil) ⟨rfl, rfl, rfl, rfl⟩) (pa_cons (pv 2) pa_nil)))))
    (pss_one (ps_ret (pv 1))))), ?_⟩
  obtain ⟨a, ba, ca, da, bs, es, rfl, h0, _, _, h3, h4, _⟩ := web_of hm
  have el : es.length = wb.2.1.length := by rw [dpAll_len h4, List.length_map]
  have n := ok.e
  refine fun d nd' => ?_
  have A0 : AdjT K H (upd H d (.dK [])) d [] [] := AdjT.nil nd'
  generalize upd H d (.dK []) = H1 at A0 ⊢
  have s1 := adj_base A0
  refine ⟨_, rfl, a, _, 1, .ref ca, rfl, rfl, same_tup s1 h0, atI_nat (j := 1) rfl, ca, rfl, ⟨_, same_tup s1 h3⟩, for_tup (xs := es) (fun i σ G => ∃ y2 y3 y4 T, σ = [some (.ref a), some (.ref d), y2, y3, y4] ∧ AdjT K H G d ((behindI wb).take i) T ∧ ∀ s ∈ T.map (·.1), s ∈ wb.2.1.map (·.2.2)) ⟨_, _, _, _, rfl, A0, fun s z => nomatch z⟩ (fun i σ G _ hP => ?_) (fun i x σ G hx hP => ?_) (fun σ G hP => ?_)⟩
  · obtain ⟨_, _, _, T, _, A1, _⟩ := hP
    exact same_tup (adj_base A1) h3
  · obtain ⟨y2, y3, y4, T, rfl, A1, ks⟩ := hP
    obtain ⟨dd, hdd, hxd⟩ := dpAll_get h4 hx
    rw [List.getElem?_map] at hdd
    obtain ⟨e, he, rfl⟩ := Option.map_eq_some_iff.mp hdd
    obtain ⟨t, u0, u1, u2, rfl, ht, e0, e1, e2⟩ := dp3 (show Dp K H x (.tuple [.int e.1, pnD e.2.1, .int e.2.2]) from hxd)
    cases dp_int e0
    cases dp_int e2
    have sG := adj_base A1
    have tk : (behindI wb).take (i + 1) = (behindI wb).take i ++ [(e.2.2, .int e.1)] := by
      rw [List.take_add_one]
      unfold behindI
      rw [List.getElem?_map, he]
      rfl
    have fin : ∀ (G2 : Hp) (T2 : Tab) (t2 : Int × Addr × List V), AdjT K H G2 d ((behindI wb).take i) T2 → t2 ∈ T2 → t2.1 = e.2.2 → (∀ s ∈ T2.map (·.1), s ∈ wb.2.1.map (·.2.2)) →
        ∃ (p : Addr) (xs : List V) (v : V), V.ref t2.2.1 = .ref p ∧ [V.int e.1] = [v] ∧ G2 p = some (.lst xs) ∧ xs.length < sizeLine ∧ ∃ y2 y3 y4 T, [some (V.ref a), some (V.ref d), some (V.int e.1), some u1, some (V.int e.2.2)] = [some (V.ref a), some (V.ref d), y2, y3, y4] ∧ AdjT K H (upd G2 p (.lst (xs ++ [v]))) d ((behindI wb).take (i + 1)) T ∧ ∀ s ∈ T.map (·.1), s ∈ wb.2.1.map (·.2.2) := fun G2 T2 t2 A2 ht2 ek ks2 => by
      have A4 := A2.put ht2 (dat := .int e.1) (.int e.1)
      have L1 := (A2.at_ t2 ht2).1
      refine ⟨t2.2.1, t2.2.2, .int e.1, rfl, rfl, L1, ?_, _, _, _, _, rfl, by rw [tk, ← ek]; exact A4, fun s hs => ks2 s (by rw [tab_keys_put] at hs; exact hs)⟩
      have := dpAll_len (A2.at_ t2 ht2).2
      rw [this]
      refine LC.small_line ?_
      unfold ofKey
      rw [List.length_map]
      have l1 := List.length_filter_le (fun x => decide (x.1 = t2.1)) ((behindI wb).take i)
      have l2 : ((behindI wb).take i).length ≤ (behindI wb).length := by rw [List.length_take]; omega
      have l3 : (behindI wb).length = wb.2.1.length := by unfold behindI; rw [List.length_map]
      omega
    refine ⟨t, _, rfl, same_tup sG ht, rfl, _, _, rfl, _, _, rfl, _, _, rfl, rfl, ?_⟩
    refine ⟨_, rfl, d, rfl, .inl ⟨_, .inl A1.hd⟩, _, rfl, Nat.zero_le _, fun ql nq => ?_⟩
    have sq : Same G (upd G ql (.lst [])) := same_new nq
    refine ⟨tabK T, Sum.inl e.2.2, sq _ _ A1.hd, rfl, keys_small A1 ks (by rw [List.length_map]; omega), fun v hv => ?_, fun hn => ?_⟩
    · obtain ⟨t2, ht2, ek, rfl⟩ := tabK_some hv
      exact ⟨.inl ⟨rfl, _, SqL.of (sq _ _ (A1.at_ t2 ht2).1)⟩, _, rfl, fin _ T t2 (A1.same sq) ht2 ek ks⟩
    · have A2 : AdjT K H (upd (upd G ql (.lst [])) d (.dK (tabK T ++ [(Sum.inl e.2.2, .ref ql)]))) d ((behindI wb).take i) (T ++ [(e.2.2, ql, [])]) := A1.new nq (tabK_none hn)
      rw [← putK_new hn] at A2
      refine ⟨.inl ⟨rfl, _, SqL.of (A2.at_ (e.2.2, ql, []) (List.mem_append_right _ (List.mem_singleton.mpr rfl))).1⟩, _, rfl, ?_⟩
      refine fin _ _ (e.2.2, ql, []) A2 (List.mem_append_right _ (List.mem_singleton.mpr rfl)) rfl (fun s hs => ?_)
      rw [List.map_append] at hs
      rcases List.mem_append.mp hs with z | z
      · exact ks s z
      · rw [List.mem_singleton.mp z]
        exact List.mem_map.mpr ⟨e, List.mem_of_getElem? he, rfl⟩
  · obtain ⟨y2, y3, y4, T, rfl, A1, ks⟩ := hP
    have e : (behindI wb).take es.length = behindI wb := List.take_of_length_le (by unfold behindI; rw [List.length_map]; omega)
    rw [e] at A1
    exact ⟨_, rfl, q _ d T (adj_base A1) A1⟩
end
end MM

set_option maxHeartbeats 4000000
namespace MM
open PySem PySem.Spec PyProof.Rows L2 G3 M0 LP
/-! ### dicts of numbers, all with one value -/
def sameK (v : V) (ks : List Int) : List (L2.Key × V) := ks.map fun s => ((Sum.inl s : L2.Key), v)
def addK (ks : List Int) (s : Int) : List Int := if s ∈ ks then ks else ks ++ [s]
theorem sameK_put (v : V) (ks : List Int) (s : Int) : putK (sameK v ks) (Sum.inl s) v = sameK v (addK ks s) := by
  unfold putK addK
  by_cases h : s ∈ ks
  · rw [if_pos h, if_pos]
    · unfold sameK
      rw [List.map_map]
      refine List.map_congr_left fun x _ => ?_
      show (if (Sum.inl x : L2.Key) = Sum.inl s then ((Sum.inl x : L2.Key), v) else (Sum.inl x, v)) = _
      split <;> rfl
    · rw [List.any_eq_true]
      exact ⟨(Sum.inl s, v), List.mem_map.mpr ⟨s, h, rfl⟩, decide_eq_true rfl⟩
  · rw [if_neg h, if_neg]
    · unfold sameK
      rw [List.map_append]
      rfl
    · intro z
      obtain ⟨x, hx, e⟩ := List.any_eq_true.mp z
      obtain ⟨y, hy, rfl⟩ := List.mem_map.mp hx
      have e' : (Sum.inl y : L2.Key) = Sum.inl s := of_decide_eq_true e
      injection e' with e'
      exact h (e' ▸ hy)
theorem addK_nd {ks : List Int} {s : Int} (h : ks.Nodup) : (addK ks s).Nodup := by
  unfold addK
  by_cases e : s ∈ ks
  · rw [if_pos e]; exact h
  · rw [if_neg e]
    refine List.nodup_append.mpr ⟨h, by simp, fun a ha b hb z => ?_⟩
    rw [List.mem_singleton.mp hb] at z
    exact e (z ▸ ha)
theorem addK_mem {ks : List Int} {s x : Int} : x ∈ addK ks s ↔ x ∈ ks ∨ x = s := by
  unfold addK
  by_cases e : s ∈ ks
  · rw [if_pos e]
    exact ⟨.inl, fun h => h.elim id fun z => z ▸ e⟩
  · rw [if_neg e]
    simp
def dk (ys : List Int) : List Int := ys.foldl addK []
theorem dk_snoc (ys : List Int) (y : Int) : dk (ys ++ [y]) = addK (dk ys) y := by unfold dk; rw [List.foldl_append]; rfl
theorem dk_ok (ys : List Int) : (dk ys).Nodup ∧ ∀ x, x ∈ dk ys ↔ x ∈ ys := by
  obtain ⟨r, hr⟩ : ∃ r, r = ys.reverse := ⟨_, rfl⟩
  have e : ys = r.reverse := by rw [hr, List.reverse_reverse]
  subst e
  clear hr
  induction r with
  | nil => exact ⟨List.nodup_nil, fun x => Iff.rfl⟩
  | cons y r ih =>
    rw [List.reverse_cons, dk_snoc]
    refine ⟨addK_nd ih.1, fun x => ?_⟩
    rw [addK_mem, ih.2]
    simp
theorem valV_same {v : V} {ks : List Int} {s : Int} : valV (sameK v ks) (Sum.inl s) = if s ∈ ks then some v else none := by
  unfold valV
  by_cases h : s ∈ ks
  · rw [if_pos h]
    cases e : (sameK v ks).find? fun kv => decide (kv.1 = Sum.inl s) with
    | none =>
      rw [List.find?_eq_none] at e
      exact absurd (decide_eq_true rfl) (e (Sum.inl s, v) (List.mem_map.mpr ⟨s, h, rfl⟩))
    | some x =>
      obtain ⟨y, _, rfl⟩ := List.mem_map.mp (List.mem_of_find?_eq_some e)
      rfl
  · rw [if_neg h, Option.map_eq_none_iff, List.find?_eq_none]
    intro x hx z
    obtain ⟨y, hy, rfl⟩ := List.mem_map.mp hx
    have z' : (Sum.inl y : L2.Key) = Sum.inl s := of_decide_eq_true z
    injection z' with z'
    exact h (z' ▸ hy)
/-- what a dict comprehension puts -/
def tPutD (D : Addr) (tk tv : TE) : L3.Tc := fun σ H R => tk σ H fun y H4 => tv σ H4 fun z H5 => ∃ kvs k, y = kV k ∧ H5 D = some (.dK kvs) ∧ kvs.length < sizeLine ∧ R (upd H5 D (.dK (putK kvs k z)))
def pickI (l : List (Bool × Int)) : List Int := (l.filter (·.1)).map (·.2)
theorem pickI_snoc (l : List (Bool × Int)) (b : Bool) (y : Int) : pickI (l ++ [(b, y)]) = pickI l ++ (if b = true then [y] else []) := by
  unfold pickI
  rw [List.filter_append, List.map_append]
  cases b <;> rfl
theorem dk_len (ys : List Int) : (dk ys).length ≤ ys.length := S2.nd_len (dk_ok ys).1 fun x h => ((dk_ok ys).2 x).mp h
theorem pickI_len (l : List (Bool × Int)) : (pickI l).length ≤ l.length := by
  unfold pickI
  rw [List.length_map]
  exact List.length_filter_le _ _
theorem dc_pick {J : It} {G : Hp → Prop} {xs : List V} {g : TG} {tt : TT} {tk : TE} {val : V} {vs : List Nat} {σ : L2.St} {X : Hp} {D : Addr} {Dn : Hp → Prop} (w : Walk J xs.length G (YAt xs)) (hG : ∀ H, Same X H → G H) (len : xs.length ≤ 100000) (hX : X D = none) (ps : List (Bool × Int)) (hl : ps.length = xs.length)
    (turn : ∀ (i : Nat) (x : V) (b : Bool) (y : Int) (H : Hp) (R : L2.St → Bool → Hp → Prop), xs[i]? = some x → ps[i]? = some (b, y) → Same X H → (∀ σ2 H', Same H H' → (b = true → ∀ Q' : VK, (∀ H'', Same H' H'' → Q' (.int y) H'') → tk σ2 H' Q') → R σ2 b H') → g x (wipe σ vs) H fun σ2 H2 => wipe σ2 vs = wipe σ vs ∧ tt σ2 H2 (R σ2))
    (fin : ∀ H', Same X H' → H' D = some (.dK (sameK val (dk (pickI ps)))) → Dn H') : L3.tOver g tt (tPutD D tk (tC val)) vs J σ (upd X D (.dK [])) Dn := by
  refine L3.over_it w (fun i H => Same X H ∧ H D = some (.dK (sameK val (dk (pickI (ps.take i)))))) ⟨same_new hX, upd_same⟩ (fun i H _ h => hG H h.1) (fun j x H H' hj h yy => ?_) (fun H h => fin H h.1 ?_)
  · obtain ⟨rfl, ex⟩ := yy
    obtain ⟨s1, hD'⟩ := h
    have hp : ps[j]? = some ps[j] := List.getElem?_eq_getElem (by omega)
    have tk' : ps.take (j + 1) = ps.take j ++ [(ps[j].1, ps[j].2)] := by rw [List.take_add_one, hp]; rfl
    refine turn j x ps[j].1 ps[j].2 H' (fun σ2 b H3 => if b = true then tPutD D tk (tC val) σ2 H3 (fun H => Same X H ∧ H D = some (.dK (sameK val (dk (pickI (ps.take (j + 1))))))) else Same X H3 ∧ H3 D = some (.dK (sameK val (dk (pickI (ps.take (j + 1))))))) ex hp s1 (fun σ2 H5 s t => ?_)
    refine ite2 (fun e1 => ?_) (fun e1 => ?_)
    · refine t e1 _ fun H6 s6 => ⟨_, Sum.inl ps[j].2, rfl, s6 _ _ (s _ _ hD'), ?_, same_put ((s1.trans s).trans s6) hX, ?_⟩
      · unfold sameK
        rw [List.length_map]
        have z := dk_len (pickI (ps.take j))
        have z2 := pickI_len (ps.take j)
        rw [List.length_take] at z2
        exact LC.small_line (by omega)
      · rw [upd_same, tk', pickI_snoc, if_pos e1, sameK_put, ← dk_snoc]
    · refine ⟨s1.trans s, ?_⟩
      rw [tk', pickI_snoc, if_neg e1, List.append_nil]
      exact s _ _ hD'
  · have e : ps.take xs.length = ps := List.take_of_length_le (by omega)
    rw [e] at h
    exact h.2
/-! ### what stands at a key -/
def lookL (T : Tab) (s : Int) : List V := match T.find? fun t => decide (t.1 = s) with
  | some t => t.2.2
  | none => []
theorem AdjT.look {K : PySem.W.Frag} {B H : Hp} {d : Addr} {its : List (Int × PyData)} {T : Tab} (h : AdjT K B H d its T) (s : Int) :
    DpAll K H (lookL T s) (ofKey its s) ∧ ((∃ L, valV (tabK T) (Sum.inl s) = some (.ref L) ∧ H L = some (.lst (lookL T s))) ∨ (valV (tabK T) (Sum.inl s) = none ∧ lookL T s = [])) := by
  have e : valV (tabK T) (Sum.inl s) = (T.find? fun t => decide (t.1 = s)).map fun t => V.ref t.2.1 := by
    unfold valV tabK
    induction T with
    | nil => rfl
    | cons t T ih =>
      rw [List.map_cons, List.find?_cons, List.find?_cons]
      by_cases z : t.1 = s
      · rw [show decide ((((Sum.inl t.1 : L2.Key), V.ref t.2.1) : L2.Key × V).1 = Sum.inl s) = true from decide_eq_true (by rw [z]), decide_eq_true z]
        rfl
      · rw [show decide ((((Sum.inl t.1 : L2.Key), V.ref t.2.1) : L2.Key × V).1 = Sum.inl s) = false from decide_eq_false fun q => z (by injection q), decide_eq_false z]
        have key : ∀ T : Tab, (List.find? (fun kv => decide (kv.1 = Sum.inl s)) (List.map (fun t => ((Sum.inl t.1 : L2.Key), V.ref t.2.1)) T)).map (·.2) = (T.find? fun t => decide (t.1 = s)).map fun t => V.ref t.2.1 := fun T => by
          induction T with
          | nil => rfl
          | cons t T ih =>
            rw [List.map_cons, List.find?_cons, List.find?_cons]
            by_cases z : t.1 = s
            · rw [show decide ((((Sum.inl t.1 : L2.Key), V.ref t.2.1) : L2.Key × V).1 = Sum.inl s) = true from decide_eq_true (by rw [z]), decide_eq_true z]
              rfl
            · rw [show decide ((((Sum.inl t.1 : L2.Key), V.ref t.2.1) : L2.Key × V).1 = Sum.inl s) = false from decide_eq_false fun q => z (by injection q), decide_eq_false z]
              exact ih
        exact key T
  unfold lookL
  cases f : T.find? fun t => decide (t.1 = s) with
  | none =>
    rw [f] at e
    rcases h.get s with ⟨L, us, a, _⟩ | ⟨a, b⟩
    · rw [a] at e; cases e
    · rw [b]
      exact ⟨.nil, .inr ⟨a, rfl⟩⟩
  | some t =>
    rw [f] at e
    have ht := List.mem_of_find?_eq_some f
    have es : t.1 = s := of_decide_eq_true (List.find?_some (p := fun t : Int × Addr × List V => decide (t.1 = s)) f)
    have := h.at_ t ht
    rw [es] at this
    exact ⟨dpAll_same offs_sub _ _ this.2, .inl ⟨t.2.1, e, this.1⟩⟩
theorem look_all {K : PySem.W.Frag} {B H : Hp} {d : Addr} {its : List (Int × PyData)} {T : Tab} (h : AdjT K B H d its T) : ∀ ks : List Int, DpAll K H (ks.flatMap (lookL T)) (ks.flatMap (ofKey its))
  | [] => .nil
  | s :: ks => by
    rw [List.flatMap_cons, List.flatMap_cons]
    exact dpAll_app (h.look s).1 (look_all h ks)
def outs (w : Web) (s : Int) : List (Pn × Int) := (w.2.1.filter fun e => decide (e.1 = s)).map (·.2)
def outD (x : Pn × Int) : PyData := .tuple [pnD x.1, .int x.2]
theorem ahead_of (w : Web) (s : Int) : ofKey (aheadI w) s = (outs w s).map outD := by
  unfold ofKey aheadI outs
  rw [List.filter_map, List.map_map, List.map_map]
  rfl
theorem ahead_all (w : Web) (ks : List Int) : ks.flatMap (ofKey (aheadI w)) = (ks.flatMap (outs w)).map outD := by
  rw [List.map_flatMap]
  exact congrArg (fun f => ks.flatMap f) (funext fun s => ahead_of w s)
theorem outs_mem {w : Web} {s : Int} {x : Pn × Int} : x ∈ outs w s ↔ (s, x.1, x.2) ∈ w.2.1 := by
  unfold outs
  rw [List.mem_map]
  refine ⟨fun ⟨e, he, ex⟩ => ?_, fun h => ⟨(s, x.1, x.2), List.mem_filter.mpr ⟨h, decide_eq_true rfl⟩, rfl⟩⟩
  obtain ⟨h1, h2⟩ := List.mem_filter.mp he
  have h2' : e.1 = s := of_decide_eq_true h2
  rw [← ex, ← h2']
  exact h1
end MM

set_option maxHeartbeats 4000000
namespace MM
open PySem PySem.Spec PyProof.Rows L2 G3 M0 LP
abbrev nReads : List Str := ["machine", "control", "pile", "ahead", "states", "state", "point", "edges", "edge"]
theorem scReads : FnScope nReads ["machine", "control", "pile"] (defScope s_reads) := ⟨rfl, rfl, rfl, by decide +kernel, rfl, by decide +kernel, by decide +kernel⟩
section
variable {P : Program} {w : World} {K : PySem.W.Frag} {mg : Str → Option Value} {base : Heap}
def spReads (K : PySem.W.Frag) : Sp := fun vs H Q _ => ∃ (m c pl : V) (wb : Web) (k : Ct) (l : List Pn), vs = [m, c, pl] ∧ Dp K H m (webD wb) ∧ WebOk wb ∧ Dp K H c (ctD k) ∧ Dp K H pl (pileD l) ∧ l.length ≤ 1000 ∧ ∀ H' (b : Bool), Same H H' → (b = true ↔ Acc wb k l) → Q (.bl b) H'
theorem states_start {wb : Web} {k : Ct} {s : Int} : s ∈ statesM wb k ↔ Starts wb k s := by
  unfold statesM Starts
  rw [List.mem_map]
  refine ⟨fun ⟨b, hb, e⟩ => ?_, fun h => ⟨(k, s), List.mem_filter.mpr ⟨h, decide_eq_true rfl⟩, rfl⟩⟩
  obtain ⟨h1, h2⟩ := List.mem_filter.mp hb
  have h2' : b.1 = k := of_decide_eq_true h2
  rw [← e, ← h2']
  exact h1
theorem states_len (wb : Web) (k : Ct) : (statesM wb k).length ≤ wb.1.length := by
  unfold statesM
  rw [List.length_map]
  exact List.length_filter_le _ _
theorem pick_true (l : List V) : picked (l.map fun u => (true, u)) = l := by
  unfold picked
  rw [List.filter_map, List.map_map]
  have : l.filter ((fun x : Bool × V => x.1) ∘ fun u => (true, u)) = l := List.filter_eq_self.mpr fun _ _ => rfl
  rw [this]
  exact List.map_id _
theorem pickI_true (l : List Int) : pickI (l.map fun u => (true, u)) = l := by
  unfold pickI
  rw [List.filter_map, List.map_map]
  have : l.filter ((fun x : Bool × Int => x.1) ∘ fun u => (true, u)) = l := List.filter_eq_self.mpr fun _ _ => rfl
  rw [this]
  exact List.map_id _
/-- the states behind a point -/
theorem step_states {wb : Web} {k : Ct} {l : List Pn} {p : Pn} {ks : List Int} (h : ∀ s, s ∈ ks ↔ Reach wb.2.1 (Starts wb k) l s) : ∀ o, o ∈ pickI ((ks.flatMap (outs wb)).map fun x => (decide (x.1 = p), x.2)) ↔ Reach wb.2.1 (Starts wb k) (l ++ [p]) o := fun o => by
  rw [reach_snoc]
  unfold pickI
  rw [List.filter_map, List.map_map, List.mem_map]
  constructor
  · rintro ⟨x, hx, rfl⟩
    obtain ⟨h1, h2⟩ := List.mem_filter.mp hx
    have h2' : x.1 = p := of_decide_eq_true h2
    obtain ⟨s, hs, hx2⟩ := List.mem_flatMap.mp h1
    have := outs_mem.mp hx2
    rw [h2'] at this
    exact ⟨s, (h s).mp hs, this⟩
  · rintro ⟨t, ht, he⟩
    exact ⟨(p, o), List.mem_filter.mpr ⟨List.mem_flatMap.mpr ⟨t, (h t).mpr ht, outs_mem.mpr he⟩, decide_eq_true rfl⟩, rfl⟩
theorem outs_len (wb : Web) : ∀ ks : List Int, (ks.flatMap (outs wb)).length ≤ ks.length * wb.2.1.length
  | [] => by simp
  | s :: ks => by
    rw [List.flatMap_cons, List.length_append, List.length_cons, Nat.succ_mul]
    have h1 : (outs wb s).length ≤ wb.2.1.length := by
      unfold outs
      rw [List.length_map]
      exact List.length_filter_le _ _
    have h2 := outs_len wb ks
    omega
theorem range_flat {α : Type} (f : Int → List α) : ∀ ks : List Int, (List.range ks.length).flatMap (fun i => f (ks.getD i 0)) = ks.flatMap f := fun ks => by
  have e : (List.range ks.length).map (fun i => ks.getD i 0) = ks := by
    refine List.ext_getElem? fun i => ?_
    rw [List.getElem?_map]
    rcases Nat.lt_or_ge i ks.length with z | z
    · rw [List.getElem?_range z, List.getElem?_eq_getElem z]
      show some (ks.getD i 0) = _
      rw [List.getD_eq_getElem?_getD, List.getElem?_eq_getElem z]
      rfl
    · rw [List.getElem?_eq_none (by rw [List.length_range]; exact z), List.getElem?_eq_none z]
      rfl
  rw [← List.flatMap_map, e]
theorem range_len {f : Nat → List V} {b : Nat} (h : ∀ i, (f i).length ≤ b) : ∀ n, ((List.range n).flatMap f).length ≤ n * b
  | 0 => by simp
  | n + 1 => by
    rw [List.range_succ, List.flatMap_append, List.length_append]
    have h1 := range_len h n
    have h2 := h n
    have h3 : ([n].flatMap f).length = (f n).length := by simp
    rw [h3, Nat.succ_mul]
    omega
theorem look_len {K : PySem.W.Frag} {B H : Hp} {d : Addr} {T : Tab} {wb : Web} (h : AdjT K B H d (aheadI wb) T) (s : Int) : (lookL T s).length ≤ wb.2.1.length := by
  rw [dpAll_len (h.look s).1, ahead_of, List.length_map]
  unfold outs
  rw [List.length_map]
  exact List.length_filter_le _ _
theorem sameK_at {v : V} {ks : List Int} {i : Nat} {k : L2.Key} {u : V} (h : (sameK v ks)[i]? = some (k, u)) : ∃ s, ks[i]? = some s ∧ k = Sum.inl s := by
  unfold sameK at h
  rw [List.getElem?_map] at h
  obtain ⟨s, hs, e⟩ := Option.map_eq_some_iff.mp h
  cases e
  exact ⟨s, hs, rfl⟩
set_option maxHeartbeats 32000000 in
theorem ok_reads {f : Addr} {fd : FuncData} {k : Nat} (F : Fun K "reads" "reads" s_reads f fd) (DA : Def P w K mg base CX0 (k + 1) "edges_ahead" ["machine"] (spAdj K aheadI)) (DS : Def P w K mg base CX0 (k + 1) "states_of" ["machine", "control"] (spStOf K)) (m_any : mg "any" = none) : FnOk P w K mg base CX0 (k + 1 + 1) f fd ["machine", "control", "pile"] (spReads K) := by
  refine F.ok scReads (fun vs H Q E h => ?_) (fun cdv A outer s H vs Q E hr h => ?_)
  · obtain ⟨m, c, pl, wb, k, l, rfl, _⟩ := h
    rfl
  obtain ⟨m, c, pl, wb, k, l, rfl, hm, ok, hc, hl, ll, q⟩ := h
  have nd := scReads.nd
  have hu := hu_of hr
  refine ⟨_, (pss_cons (ps_set (i := 3) nd rfl (.inr rfl) (pe_call DA.ok hr (by rfl) DA.g DA.kp DA.b .nil pass0 (pa_cons (pv 0) pa_nil)))
    (pss_cons (ps_set (i := 4) nd rfl (.inr rfl) (pe_dc (own := [("state", 5)]) (g := (gName 5)) (tt := tYes) (by rfl) nd (pi_list (pe_call DS.ok hr (by rfl) DS.g DS.kp DS.b .nil pass0 (pa_cons (pv 0) (pa_cons (pv 1) pa_nil)))) (blkOk_by (N := nReads) (sc := defScope s_reads) (by decide +kernel)) (fun _ _ _ _ _ => (pg_name (i := 5) nd rfl (.inl rfl))) (fun _ _ _ _ _ => pts_nil) (fun _ _ _ _ _ => (pv 5)) (fun _ _ _ _ _ => pe_bl)))
    (pss_cons (ps_for PassesOwn.never rfl (pi_tup (pv 2)) (pg_name (i := 6) nd rfl (.inr rfl))
      (pss_cons (ps_lock (ps_setLc2 (i := 7) (own := [("state", 5), ("edge", 8)]) (vs1 := [8]) (g := (gName 5)) (g1 := (gName 8)) (tt := tYes) (tt1 := tYes) (wi1 := iList K (tDGet2 (tVar 3) (tVar 5) (tLst tNil))) (by rfl) nd rfl rfl (sw_true rfl rfl rfl (by decide +kernel)) (pi_keys (pv 4)) (blkOk_by (N := nReads) (sc := defScope s_reads) (by decide +kernel)) (by decide) (fun _ _ _ _ _ => (pg_name (i := 5) nd rfl (.inl rfl))) (fun _ _ _ _ _ => pts_nil) (fun _ _ _ _ _ => (pi_list (pe_dget2 hu (pv 3) (pv 5) (pe_lst pa_nil) ⟨rfl, rfl, rfl, rfl⟩))) (fun _ _ _ _ _ => (pg_name (i := 8) nd rfl (.inl rfl))) (fun _ _ _ _ _ => pts_nil) (fun _ _ _ _ _ => (pv 8))))
    (pss_one (ps_set (i := 4) nd rfl (.inr rfl) (pe_dc (own := [("edge", 8)]) (g := (gName 8)) (by rfl) nd (pi_list (pv 7)) (blkOk_by (N := nReads) (sc := defScope s_reads) (by decide +kernel)) (fun _ _ _ _ _ => (pg_name (i := 8) nd rfl (.inl rfl))) (fun _ _ _ _ _ => (pts_one  (pt_cmpR (r := rEqD K) (op_eqD hr.units) (pe_ix (r := rIxT K) ix_tup (pv 8) pe_int (fun _ _ => rfl)) (pv 6) (nomark _)))) (fun _ _ _ _ _ => (pe_ix (r := rIxT K) ix_tup (pv 8) pe_int (fun _ _ => rfl))) (fun _ _ _ _ _ => pe_bl))))))
    (pss_one (ps_ret (pe_callB (cr_any rfl) (by rfl) m_any (by decide +kernel) (pa_cons (pe_lc (own := [("state", 5)]) (g := (gName 5)) (tt := tYes) (by rfl) nd (pi_tup (pe_ix ix_tup (pv 0) pe_int (fun _ _ => rfl))) (blkOk_by (N := nReads) (sc := defScope s_reads) (by decide +kernel)) (fun _ _ _ _ _ => (pg_name (i := 5) nd rfl (.inl rfl))) (fun _ _ _ _ _ => pts_nil) (fun _ _ _ _ _ => (pe_cmp (pc_din hu (pv 5) (pv 4))))) pa_nil))))))), ?_⟩
  have nb := ok.b
  have ne := ok.e
  have nn := ok.n
  refine ⟨_, rfl, m, wb, rfl, hm, ok, fun X d T sX AX => ?_⟩
  have hmX := dp_same sX _ _ hm
  have hlX := dp_same sX _ _ hl
  refine ⟨_, rfl, _, rfl, m, c, wb, k, rfl, hmX, ok, dp_same sX _ _ hc, fun H2 L s2 nL hL => ⟨L, rfl, ⟨_, SqL.of hL⟩, fun D nD => ?_⟩⟩
  have nDX := same_none s2 nD
  show L3.tOver (gName 5) tYes (tPutD D (tVar 5) (tC (V.bl true))) [5] _ _ _ _
  refine dc_pick (val := .bl true) (walk_list (a := L) (xs := (statesM wb k).map V.int) (K := K)) (fun G s' => SqL.of (s' _ _ hL)) (by rw [List.length_map]; have := states_len wb k; omega) nD ((statesM wb k).map fun u => (true, u)) (by rw [List.length_map, List.length_map]) (fun i x b y G R hx hp s1 go => ?_) (fun H3 s3 hD => ?_)
  · rw [List.getElem?_map] at hx hp
    obtain ⟨z, hz, rfl⟩ := Option.map_eq_some_iff.mp hx
    rw [hz] at hp
    cases hp
    exact ⟨rfl, go _ _ (Same.refl _) fun _ Q' hQ => ⟨_, rfl, hQ _ (Same.refl _)⟩⟩
  rw [pickI_true] at hD
  have sX3 : Same X H3 := s2.trans s3
  obtain ⟨pa, ps, rfl, hps, hpsd⟩ := dpT hlX
  have pll : ps.length = l.length := by rw [dpAll_len hpsd, List.length_map]
  refine ⟨_, rfl, pa, rfl, ⟨_, same_tup sX3 hps⟩, for_tup (xs := ps) (fun i σ G => ∃ D ks y5 y6 y7 y8, σ = [some m, some c, some (.ref pa), some (.ref d), some (.ref D), y5, y6, y7, y8] ∧ Same X G ∧ X D = none ∧ G D = some (.dK (sameK (.bl true) ks)) ∧ ks.Nodup ∧ ks.length ≤ 30 ∧ ∀ s, s ∈ ks ↔ Reach wb.2.1 (Starts wb k) (l.take i) s)
    ⟨D, _, _, _, _, _, rfl, sX3, nDX, hD, (dk_ok _).1, by have := dk_len (statesM wb k); have := states_len wb k; omega, fun s => by rw [(dk_ok _).2, states_start, List.take_zero, reach_nil]⟩ (fun i σ G _ hP => ?_) (fun i x σ G hx hP => ?_) (fun σ G hP => ?_)⟩
  · obtain ⟨_, _, _, _, _, _, _, sG, _⟩ := hP
    exact same_tup sG hps
  · clear hD sX3 s3 s2 nDX nL hL nD
    obtain ⟨D, ks, y5, y6, y7, y8, rfl, sG, nD, hD, knd, kl, km⟩ := hP
    obtain ⟨dd, hdd, hxd⟩ := dpAll_get hpsd hx
    rw [List.getElem?_map] at hdd
    obtain ⟨p, hp, rfl⟩ := Option.map_eq_some_iff.mp hdd
    refine ⟨D, _, hD, trivial, fun od => ?_⟩
    have s1 : Same X (upd G D (.frz od (.dK (sameK (.bl true) ks)))) := same_put sG nD
    have hD1 : (upd G D (.frz od (.dK (sameK (.bl true) ks)))) D = some (.frz od (.dK (sameK (.bl true) ks))) := upd_same
    generalize upd G D (.frz od (.dK (sameK (.bl true) ks))) = G1 at s1 hD1 ⊢
    refine ⟨_, rfl, D, od, rfl, .inl ⟨_, hD1, fun De nDe => ?_⟩⟩
    show L3.tOver (gName 5) tYes (L3.tIn (iList K (tDGet2 (tVar 3) (tVar 5) (tLst tNil))) (gName 8) tYes (L3.tEmit De (tVar 8)) [8]) [5, 8] _ _ _ _
    have klen : (sameK (.bl true) ks).length = ks.length := by unfold sameK; rw [List.length_map]
    refine outer_over (walk_keys (kvs := sameK (.bl true) ks)) (fun H s' => s' _ _ hD1) nDe (fun i => lookL T (ks.getD i 0)) (fun i x H H' acc R hi sH hacc hal hy hR => ?_) (fun H' sH hDe => ?_)
    · obtain ⟨rfl, kk, vv, hkk, rfl⟩ := hy
      obtain ⟨s, hs, rfl⟩ := sameK_at hkk
      have es : ks.getD i 0 = s := by rw [List.getD_eq_getElem?_getD, hs]; rfl
      rw [es] at hR
      rw [klen] at hi
      have AH := AX.same (s1.trans sH)
      have AG := AX.same s1
      have bnd := range_len (f := fun i => lookL T (ks.getD i 0)) (b := 30) (fun i => Nat.le_trans (look_len AX _) ne) i
      have lb := look_len AX s
      have im : i * 30 ≤ 900 := by
        have : i * 30 ≤ 30 * 30 := Nat.mul_le_mul_right _ (by omega)
        omega
      refine ⟨rfl, ?_⟩
      dsimp only [tYes]
      simp only [if_true]
      refine ⟨_, rfl, d, rfl, .inl ⟨_, .inl AH.hd⟩, _, rfl, Nat.zero_le _, fun ql nq => ⟨valV (tabK T) (Sum.inl s), DGet.k (k := Sum.inl s) (same_new nq _ _ AH.hd), ?_⟩⟩
      have sq : Same H' (upd H' ql (.lst [])) := same_new nq
      rcases (AG.look s).2 with ⟨L, eL, hL⟩ | ⟨eL, e0⟩
      · rw [eL]
        refine ⟨L, rfl, ⟨_, SqL.of (sq _ _ (sH _ _ hL))⟩, ?_⟩
        show L3.tOver (gName 8) tYes (L3.tEmit De (tVar 8)) [8] _ _ _ _
        refine inner_over (X := G1) (walk_list (a := L) (xs := lookL T s) (K := K)) (fun G s' => SqL.of (s' _ _ hL)) (sH.trans sq) nDe (sq _ _ hacc) ((lookL T s).map fun u => (true, u)) (by rw [List.length_map]) (by omega) (fun j x b y H R hx hp s9 go => ?_) (fun H9 s9 h9 => hR H9 s9 (by rw [pick_true] at h9; exact h9))
        rw [List.getElem?_map, hx] at hp
        cases hp
        exact ⟨rfl, go _ _ (Same.refl _) fun _ Q' hQ => ⟨_, rfl, hQ _ (Same.refl _)⟩⟩
      · rw [eL]
        have dq : De ≠ ql := fun z => by rw [z, nq] at hacc; cases hacc
        have nq1 : G1 ql = none := same_none sH nq
        have sZ : Same (upd G1 ql (.lst [])) (upd H' ql (.lst [])) := fun b o e => by
          by_cases z : b = ql
          · rw [z, upd_same] at e ⊢; exact e
          · rw [upd_ne z] at e ⊢; exact sH _ _ e
        refine ⟨ql, rfl, ⟨_, SqL.of upd_same⟩, ?_⟩
        show L3.tOver (gName 8) tYes (L3.tEmit De (tVar 8)) [8] _ _ _ _
        refine inner_over (X := upd G1 ql (.lst [])) (us := []) (walk_list (a := ql) (xs := []) (K := K)) (fun G s' => SqL.of (s' _ _ upd_same)) sZ (by rw [upd_ne dq]; exact nDe) (by rw [upd_ne dq]; exact hacc) [] rfl (by simp; omega) (fun j x b y H R hx hp s9 go => by simp at hx) (fun H9 s9 h9 => hR H9 ((same_new nq1).trans s9) (by rw [e0]; exact h9))
    · rw [klen, range_flat (lookL T) ks] at hDe
      have DeD : De ≠ D := fun z => by rw [z, hD1] at nDe; cases nDe
      have s2 : Same X (upd H' D (.dK (sameK (.bl true) ks))) := same_put (s1.trans sH) nD
      have hDe2 : (upd H' D (.dK (sameK (.bl true) ks))) De = some (.lst (ks.flatMap (lookL T))) := by rw [upd_ne DeD]; exact hDe
      refine ⟨sH _ _ hD1, ?_⟩
      generalize upd H' D (.dK (sameK (.bl true) ks)) = G2 at s2 hDe2 ⊢
      clear hDe sH DeD nDe hD1 s1 hD sG
      have hall := look_all (AX.same s2) ks
      rw [ahead_all] at hall
      have ol := outs_len wb ks
      have lm : ks.length * wb.2.1.length ≤ 900 := Nat.le_trans (Nat.mul_le_mul kl ne) (by decide)
      have fl : (ks.flatMap (lookL T)).length = (ks.flatMap (outs wb)).length := by rw [dpAll_len hall, List.length_map]
      refine ⟨_, rfl, De, rfl, ⟨_, SqL.of hDe2⟩, fun D2 nD2 => ?_⟩
      show L3.tOver (gName 8) (tTest (tOp (rEqD K) (tOp (rIxT K) (tVar 8) (tC (V.int 0))) (tVar 6))) (tPutD D2 (tOp (rIxT K) (tVar 8) (tC (V.int 1))) (tC (V.bl true))) [8] _ _ _ _
      refine dc_pick (X := G2) (walk_list (a := De) (xs := ks.flatMap (lookL T)) (K := K)) (fun G s' => SqL.of (s' _ _ hDe2)) (by omega) nD2 ((ks.flatMap (outs wb)).map fun x => (decide (x.1 = p), x.2)) (by rw [List.length_map, fl]) (fun j u b y H5 R hu' hp' s5 go => ?_) (fun H5 s5 h5 => ?_)
      · obtain ⟨ud, hud, hudd⟩ := dpAll_get hall hu'
        rw [List.getElem?_map] at hud hp'
        obtain ⟨e, he, rfl⟩ := Option.map_eq_some_iff.mp hud
        rw [he] at hp'
        cases hp'
        obtain ⟨t, u0, u1, rfl, ht, e0, e1⟩ := dp2 (show Dp K G2 u (.tuple [pnD e.1, .int e.2]) from hudd)
        cases dp_int e1
        refine ⟨rfl, _, rfl, t, _, 0, u0, rfl, rfl, same_tup s5 ht, atI_nat (j := 0) rfl, _, rfl, _, _, dp_same s5 _ _ e0, dp_same (s2.trans s5) _ _ hxd, pn_shaped _, pn_shaped _, _, rfl, ?_⟩
        rw [pn_eqv]
        exact go _ _ (Same.refl _) fun _ Q' hQ => ⟨_, rfl, t, _, 1, .int e.2, rfl, rfl, same_tup s5 ht, atI_nat (j := 1) rfl, hQ _ (Same.refl _)⟩
      · refine ⟨D2, dk (pickI ((ks.flatMap (outs wb)).map fun x => (decide (x.1 = p), x.2))), _, _, _, _, rfl, s2.trans s5, same_none s2 nD2, h5, (dk_ok _).1, ?_, fun s => ?_⟩
        · refine Nat.le_trans (S2.nd_len (U := wb.2.1.map (·.2.2)) (dk_ok _).1 fun o ho => ?_) (by rw [List.length_map]; exact ne)
          obtain ⟨t, _, he⟩ := reach_snoc.mp ((step_states (p := p) km o).mp (((dk_ok _).2 o).mp ho))
          exact List.mem_map.mpr ⟨_, he, rfl⟩
        · rw [(dk_ok _).2, step_states km, List.take_add_one, hp]
          rfl
  · obtain ⟨D, ks, y5, y6, y7, y8, rfl, sG, nD, hD, knd, kl, km⟩ := hP
    rw [List.take_of_length_le (by omega)] at km
    obtain ⟨a, ba, ca, da, bs, es, rfl, h0, _, _, _, _, h5⟩ := web_of (dp_same sG _ _ hmX)
    refine ⟨_, rfl, a, _, 2, .ref da, rfl, rfl, h0, atI_nat (j := 2) rfl, da, rfl, ⟨_, h5⟩, fun D2 nD2 => ?_⟩
    refine lc_pick (walk_tup (a := da) (xs := wb.2.2.map V.int) (K := K)) (fun G s' => same_tup s' h5) (by rw [List.length_map]; omega) nD2 (wb.2.2.map fun e => (true, V.bl (decide (e ∈ ks)))) (by rw [List.length_map, List.length_map]) (fun i x b y G R hx hp s1 go => ?_) (fun H' s1 hD' => ?_)
    · rw [List.getElem?_map] at hx hp
      obtain ⟨z, hz, rfl⟩ := Option.map_eq_some_iff.mp hx
      rw [hz] at hp
      cases hp
      refine ⟨rfl, go _ _ (Same.refl _) fun _ Q' hQ => ?_⟩
      refine ⟨_, rfl, _, rfl, D, valV (sameK (.bl true) ks) (Sum.inl z), rfl, DGet.k (k := Sum.inl z) (s1 _ _ hD), ?_⟩
      rw [valV_same]
      have : (if z ∈ ks then some (V.bl true) else none).isSome = decide (z ∈ ks) := by
        by_cases m : z ∈ ks
        · rw [if_pos m, decide_eq_true m]; rfl
        · rw [if_neg m, decide_eq_false m]; rfl
      rw [this]
      exact hQ _ (Same.refl _)
    · have ep : picked (wb.2.2.map fun e => (true, V.bl (decide (e ∈ ks)))) = (wb.2.2.map fun e => decide (e ∈ ks)).map V.bl := by
        have := pick_true (wb.2.2.map fun e => V.bl (decide (e ∈ ks)))
        rw [List.map_map] at this ⊢
        exact this
      rw [ep] at hD'
      refine ⟨D2, _, rfl, SqL.of hD', q _ _ (sX.trans (sG.trans s1)) ?_⟩
      rw [List.any_eq_true]
      constructor
      · rintro ⟨b, hb, e⟩
        obtain ⟨z, hz, rfl⟩ := List.mem_map.mp hb
        exact ⟨z, hz, (km z).mp (of_decide_eq_true e)⟩
      · rintro ⟨z, hz, hr⟩
        exact ⟨_, List.mem_map.mpr ⟨z, hz, rfl⟩, decide_eq_true ((km z).mpr hr)⟩
end
end MM

set_option maxHeartbeats 4000000
namespace MM
open PySem PySem.Spec PyProof.Rows L2 G3 M0 LP
/-! ### how far from an end: the queue -/
abbrev Fr := List (Int × Int)
def farK (f : Fr) : List (L2.Key × V) := f.map fun x => ((Sum.inl x.1 : L2.Key), V.int x.2)
structure Bfs (w : Web) (at_ : Nat) (f : Fr) : Prop where
  nd : (f.map (·.1)).Nodup
  road : ∀ x ∈ f, ∃ l e, (l.length : Int) = x.2 ∧ e ∈ w.2.2 ∧ Path w.2.1 x.1 l e
  ends : ∀ e ∈ w.2.2, (e, 0) ∈ f
  mono : f.Pairwise fun x y => x.2 ≤ y.2
  near : ∀ (j : Nat) (x : Int × Int), j < at_ → f[j]? = some x → ∀ s p, (s, p, x.1) ∈ w.2.1 → ∃ n, (s, n) ∈ f ∧ n ≤ x.2 + 1
  lim : ∀ x, f[at_]? = some x → ∀ y ∈ f, y.2 ≤ x.2 + 1
  src : ∀ x ∈ f, x.1 ∈ w.2.2 ++ w.2.1.map (·.1)
theorem Bfs.len {w : Web} {a : Nat} {f : Fr} (h : Bfs w a f) : f.length ≤ w.2.2.length + w.2.1.length := by
  have := S2.nd_len (U := w.2.2 ++ w.2.1.map (·.1)) h.nd fun s hs => by
    obtain ⟨x, hx, rfl⟩ := List.mem_map.mp hs
    exact h.src x hx
  rw [List.length_map, List.length_append, List.length_map] at this
  exact this
theorem bfs_start {w : Web} (u : w.2.2.Nodup) : Bfs w 0 (w.2.2.map fun e => (e, 0)) := by
  refine ⟨by rw [List.map_map, show ((fun x : Int × Int => x.1) ∘ fun e : Int => (e, (0 : Int))) = id from rfl, List.map_id]; exact u, fun x hx => ?_, fun e he => List.mem_map.mpr ⟨e, he, rfl⟩, ?_, fun j x hj => absurd hj (Nat.not_lt_zero _), fun x hx y hy => ?_, fun x hx => ?_⟩
  · obtain ⟨e, he, rfl⟩ := List.mem_map.mp hx
    exact ⟨[], e, rfl, he, rfl⟩
  · rw [List.pairwise_map]
    exact u.imp fun _ => Int.le_refl _
  · obtain ⟨e, he, rfl⟩ := List.mem_map.mp hy
    obtain ⟨e2, he2, rfl⟩ := List.mem_map.mp (List.mem_of_getElem? hx)
    show (0 : Int) ≤ 0 + 1
    omega
  · obtain ⟨e, he, rfl⟩ := List.mem_map.mp hx
    exact List.mem_append_left _ he
theorem bfs_end {w : Web} {a : Nat} {f : Fr} (h : Bfs w a f) (ha : f.length ≤ a) : FarOk w f := by
  refine ⟨h.nd, h.road, fun l => ?_⟩
  induction l with
  | nil =>
    intro s e he hp
    exact ⟨0, by rw [show s = e from hp]; exact h.ends e he, by simp⟩
  | cons p l ih =>
    rintro s e he ⟨t, h1, h2⟩
    obtain ⟨n, h3, h4⟩ := ih t e he h2
    obtain ⟨j, hj⟩ := List.getElem?_of_mem h3
    have lt := (List.getElem?_eq_some_iff.mp hj).1
    obtain ⟨m, h5, h6⟩ := h.near j _ (by omega) hj s p h1
    refine ⟨m, h5, ?_⟩
    rw [List.length_cons]
    have h6' : m ≤ n + 1 := h6
    omega
/-- while the states behind x = f[at] are put -/
structure Mid (w : Web) (at_ : Nat) (f0 : Fr) (x : Int × Int) (done : List Int) (f : Fr) : Prop where
  ext : ∃ g, f = f0 ++ g ∧ ∀ y ∈ g, y.2 = x.2 + 1 ∧ ∃ p, (y.1, p, x.1) ∈ w.2.1
  nd : (f.map (·.1)).Nodup
  don : ∀ s ∈ done, s ∈ f.map (·.1)
theorem mid_start {w : Web} {a : Nat} {f0 : Fr} {x : Int × Int} (h : Bfs w a f0) : Mid w a f0 x [] f0 := ⟨⟨[], by simp, fun y hy => nomatch hy⟩, h.nd, fun s hs => nomatch hs⟩
theorem Mid.old {w : Web} {a : Nat} {f0 f : Fr} {x : Int × Int} {done : List Int} {s : Int} (m : Mid w a f0 x done f) (h : s ∈ f.map (·.1)) : Mid w a f0 x (done ++ [s]) f := ⟨m.ext, m.nd, fun t ht => by
  rcases List.mem_append.mp ht with z | z
  · exact m.don t z
  · rw [List.mem_singleton.mp z]; exact h⟩
theorem Mid.new {w : Web} {a : Nat} {f0 f : Fr} {x : Int × Int} {done : List Int} {s : Int} {p : Pn} (m : Mid w a f0 x done f) (h : s ∉ f.map (·.1)) (e : (s, p, x.1) ∈ w.2.1) : Mid w a f0 x (done ++ [s]) (f ++ [(s, x.2 + 1)]) := by
  obtain ⟨g, eg, hg⟩ := m.ext
  refine ⟨⟨g ++ [(s, x.2 + 1)], by rw [eg, List.append_assoc], fun y hy => ?_⟩, ?_, fun t ht => ?_⟩
  · rcases List.mem_append.mp hy with z | z
    · exact hg y z
    · rw [List.mem_singleton.mp z]
      exact ⟨rfl, p, e⟩
  · rw [List.map_append]
    refine List.nodup_append.mpr ⟨m.nd, by simp, fun b hb c hc z => ?_⟩
    rw [List.mem_singleton.mp hc] at z
    have z' : b = s := z
    rw [z'] at hb
    exact h hb
  · rw [List.map_append]
    rcases List.mem_append.mp ht with z | z
    · exact List.mem_append_left _ (m.don t z)
    · rw [List.mem_singleton.mp z]
      exact List.mem_append_right _ (List.mem_singleton.mpr rfl)
theorem Mid.len {w : Web} {a : Nat} {f0 f : Fr} {x : Int × Int} {done : List Int} (m : Mid w a f0 x done f) (h : Bfs w a f0) : f.length ≤ w.2.2.length + w.2.1.length := by
  obtain ⟨g, eg, hg⟩ := m.ext
  have := S2.nd_len (U := w.2.2 ++ w.2.1.map (·.1)) m.nd fun s hs => by
    obtain ⟨y, hy, rfl⟩ := List.mem_map.mp hs
    rw [eg] at hy
    rcases List.mem_append.mp hy with z | z
    · exact h.src y z
    · obtain ⟨_, p, e⟩ := hg y z
      exact List.mem_append_right _ (List.mem_map.mpr ⟨_, e, rfl⟩)
  rw [List.length_map, List.length_append, List.length_map] at this
  exact this
theorem mid_end {w : Web} {a : Nat} {f0 f : Fr} {x : Int × Int} {done : List Int} (h : Bfs w a f0) (hx : f0[a]? = some x) (m : Mid w a f0 x done f) (all : ∀ s p, (s, p, x.1) ∈ w.2.1 → s ∈ done) : Bfs w (a + 1) f := by
  obtain ⟨g, eg, hg⟩ := m.ext
  have lt := (List.getElem?_eq_some_iff.mp hx).1
  have hm := List.mem_of_getElem? hx
  have lim := h.lim x hx
  have vals : ∀ y ∈ f, y.2 ≤ x.2 + 1 := fun y hy => by
    rw [eg] at hy
    rcases List.mem_append.mp hy with z | z
    · exact lim y z
    · rw [(hg y z).1]; exact Int.le_refl _
  have mono : f.Pairwise fun x y => x.2 ≤ y.2 := by
    rw [eg]
    refine List.pairwise_append.mpr ⟨h.mono, ?_, fun y hy z hz => ?_⟩
    · refine List.pairwise_of_forall_mem_list fun y hy z hz => ?_
      rw [(hg y hy).1, (hg z hz).1]
      exact Int.le_refl _
    · rw [(hg z hz).1]
      exact lim y hy
  refine ⟨m.nd, fun y hy => ?_, fun e he => ?_, mono, fun j y hj hy s p hs => ?_, fun y hy z hz => ?_, fun y hy => ?_⟩
  · rw [eg] at hy
    rcases List.mem_append.mp hy with z | z
    · exact h.road y z
    · obtain ⟨e1, p, e2⟩ := hg y z
      obtain ⟨l, e, h1, h2, h3⟩ := h.road x hm
      refine ⟨p :: l, e, ?_, h2, x.1, e2, h3⟩
      rw [List.length_cons, e1]
      omega
  · rw [eg]
    exact List.mem_append_left _ (h.ends e he)
  · rcases Nat.lt_or_ge j a with z | z
    · have : f0[j]? = some y := by
        rw [eg, List.getElem?_append_left (by omega)] at hy
        exact hy
      obtain ⟨n, h1, h2⟩ := h.near j y z this s p hs
      exact ⟨n, by rw [eg]; exact List.mem_append_left _ h1, h2⟩
    · have ej : j = a := by omega
      subst ej
      rw [eg, List.getElem?_append_left lt, hx] at hy
      cases hy
      obtain ⟨y2, hy2, e2⟩ := List.mem_map.mp (m.don s (all s p hs))
      refine ⟨y2.2, by rw [← e2]; exact hy2, vals y2 hy2⟩
  · have : x.2 ≤ y.2 := by
      have hxf : f[a]? = some x := by rw [eg, List.getElem?_append_left lt]; exact hx
      have l1 := (List.getElem?_eq_some_iff.mp hy).1
      have l2 := (List.getElem?_eq_some_iff.mp hxf).1
      have := List.pairwise_iff_getElem.mp mono a (a + 1) l2 l1 (by omega)
      rw [(List.getElem?_eq_some_iff.mp hxf).2, (List.getElem?_eq_some_iff.mp hy).2] at this
      exact this
    have := vals z hz
    omega
  · rw [eg] at hy
    rcases List.mem_append.mp hy with z | z
    · exact h.src y z
    · obtain ⟨_, p, e⟩ := hg y z
      exact List.mem_append_right _ (List.mem_map.mpr ⟨_, e, rfl⟩)
theorem dk_self {ys : List Int} (h : ys.Nodup) : dk ys = ys := by
  obtain ⟨r, hr⟩ : ∃ r, r = ys.reverse := ⟨_, rfl⟩
  have e : ys = r.reverse := by rw [hr, List.reverse_reverse]
  subst e
  clear hr
  induction r with
  | nil => rfl
  | cons y r ih =>
    rw [List.reverse_cons] at h ⊢
    have hh := List.nodup_append.mp h
    rw [dk_snoc, ih hh.1]
    unfold addK
    rw [if_neg fun z => hh.2.2 y z y (List.mem_singleton.mpr rfl) rfl]
theorem farK_val {f : Fr} {s : Int} (nd : (f.map (·.1)).Nodup) : (∃ n, (s, n) ∈ f ∧ valV (farK f) (Sum.inl s) = some (.int n)) ∨ (s ∉ f.map (·.1) ∧ valV (farK f) (Sum.inl s) = none) := by
  unfold valV
  cases e : (farK f).find? fun kv => decide (kv.1 = Sum.inl s) with
  | none =>
    refine .inr ⟨fun z => ?_, rfl⟩
    obtain ⟨x, hx, ex⟩ := List.mem_map.mp z
    rw [List.find?_eq_none] at e
    exact e (Sum.inl x.1, V.int x.2) (List.mem_map.mpr ⟨x, hx, rfl⟩) (decide_eq_true (by rw [ex]))
  | some kv =>
    obtain ⟨x, hx, rfl⟩ := List.mem_map.mp (List.mem_of_find?_eq_some e)
    have e2 : (Sum.inl x.1 : L2.Key) = Sum.inl s := of_decide_eq_true (List.find?_some (p := fun kv : L2.Key × V => decide (kv.1 = Sum.inl s)) e)
    injection e2 with e2
    exact .inl ⟨x.2, by rw [← e2]; exact hx, rfl⟩
theorem farK_put {f : Fr} {s n : Int} (h : s ∉ f.map (·.1)) : putK (farK f) (Sum.inl s) (.int n) = farK (f ++ [(s, n)]) := by
  unfold putK
  rw [if_neg]
  · unfold farK
    rw [List.map_append]
    rfl
  · intro z
    obtain ⟨x, hx, e⟩ := List.any_eq_true.mp z
    obtain ⟨y, hy, rfl⟩ := List.mem_map.mp hx
    have e' : (Sum.inl y.1 : L2.Key) = Sum.inl s := of_decide_eq_true e
    injection e' with e'
    exact h (List.mem_map.mpr ⟨y, hy, e'⟩)
def into (w : Web) (s : Int) : List Int := (w.2.1.filter fun e => decide (e.2.2 = s)).map (·.1)
theorem behind_of (w : Web) (s : Int) : ofKey (behindI w) s = (into w s).map .int := by
  unfold ofKey behindI into
  rw [List.filter_map, List.map_map, List.map_map]
  rfl
theorem into_mem {w : Web} {s t : Int} : t ∈ into w s ↔ ∃ p, (t, p, s) ∈ w.2.1 := by
  unfold into
  rw [List.mem_map]
  constructor
  · rintro ⟨e, he, rfl⟩
    obtain ⟨h1, h2⟩ := List.mem_filter.mp he
    have h2' : e.2.2 = s := of_decide_eq_true h2
    exact ⟨e.2.1, by rw [← h2']; exact h1⟩
  · rintro ⟨p, h⟩
    exact ⟨(t, p, s), List.mem_filter.mpr ⟨h, decide_eq_true rfl⟩, rfl⟩
end MM

set_option maxHeartbeats 4000000
namespace MM
open PySem PySem.Spec PyProof.Rows L2 G3 M0 LP
abbrev nFar : List Str := ["machine", "behind", "far", "state", "queue", "at", "nearer"]
theorem scFar : FnScope nFar ["machine"] (defScope s_far_from_end) := ⟨rfl, rfl, rfl, by decide +kernel, rfl, by decide +kernel, by decide +kernel⟩
theorem op_dNotIn {X : Cx} (hu : X.A.units + 1 < cLine) : OpR X (compareOp .NotIn) (fun x y H Q => ∃ a o, y = .ref a ∧ DGet H a x o ∧ Q (.bl (!o.isSome)) H) := by
  intro pins s σ H x y v u Q I rx ry h
  obtain ⟨a, o, rfl, g, q⟩ := h
  cases ry
  exact d_notIn hu I g rx fun s' I' => ⟨.bl _, H, I', rfl, q⟩
theorem pair_one {s n m : Int} : ∀ {g : Fr}, (g.map (·.1)).Nodup → (s, n) ∈ g → (s, m) ∈ g → n = m
  | [], _, h, _ => nomatch h
  | x :: g, nd, h1, h2 => by
    rw [List.map_cons, List.nodup_cons] at nd
    rcases List.mem_cons.mp h1 with e1 | e1
    · rcases List.mem_cons.mp h2 with e2 | e2
      · rw [← e2] at e1
        exact congrArg Prod.snd e1
      · exact absurd (List.mem_map.mpr ⟨_, e2, by rw [← e1]⟩) nd.1
    · rcases List.mem_cons.mp h2 with e2 | e2
      · exact absurd (List.mem_map.mpr ⟨_, e1, by rw [← e2]⟩) nd.1
      · exact pair_one nd.2 e1 e2
section
variable {P : Program} {w : World} {K : PySem.W.Frag} {mg : Str → Option Value} {base : Heap}
def spFar (K : PySem.W.Frag) : Sp := fun vs H Q _ => ∃ (m : V) (wb : Web), vs = [m] ∧ Dp K H m (webD wb) ∧ WebOk wb ∧ ∀ H' F f, Same H H' → H F = none → H' F = some (.dK (farK f)) → FarOk wb f → Q (.ref F) H'
set_option maxHeartbeats 32000000 in
theorem ok_far {f : Addr} {fd : FuncData} {k : Nat} (F : Fun K "far_from_end" "far_from_end" s_far_from_end f fd) (DB : Def P w K mg base CX0 (k + 1) "edges_behind" ["machine"] (spAdj K behindI)) (m_list : mg "list" = none) (m_len : mg "len" = none) : FnOk P w K mg base CX0 (k + 1 + 1) f fd ["machine"] (spFar K) := by
  refine F.ok scFar (fun vs H Q E h => ?_) (fun cdv A outer s H vs Q E hr h => ?_)
  · obtain ⟨m, wb, rfl, _⟩ := h
    rfl
  obtain ⟨m, wb, rfl, hm, ok, q⟩ := h
  have nd := scFar.nd
  have hu := hu_of hr
  refine ⟨_, (pss_cons (ps_set (i := 1) nd rfl (.inl rfl) (pe_call DB.ok hr (by rfl) DB.g DB.kp DB.b .nil pass0 (pa_cons (pv 0) pa_nil)))
    (pss_cons (XC.ps_setDc (i := 2) (own := [("state", 3)]) (g := (gName 3)) (tt := tYes) (by rfl) nd rfl rfl (XC.sw_trueD rfl rfl rfl (by decide +kernel)) (pi_tup (pe_ix ix_tup (pv 0) pe_int (fun _ _ => rfl))) (blkOk_by (N := nFar) (sc := defScope s_far_from_end) (by decide +kernel)) (fun _ _ _ _ _ => (pg_name (i := 3) nd rfl (.inl rfl))) (fun _ _ _ _ _ => pts_nil) (fun _ _ _ _ _ => (pv 3)) (fun _ _ _ _ _ => pe_int))
    (pss_cons (ps_set (i := 4) nd rfl (.inl rfl) (pe_callTy (T := "list") call_list_of (by rfl) m_list (by decide +kernel) (pa_cons (pe_ix ix_tup (pv 0) pe_int (fun _ _ => rfl)) pa_nil)))
    (pss_cons (ps_set (i := 5) nd rfl (.inl rfl) pe_int)
    (pss_cons (ps_while PassesOwn.never (pt_cmpR op_lt (pv 5) (pe_callB call_len_seq (by rfl) m_len PySem.boot_len (pa_cons (pv 4) pa_nil)) (nomark _))
      (pss_cons (ps_set (i := 6) nd rfl (.inl rfl) (pe_ix ix_list (pv 4) (pv 5) (fun _ _ => rfl)))
    (pss_cons (ps_for PassesOwn.never rfl (pi_list (pe_dget2 hu (pv 1) (pv 6) (pe_lst pa_nil) ⟨rfl, rfl, rfl, rfl⟩)) (pg_name (i := 3) nd rfl (.inl rfl))
      (pss_one (ps_if (pt_cmpR (op_dNotIn hu) (pv 3) (pv 2) (by rfl)) (pss_cons (ps_dput hu (pv 2) (pv 3) (pe_op op_add (pe_dget hu (pv 2) (pv 6) (fun _ _ => rfl)) pe_int) rfl)
    (pss_one (ps_expr (pe_bm PySem.F.plainAttrs_list PySem.F.slot_list_append PySem.F.type_list_append mt_append (pv 4) (pa_cons (pv 3) pa_nil))))) pss_nil)))
    (pss_one (ps_aug (i := 5) nd rfl (.inl rfl) pe_int ip_add)))))
    (pss_one (ps_ret (pv 2)))))))), ?_⟩
  have ne := ok.e
  have nn := ok.n
  refine ⟨_, rfl, m, wb, rfl, hm, ok, fun X d T sX AX => ?_⟩
  obtain ⟨a, ba, ca, da, bs, es, rfl, h0, _, _, _, _, h5⟩ := web_of (dp_same sX _ _ hm)
  refine ⟨_, rfl, a, _, 2, .ref da, rfl, rfl, h0, atI_nat (j := 2) rfl, da, rfl, ⟨_, h5⟩, fun Fa nF => ?_⟩
  show L3.tOver (gName 3) tYes (tPutD Fa (tVar 3) (tC (V.int 0))) [3] _ _ _ _
  refine dc_pick (X := X) (walk_tup (a := da) (xs := wb.2.2.map V.int) (K := K)) (fun G s' => same_tup s' h5) (by rw [List.length_map]; omega) nF (wb.2.2.map fun u => (true, u)) (by rw [List.length_map, List.length_map]) (fun i x b y G R hx hp s1 go => ?_) (fun H3 s3 hF => ?_)
  · rw [List.getElem?_map] at hx hp
    obtain ⟨z, hz, rfl⟩ := Option.map_eq_some_iff.mp hx
    rw [hz] at hp
    cases hp
    exact ⟨rfl, go _ _ (Same.refl _) fun _ Q' hQ => ⟨_, rfl, hQ _ (Same.refl _)⟩⟩
  rw [pickI_true, dk_self ok.u] at hF
  have hF' : H3 Fa = some (.dK (farK (wb.2.2.map fun e => (e, 0)))) := by
    rw [hF]
    unfold sameK farK
    rw [List.map_map]
    rfl
  refine ⟨_, rfl, a, _, 2, .ref da, rfl, rfl, same_tup s3 h0, atI_nat (j := 2) rfl, da, _, rfl, .inr (same_tup s3 h5), fun Lq nL => ?_⟩
  have nLX := same_none s3 nL
  have s4 : Same X (upd H3 Lq (.lst (wb.2.2.map V.int))) := s3.trans (same_new nL)
  have hF4 : (upd H3 Lq (.lst (wb.2.2.map V.int))) Fa = some (.dK (farK (wb.2.2.map fun e => (e, 0)))) := same_new nL _ _ hF'
  have hL4 : (upd H3 Lq (.lst (wb.2.2.map V.int))) Lq = some (.lst ((wb.2.2.map fun e => (e, (0 : Int))).map fun x => V.int x.1)) := by
    rw [upd_same, List.map_map]
    rfl
  have nFL : Fa ≠ Lq := fun z => by rw [z, nL] at hF'; cases hF'
  generalize upd H3 Lq (.lst (wb.2.2.map V.int)) = H4 at s4 hF4 hL4 ⊢
  clear hF hF' s3 nL
  refine ⟨fun mm σ G => ∃ at_ f y3 y6, σ = [some (.ref a), some (.ref d), some (.ref Fa), y3, some (.ref Lq), some (.int (at_ : Nat)), y6] ∧ Same X G ∧ G Fa = some (.dK (farK f)) ∧ G Lq = some (.lst (f.map fun x => V.int x.1)) ∧ Bfs wb at_ f ∧ mm + at_ = wb.2.2.length + wb.2.1.length ∧ at_ ≤ f.length,
    ⟨_, 0, _, _, _, rfl, s4, hF4, hL4, bfs_start ok.u, rfl, Nat.zero_le _⟩, fun mm σ G hP => ?_⟩
  obtain ⟨at_, f, y3, y6, rfl, sG, hFG, hLG, bf, em, al⟩ := hP
  refine ⟨_, rfl, _, rfl, Lq, _, rfl, .inl (SqL.of hLG), _, _, rfl, rfl, _, rfl, ?_⟩
  rw [List.length_map]
  refine ite2 (fun e => ?_) (fun e => ?_)
  rotate_left
  · have ge : f.length ≤ at_ := by
      have := of_decide_eq_false (Bool.eq_false_iff.mpr e)
      omega
    exact ⟨_, rfl, q _ Fa f (sX.trans sG) (same_none sX nF) hFG (bfs_end bf ge)⟩
  have lt : at_ < f.length := by
    have := of_decide_eq_true e
    omega
  have hx : f[at_]? = some f[at_] := List.getElem?_eq_getElem lt
  generalize f[at_] = x at hx
  have hxm := List.mem_of_getElem? hx
  have bl := bf.len
  refine ⟨fun σ' H' => ∃ f y3 y6, σ' = [some (.ref a), some (.ref d), some (.ref Fa), y3, some (.ref Lq), some (.int ((at_ : Int) + 1)), y6] ∧ Same X H' ∧ H' Fa = some (.dK (farK f)) ∧ H' Lq = some (.lst (f.map fun x => V.int x.1)) ∧ Bfs wb (at_ + 1) f ∧ at_ + 1 ≤ f.length, fun σ' H' h' => ?_, ?_⟩
  · obtain ⟨f2, y3, y6, rfl, s2, g1, g2, b2, l2⟩ := h'
    exact ⟨mm - 1, by omega, at_ + 1, f2, y3, y6, rfl, s2, g1, g2, b2, by omega, l2⟩
  refine ⟨_, rfl, _, rfl, Lq, _, at_, .int x.1, rfl, rfl, SqL.of hLG, atI_nat (j := at_) (by rw [List.getElem?_map, hx]; rfl), ?_⟩
  have AG := AX.same sG
  refine ⟨_, rfl, d, rfl, .inl ⟨_, .inl AG.hd⟩, _, rfl, Nat.zero_le _, fun ql nq => ⟨valV (tabK T) (Sum.inl x.1), DGet.k (k := Sum.inl x.1) (same_new nq _ _ AG.hd), ?_⟩⟩
  have sq : Same G (upd G ql (.lst [])) := same_new nq
  obtain ⟨La, eLa, hLa, n1, n2⟩ : ∃ La, (valV (tabK T) (Sum.inl x.1)).getD (.ref ql) = .ref La ∧ (upd G ql (.lst [])) La = some (.lst ((into wb x.1).map V.int)) ∧ La ≠ Fa ∧ La ≠ Lq := by
    obtain ⟨h1, h2⟩ := AX.look x.1
    rw [behind_of] at h1
    have e1 := ints_of h1
    rcases h2 with ⟨L, eL, hL⟩ | ⟨eL, e0⟩
    · rw [e1] at hL
      exact ⟨L, by rw [eL]; rfl, sq _ _ (sG _ _ hL), (fun z => by rw [z, nF] at hL; cases hL), (fun z => by rw [z, nLX] at hL; cases hL)⟩
    · rw [e0] at e1
      exact ⟨ql, by rw [eL]; rfl, by rw [upd_same, ← e1], (fun z => by rw [z, hFG] at nq; cases nq), (fun z => by rw [z, hLG] at nq; cases nq)⟩
  have sG1 : Same X (upd G ql (.lst [])) := sG.trans sq
  have hF1 := sq _ _ hFG
  have hL1 := sq _ _ hLG
  rw [eLa]
  generalize upd G ql (.lst []) = G1 at hLa sG1 hF1 hL1 ⊢
  clear sq nq eLa AG
  refine ⟨La, rfl, ⟨_, SqL.of hLa⟩, for_list (xs := (into wb x.1).map V.int) (fun j σ G2 => ∃ f2 y3, σ = [some (.ref a), some (.ref d), some (.ref Fa), y3, some (.ref Lq), some (.int (at_ : Nat)), some (.int x.1)] ∧ Same X G2 ∧ G2 Fa = some (.dK (farK f2)) ∧ G2 Lq = some (.lst (f2.map fun x => V.int x.1)) ∧ G2 La = some (.lst ((into wb x.1).map V.int)) ∧ Mid wb at_ f x ((into wb x.1).take j) f2)
    ⟨f, _, rfl, sG1, hF1, hL1, hLa, mid_start bf⟩ (fun j σ G2 _ hP => ?_) (fun j u σ G2 hu' hP => ?_) (fun σ G2 hP => ?_)⟩
  · obtain ⟨_, _, _, _, _, _, h, _⟩ := hP
    exact SqL.of h
  · obtain ⟨f2, z3, rfl, s2, g1, g2, g3, mi⟩ := hP
    rw [List.getElem?_map] at hu'
    obtain ⟨t, ht, rfl⟩ := Option.map_eq_some_iff.mp hu'
    have tk : (into wb x.1).take (j + 1) = (into wb x.1).take j ++ [t] := by rw [List.take_add_one, ht]; rfl
    refine ⟨_, rfl, _, rfl, Fa, valV (farK f2) (Sum.inl t), rfl, DGet.k (k := Sum.inl t) g1, _, rfl, ?_⟩
    rcases farK_val (s := t) mi.nd with ⟨n, hn, en⟩ | ⟨hn, en⟩
    · rw [en]
      refine iteF ⟨f2, _, rfl, s2, g1, g2, g3, by rw [tk]; exact mi.old (List.mem_map.mpr ⟨_, hn, rfl⟩)⟩
    · rw [en]
      refine iteT ?_
      obtain ⟨p, hp⟩ := into_mem.mp (List.mem_of_getElem? ht)
      have hx2 : x ∈ f2 := by
        obtain ⟨g, eg, _⟩ := mi.ext
        rw [eg]
        exact List.mem_append_left _ hxm
      have ex : valV (farK f2) (Sum.inl x.1) = some (.int x.2) := by
        rcases farK_val (s := x.1) mi.nd with ⟨n, hn', en'⟩ | ⟨hn', _⟩
        · rw [en', pair_one mi.nd hn' (show (x.1, x.2) ∈ f2 from hx2)]
        · exact absurd (List.mem_map.mpr ⟨x, hx2, rfl⟩) hn'
      have hd : DGet G2 Fa (.int x.1) (some (.int x.2)) := by
        have := DGet.k (k := Sum.inl x.1) g1
        rw [ex] at this
        exact this
      have ml := mi.len bf
      have flen : (farK f2).length < sizeLine := by
        unfold farK
        rw [List.length_map]
        exact LC.small_line (by omega)
      refine ⟨_, rfl, _, rfl, Fa, _, rfl, hd, x.2, 1, rfl, rfl, _, rfl, _, rfl, Fa, _, rfl, DPut.k (k := Sum.inl t) g1 flen, ?_⟩
      rw [farK_put hn]
      have s3 : Same X (upd G2 Fa (.dK (farK (f2 ++ [(t, x.2 + 1)])))) := same_put s2 nF
      have h1 : (upd G2 Fa (.dK (farK (f2 ++ [(t, x.2 + 1)])))) Fa = some (.dK (farK (f2 ++ [(t, x.2 + 1)]))) := upd_same
      have h2 : (upd G2 Fa (.dK (farK (f2 ++ [(t, x.2 + 1)])))) Lq = some (.lst (f2.map fun x => V.int x.1)) := by rw [upd_ne nFL.symm]; exact g2
      have h3 : (upd G2 Fa (.dK (farK (f2 ++ [(t, x.2 + 1)])))) La = some (.lst ((into wb x.1).map V.int)) := by rw [upd_ne n1]; exact g3
      generalize upd G2 Fa (.dK (farK (f2 ++ [(t, x.2 + 1)]))) = G3 at s3 h1 h2 h3 ⊢
      refine ⟨_, rfl, .inl ⟨rfl, _, SqL.of h2⟩, _, rfl, Lq, _, _, rfl, rfl, h2, LC.small_line (by rw [List.length_map]; omega), f2 ++ [(t, x.2 + 1)], _, rfl, same_put s3 nLX, by rw [upd_ne nFL]; exact h1, ?_, by rw [upd_ne n2]; exact h3, by rw [tk]; exact mi.new hn hp⟩
      rw [upd_same, List.map_append]
      rfl
  · obtain ⟨f2, z3, rfl, s2, g1, g2, _, mi⟩ := hP
    rw [List.length_map, List.take_length] at mi
    refine ⟨_, rfl, at_, 1, rfl, rfl, f2, _, _, rfl, s2, g1, g2, mid_end bf hx mi fun s p h => into_mem.mpr ⟨p, h⟩, ?_⟩
    obtain ⟨g, eg, _⟩ := mi.ext
    rw [eg, List.length_append]
    omega
end
end MM

set_option maxHeartbeats 4000000
/-! sorted of tuples some of which are empty -/
namespace XN
open PySem PySem.Spec PyProof.Rows
section
variable {prog : Program} {w : World} {A : Around} {E : Value → Shared → Prop} {s : Shared}
theorem alike_tup {xs ys : List PyData} (h : PySem.W.alike (.tuple xs) (.tuple ys) = true) : PySem.W.alikeAll xs ys = true := by simpa only [PySem.W.alike] using h
/-- x < y of two tuples, asked of their own type alone -/
theorem oneLt_tup {x y : Addr} {xs ys : List PyData} {as bs : List Addr} {Q : Bool → Shared → Prop} (rx : Reads s.heap (.ref x) (.tuple xs) as) (ry : Reads s.heap (.ref y) (.tuple ys) bs) (al : PySem.W.alike (.tuple xs) (.tuple ys) = true) (hu : A.units + (PyData.tuple xs).depth < cLine)
    (q : Q (PySem.W.dataLt (.tuple xs) (.tuple ys)) s) : wpAny (model prog w) A (oneLt' true (.ref x) (.ref y)) Q E s := by
  cases rx with
  | @tuple _ ox vx nx _ _ g1 c1 d1 r1 =>
  cases ry with
  | @tuple _ oy vy ny _ _ g2 c2 d2 r2 =>
  have hal := alike_tup al
  have n1 := SeqAt.ReadsAll.length _ _ _ r1
  have n2 := SeqAt.ReadsAll.length _ _ _ r2
  have dep : (PyData.tuple xs).depth = PyData.depthAll xs + 1 := by simp only [PyData.depth]
  rw [dep] at hu
  have room : A.in1.units + min (PyData.depthAll xs) (PyData.depthAll ys) < cLine := by
    show A.units + 1 + _ < _
    have := Nat.min_le_left (PyData.depthAll xs) (PyData.depthAll ys)
    omega
  rw [oneLt'_eq]
  dsimp only
  rw [if_pos rfl]
  refine wpAny_bind (wpAny_cRoomFor (by omega) ?_)
  obtain ⟨cls1, dd1, data1, sl1⟩ := ox
  obtain ⟨cls2, dd2, data2, sl2⟩ := oy
  cases c1
  cases c2
  cases d1
  cases d2
  refine wpAny_bind (wpAny_callSpecialIfBound?_slot (T := "tuple") ⟨_, g1, rfl⟩ F.slot_tuple_lt (call_meets F.slot_tuple_lt ⟨_, g1, rfl⟩ F.entry_tuple_lt (F.args_tuple_lt_2 (.ref x) (.ref y)) (SeqAt.tuple_ltAt x y vx vy nx ny dd1 dd2 sl1 sl2 (SeqAt.pairEq xs ys) fun j => PySem.W.dataLt (xs.getD j .none) (ys.getD j .none)) ⟨g1, g2, fun j j1 j2 => ?_, fun j j1 j2 hj => ?_, ?_⟩))
  · have := PySem.W.eqAt_alikeAll xs ys A.in1 s vx.toList vy.toList _ _ r1 r2 hal room j (by simpa using j1) (by simpa using j2)
    simpa using this
  · have := PySem.W.rcLt_alikeAll xs ys A.in1 s vx.toList vy.toList _ _ r1 r2 hal room j (by simpa using j1) (by simpa using j2) hj
    simpa using this
  · have e1 : vx.size = xs.length := by simpa using n1
    have e2 : vy.size = ys.length := by simpa using n2
    rw [e1, e2, PySem.W.firstLt_toks xs ys hal, ← PySem.W.dataLt_tuple]
    show wpAny _ _ (truthOfDropped (.bool _)) _ _ _
    exact wpAny_pure q
def nonE : PyData → Bool
  | .tuple (_ :: _) => true
  | _ => false
theorem first_one {v : Value} {xs : List PyData} {as : List Addr} {Q : Option Value → Shared → Prop} {M : Model} (r : Reads s.heap v (.tuple xs) as) (q : ∀ o : Option Value, o.isSome = nonE (.tuple xs) → Q o s) : wpAny M A (firstOfTuple' v) Q E s := by
  cases r with
  | @tuple a o vs n _ _ h1 h2 h3 h4 =>
  have nl := SeqAt.ReadsAll.length _ _ _ h4
  rw [PySem.W.kas_first_eq]
  refine wpAny_bind (wpAny_typeOf (show s.TypeIs (.ref a) "tuple" from ⟨o, h1, h2⟩) ?_)
  rw [if_neg (by decide)]
  refine wpAny_bind (listItems_at h1 h3 (wpAny_pure (q _ ?_)))
  cases xs with
  | nil =>
    have : vs.size = 0 := by simpa using nl
    rw [Array.getElem?_eq_none (by omega)]
    rfl
  | cons x xs =>
    have : 0 < vs.size := by
      have : vs.size = xs.length + 1 := by simpa using nl
      omega
    rw [Array.getElem?_eq_getElem this]
    rfl
theorem firsts {M : Model} : ∀ {vs : List Value} {ds : List PyData}, PySem.W.EachIs (fun v d => ∃ as, Reads s.heap v d as) vs ds → (∀ d ∈ ds, ∃ xs, d = .tuple xs) → ∀ {Q : List (Option Value) → Shared → Prop}, (∀ fs : List (Option Value), fs.map (·.isSome) = ds.map nonE → Q fs s) → wpAny M A (vs.mapM firstOfTuple') Q E s
  | _, _, .nil, _, _, q => by
    rw [List.mapM_nil]
    exact wpAny_pure (q [] rfl)
  | _, _, .cons ⟨as, r⟩ t, tup, Q, q => by
    rw [List.mapM_cons]
    obtain ⟨xs, rfl⟩ := tup _ List.mem_cons_self
    refine wpAny_bind (first_one r fun o ho => wpAny_bind (firsts t (fun d hd => tup d (List.mem_cons_of_mem _ hd)) fun fs hf => wpAny_pure (q _ ?_)))
    rw [List.map_cons, List.map_cons, ho, hf]
theorem types {M : Model} : ∀ {vs : List Value} {ds : List PyData}, PySem.W.EachIs (fun v d => ∃ as, Reads s.heap v d as) vs ds → (∀ d ∈ ds, ∃ xs, d = .tuple xs) → ∀ {Q : List Value → Shared → Prop}, Q (vs.map fun _ => .type "tuple") s → wpAny M A (vs.mapM typeOf) Q E s
  | _, _, .nil, _, _, q => by
    rw [List.mapM_nil]
    exact wpAny_pure q
  | _, _, .cons ⟨as, r⟩ t, tup, Q, q => by
    rw [List.mapM_cons]
    obtain ⟨xs, rfl⟩ := tup _ List.mem_cons_self
    cases r with
    | @tuple a o vs n _ _ h1 h2 h3 h4 =>
    exact wpAny_bind (wpAny_typeOf (show s.TypeIs (.ref a) "tuple" from ⟨o, h1, h2⟩) (wpAny_bind (types t (fun d hd => tup d (List.mem_cons_of_mem _ hd)) (wpAny_pure q))))
theorem dataKindE {vs : List Value} {ds : List PyData} (e : PySem.W.EachIs (fun v d => ∃ as, Reads s.heap v d as) vs ds) (hal : PySem.W.AllAlike ds) (tup : ∀ d ∈ ds, ∃ xs, d = .tuple xs) (emp : PyData.tuple [] ∈ ds) (hu : ∀ d ∈ ds, A.units + d.depth < cLine) : PySem.W.SortsAt prog w A s (PySem.W.dataKind s.heap ds) vs := by
  have ltG : PyProof.Rows.H.LtAt prog w A s (PySem.W.dataKind s.heap ds) general' := fun E x y a b Q ha hb hq => by
    obtain ⟨d, as, hd, ra, rfl⟩ := PySem.W.dataKind_inv ha
    obtain ⟨d2, bs, hd2, rb, rfl⟩ := PySem.W.dataKind_inv hb
    obtain ⟨xs, rfl⟩ := tup d hd
    have al := hal _ hd _ hd2
    show wpAny _ _ (oneLt' false x y) _ _ _
    refine PySem.W.oneLt_alike (f := false) (fun h => by cases h) ra rb al (fun h => by cases h) ?_ hq
    have h1 := hu _ hd
    have h2 := Nat.min_le_left (PyData.tuple xs).depth d2.depth
    omega
  have ltO : PyProof.Rows.H.LtAt prog w A s (PySem.W.dataKind s.heap ds) oneType' := fun E x y a b Q ha hb hq => by
    obtain ⟨d, as, hd, ra, rfl⟩ := PySem.W.dataKind_inv ha
    obtain ⟨d2, bs, hd2, rb, rfl⟩ := PySem.W.dataKind_inv hb
    obtain ⟨xs, rfl⟩ := tup d hd
    obtain ⟨ys, rfl⟩ := tup d2 hd2
    have al := hal _ hd _ hd2
    rw [keyLt'_oneType]
    cases ra with
    | tuple h1 h2 h3 h4 =>
    cases rb with
    | tuple k1 k2 k3 k4 =>
    exact oneLt_tup (.tuple h1 h2 h3 h4) (.tuple k1 k2 k3 k4) al (hu _ hd) hq
  refine ⟨fun v hv => ?_, ?_⟩
  · obtain ⟨d, hd, as, r⟩ := e.left v hv
    exact ⟨_, PySem.W.dataKind_some hal hd r⟩
  · -- which way is gone hangs on the first key
    have some_none : ∃ d ∈ ds.map nonE, d = false := ⟨false, List.mem_map.mpr ⟨_, emp, rfl⟩, rfl⟩
    have go : ∀ (E : Value → Shared → Prop) {Q : SortKind → Shared → Prop}, 2 ≤ vs.length → (∀ b : Bool, (ds.map nonE)[0]? = some b → Q (if b = true then general' else oneType') s) → wpAny (model prog w) A (keyKind' vs.toArray) Q E s := fun E Q l2 q => by
      rw [keyKind'_eq, List.mapM_toArray]
      refine wpAny_bind (wpAny_map (firsts e tup fun fs hf => ?_))
      have nall : (fs.toArray.all fun x => x.isSome) = false := by
        rw [List.all_toArray]
        obtain ⟨b, hb, eb⟩ := some_none
        rw [← hf] at hb
        obtain ⟨x, hx, ex⟩ := List.mem_map.mp hb
        exact List.all_eq_false.mpr ⟨x, hx, by rw [ex, eb]; decide⟩
      rw [if_neg (by rw [nall]; decide)]
      have fl : fs.length = vs.length := by
        have h1 := congrArg List.length hf
        rw [List.length_map, List.length_map] at h1
        have h2 : vs.length = ds.length := e.length
        omega
      cases fs with
      | nil =>
        rw [List.length_nil] at fl
        omega
      | cons o fs =>
        have hb : (ds.map nonE)[0]? = some o.isSome := by rw [← hf]; rfl
        have q0 := q _ hb
        show wpAny _ _ (if o.isSome = true then _ else _) _ _ _
        by_cases ho : o.isSome = true
        · rw [if_pos ho] at q0 ⊢
          exact wpAny_pure q0
        · rw [if_neg ho] at q0 ⊢
          rw [oneTypeOnly'_eq, List.mapM_toArray]
          refine wpAny_bind (wpAny_bind (wpAny_map (types e tup ?_)))
          obtain ⟨v0, vr, rfl⟩ : ∃ v0 vr, vs = v0 :: vr := by
            cases vs with
            | nil => simp at l2
            | cons v0 vr => exact ⟨v0, vr, rfl⟩
          have h0 : ((List.map (fun _ => Value.type "tuple") (v0 :: vr)).toArray)[0]? = some (Value.type "tuple") := rfl
          rw [h0]
          have ha : (((List.map (fun _ => Value.type "tuple") (v0 :: vr)).toArray).all fun x => x == Value.type "tuple") = true := by
            rw [List.all_toArray, List.all_eq_true]
            intro x hx
            obtain ⟨_, _, rfl⟩ := List.mem_map.mp hx
            decide
          show wpAny _ _ (pure (if _ then _ else _)) _ _ _
          rw [if_pos ha]
          exact wpAny_pure (wpAny_pure q0)
    cases hd : (ds.map nonE)[0]? with
    | none => exact ⟨oneType', ltO, fun l2 E Q q => go E l2 fun b hb => by rw [hd] at hb; cases hb⟩
    | some b =>
      cases b with
      | true => exact ⟨general', ltG, fun l2 E Q q => go E l2 fun b hb => by rw [hd] at hb; cases hb; exact q⟩
      | false => exact ⟨oneType', ltO, fun l2 E Q q => go E l2 fun b hb => by rw [hd] at hb; cases hb; exact q⟩
end
end XN

set_option maxHeartbeats 4000000
namespace XO
open PySem PySem.Spec PyProof.Rows L2 S1 S2 G3
theorem list_sort_dataE {prog : Program} {w : World} {A : Around} {E : Value → Shared → Prop} {s : Shared} {β : Type} {vs : List Value} {bs : List β} {enc : β → PyData} {R : Value → β → Prop} {a : Addr} {n : Nat} {Q : Value → Shared → Prop}
    (ho : s.heap.get? a = some (seqObj "list" vs.toArray n)) (e : PySem.W.EachIs R vs bs) (er : PySem.W.EachIs (fun v b => ∃ as, Reads s.heap v (enc b) as ∧ a ∉ as) vs bs) (hal : PySem.W.AllAlike (bs.map enc))
    (hk : PySem.W.Sortable (bs.map enc) ∨ ((∀ d ∈ bs.map enc, ∃ xs, d = PyData.tuple xs) ∧ PyData.tuple [] ∈ bs.map enc)) (hL : bs.length ≤ sizeLine) (hu : ∀ b ∈ bs, A.units + 1 + (enc b).depth < cLine)
    (h : ∀ out : List Value, out.length = bs.length → PySem.W.EachIs R out (bs.mergeSort (PySem.W.dataLe false enc)) → Q .none { heap := sortedHeap s.heap a vs out.toArray, gens := s.gens, drawn := s.drawn, toks := s.toks, os := s.os }) :
    wpAny (model prog w) A (call (.builtin "list.sort") [.ref a]) Q E s := by
  have er' := PySem.W.each_keepBut (h' := PySem.W.sortingHeap s.heap a vs) (fun x o hb q => PySem.W.sortingHeap_old hb q) (fun o q => by rw [ho] at q; cases q; rfl) hal er
  have each := PySem.W.each_map (R := fun v d => ∃ as, Reads (PySem.W.sortingHeap s.heap a vs) v d as) enc er'
  have room := PySem.W.bound_map (A := A.in1) (enc := enc) hu
  refine wpAny_call_entry slot_list_sort ⟨_, ho, rfl⟩ entry_list_sort (PySem.W.list_sort_vals ho (hk.elim (fun z => PySem.W.SortsAt.data each hal z room) fun z => XN.dataKindE each hal z.1 z.2 room) (by rw [e.length]; exact hL) ⟨.none, rfl, h _ ((PySem.W.sortVals_length false rfl).trans e.length) (PySem.W.sortVals_data false e er' hal)⟩) (args_list_sort (.ref a))
section
variable {P : Program} {w : World} {A : Around} {E : Value → Shared → Prop} {s : Shared}
/-- sorted of what gives rows, in whatever order -/
theorem sorted_rowsE {a : Addr} {bs : List S2.Row} {Q : Value → Shared → Prop}
    (coll : ∀ Q1 : List Value → Shared → Prop, (∀ s1 out, (∀ b o, s.heap.get? b = some o → s1.heap.get? b = some o) → s.heap.objs.size ≤ s1.heap.objs.size → s1.gens = s.gens → s1.os = s.os → out.Perm (bs.map fun p => Value.ref p.1) → Q1 out s1) →
      wpAny (model P w) A.in1 (collect (.ref a)) Q1 E s)
    (rd : ∀ p ∈ bs, figures p.2 = true ∧ p.2.depth ≤ 8 ∧ ∃ as, Reads s.heap (.ref p.1) p.2.data as) (al : PySem.W.AllAlike (bs.map fun p => p.2.data)) (so : (PySem.W.Sortable (bs.map fun p => p.2.data) ∨ ((∀ d ∈ bs.map (fun p => p.2.data), ∃ xs, d = PyData.tuple xs) ∧ PyData.tuple [] ∈ bs.map fun p => p.2.data))) (hu : A.units + 64 < cLine) (hL : bs.length ≤ sizeLine)
    (q : ∀ s1 p (out : Array Value) c (M : List S2.Row), (∀ b o, s.heap.get? b = some o → s1.heap.get? b = some o) → s1.gens = s.gens → s1.os = s.os → s.heap.objs.size ≤ p → s1.heap.get? p = some (seqObj "list" out c) → out.toList = M.map (fun p : S2.Row => Value.ref p.1) → M.Perm bs →
      M.Pairwise (fun x y => kLt y.2 x.2 = false) → Q (.ref p) s1) :
    wpAny (model P w) A (call (.builtin "sorted") [.ref a]) Q E s := by
  refine Calls.call_function_entry kind_sorted plain_sorted entry_sorted (args_sorted1 _) ?_
  unfold Builtin.«sorted»
  refine wpAny_bind (m := checkCount "sorted" 1 1 _) (wpAny_pure ?_)
  refine wpAny_bind (coll _ fun s1 out keep sz g o pm => ?_)
  obtain ⟨M0, pm0, e0⟩ := perm_image _ pm bs rfl
  subst e0
  have len0 : M0.length ≤ sizeLine := by rw [pm0.length_eq]; exact hL
  refine wpAny_bind (wpAny_newList ?_ (by rw [List.length_map]; exact len0))
  have atL : (s1.heap.push (seqObj "list" (M0.map fun p => Value.ref p.1).toArray 0)).get? s1.heap.objs.size = some (seqObj "list" (M0.map fun p => Value.ref p.1).toArray 0) := Heap.get?_push_size _ rfl
  have keep2 : ∀ b o, s.heap.get? b = some o → (s1.heap.push (seqObj "list" (M0.map fun p => Value.ref p.1).toArray 0)).get? b = some o := fun b o e => Heap.get?_push_of_some _ (keep b o e)
  have rd2 : ∀ p ∈ M0, ∃ as, Reads (s1.heap.push (seqObj "list" (M0.map fun p => Value.ref p.1).toArray 0)) (.ref p.1) p.2.data as ∧ as = [] := fun p hp => by
    obtain ⟨f, _, as, r⟩ := rd p (pm0.mem_iff.mp hp)
    exact ⟨as, PyProof.Rows.Reads.keeps keep2 r, (key_reads _ _ _ f r).2⟩
  have sub : ∀ d, d ∈ M0.map (fun p => p.2.data) → d ∈ bs.map (fun p => p.2.data) := fun d hd => (pm0.map _).mem_iff.mp hd
  refine wpAny_bind (wpAny_holding (list_sort_dataE (enc := fun p : S2.Row => p.2.data) (s := { s1 with heap := s1.heap.push (seqObj "list" (M0.map fun p => Value.ref p.1).toArray 0) }) atL (each_refs M0) (each_figs M0 rd2) (fun d hd d' hd' => al d (sub d hd) d' (sub d' hd')) ?so len0 (fun p hp => ?dep) fun out len1 each1 => ?_))
  case so =>
    rcases so with (z | z) | ⟨z, y⟩
    · exact .inl (.inl fun d hd => z d (sub d hd))
    · exact .inl (.inr fun d hd => z d (sub d hd))
    · exact .inr ⟨fun d hd => z d (sub d hd), (pm0.map _).mem_iff.mpr y⟩
  case dep =>
    have z := (rd p (pm0.mem_iff.mp hp)).2.1
    have y : p.2.data.depth = p.2.depth := depth_key p.2
    have u : A.in1.units = A.units + 1 := rfl
    rw [u, y]
    omega
  obtain ⟨c, atc⟩ := sortedHeap_at (vs := M0.map fun p => Value.ref p.1) (out := out.toArray) atL
  refine wpAny_pure ⟨_, rfl, q _ s1.heap.objs.size out.toArray c (M0.mergeSort (PySem.W.dataLe false fun p : S2.Row => p.2.data)) (fun b o e => ?_) g o sz atc (refs_each each1) ((List.mergeSort_perm _ _).trans pm0) ?_⟩
  · have z := keep b o e
    have lt := Heap.lt_size z
    show (sortedHeap (s1.heap.push (seqObj "list" (M0.map fun p => Value.ref p.1).toArray 0)) s1.heap.objs.size (M0.map fun p => Value.ref p.1) out.toArray).get? b = some o
    rw [sortedHeap_old (Nat.ne_of_lt lt) (by rw [size_push']; exact Nat.lt_succ_of_lt lt)]
    exact Heap.get?_push_of_some _ z
  · refine (PySem.W.sort_pairwise (PySem.W.sortLe_total _ false _) M0).imp fun {x y} h => ?_
    have h2 : (!kLt y.2 x.2) = true := h
    rwa [Bool.not_eq_true'] at h2
end
section
variable {X : Cx}
/-- sorted(s) of such a set -/
def rSortKE (K : PySem.W.Frag) (w : World) : List V → Hp → VK → Prop := fun vs H Q => ∃ (a : Addr) (L : List S2.Row), vs = [.ref a] ∧ H a = some (setO w a L) ∧ Rows K H L ∧ PySem.W.AllAlike (L.map fun p => p.2.data) ∧ (PySem.W.Sortable (L.map fun p => p.2.data) ∨ ((∀ d ∈ L.map (fun p => p.2.data), ∃ xs, d = PyData.tuple xs) ∧ PyData.tuple [] ∈ L.map fun p => p.2.data)) ∧
  ∀ (p : Addr) (M : List S2.Row), H p = none → M.Perm L → Rises (M.map (·.2)) → Q (.ref p) (upd H p (.lst (M.map fun p => V.ref p.1)))
theorem cr_sortKE (calm : X.calm = true) (hu : X.A.units + 64 < cLine) : CallR X (.builtin "sorted") (rSortKE X.K X.w) := by
  intro pins s σ H vs us Q I r ⟨a, L, e, ha, rw0, al, so, q⟩
  subst e
  rw [Vals.ref1 r]
  have figs := rows_fig I rw0
  obtain ⟨es, ep, t, R⟩ := has_of ((I.hok a _ ha).1 : Stands X.w a L s.heap) figs
  obtain ⟨o, at0, ex, dat⟩ := R.o
  have line : L.length ≤ sizeLine := by have z := R.few; rw [sizeLine_eq]; omega
  have ev : es.toList.map (·.2) = L.map fun p => Value.ref p.1 := by
    rw [R.cells, List.map_map]
    rfl
  refine sorted_rowsE (bs := L) (fun Q1 q1 => collect_set (A := X.A.in1) (I.ok.hd calm) ⟨o, at0, ex.1, dat⟩ R.fits (by unfold scanBound; have z := R.few; have y := many R.cells; omega) R.tab.ris R.led fun s1 out k sz g os pm => q1 s1 out k sz g os (by rw [← ev]; exact pm)) (rows_rd I rw0) al so hu line ?_
  intro s1 p out c M keep g os sz at1 eo pm le
  exact laid_rows I keep g os sz at1 eo (by rw [pm.length_eq]; exact line) fun fr => q p M fr pm (rises_sorted R.once (fun p hp => (rw0 p hp).2.1) al pm le)
end
end XO

set_option maxHeartbeats 4000000
namespace MM
open PySem PySem.Spec PyProof.Rows L2 G3 M0 LP S1 S2
/-! ### controls as keys of sets -/
def ckey (c : Ct) : NestedKey := .tup (c.map .num)
def unkey : NestedKey → Ct
  | .tup ks => ks.map fun k => match k with | .num i => i | _ => 0
  | _ => []
theorem unkey_c (c : Ct) : unkey (ckey c) = c := by
  show List.map _ (c.map NestedKey.num) = c
  rw [List.map_map]
  exact (List.map_congr_left fun _ _ => rfl).trans (List.map_id c)
theorem ckey_inj {a b : Ct} (h : ckey a = ckey b) : a = b := by rw [← unkey_c a, h, unkey_c]
theorem ckey_data (c : Ct) : (ckey c).data = ctD c := by
  have key : ∀ c : List Int, NestedKey.datas (c.map .num) = c.map .int := fun c => by
    induction c with
    | nil => simp only [List.map_nil, NestedKey.datas]
    | cons a c ih => simp only [List.map_cons, NestedKey.datas, NestedKey.data, ih]
  unfold ckey ctD
  simp only [NestedKey.data, key]
theorem ckey_fig (c : Ct) : figures (ckey c) = true := by
  have key : ∀ c : List Int, figuresAll (c.map .num) = true := fun c => by
    induction c with
    | nil => simp only [List.map_nil, figuresAll]
    | cons a c ih => simp only [List.map_cons, figuresAll, figures, ih, Bool.and_self]
  unfold ckey
  simp only [figures, key]
theorem ckey_depth (c : Ct) : (ckey c).depth ≤ 8 := by
  have e : (ckey c).data.depth = (ckey c).depth := depth_key _
  rw [← e, ckey_data]
  have e2 : ∀ l : List Int, PyData.depthAll (l.map .int) = 0 := fun l => by
    induction l with
    | nil => simp [PyData.depthAll]
    | cons a l ih => simp only [List.map_cons, PyData.depthAll, PyData.depth, ih]; rfl
  unfold ctD
  simp only [PyData.depth, e2]
  omega
theorem ct_alike (a b : Ct) : PySem.W.alike (ctD a) (ctD b) = true := by
  unfold ctD
  simp only [PySem.W.alike]
  exact PySem.W.alike_ints a b
theorem ct_alikes {ds : List PyData} (h : ∀ d ∈ ds, ∃ c, d = ctD c) : PySem.W.AllAlike ds := fun d hd e he => by
  obtain ⟨a, rfl⟩ := h d hd
  obtain ⟨b, rfl⟩ := h e he
  exact ct_alike a b
theorem ct_sorts {ds : List PyData} (h : ∀ d ∈ ds, ∃ c, d = ctD c) : PySem.W.Sortable ds ∨ ((∀ d ∈ ds, ∃ xs, d = PyData.tuple xs) ∧ PyData.tuple [] ∈ ds) := by
  by_cases z : PyData.tuple [] ∈ ds
  · exact .inr ⟨fun d hd => let ⟨c, e⟩ := h d hd; ⟨_, e⟩, z⟩
  · refine .inl (.inl fun d hd => ?_)
    obtain ⟨c, rfl⟩ := h d hd
    cases c with
    | nil => exact absurd hd z
    | cons x c => exact ⟨_, _, rfl⟩
/-! ### a set that grows in a walk -/
section
variable {K : PySem.W.Frag} {w : World}
theorem sc_pick {J : It} {G : Hp → Prop} {xs : List V} {g : TG} {tt : TT} {te : TE} {vs : List Nat} {σ : L2.St} {X : Hp} {D : Addr} {Dn : Hp → Prop} (wk : Walk J xs.length G (YAt xs)) (hG : ∀ H, Same X H → G H) (len : xs.length ≤ 60) (hX : X D = none) (ps : List (Bool × S2.Row)) (hl : ps.length = xs.length)
    (rw0 : ∀ p, (true, p) ∈ ps → Dp K X (.ref p.1) p.2.data ∧ figures p.2 = true ∧ p.2.depth ≤ 8)
    (turn : ∀ (i : Nat) (x : V) (b : Bool) (y : S2.Row) (H : Hp) (R : L2.St → Bool → Hp → Prop), xs[i]? = some x → ps[i]? = some (b, y) → Same X H → (∀ σ2 H', Same H H' → (b = true → ∀ Q' : VK, (∀ H'', Same H' H'' → Q' (.ref y.1) H'') → te σ2 H' Q') → R σ2 b H') → g x (wipe σ vs) H fun σ2 H2 => wipe σ2 vs = wipe σ vs ∧ tt σ2 H2 (R σ2))
    (fin : ∀ H' L, Same X H' → H' D = some (setO w D L) → (∀ p ∈ L, (true, p) ∈ ps) → (∀ p, (true, p) ∈ ps → p.2 ∈ L.map (·.2)) → Dn H') : L3.tOver g tt (XB.tPutS K w te D) vs J σ (upd X D (setO w D [])) Dn := by
  refine L3.over_it wk (fun i H => Same X H ∧ ∃ L, H D = some (setO w D L) ∧ (∀ p ∈ L, (true, p) ∈ ps.take i) ∧ (∀ p, (true, p) ∈ ps.take i → p.2 ∈ L.map (·.2)) ∧ L.length ≤ i) ⟨same_new hX, [], upd_same, fun _ z => (nomatch z), fun p z => (by rw [List.take_zero] at z; cases z), Nat.le_refl _⟩ (fun i H _ h => hG H h.1) (fun j x H H' hj h yy => ?_) (fun H h => ?_)
  · obtain ⟨rfl, ex⟩ := yy
    obtain ⟨s1, L, hD', a1, a2, a3⟩ := h
    have hp : ps[j]? = some ps[j] := List.getElem?_eq_getElem (by omega)
    have tk : ps.take (j + 1) = ps.take j ++ [(ps[j].1, ps[j].2)] := by rw [List.take_add_one, hp]; rfl
    refine turn j x ps[j].1 ps[j].2 H' (fun σ2 b H3 => if b = true then XB.tPutS K w te D σ2 H3 (fun H => Same X H ∧ ∃ L, H D = some (setO w D L) ∧ (∀ p ∈ L, (true, p) ∈ ps.take (j + 1)) ∧ (∀ p, (true, p) ∈ ps.take (j + 1) → p.2 ∈ L.map (·.2)) ∧ L.length ≤ j + 1) else Same X H3 ∧ ∃ L, H3 D = some (setO w D L) ∧ (∀ p ∈ L, (true, p) ∈ ps.take (j + 1)) ∧ (∀ p, (true, p) ∈ ps.take (j + 1) → p.2 ∈ L.map (·.2)) ∧ L.length ≤ j + 1) ex hp s1 (fun σ2 H5 s t => ?_)
    refine ite2 (fun e1 => ?_) (fun e1 => ?_)
    · refine t e1 _ fun H6 s6 => ⟨_, ps[j].2.2, L, rfl, s6 _ _ (s _ _ hD'), ?_, by omega, fun L1 how => ?_⟩
      · intro p hp'
        have hin : (true, p) ∈ ps := by
          rcases List.mem_cons.mp hp' with z | z
          · rw [z, ← e1]
            exact List.mem_of_getElem? hp
          · exact List.mem_of_mem_take (a1 p z)
        obtain ⟨r1, r2, r3⟩ := rw0 p hin
        exact ⟨dp_same ((s1.trans s).trans s6) _ _ r1, r2, r3⟩
      · refine ⟨same_put ((s1.trans s).trans s6) hX, L1, upd_same, fun p hp' => ?_, fun p hp' => ?_, ?_⟩
        · rw [tk, List.mem_append]
          rcases how with ⟨_, rfl⟩ | ⟨_, pm⟩
          · exact .inl (a1 p hp')
          · rcases List.mem_cons.mp (pm.mem_iff.mp hp') with z | z
            · exact .inr (by rw [z, e1]; exact List.mem_singleton.mpr rfl)
            · exact .inl (a1 p z)
        · rw [tk, List.mem_append] at hp'
          rcases how with ⟨hin, rfl⟩ | ⟨_, pm⟩
          · rcases hp' with z | z
            · exact a2 p z
            · have z' := List.mem_singleton.mp z
              rw [show p = ps[j].2 from congrArg Prod.snd z']
              exact hin
          · rw [(pm.map (·.2)).mem_iff, List.map_cons]
            rcases hp' with z | z
            · exact List.mem_cons_of_mem _ (a2 p z)
            · have z' := List.mem_singleton.mp z
              rw [show p = ps[j].2 from congrArg Prod.snd z']
              exact List.mem_cons_self
        · rcases how with ⟨_, rfl⟩ | ⟨_, pm⟩
          · omega
          · rw [pm.length_eq, List.length_cons]; omega
    · refine ⟨s1.trans s, L, s _ _ hD', fun p hp' => ?_, fun p hp' => ?_, by omega⟩
      · rw [tk]
        exact List.mem_append_left _ (a1 p hp')
      · rw [tk, List.mem_append] at hp'
        rcases hp' with z | z
        · exact a2 p z
        · have z' := List.mem_singleton.mp z
          exact absurd (congrArg Prod.fst z').symm e1
  · obtain ⟨s1, L, hD, a1, a2, _⟩ := h
    have e : ps.take xs.length = ps := List.take_of_length_le (by omega)
    rw [e] at a1 a2
    exact fin H L s1 hD a1 a2
theorem begins_of {H : Hp} : ∀ {B : List (Ct × Int)} {bs : List V}, DpAll K H bs (B.map beginD) → ∃ rs : List (Addr × Addr), rs.length = B.length ∧ bs = rs.map (fun r => V.ref r.1) ∧ ∀ (i : Nat) b r, B[i]? = some b → rs[i]? = some r → SqT K H r.1 [.ref r.2, .int b.2] ∧ Dp K H (.ref r.2) (ctD b.1)
  | [], _, h => by
    cases h
    exact ⟨[], rfl, rfl, fun i b r e => by simp at e⟩
  | b :: B, _, h => by
    cases h with
    | cons h1 h2 =>
      obtain ⟨t, u0, u1, rfl, ht, e0, e1⟩ := dp2 (show Dp K H _ (.tuple [ctD b.1, .int b.2]) from h1)
      cases dp_int e1
      obtain ⟨c, xs, rfl, _⟩ := dpT (show Dp K H u0 (.tuple (b.1.map .int)) from e0)
      obtain ⟨rs, l, e, more⟩ := begins_of h2
      refine ⟨(t, c) :: rs, by rw [List.length_cons, List.length_cons, l], by rw [List.map_cons, e], fun i b' r' hb hr => ?_⟩
      cases i with
      | zero =>
        simp only [List.getElem?_cons_zero, Option.some.injEq] at hb hr
        subst hb
        subst hr
        exact ⟨ht, e0⟩
      | succ i =>
        simp only [List.getElem?_cons_succ] at hb hr
        exact more i b' r' hb hr
end
theorem zip_at {α β γ : Type} {f : α → β → γ} {l : List α} {m : List β} {i : Nat} {c : γ} (h : (List.zipWith f l m)[i]? = some c) : ∃ a b, l[i]? = some a ∧ m[i]? = some b ∧ c = f a b := by
  rw [List.getElem?_zipWith] at h
  cases e1 : l[i]? with
  | none => rw [e1] at h; simp at h
  | some a =>
    cases e2 : m[i]? with
    | none => rw [e1, e2] at h; simp at h
    | some b =>
      rw [e1, e2] at h
      exact ⟨a, b, rfl, rfl, (Option.some.inj h).symm⟩
abbrev nCtOf : List Str := ["machine", "far", "control", "state"]
theorem scCtOf : FnScope nCtOf ["machine"] (defScope s_controls_of) := ⟨rfl, rfl, rfl, by decide +kernel, rfl, by decide +kernel, by decide +kernel⟩
section
variable {P : Program} {w : World} {K : PySem.W.Frag} {mg : Str → Option Value} {base : Heap}
def spCtOf (K : PySem.W.Frag) : Sp := fun vs H Q _ => ∃ (m : V) (wb : Web), vs = [m] ∧ Dp K H m (webD wb) ∧ WebOk wb ∧ ∀ H' p us (cs : List Ct), Same H H' → H p = none → H' p = some (.lst us) → DpAll K H us (cs.map ctD) → Rises (cs.map ckey) → (∀ c, c ∈ cs ↔ ∃ l, Acc wb c l) → Q (.ref p) H'
theorem reads_far {wb : Web} {f : List (Int × Int)} (fo : FarOk wb f) {c : Ct} : (∃ l, Acc wb c l) ↔ ∃ s, (c, s) ∈ wb.1 ∧ s ∈ f.map (·.1) := by
  constructor
  · rintro ⟨l, e, he, s, hs, hp⟩
    obtain ⟨n, hn, _⟩ := fo.all l s e he hp
    exact ⟨s, hs, List.mem_map.mpr ⟨_, hn, rfl⟩⟩
  · rintro ⟨s, hs, hf⟩
    obtain ⟨x, hx, rfl⟩ := List.mem_map.mp hf
    obtain ⟨l, e, _, he, hp⟩ := fo.road x hx
    exact ⟨l, e, he, x.1, hs, hp⟩
set_option maxHeartbeats 32000000 in
theorem ok_ctof {f : Addr} {fd : FuncData} {k : Nat} (F : Fun K "controls_of" "controls_of" s_controls_of f fd) (DF : Def P w K mg base CX0 (k + 1) "far_from_end" ["machine"] (spFar K)) (m_sorted : mg "sorted" = none) : FnOk P w K mg base CX0 (k + 1 + 1) f fd ["machine"] (spCtOf K) := by
  refine F.ok scCtOf (fun vs H Q E h => ?_) (fun cdv A outer s H vs Q E hr h => ?_)
  · obtain ⟨m, wb, rfl, _⟩ := h
    rfl
  obtain ⟨m, wb, rfl, hm, ok, q⟩ := h
  have nd := scCtOf.nd
  have hu := hu_of hr
  refine ⟨_, (pss_cons (ps_set (i := 1) nd rfl (.inr rfl) (pe_call DF.ok hr (by rfl) DF.g DF.kp DF.b .nil pass0 (pa_cons (pv 0) pa_nil)))
    (pss_one (ps_ret (pe_callB (XO.cr_sortKE rfl hr.units) (by rfl) m_sorted (by decide +kernel) (pa_cons (XB.pe_scN hr.units (own := [("control", 2), ("state", 3)]) (g := (gTup K 2 (gCons (gName 2) (gCons (gName 3) gNil)))) (by rfl) nd (pi_tup (pe_ix ix_tup (pv 0) pe_int (fun _ _ => rfl))) (blkOk_by (N := nCtOf) (sc := defScope s_controls_of) (by decide +kernel)) (fun _ _ _ _ _ => (pg_tup rfl (pgs_cons (pg_name (i := 2) nd rfl (.inl rfl)) (pgs_cons (pg_name (i := 3) nd rfl (.inl rfl)) pgs_nil)))) (fun _ _ _ _ _ => (pts_one  (pt_cmp (pc_din hu (pv 3) (pv 1))))) (fun _ _ _ _ _ => (pv 2))) pa_nil))))), ?_⟩
  refine ⟨_, rfl, m, wb, rfl, hm, ok, fun X Fa fr sX nF hF fo => ?_⟩
  obtain ⟨a, ba, ca, da, bs, es, rfl, h0, h1, h2, _, _, _⟩ := web_of hm
  replace h0 := same_tup sX h0
  replace h1 := same_tup sX h1
  obtain ⟨rs, rl, rfl, rp⟩ := begins_of h2
  have n := ok.b
  have bl : (rs.map fun r => V.ref r.1).length = wb.1.length := by rw [List.length_map, rl]
  let ps : List (Bool × S2.Row) := List.zipWith (fun b r => (decide (b.2 ∈ fr.map (·.1)), (r.2, ckey b.1))) wb.1 rs
  have inps : ∀ {p : S2.Row}, (true, p) ∈ ps → ∃ b, b ∈ wb.1 ∧ b.2 ∈ fr.map (·.1) ∧ p.2 = ckey b.1 ∧ Dp K H (.ref p.1) (ctD b.1) := fun {p} hp => by
    obtain ⟨i, hi⟩ := List.mem_iff_getElem?.mp hp
    obtain ⟨b, r, hb, hr, e⟩ := zip_at hi
    have e1 := congrArg Prod.fst e
    have e2 : p = (r.2, ckey b.1) := congrArg Prod.snd e
    rw [e2]
    exact ⟨b, List.mem_of_getElem? hb, of_decide_eq_true e1.symm, rfl, (rp i b r hb hr).2⟩
  refine ⟨_, rfl, a, _, 0, .ref ba, rfl, rfl, h0, atI_nat (j := 0) rfl, ba, rfl, ⟨_, h1⟩, fun D nD => ?_⟩
  refine sc_pick (walk_tup (a := ba) (xs := rs.map fun r => V.ref r.1) (K := K)) (fun G s' => same_tup s' h1) (by omega) nD ps (by rw [bl]; show (List.zipWith _ _ _).length = _; rw [List.length_zipWith]; omega) (fun p hp => ?_) (fun i x b y G R hx hp s1 go => ?_) (fun H' L s1 hD a1 a2 => ?_)
  · obtain ⟨b, _, _, e, d⟩ := inps hp
    rw [e, ckey_data]
    exact ⟨dp_same sX _ _ d, ckey_fig _, ckey_depth _⟩
  · obtain ⟨b0, r, hb, hr, e⟩ := zip_at hp
    obtain ⟨e1, e2⟩ := Prod.mk.inj e
    rw [List.getElem?_map, hr] at hx
    cases hx
    obtain ⟨g1, g2⟩ := rp i b0 r hb hr
    refine ⟨r.1, _, rfl, same_tup (sX.trans s1) g1, rfl, _, _, rfl, _, _, rfl, rfl, rfl, ?_⟩
    refine ⟨_, rfl, _, rfl, Fa, valV (farK fr) (Sum.inl b0.2), rfl, DGet.k (k := Sum.inl b0.2) (s1 _ _ hF), _, rfl, ?_⟩
    have ev : (valV (farK fr) (Sum.inl b0.2)).isSome = b := by
      rw [e1]
      rcases farK_val (s := b0.2) fo.nd with ⟨n, hn, en⟩ | ⟨hn, en⟩
      · rw [en, decide_eq_true (List.mem_map.mpr ⟨_, hn, rfl⟩)]; rfl
      · rw [en, decide_eq_false hn]; rfl
    rw [ev]
    exact go _ _ (Same.refl _) fun _ Q' hQ => ⟨_, rfl, by rw [e2] at hQ; exact hQ _ (Same.refl _)⟩
  · have ds : ∀ d ∈ L.map (fun p => p.2.data), ∃ c, d = ctD c := fun d hd => by
      obtain ⟨p, hp, rfl⟩ := List.mem_map.mp hd
      obtain ⟨b, _, _, e, _⟩ := inps (a1 p hp)
      exact ⟨b.1, by rw [e, ckey_data]⟩
    refine ⟨D, L, rfl, hD, fun p hp => ?_, ct_alikes ds, ct_sorts ds, fun p M np pm ri => ?_⟩
    · obtain ⟨b, _, _, e, d⟩ := inps (a1 p hp)
      rw [e, ckey_data]
      exact ⟨dp_same (sX.trans s1) _ _ d, ckey_fig _, ckey_depth _⟩
    have eM : ∀ p ∈ M, ∃ b, b ∈ wb.1 ∧ b.2 ∈ fr.map (·.1) ∧ p.2 = ckey b.1 ∧ Dp K H (.ref p.1) (ctD b.1) := fun p hp => inps (a1 p (pm.mem_iff.mp hp))
    have ek : (M.map fun p => unkey p.2).map ckey = M.map (·.2) := by
      rw [List.map_map]
      refine List.map_congr_left fun p hp => ?_
      obtain ⟨b, _, _, e, _⟩ := eM p hp
      show ckey (unkey p.2) = p.2
      rw [e, unkey_c]
    refine q _ p _ (M.map fun p => unkey p.2) ((sX.trans s1).trans (same_new np)) (same_none (sX.trans s1) np) upd_same ?_ (by rw [ek]; exact ri) fun c => ?_
    · have key : ∀ N : List S2.Row, (∀ p ∈ N, ∃ b : Ct × Int, b ∈ wb.1 ∧ b.2 ∈ fr.map (·.1) ∧ p.2 = ckey b.1 ∧ Dp K H (.ref p.1) (ctD b.1)) → DpAll K H (N.map fun p => V.ref p.1) ((N.map fun p => unkey p.2).map ctD) := fun N => by
        induction N with
        | nil => exact fun _ => .nil
        | cons p N ih =>
          intro h
          obtain ⟨b, _, _, e, d⟩ := h p List.mem_cons_self
          refine .cons ?_ (ih fun x hx => h x (List.mem_cons_of_mem _ hx))
          show Dp K H (.ref p.1) (ctD (unkey p.2))
          rw [e, unkey_c]
          exact d
      exact key M eM
    · rw [reads_far fo]
      constructor
      · intro hc
        obtain ⟨p, hp, rfl⟩ := List.mem_map.mp hc
        obtain ⟨b, h1, h2, e, _⟩ := eM p hp
        refine ⟨b.2, ?_, h2⟩
        rw [e, unkey_c]
        exact h1
      · rintro ⟨s, hs, hf⟩
        obtain ⟨i, hi⟩ := List.mem_iff_getElem?.mp hs
        have lt : i < rs.length := by
          have := (List.getElem?_eq_some_iff.mp hi).1
          omega
        have hr : rs[i]? = some rs[i] := List.getElem?_eq_getElem lt
        have hin : (true, (rs[i].2, ckey c)) ∈ ps := by
          refine List.mem_iff_getElem?.mpr ⟨i, ?_⟩
          show (List.zipWith _ _ _)[i]? = _
          rw [List.getElem?_zipWith, hi, hr]
          show some (decide (s ∈ fr.map (·.1)), _) = _
          rw [decide_eq_true hf]
        obtain ⟨p, hp, ep⟩ := List.mem_map.mp (a2 _ hin)
        exact List.mem_map.mpr ⟨p, pm.mem_iff.mpr hp, by rw [ep]; exact unkey_c c⟩
end
end MM

set_option maxHeartbeats 4000000
namespace MM
open PySem PySem.Spec PyProof.Rows L2 G3 M0 LP
/-! the least pile, point by point -/
/-- behind l, n points from an end, the states ss -/
structure Lp (w : Web) (c : Ct) (f : List (Int × Int)) (n0 : Nat) (l : List Pn) (n : Nat) (ss : List Int) : Prop where
  ne : ss ≠ []
  at_ : ∀ q, q ∈ ss ↔ Reach w.2.1 (Starts w c) l q ∧ (q, (n : Int)) ∈ f
  len : l.length + n = n0
  low : ∀ s k, (c, s) ∈ w.1 → (s, k) ∈ f → (n0 : Int) ≤ k
  least : ∀ m, Acc w c m → m.length = n0 → lLt (m.take l.length) l = false
section
variable {w : Web} {c : Ct} {f : List (Int × Int)} {n0 n : Nat} {l : List Pn} {ss : List Int}
theorem lp_start (h : ss ≠ []) (ha : ∀ q, q ∈ ss ↔ (c, q) ∈ w.1 ∧ (q, (n0 : Int)) ∈ f) (low : ∀ s k, (c, s) ∈ w.1 → (s, k) ∈ f → (n0 : Int) ≤ k) : Lp w c f n0 [] n0 ss :=
  ⟨h, fun q => by rw [ha, reach_nil]; exact Iff.rfl, by simp, low, fun m _ _ => by rw [List.length_nil, List.take_zero]; rfl⟩
theorem lp_end (fo : FarOk w f) (h : Lp w c f n0 l 0 ss) : IsLeast w c l := by
  have ln := h.len
  refine ⟨?_, fun m hm => ?_⟩
  · obtain ⟨q, hq⟩ := List.exists_mem_of_ne_nil _ h.ne
    obtain ⟨h1, h2⟩ := (h.at_ q).mp hq
    exact ⟨q, fo.zero h2, h1⟩
  · obtain ⟨e, he, s, hs, hp⟩ := hm
    obtain ⟨k, hk, hl⟩ := fo.all m s e he hp
    have := h.low s k hs hk
    by_cases z : m.length = n0
    · refine .inr ⟨by omega, ?_⟩
      have := h.least m ⟨e, he, s, hs, hp⟩ z
      rwa [List.take_of_length_le (by omega)] at this
    · exact .inl (by omega)
theorem reach_at_least (fo : FarOk w f) (h : Lp w c f n0 l (n + 1) ss) {t k : Int} (hr : Reach w.2.1 (Starts w c) l t) (hk : (t, k) ∈ f) : ((n + 1 : Nat) : Int) ≤ k := by
  obtain ⟨s, hs, hp⟩ := hr
  obtain ⟨r, e, hl, he, hp2⟩ := fo.road _ hk
  have hl' : (r.length : Int) = k := hl
  obtain ⟨j, hj, lj⟩ := fo.all (l ++ r) s e he (path_app.mpr ⟨t, hp, hp2⟩)
  have := h.low s j hs hj
  have ln := h.len
  rw [List.length_append] at lj
  omega
/-- where an edge leads nearer -/
theorem lp_some (fo : FarOk w f) (h : Lp w c f n0 l (n + 1) ss) : ∃ s p t, s ∈ ss ∧ (s, p, t) ∈ w.2.1 ∧ (t, (n : Int)) ∈ f := by
  obtain ⟨s, hs⟩ := List.exists_mem_of_ne_nil _ h.ne
  obtain ⟨_, h2⟩ := (h.at_ s).mp hs
  obtain ⟨p, t, h3, h4⟩ := fo.nearer h2 (by omega)
  refine ⟨s, p, t, hs, h3, ?_⟩
  rw [show ((n + 1 : Nat) : Int) - 1 = (n : Int) by omega] at h4
  exact h4
theorem lp_step (fo : FarOk w f) (h : Lp w c f n0 l (n + 1) ss) {found : List (Pn × Int)} (hf : ∀ p t, (p, t) ∈ found ↔ ∃ s, s ∈ ss ∧ (s, p, t) ∈ w.2.1 ∧ (t, (n : Int)) ∈ f) {p : Pn} {u : Int} (hp : (p, u) ∈ found) (mn : ∀ x ∈ found, pLt x.1 p = false) {ss2 : List Int} (h2 : ∀ q, q ∈ ss2 ↔ (p, q) ∈ found) : Lp w c f n0 (l ++ [p]) n ss2 := by
  have ln := h.len
  refine ⟨fun z => ?_, fun q => ?_, by rw [List.length_append, List.length_singleton]; omega, h.low, fun m hm hl => ?_⟩
  · have := (h2 u).mpr hp
    rw [z] at this
    cases this
  · rw [h2, hf, reach_snoc]
    constructor
    · rintro ⟨s, h3, h4, h5⟩
      exact ⟨⟨s, ((h.at_ s).mp h3).1, h4⟩, h5⟩
    · rintro ⟨⟨t, h3, h4⟩, h5⟩
      refine ⟨t, (h.at_ t).mpr ⟨h3, ?_⟩, h4, h5⟩
      obtain ⟨r, e, hl, he, hp2⟩ := fo.road _ h5
      obtain ⟨k, hk, _⟩ := fo.all (p :: r) t e he ⟨q, h4, hp2⟩
      have a := fo.step h4 h5 hk
      have b := reach_at_least fo h h3 hk
      have : k = ((n + 1 : Nat) : Int) := by omega
      rw [← this]
      exact hk
  · have i := h.least m hm hl
    have lt : l.length < m.length := by omega
    have hx : m[l.length]? = some m[l.length] := List.getElem?_eq_getElem lt
    have tk : m.take (l ++ [p]).length = m.take l.length ++ [m[l.length]] := by
      rw [List.length_append, List.length_singleton, List.take_add_one, hx]
      rfl
    rw [tk]
    refine lLt_snoc (by rw [List.length_take]; omega) i fun e => ?_
    obtain ⟨en, he, s, hs, hpp⟩ := hm
    have em : m = l ++ m[l.length] :: m.drop (l.length + 1) := by
      conv => lhs; rw [← List.take_append_drop l.length m]
      rw [← e, List.drop_eq_getElem_cons lt]
    generalize m[l.length] = q at em ⊢
    generalize m.drop (l.length + 1) = r at em
    subst em
    obtain ⟨t, h3, v, h4, h5⟩ := path_app.mp hpp
    have hr : Reach w.2.1 (Starts w c) l t := ⟨s, hs, h3⟩
    obtain ⟨k, hk, lk⟩ := fo.all r v en he h5
    obtain ⟨j, hj, _⟩ := fo.all (q :: r) t en he ⟨v, h4, h5⟩
    have a := fo.step h4 hk hj
    have b := reach_at_least fo h hr hj
    rw [List.length_append, List.length_cons] at hl
    have ek : k = (n : Int) := by omega
    have ej : j = ((n + 1 : Nat) : Int) := by omega
    rw [ek] at hk
    rw [ej] at hj
    exact mn (q, v) ((hf q v).mpr ⟨t, (h.at_ t).mpr ⟨hr, hj⟩, h4, hk⟩)
end
/-! the least of points -/
theorem pn_lt (a b : Pn) : PySem.W.dataLt (pnD a) (pnD b) = pLt a b := PySem.W.dataLt_ii _ _ _ _
end MM

set_option maxHeartbeats 4000000
namespace MM
open PySem PySem.Spec PyProof.Rows L2 G3 M0 LP
def minPn (x : Pn) (xs : List Pn) : Pn := xs.foldl (fun a y => if pLt y a = true then y else a) x
theorem minD_pn (x : Pn) (xs : List Pn) : PySem.W.minD (pnD x) (xs.map pnD) = pnD (minPn x xs) := by
  unfold PySem.W.minD minPn
  induction xs generalizing x with
  | nil => rfl
  | cons y xs ih =>
    rw [List.map_cons, List.foldl_cons, List.foldl_cons, pn_lt]
    cases pLt y x
    · exact ih x
    · exact ih y
theorem pLt_as {a b : Pn} (h : pLt a b = true) : pLt b a = false := by
  have h' := of_decide_eq_true h
  exact decide_eq_false (by omega)
theorem minPn_ok (x : Pn) (xs : List Pn) : minPn x xs ∈ x :: xs ∧ ∀ y ∈ x :: xs, pLt y (minPn x xs) = false := by
  unfold minPn
  induction xs generalizing x with
  | nil => exact ⟨List.mem_cons_self, fun y hy => by rw [List.mem_singleton.mp hy]; exact pLt_irr x⟩
  | cons z xs ih =>
    rw [List.foldl_cons]
    cases e : pLt z x with
    | true =>
      rw [if_pos rfl]
      obtain ⟨a, b⟩ := ih z
      refine ⟨List.mem_cons_of_mem _ a, fun y hy => ?_⟩
      rcases List.mem_cons.mp hy with r | r
      · rw [r]
        exact pLt_tr (b z List.mem_cons_self) (pLt_as e)
      · exact b y r
    | false =>
      rw [if_neg Bool.false_ne_true]
      obtain ⟨a, b⟩ := ih x
      refine ⟨?_, fun y hy => ?_⟩
      · rcases List.mem_cons.mp a with r | r
        · rw [r]; exact List.mem_cons_self
        · exact List.mem_cons_of_mem _ (List.mem_cons_of_mem _ r)
      · rcases List.mem_cons.mp hy with r | r
        · rw [r]; exact b x List.mem_cons_self
        · rcases List.mem_cons.mp r with q | q
          · rw [q]
            exact pLt_tr (b x List.mem_cons_self) e
          · exact b y (List.mem_cons_of_mem _ q)
theorem foldl_min_ok (x : Int) (xs : List Int) : xs.foldl min x ∈ x :: xs ∧ ∀ y ∈ x :: xs, xs.foldl min x ≤ y := by
  induction xs generalizing x with
  | nil => exact ⟨List.mem_cons_self, fun y hy => by rw [List.mem_singleton.mp hy]; exact Int.le_refl _⟩
  | cons z xs ih =>
    rw [List.foldl_cons]
    obtain ⟨a, b⟩ := ih (min x z)
    have m := b (min x z) List.mem_cons_self
    refine ⟨?_, fun y hy => ?_⟩
    · rcases List.mem_cons.mp a with r | r
      · rw [r]
        rcases Int.le_total x z with q | q
        · rw [Int.min_eq_left q]; exact List.mem_cons_self
        · rw [Int.min_eq_right q]; exact List.mem_cons_of_mem _ List.mem_cons_self
      · exact List.mem_cons_of_mem _ (List.mem_cons_of_mem _ r)
    · rcases List.mem_cons.mp hy with r | r
      · rw [r]; omega
      · rcases List.mem_cons.mp r with q | q
        · rw [q]; omega
        · exact b y (List.mem_cons_of_mem _ q)
/-- how far a state is -/
def fv (f : List (Int × Int)) (s : Int) : Int := match f.find? fun x => decide (x.1 = s) with
  | some x => x.2
  | none => 0
theorem fv_at {f : List (Int × Int)} {s : Int} (h : s ∈ f.map (·.1)) : (s, fv f s) ∈ f := by
  unfold fv
  cases e : f.find? fun x => decide (x.1 = s) with
  | none =>
    rw [List.find?_eq_none] at e
    obtain ⟨x, hx, ex⟩ := List.mem_map.mp h
    exact absurd (decide_eq_true ex) (e x hx)
  | some x =>
    have e1 : x.1 = s := of_decide_eq_true (List.find?_some (p := fun x : Int × Int => decide (x.1 = s)) e)
    rw [← e1]
    exact List.mem_of_find?_eq_some e
theorem fv_get {f : List (Int × Int)} {s : Int} (nd : (f.map (·.1)).Nodup) (h : s ∈ f.map (·.1)) : valV (farK f) (Sum.inl s) = some (.int (fv f s)) := by
  rcases farK_val (s := s) nd with ⟨n, hn, en⟩ | ⟨hn, _⟩
  · rw [en, pair_one nd hn (fv_at h)]
  · exact absurd h hn
theorem picked_zip {K : PySem.W.Frag} {H : Hp} {α : Type} {g : α → Bool} {e : α → PyData} : ∀ {us : List V} {xs : List α}, DpAll K H us (xs.map e) → DpAll K H (picked (List.zipWith (fun v x => (g x, v)) us xs)) ((xs.filter g).map e)
  | _, [], h => by cases h; exact .nil
  | _, x :: xs, h => by
    cases h with
    | cons h1 h2 =>
      have ih := picked_zip (g := g) h2
      rw [List.zipWith_cons_cons]
      unfold picked at ih ⊢
      cases e1 : g x with
      | true =>
        rw [List.filter_cons_of_pos (by rfl), List.filter_cons_of_pos (by simpa using e1)]
        exact .cons h1 ih
      | false =>
        rw [List.filter_cons_of_neg (by simp), List.filter_cons_of_neg (by simp [e1])]
        exact ih
theorem picked_fil {α : Type} {g : α → Bool} {e : α → V} (xs : List α) : picked (xs.map fun x => (g x, e x)) = (xs.filter g).map e := by
  unfold picked
  rw [List.filter_map, List.map_map]
  rfl
theorem outs_of {K : PySem.W.Frag} {H : Hp} : ∀ {us : List V} {xs : List (Pn × Int)}, DpAll K H us (xs.map outD) → ∃ rs : List (Addr × V), rs.length = xs.length ∧ us = rs.map (fun r => V.ref r.1) ∧ DpAll K H (rs.map (·.2)) (xs.map fun x => pnD x.1) ∧ ∀ (i : Nat) x r, xs[i]? = some x → rs[i]? = some r → SqT K H r.1 [r.2, .int x.2] ∧ Dp K H r.2 (pnD x.1)
  | _, [], h => by
    cases h
    exact ⟨[], rfl, rfl, .nil, fun i b r e => by simp at e⟩
  | _, x :: xs, h => by
    cases h with
    | cons h1 h2 =>
      obtain ⟨t, u0, u1, rfl, ht, e0, e1⟩ := dp2 (show Dp K H _ (.tuple [pnD x.1, .int x.2]) from h1)
      cases dp_int e1
      obtain ⟨rs, l, e, al, more⟩ := outs_of h2
      refine ⟨(t, u0) :: rs, by rw [List.length_cons, List.length_cons, l], by rw [List.map_cons, e], .cons e0 al, fun i b' r' hb hr => ?_⟩
      cases i with
      | zero =>
        simp only [List.getElem?_cons_zero, Option.some.injEq] at hb hr
        subst hb
        subst hr
        exact ⟨ht, e0⟩
      | succ i =>
        simp only [List.getElem?_cons_succ] at hb hr
        exact more i b' r' hb hr
def nearM (f : List (Int × Int)) (n : Nat) (x : Pn × Int) : Bool := decide ((x.2, (n : Int)) ∈ f)
def foundM (w : Web) (f : List (Int × Int)) (n : Nat) (ss : List Int) : List (Pn × Int) := ss.flatMap fun s => (outs w s).filter (nearM f n)
def itemV (w : Web) (f : List (Int × Int)) (n : Nat) (T : Tab) (s : Int) : List V := picked (List.zipWith (fun v x => (nearM f n x, v)) (lookL T s) (outs w s))
theorem found_all {K : PySem.W.Frag} {B H : Hp} {d : Addr} {w : Web} {T : Tab} {f : List (Int × Int)} {n : Nat} (h : AdjT K B H d (aheadI w) T) : ∀ ss : List Int, DpAll K H (ss.flatMap (itemV w f n T)) ((foundM w f n ss).map outD)
  | [] => .nil
  | s :: ss => by
    show DpAll K H (List.flatMap _ (s :: ss)) (List.map outD (List.flatMap _ (s :: ss)))
    rw [List.flatMap_cons, List.flatMap_cons, List.map_append]
    have h1 := (h.look s).1
    rw [ahead_of] at h1
    exact dpAll_app (picked_zip h1) (found_all h ss)
theorem found_mem {w : Web} {f : List (Int × Int)} {n : Nat} {ss : List Int} (p : Pn) (t : Int) : (p, t) ∈ foundM w f n ss ↔ ∃ s, s ∈ ss ∧ (s, p, t) ∈ w.2.1 ∧ (t, (n : Int)) ∈ f := by
  unfold foundM
  rw [List.mem_flatMap]
  constructor
  · rintro ⟨s, hs, h⟩
    obtain ⟨h1, h2⟩ := List.mem_filter.mp h
    exact ⟨s, hs, outs_mem.mp h1, of_decide_eq_true h2⟩
  · rintro ⟨s, hs, h1, h2⟩
    exact ⟨s, hs, List.mem_filter.mpr ⟨outs_mem.mpr h1, decide_eq_true h2⟩⟩
theorem item_len {w : Web} {f : List (Int × Int)} {n : Nat} {T : Tab} {s : Int} : (itemV w f n T s).length ≤ w.2.1.length := by
  unfold itemV
  have h1 := picked_len (List.zipWith (fun v x => (nearM f n x, v)) (lookL T s) (outs w s))
  rw [List.length_zipWith] at h1
  have h2 : (outs w s).length ≤ w.2.1.length := by
    unfold outs
    rw [List.length_map]
    exact List.length_filter_le _ _
  omega
theorem pn_inj {a b : Pn} (h : pnD a = pnD b) : a = b := by
  have := pn_eqv a b
  rw [h, pn_eqv, decide_eq_true rfl] at this
  exact (of_decide_eq_true this.symm)
theorem pns_alike (xs : List Pn) : PySem.W.AlikeAll (xs.map pnD) := ⟨fun x hx y hy => by
  obtain ⟨a, _, rfl⟩ := List.mem_map.mp hx
  obtain ⟨b, _, rfl⟩ := List.mem_map.mp hy
  rfl, fun x hx => by
  obtain ⟨a, _, rfl⟩ := List.mem_map.mp hx
  exact fun z => by cases z⟩
abbrev nLp : List Str := ["machine", "control", "far", "states", "state", "left", "ahead", "pile", "found", "edge", "point"]
theorem scLp : FnScope nLp ["machine", "control"] (defScope s_least_pile) := ⟨rfl, rfl, rfl, by decide +kernel, rfl, by decide +kernel, by decide +kernel⟩
section
variable {P : Program} {w : World} {K : PySem.W.Frag} {mg : Str → Option Value} {base : Heap}
def spLp (K : PySem.W.Frag) : Sp := fun vs H Q _ => ∃ (m c : V) (wb : Web) (k : Ct), vs = [m, c] ∧ Dp K H m (webD wb) ∧ WebOk wb ∧ Dp K H c (ctD k) ∧ ((∀ l, ¬ Acc wb k l) → ∀ H', Same H H' → Q .non H') ∧ ∀ l, IsLeast wb k l → ∀ H' v, Same H H' → Dp K H' v (pileD l) → Q v H'
set_option maxHeartbeats 32000000 in
theorem ok_lp {f : Addr} {fd : FuncData} {k : Nat} (F : Fun K "least_pile" "least_pile" s_least_pile f fd) (DF : Def P w K mg base CX0 (k + 1 + 1) "far_from_end" ["machine"] (spFar K)) (DS : Def P w K mg base CX0 (k + 1 + 1) "states_of" ["machine", "control"] (spStOf K)) (DA : Def P w K mg base CX0 (k + 1 + 1) "edges_ahead" ["machine"] (spAdj K aheadI))
    (m_list : mg "list" = none) (m_min : mg "min" = none) (m_tuple : mg "tuple" = none) : FnOk P w K mg base CX0 (k + 1 + 1 + 1) f fd ["machine", "control"] (spLp K) := by
  refine F.ok scLp (fun vs H Q E h => ?_) (fun cdv A outer s H vs Q E hr h => ?_)
  · obtain ⟨m, c, wb, k, rfl, _⟩ := h
    rfl
  obtain ⟨m, c, wb, kc, rfl, hm, ok, hc, q0, q⟩ := h
  have nd := scLp.nd
  have hu := hu_of hr
  refine ⟨_, (pss_cons (ps_set (i := 2) nd rfl (.inr rfl) (pe_call DF.ok hr (by rfl) DF.g DF.kp DF.b .nil pass0 (pa_cons (pv 0) pa_nil)))
    (pss_cons (ps_setLc (i := 3) (own := [("state", 4)]) (g := (gName 4)) (by rfl) nd rfl rfl (sw_true rfl rfl rfl (by decide +kernel)) (pi_list (pe_call DS.ok hr (by rfl) DS.g DS.kp DS.b .nil pass0 (pa_cons (pv 0) (pa_cons (pv 1) pa_nil)))) (blkOk_by (N := nLp) (sc := defScope s_least_pile) (by decide +kernel)) (fun _ _ _ _ _ => (pg_name (i := 4) nd rfl (.inl rfl))) (fun _ _ _ _ _ => (pts_one  (pt_cmp (pc_din hu (pv 4) (pv 2))))) (fun _ _ _ _ _ => (pv 4)))
    (pss_cons (ps_if (pt_not (pt_truth (pv 3) (fun _ => rfl))) (pss_one (ps_ret pe_non)) pss_nil)
    (pss_cons (ps_set (i := 5) nd rfl (.inr rfl) (pe_callB (cr_min rfl) (by rfl) m_min (by decide +kernel) (pa_cons (pe_lc (own := [("state", 4)]) (g := (gName 4)) (tt := tYes) (by rfl) nd (pi_list (pv 3)) (blkOk_by (N := nLp) (sc := defScope s_least_pile) (by decide +kernel)) (fun _ _ _ _ _ => (pg_name (i := 4) nd rfl (.inl rfl))) (fun _ _ _ _ _ => pts_nil) (fun _ _ _ _ _ => (pe_dget hu (pv 2) (pv 4) (fun _ _ => rfl)))) pa_nil)))
    (pss_cons (ps_setLc (i := 3) (own := [("state", 4)]) (g := (gName 4)) (by rfl) nd rfl rfl (sw_true rfl rfl rfl (by decide +kernel)) (pi_list (pv 3)) (blkOk_by (N := nLp) (sc := defScope s_least_pile) (by decide +kernel)) (fun _ _ _ _ _ => (pg_name (i := 4) nd rfl (.inl rfl))) (fun _ _ _ _ _ => (pts_one  (pt_cmpR op_eq (pe_dget hu (pv 2) (pv 4) (fun _ _ => rfl)) (pv 5) (nomark _)))) (fun _ _ _ _ _ => (pv 4)))
    (pss_cons (ps_set (i := 6) nd rfl (.inr rfl) (pe_call DA.ok hr (by rfl) DA.g DA.kp DA.b .nil pass0 (pa_cons (pv 0) pa_nil)))
    (pss_cons (ps_set (i := 7) nd rfl (.inl rfl) (pe_lst pa_nil))
    (pss_cons (ps_while PassesOwn.never (pt_cmpR op_gt (pv 5) pe_int (nomark _))
      (pss_cons (ps_aug (i := 5) nd rfl (.inr rfl) pe_int ip_sub)
    (pss_cons (ps_setLc2 (i := 8) (own := [("state", 4), ("edge", 9)]) (vs1 := [9]) (g := (gName 4)) (g1 := (gName 9)) (tt := tYes) (wi1 := iList K (tDGet (tVar 6) (tVar 4))) (by rfl) nd rfl rfl (sw_true rfl rfl rfl (by decide +kernel)) (pi_list (pv 3)) (blkOk_by (N := nLp) (sc := defScope s_least_pile) (by decide +kernel)) (by decide) (fun _ _ _ _ _ => (pg_name (i := 4) nd rfl (.inl rfl))) (fun _ _ _ _ _ => pts_nil) (fun _ _ _ _ _ => (pi_list (pe_dget hu (pv 6) (pv 4) (fun _ _ => rfl)))) (fun _ _ _ _ _ => (pg_name (i := 9) nd rfl (.inl rfl))) (fun _ _ _ _ _ => (pts_one  (pt_cmpR op_eq (pe_dget1 hu (pv 2) (pe_ix (r := rIxT K) ix_tup (pv 9) pe_int (fun _ _ => rfl)) ⟨rfl, rfl, rfl, rfl⟩) (pv 5) (nomark _)))) (fun _ _ _ _ _ => (pv 9)))
    (pss_cons (ps_set (i := 10) nd rfl (.inr rfl) (pe_callB (XA.cr_minD rfl hr.units) (by rfl) m_min (by decide +kernel) (pa_cons (pe_lc (own := [("edge", 9)]) (g := (gName 9)) (tt := tYes) (by rfl) nd (pi_list (pv 8)) (blkOk_by (N := nLp) (sc := defScope s_least_pile) (by decide +kernel)) (fun _ _ _ _ _ => (pg_name (i := 9) nd rfl (.inl rfl))) (fun _ _ _ _ _ => pts_nil) (fun _ _ _ _ _ => (pe_ix (r := rIxT K) ix_tup (pv 9) pe_int (fun _ _ => rfl)))) pa_nil)))
    (pss_cons (ps_expr (pe_bm PySem.F.plainAttrs_list PySem.F.slot_list_append PySem.F.type_list_append mt_append (pv 7) (pa_cons (pv 10) pa_nil)))
    (pss_one (ps_set (i := 3) nd rfl (.inl rfl) (pe_callTy (T := "list") (call_listD rfl) (by rfl) m_list (by decide +kernel) (pa_cons (pe_dc (own := [("edge", 9)]) (g := (gName 9)) (by rfl) nd (pi_list (pv 8)) (blkOk_by (N := nLp) (sc := defScope s_least_pile) (by decide +kernel)) (fun _ _ _ _ _ => (pg_name (i := 9) nd rfl (.inl rfl))) (fun _ _ _ _ _ => (pts_one  (pt_cmpR (r := rEqD K) (op_eqD hr.units) (pe_ix (r := rIxT K) ix_tup (pv 9) pe_int (fun _ _ => rfl)) (pv 10) (nomark _)))) (fun _ _ _ _ _ => (pe_ix (r := rIxT K) ix_tup (pv 9) pe_int (fun _ _ => rfl))) (fun _ _ _ _ _ => pe_bl)) pa_nil)))))))))
    (pss_one (ps_ret (pe_callTy (T := "tuple") call_tuple_of (by rfl) m_tuple (by decide +kernel) (pa_cons (pv 7) pa_nil)))))))))))), ?_⟩
  refine ⟨_, rfl, m, wb, rfl, hm, ok, fun X Fa fr sX nF hF fo => ?_⟩
  have nb := ok.b
  have ne := ok.e
  have nn := ok.n
  have hmX := dp_same sX _ _ hm
  have none_case : (∀ s, (kc, s) ∈ wb.1 → s ∉ fr.map (·.1)) → ∀ l, ¬ Acc wb kc l := fun h l hl => by
    obtain ⟨s, h1, h2⟩ := (reads_far fo).mp ⟨l, hl⟩
    exact h s h1 h2
  let S1 : List Int := (statesM wb kc).filter fun s => decide (s ∈ fr.map (·.1))
  have s1m : ∀ s, s ∈ S1 ↔ (kc, s) ∈ wb.1 ∧ s ∈ fr.map (·.1) := fun s => by
    show s ∈ List.filter _ _ ↔ _
    rw [List.mem_filter, states_start, decide_eq_true_eq]
    exact Iff.rfl
  have sl := states_len wb kc
  have s1l : S1.length ≤ 30 := by
    have : S1.length ≤ (statesM wb kc).length := List.length_filter_le _ _
    omega
  refine ⟨_, rfl, _, rfl, m, c, wb, kc, rfl, hmX, ok, dp_same sX _ _ hc, fun H2 L s2 nL hL => ⟨L, rfl, ⟨_, SqL.of hL⟩, fun D nD => ?_⟩⟩
  refine lc_pick (walk_list (a := L) (xs := (statesM wb kc).map V.int) (K := K)) (fun G s' => SqL.of (s' _ _ hL)) (by rw [List.length_map]; omega) nD ((statesM wb kc).map fun s => (decide (s ∈ fr.map (·.1)), V.int s)) (by rw [List.length_map, List.length_map]) (fun i x b y G R hx hp s1 go => ?_) (fun H3 s3 hD => ?_)
  · rw [List.getElem?_map] at hx hp
    obtain ⟨z, hz, rfl⟩ := Option.map_eq_some_iff.mp hx
    rw [hz] at hp
    cases hp
    refine ⟨rfl, _, rfl, _, rfl, Fa, valV (farK fr) (Sum.inl z), rfl, DGet.k (k := Sum.inl z) ((s2.trans s1) _ _ hF), _, rfl, ?_⟩
    have ev : (valV (farK fr) (Sum.inl z)).isSome = decide (z ∈ fr.map (·.1)) := by
      rcases farK_val (s := z) fo.nd with ⟨n, hn, en⟩ | ⟨hn, en⟩
      · rw [en, decide_eq_true (List.mem_map.mpr ⟨_, hn, rfl⟩)]; rfl
      · rw [en, decide_eq_false hn]; rfl
    rw [ev]
    exact go _ _ (Same.refl _) fun _ Q' hQ => ⟨_, rfl, hQ _ (Same.refl _)⟩
  rw [picked_fil] at hD
  have sX3 : Same X H3 := s2.trans s3
  have hD' : H3 D = some (.lst (S1.map V.int)) := hD
  clear hD
  refine ⟨_, rfl, _, .inl ⟨_, SqL.of hD', rfl⟩, ?_⟩
  refine ite2 (fun e => ?_) (fun e => ?_)
  · have e0 : S1 = [] := by
      cases z : S1 with
      | nil => rfl
      | cons x r => rw [z] at e; simp at e
    refine q0 (none_case fun s hs hf => ?_) _ (sX.trans sX3)
    have := (s1m s).mpr ⟨hs, hf⟩
    rw [e0] at this
    cases this
  have ne1 : S1 ≠ [] := fun z => by rw [z] at e; simp at e
  clear e q0
  refine ⟨_, rfl, D, rfl, ⟨_, SqL.of hD'⟩, fun D2 nD2 => ?_⟩
  refine lc_pick (walk_list (a := D) (xs := S1.map V.int) (K := K)) (fun G s' => SqL.of (s' _ _ hD')) (by rw [List.length_map]; omega) nD2 (S1.map fun s => (true, V.int (fv fr s))) (by rw [List.length_map, List.length_map]) (fun i x b y G R hx hp s1 go => ?_) (fun H4 s4 hD2 => ?_)
  · rw [List.getElem?_map] at hx hp
    obtain ⟨z, hz, rfl⟩ := Option.map_eq_some_iff.mp hx
    rw [hz] at hp
    cases hp
    have hzf := ((s1m z).mp (List.mem_of_getElem? hz)).2
    refine ⟨rfl, go _ _ (Same.refl _) fun _ Q' hQ => ⟨_, rfl, _, rfl, Fa, .int (fv fr z), rfl, ?_, hQ _ (Same.refl _)⟩⟩
    have := DGet.k (k := Sum.inl z) ((sX3.trans s1) _ _ hF)
    rw [fv_get fo.nd hzf] at this
    exact this
  have ep : picked (S1.map fun s => (true, V.int (fv fr s))) = (S1.map (fv fr)).map V.int := by
    have := pick_true (S1.map fun s => V.int (fv fr s))
    rw [List.map_map] at this ⊢
    exact this
  rw [ep] at hD2
  have sX4 : Same X H4 := sX3.trans s4
  refine ⟨D2, S1.map (fv fr), rfl, SqL.of hD2, by rw [List.length_map]; exact List.length_pos_iff.mpr ne1, fun mn hmn low => ?_⟩
  obtain ⟨sm, hsm, rfl⟩ := List.mem_map.mp hmn
  have hD4 := s4 _ _ hD'
  clear ep hD2 hmn
  have nn0 := fo.nonneg (fv_at ((s1m sm).mp hsm).2)
  obtain ⟨n0, en0⟩ : ∃ n0 : Nat, fv fr sm = n0 := ⟨(fv fr sm).toNat, (Int.toNat_of_nonneg nn0).symm⟩
  have n0le : n0 ≤ 30 := by
    have := fo.edges (fv_at ((s1m sm).mp hsm).2)
    omega
  rw [en0] at low ⊢
  have lows : ∀ s k, (kc, s) ∈ wb.1 → (s, k) ∈ fr → (n0 : Int) ≤ k := fun s k h1 h2 => by
    have hs : s ∈ S1 := (s1m s).mpr ⟨h1, List.mem_map.mpr ⟨_, h2, rfl⟩⟩
    have := low _ (List.mem_map.mpr ⟨s, hs, rfl⟩)
    rwa [fo.one (fv_at ((s1m s).mp hs).2) h2] at this
  refine ⟨_, rfl, D, rfl, ⟨_, SqL.of hD4⟩, fun D3 nD3 => ?_⟩
  refine lc_pick (walk_list (a := D) (xs := S1.map V.int) (K := K)) (fun G s' => SqL.of (s' _ _ hD4)) (by rw [List.length_map]; omega) nD3 (S1.map fun s => (decide (fv fr s = n0), V.int s)) (by rw [List.length_map, List.length_map]) (fun i x b y G R hx hp s1 go => ?_) (fun H5 s5 hD3 => ?_)
  · rw [List.getElem?_map] at hx hp
    obtain ⟨z, hz, rfl⟩ := Option.map_eq_some_iff.mp hx
    rw [hz] at hp
    cases hp
    have hzf := ((s1m z).mp (List.mem_of_getElem? hz)).2
    refine ⟨rfl, _, rfl, _, rfl, Fa, .int (fv fr z), rfl, ?_, _, rfl, rfl, _, rfl, ?_⟩
    · have := DGet.k (k := Sum.inl z) ((sX4.trans s1) _ _ hF)
      rw [fv_get fo.nd hzf] at this
      exact this
    · rw [show decide (V.int (fv fr z) = V.int (n0 : Int)) = decide (fv fr z = n0) by simp]
      exact go _ _ (Same.refl _) fun _ Q' hQ => ⟨_, rfl, hQ _ (Same.refl _)⟩
  rw [picked_fil] at hD3
  have sX5 : Same X H5 := sX4.trans s5
  refine ⟨_, rfl, m, wb, rfl, dp_same sX5 _ _ hmX, ok, fun Y d T sY AY => ?_⟩
  have sXY : Same X Y := sX5.trans sY
  have hSt := sY _ _ hD3
  have hFY := sXY _ _ hF
  have lp0 : Lp wb kc fr n0 [] n0 (S1.filter fun s => decide (fv fr s = n0)) := by
    refine lp_start (fun z => ?_) (fun q => ?_) lows
    · have : sm ∈ S1.filter fun s => decide (fv fr s = n0) := List.mem_filter.mpr ⟨hsm, decide_eq_true en0⟩
      rw [z] at this
      cases this
    · rw [List.mem_filter, s1m, decide_eq_true_eq]
      constructor
      · rintro ⟨⟨h1, h2⟩, h3⟩
        rw [← h3]
        exact ⟨h1, fv_at h2⟩
      · rintro ⟨h1, h2⟩
        have h3 : q ∈ fr.map (·.1) := List.mem_map.mpr ⟨_, h2, rfl⟩
        exact ⟨⟨h1, h3⟩, fo.one (fv_at h3) h2⟩
  have lp1 : (S1.filter fun s => decide (fv fr s = n0)).length ≤ 30 := Nat.le_trans (List.length_filter_le _ _) s1l
  generalize S1.filter (fun s => decide (fv fr s = n0)) = ss0 at lp0 lp1 hSt
  refine ⟨Nat.zero_le _, fun Pa nP => ?_⟩
  have sP : Same Y (upd Y Pa (.lst [])) := same_new nP
  refine ⟨fun mm σ G => ∃ l ss Sa us y4 y8 y9 y10, σ = [some m, some c, some (.ref Fa), some (.ref Sa), y4, some (.int (mm : Nat)), some (.ref d), some (.ref Pa), y8, y9, y10] ∧ Same Y G ∧ G Sa = some (.lst (ss.map V.int)) ∧ Sa ≠ Pa ∧ G Pa = some (.lst us) ∧ DpAll K Y us (l.map pnD) ∧ ss.length ≤ 30 ∧ Lp wb kc fr n0 l mm ss,
    ⟨n0, [], ss0, _, [], _, _, _, _, rfl, sP, sP _ _ hSt, (fun z => by rw [← z, hSt] at nP; cases nP), upd_same, .nil, lp1, lp0⟩, fun mm σ G hP => ?_⟩
  obtain ⟨l, ss, Sa, us, y4, y8, y9, y10, rfl, sG, hSa, nSP, hPa, hus, sl30, lp⟩ := hP
  refine ⟨_, rfl, _, _, rfl, rfl, _, rfl, ?_⟩
  refine ite2 (fun e => ?_) (fun e => ?_)
  rotate_left
  · have e0 : mm = 0 := by
      have := of_decide_eq_false (Bool.eq_false_iff.mpr e)
      omega
    subst e0
    refine ⟨_, rfl, Pa, us, rfl, .inl ⟨SqL.of hPa, fun tl nl => ?_⟩⟩
    have sT : Same G (upd G tl (.tup us)) := same_new nl
    exact q l (lp_end fo lp) _ _ (sX.trans (sXY.trans (sG.trans sT))) (.tup (SqT.of upd_same) (dpAll_same (sG.trans sT) _ _ hus))
  have pos : 0 < mm := by
    have := of_decide_eq_true e
    omega
  obtain ⟨n, rfl⟩ : ∃ n, mm = n + 1 := ⟨mm - 1, by omega⟩
  have e5 : (((n + 1 : Nat) : Int) - 1) = (n : Int) := by omega
  refine ⟨fun σ' G => ∃ l ss Sa us y4 y8 y9 y10, σ' = [some m, some c, some (.ref Fa), some (.ref Sa), y4, some (.int (n : Nat)), some (.ref d), some (.ref Pa), y8, y9, y10] ∧ Same Y G ∧ G Sa = some (.lst (ss.map V.int)) ∧ Sa ≠ Pa ∧ G Pa = some (.lst us) ∧ DpAll K Y us (l.map pnD) ∧ ss.length ≤ 30 ∧ Lp wb kc fr n0 l n ss, fun σ' H' h' => ⟨n, by omega, h'⟩, ?_⟩
  refine ⟨_, rfl, _, 1, rfl, rfl, ?_⟩
  dsimp only
  rw [e5]
  refine ⟨_, rfl, Sa, rfl, ⟨_, SqL.of hSa⟩, fun De nDe => ?_⟩
  show L3.tOver (gName 4) tYes (L3.tIn (iList K (tDGet (tVar 6) (tVar 4))) (gName 9) (tTest (tOp rEq (tDGet1 (tVar 2) (tOp (rIxT K) (tVar 9) (tC (V.int 1)))) (tVar 5))) (L3.tEmit De (tVar 9)) [9]) [4, 9] _ _ _ _
  have hal := found_all (f := fr) (n := n) AY ss
  refine outer_over (X := G) (walk_list (a := Sa) (xs := ss.map V.int) (K := K)) (fun H s' => SqL.of (s' _ _ hSa)) nDe (fun i => itemV wb fr n T (ss.getD i 0)) (fun i x H6 H7 acc R hi sH hacc hal2 hy hR => ?_) (fun H6 sH hDe => ?_)
  · obtain ⟨rfl, ex⟩ := hy
    rw [List.getElem?_map] at ex
    obtain ⟨s, hs, rfl⟩ := Option.map_eq_some_iff.mp ex
    have es : ss.getD i 0 = s := by rw [List.getD_eq_getElem?_getD, hs]; rfl
    rw [es] at hR
    have sY7 : Same Y H7 := sG.trans sH
    have bnd := range_len (f := fun i => itemV wb fr n T (ss.getD i 0)) (b := 30) (fun i => Nat.le_trans item_len ne) i
    have lb := look_len AY s
    rw [List.length_map] at hi
    have im : i * 30 ≤ 900 := by
      have : i * 30 ≤ 30 * 30 := Nat.mul_le_mul_right _ (by omega)
      omega
    have hsm := List.mem_of_getElem? hs
    obtain ⟨La, eLa, hLa⟩ : ∃ La, valV (tabK T) (Sum.inl s) = some (.ref La) ∧ Y La = some (.lst (lookL T s)) := by
      rcases (AY.look s).2 with z | ⟨_, z0⟩
      · exact z
      · have l1 := dpAll_len (AY.look s).1
        obtain ⟨p1, t1, h1, h2⟩ := fo.nearer ((lp.at_ s).mp hsm).2 (by omega)
        have h3 := (outs_mem (x := (p1, t1))).mpr h1
        rw [ahead_of, List.length_map, z0] at l1
        have := List.length_pos_of_mem h3
        simp at l1
        omega
    refine ⟨rfl, ?_⟩
    dsimp only [tYes]
    simp only [if_true]
    refine ⟨_, rfl, _, rfl, d, .ref La, rfl, ?_, La, rfl, ⟨_, SqL.of (sY7 _ _ hLa)⟩, ?_⟩
    · have := DGet.k (k := Sum.inl s) (sY7 _ _ AY.hd)
      rw [eLa] at this
      exact this
    show L3.tOver (gName 9) (tTest (tOp rEq (tDGet1 (tVar 2) (tOp (rIxT K) (tVar 9) (tC (V.int 1)))) (tVar 5))) (L3.tEmit De (tVar 9)) [9] _ _ _ _
    have hlk := (AY.look s).1
    rw [ahead_of] at hlk
    have lel : (lookL T s).length = (outs wb s).length := by rw [dpAll_len hlk, List.length_map]
    refine inner_over (X := G) (walk_list (a := La) (xs := lookL T s) (K := K)) (fun H s' => SqL.of ((sG.trans s') _ _ hLa)) sH nDe hacc (List.zipWith (fun v x => (nearM fr n x, v)) (lookL T s) (outs wb s)) (by rw [List.length_zipWith]; omega) (by omega) (fun j x b y H8 R hx hp s9 go => ?_) (fun H9 s9 h9 => hR H9 s9 h9)
    obtain ⟨x', e, h1, h2, e3⟩ := zip_at hp
    rw [hx] at h1
    cases h1
    obtain ⟨eb, ey⟩ := Prod.mk.inj e3
    subst eb
    subst ey
    obtain ⟨ud, hud, hudd⟩ := dpAll_get hlk hx
    rw [List.getElem?_map, h2] at hud
    cases hud
    obtain ⟨t, u0, u1, rfl, ht, e0, e1⟩ := dp2 (show Dp K Y _ (.tuple [pnD e.1, .int e.2]) from hudd)
    cases dp_int e1
    have s8 : Same Y H8 := sG.trans s9
    refine ⟨rfl, _, rfl, Fa, rfl, .inl ⟨_, .inl (s8 _ _ hFY)⟩, _, rfl, t, _, 1, .int e.2, rfl, rfl, same_tup s8 ht, atI_nat (j := 1) rfl, valV (farK fr) (Sum.inl e.2), DGet.k (k := Sum.inl e.2) (s8 _ _ hFY), _, rfl, ?_⟩
    have ev : scal ((valV (farK fr) (Sum.inl e.2)).getD .non) (V.int (n : Int)) = true ∧ decide ((valV (farK fr) (Sum.inl e.2)).getD .non = V.int (n : Int)) = nearM fr n e := by
      unfold nearM
      rcases farK_val (s := e.2) fo.nd with ⟨n', hn, en⟩ | ⟨hn, en⟩
      · rw [en]
        refine ⟨rfl, ?_⟩
        show decide (V.int n' = V.int (n : Int)) = _
        by_cases z : n' = (n : Int)
        · rw [z] at hn ⊢
          rw [decide_eq_true hn, decide_eq_true rfl]
        · rw [decide_eq_false fun y => z (by injection y), decide_eq_false fun y => z (pair_one fo.nd hn y)]
      · rw [en]
        refine ⟨rfl, ?_⟩
        show decide (V.non = V.int (n : Int)) = _
        rw [decide_eq_false fun y => hn (List.mem_map.mpr ⟨_, y, rfl⟩)]
        rfl
    refine ⟨ev.1, _, rfl, ?_⟩
    rw [ev.2]
    exact go _ _ (Same.refl _) fun _ Q' hQ => ⟨_, rfl, hQ _ (Same.refl _)⟩
  rw [List.length_map, range_flat (itemV wb fr n T) ss] at hDe
  obtain ⟨rs, rl, ers, hpn, rp⟩ := outs_of hal
  rw [ers] at hDe
  have fl : (foundM wb fr n ss).length ≤ 900 := by
    have h1 : (foundM wb fr n ss).length ≤ (ss.flatMap (outs wb)).length := by
      have key : ∀ ss : List Int, (foundM wb fr n ss).length ≤ (ss.flatMap (outs wb)).length := fun ss => by
        induction ss with
        | nil => exact Nat.le_refl _
        | cons s ss ih =>
          show (List.flatMap _ (s :: ss)).length ≤ _
          rw [List.flatMap_cons, List.flatMap_cons, List.length_append, List.length_append]
          have := List.length_filter_le (nearM fr n) (outs wb s)
          have ih' : (List.flatMap (fun s => (outs wb s).filter (nearM fr n)) ss).length ≤ _ := ih
          omega
      exact key ss
    have h2 := outs_len wb ss
    have h3 : ss.length * wb.2.1.length ≤ 900 := Nat.le_trans (Nat.mul_le_mul sl30 ne) (by decide)
    omega
  have fm := fun p t => found_mem (w := wb) (f := fr) (n := n) (ss := ss) p t
  obtain ⟨xs0, xsr, exs⟩ : ∃ x r, foundM wb fr n ss = x :: r := by
    obtain ⟨s, p, t, h1, h2, h3⟩ := lp_some fo lp
    have := (fm p t).mpr ⟨s, h1, h2, h3⟩
    cases z : foundM wb fr n ss with
    | nil => rw [z] at this; cases this
    | cons x r => exact ⟨x, r, rfl⟩
  have sY6 : Same Y H6 := sG.trans sH
  have hPa6 : H6 Pa = some (.lst us) := sH _ _ hPa
  have nDP : De ≠ Pa := fun z => by rw [z, hPa] at nDe; cases nDe
  refine ⟨_, rfl, De, rfl, ⟨_, SqL.of hDe⟩, fun D5 nD5 => ?_⟩
  refine lc_pick (walk_list (a := De) (xs := rs.map fun r => V.ref r.1) (K := K)) (fun G s' => SqL.of (s' _ _ hDe)) (by rw [List.length_map]; omega) nD5 (rs.map fun r => (true, r.2)) (by rw [List.length_map, List.length_map]) (fun i x b y G R hx hp s1 go => ?_) (fun H7 s7 hD5 => ?_)
  · rw [List.getElem?_map] at hx hp
    obtain ⟨r, hr, rfl⟩ := Option.map_eq_some_iff.mp hx
    rw [hr] at hp
    cases hp
    obtain ⟨x', hx'⟩ : ∃ x', (foundM wb fr n ss)[i]? = some x' := ⟨_, List.getElem?_eq_getElem (by have := (List.getElem?_eq_some_iff.mp hr).1; omega)⟩
    obtain ⟨g1, _⟩ := rp i x' r hx' hr
    exact ⟨rfl, go _ _ (Same.refl _) fun _ Q' hQ => ⟨_, rfl, r.1, _, 0, r.2, rfl, rfl, same_tup (sY6.trans s1) g1, atI_nat (j := 0) rfl, hQ _ (Same.refl _)⟩⟩
  have ep : picked (rs.map fun r => (true, r.2)) = rs.map (·.2) := by
    have := pick_true (rs.map (·.2))
    rw [List.map_map] at this
    exact this
  rw [ep] at hD5
  clear ep
  have sY7 : Same Y H7 := sY6.trans s7
  have hpn' := hpn
  rw [exs] at hpn'
  have hpn2 := dpAll_same sY7 _ _ hpn'
  rw [List.map_cons] at hpn2
  refine ⟨D5, rs.map (fun r : Addr × V => r.2), pnD xs0.1, xsr.map (fun x : Pn × Int => pnD x.1), rfl, SqL.of hD5, hpn2, ?_, ?_, fun i u hu hmn => ?_⟩
  · have := pns_alike ((xs0 :: xsr).map (·.1))
    rw [List.map_map] at this
    exact this
  · intro e he
    obtain ⟨x, _, rfl⟩ := List.mem_map.mp (show e ∈ (xs0 :: xsr).map (fun x => pnD x.1) from he)
    show (pnD x.1).depth ≤ 60
    simp [pnD, PyData.depth, PyData.depthAll]
  have em : PySem.W.minD (pnD xs0.1) (xsr.map fun x => pnD x.1) = pnD (minPn xs0.1 (xsr.map (·.1))) := by
    rw [← minD_pn, List.map_map]
    rfl
  rw [em] at hmn
  have mok := minPn_ok xs0.1 (xsr.map (·.1))
  generalize minPn xs0.1 (xsr.map (·.1)) = p at hmn mok
  have hmn' : ((foundM wb fr n ss).map fun x => pnD x.1)[i]? = some (pnD p) := by
    rw [exs]
    exact hmn
  rw [List.getElem?_map] at hmn'
  obtain ⟨xm, hxm, exm⟩ := Option.map_eq_some_iff.mp hmn'
  have exm' : xm.1 = p := pn_inj exm
  have hpin : (p, xm.2) ∈ foundM wb fr n ss := by
    rw [← exm']
    exact List.mem_of_getElem? hxm
  have hmin : ∀ x ∈ foundM wb fr n ss, pLt x.1 p = false := fun x hx => by
    rw [exs] at hx
    exact mok.2 x.1 (List.mem_map.mpr ⟨x, hx, rfl⟩)
  have hud : Dp K Y u (pnD p) := by
    obtain ⟨dd, hdd, hd⟩ := dpAll_get hpn hu
    rw [List.getElem?_map, hxm] at hdd
    cases hdd
    rw [← exm']
    exact hd
  have hPa7 : H7 Pa = some (.lst us) := s7 _ _ hPa6
  have hDe7 := s7 _ _ hDe
  have ull : us.length = l.length := by rw [dpAll_len hus, List.length_map]
  have lln := lp.len
  refine ⟨_, rfl, .inl ⟨rfl, _, SqL.of hPa7⟩, _, rfl, Pa, _, _, rfl, rfl, hPa7, LC.small_line (by omega), ?_⟩
  have sY8 : Same Y (upd H7 Pa (.lst (us ++ [u]))) := same_put sY7 nP
  have hP8 : (upd H7 Pa (.lst (us ++ [u]))) Pa = some (.lst (us ++ [u])) := upd_same
  have hDe8 : (upd H7 Pa (.lst (us ++ [u]))) De = some (.lst (rs.map fun r => V.ref r.1)) := by rw [upd_ne nDP]; exact hDe7
  generalize upd H7 Pa (.lst (us ++ [u])) = H8 at sY8 hP8 hDe8 ⊢
  clear hDe7 hPa7 hD5 hmn hmn' s7 sY7 hDe hPa6 nD5
  refine ⟨_, rfl, De, rfl, ⟨_, SqL.of hDe8⟩, fun D6 nD6 => ?_⟩
  show L3.tOver (gName 9) (tTest (tOp (rEqD K) (tOp (rIxT K) (tVar 9) (tC (V.int 0))) (tVar 10))) (tPutD D6 (tOp (rIxT K) (tVar 9) (tC (V.int 1))) (tC (V.bl true))) [9] _ _ _ _
  refine dc_pick (X := H8) (walk_list (a := De) (xs := rs.map fun r => V.ref r.1) (K := K)) (fun G s' => SqL.of (s' _ _ hDe8)) (by rw [List.length_map]; omega) nD6 ((foundM wb fr n ss).map fun x => (decide (x.1 = p), x.2)) (by rw [List.length_map, List.length_map, rl]) (fun j v b y H9 R hx hp s9 go => ?_) (fun H9 s9 h9 => ?_)
  · rw [List.getElem?_map] at hx hp
    obtain ⟨r, hr, rfl⟩ := Option.map_eq_some_iff.mp hx
    obtain ⟨x', hx', e'⟩ := Option.map_eq_some_iff.mp hp
    obtain ⟨eb, ey⟩ := Prod.mk.inj e'
    subst eb
    subst ey
    obtain ⟨g1, g2⟩ := rp j x' r hx' hr
    have s' : Same Y H9 := sY8.trans s9
    refine ⟨rfl, _, rfl, r.1, _, 0, r.2, rfl, rfl, same_tup s' g1, atI_nat (j := 0) rfl, _, rfl, _, _, dp_same s' _ _ g2, dp_same s' _ _ hud, pn_shaped _, pn_shaped _, _, rfl, ?_⟩
    rw [pn_eqv]
    exact go _ _ (Same.refl _) fun _ Q' hQ => ⟨_, rfl, r.1, _, 1, .int x'.2, rfl, rfl, same_tup s' g1, atI_nat (j := 1) rfl, hQ _ (Same.refl _)⟩
  have km : ∀ q, q ∈ dk (pickI ((foundM wb fr n ss).map fun x => (decide (x.1 = p), x.2))) ↔ (p, q) ∈ foundM wb fr n ss := fun q => by
    rw [(dk_ok _).2]
    unfold pickI
    rw [List.filter_map, List.map_map, List.mem_map]
    constructor
    · rintro ⟨x, hx, rfl⟩
      obtain ⟨h1, h2⟩ := List.mem_filter.mp hx
      rw [← show x.1 = p from of_decide_eq_true h2]
      exact h1
    · intro h
      exact ⟨(p, q), List.mem_filter.mpr ⟨h, decide_eq_true rfl⟩, rfl⟩
  have knd := (dk_ok (pickI ((foundM wb fr n ss).map fun x => (decide (x.1 = p), x.2)))).1
  generalize dk (pickI ((foundM wb fr n ss).map fun x => (decide (x.1 = p), x.2))) = ks at km knd h9
  have kl : ks.length ≤ 30 := by
    refine Nat.le_trans (S2.nd_len (U := wb.2.1.map (·.2.2)) knd fun o ho => ?_) (by rw [List.length_map]; exact ne)
    obtain ⟨s, _, he, _⟩ := (fm p o).mp ((km o).mp ho)
    exact List.mem_map.mpr ⟨_, he, rfl⟩
  refine ⟨D6, _, rfl, .inl h9, fun Sb nSb => ?_⟩
  have ek : (sameK (V.bl true) ks).map (fun kv => kV kv.1) = ks.map V.int := by
    unfold sameK
    rw [List.map_map]
    rfl
  rw [ek]
  have hP9 := s9 _ _ hP8
  have nbP : Sb ≠ Pa := fun z => by rw [z, hP9] at nSb; cases nSb
  refine ⟨l ++ [p], ks, Sb, us ++ [u], _, _, _, _, rfl, (sY8.trans s9).trans (same_new nSb), upd_same, nbP, by rw [upd_ne fun z => nbP z.symm]; exact hP9, ?_, kl, lp_step fo lp fm hpin hmin km⟩
  rw [List.map_append]
  exact dpAll_app hus (.cons hud .nil)
end
end MM

set_option maxHeartbeats 4000000
namespace MM
open PySem PySem.Spec PyProof.Rows L2 G3 M0 LP
/-! ### the law: piles -/
def longer (row : List (List Pn)) (ps : List Pn) : List (List Pn) := row.flatMap fun l => ps.map fun p => l ++ [p]
abbrev nLg : List Str := ["_law_row", "_law_points", "_law_found", "_law_heap", "_law_point"]
theorem scLg : FnScope nLg ["_law_row", "_law_points"] (defScope s_law_longer) := ⟨rfl, rfl, rfl, by decide +kernel, rfl, by decide +kernel, by decide +kernel⟩
section
variable {P : Program} {w : World} {K : PySem.W.Frag} {mg : Str → Option Value} {base : Heap}
def spLg (K : PySem.W.Frag) : Sp := fun vs H Q _ => ∃ (r p : Addr) (us qs : List V) (ls : List (List Pn)) (ps : List Pn), vs = [.ref r, .ref p] ∧ H r = some (.lst us) ∧ DpAll K H us (ls.map pileD) ∧ H p = some (.lst qs) ∧ DpAll K H qs (ps.map pnD) ∧ ls.length ≤ 100 ∧ ps.length ≤ 10 ∧ (∀ l ∈ ls, l.length ≤ 100) ∧ ∀ H' L xs, Same H H' → H L = none → H' L = some (.lst xs) → DpAll K H' xs ((longer ls ps).map pileD) → Q (.ref L) H'
set_option maxHeartbeats 32000000 in
theorem ok_lg {f : Addr} {fd : FuncData} {k : Nat} (F : Fun K "_law_longer" "_law_longer" s_law_longer f fd) : FnOk P w K mg base CX0 (k + 1) f fd ["_law_row", "_law_points"] (spLg K) := by
  refine F.ok scLg (fun vs H Q E h => ?_) (fun cdv A outer s H vs Q E hr h => ?_)
  · obtain ⟨r, p, us, qs, ls, ps, rfl, _⟩ := h
    rfl
  obtain ⟨r, p, us, qs, ls, ps, rfl, hr0, hrd, hp0, hpd, l1, l2, l3, q⟩ := h
  have nd := scLg.nd
  have hu := hu_of hr
  refine ⟨_, (pss_cons (ps_set (i := 2) nd rfl (.inl rfl) (pe_lst pa_nil))
    (pss_cons (ps_for PassesOwn.never rfl (pi_list (pv 0)) (pg_name (i := 3) nd rfl (.inr rfl))
      (pss_one (ps_set (i := 2) nd rfl (.inl rfl) (pe_op op_cat (pv 2) (pe_lc (own := [("_law_point", 4)]) (g := (gName 4)) (tt := tYes) (by rfl) nd (pi_list (pv 1)) (blkOk_by (N := nLg) (sc := defScope s_law_longer) (by decide +kernel)) (fun _ _ _ _ _ => (pg_name (i := 4) nd rfl (.inl rfl))) (fun _ _ _ _ _ => pts_nil) (fun _ _ _ _ _ => (pe_op (r := rCatA K) op_catA (pv 3) (pe_tup (pa_cons (pv 4) pa_nil)))))))))
    (pss_one (ps_ret (pv 2))))), ?_⟩
  have pl : qs.length = ps.length := by rw [dpAll_len hpd, List.length_map]
  have rlen : us.length = ls.length := by rw [dpAll_len hrd, List.length_map]
  refine ⟨Nat.zero_le _, fun L0 nL0 => ?_⟩
  refine ⟨_, rfl, r, rfl, ⟨_, SqL.of (same_new nL0 _ _ hr0)⟩, for_list (xs := us) (fun i σ G => ∃ L vs y3 y4, σ = [some (.ref r), some (.ref p), some (.ref L), y3, y4] ∧ Same H G ∧ H L = none ∧ G L = some (.lst vs) ∧ DpAll K G vs ((longer (ls.take i) ps).map pileD)) ⟨L0, [], _, _, rfl, same_new nL0, nL0, upd_same, by rw [List.take_zero]; exact .nil⟩ (fun i σ G _ hP => ?_) (fun i x σ G hx hP => ?_) (fun σ G hP => ?_)⟩
  · obtain ⟨_, _, _, _, _, sG, _⟩ := hP
    exact SqL.of (sG _ _ hr0)
  · obtain ⟨L, vs, y3, y4, rfl, sG, nL, hL, hvs⟩ := hP
    obtain ⟨dd, hdd, hxd⟩ := dpAll_get hrd hx
    rw [List.getElem?_map] at hdd
    obtain ⟨l, hl, rfl⟩ := Option.map_eq_some_iff.mp hdd
    obtain ⟨ha, xl, rfl, hs, hsd⟩ := dpT hxd
    have hll := l3 l (List.mem_of_getElem? hl)
    have xll : xl.length = l.length := by rw [dpAll_len hsd, List.length_map]
    have tk : longer (ls.take (i + 1)) ps = longer (ls.take i) ps ++ ps.map fun t => l ++ [t] := by
      unfold longer
      rw [List.take_add_one, hl, List.flatMap_append]
      simp
    have vl : vs.length ≤ 1000 := by
      rw [dpAll_len hvs, List.length_map]
      have key : ∀ ls : List (List Pn), (longer ls ps).length ≤ ls.length * ps.length := fun ls => by
        induction ls with
        | nil => simp [longer]
        | cons a ls ih =>
          unfold longer at ih ⊢
          rw [List.flatMap_cons, List.length_append, List.length_map, List.length_cons, Nat.succ_mul]
          omega
      have h1 := key (ls.take i)
      have h2 : (ls.take i).length ≤ 100 := by rw [List.length_take]; omega
      have h3 : (ls.take i).length * ps.length ≤ 100 * 10 := Nat.mul_le_mul h2 l2
      omega
    refine ⟨_, rfl, _, rfl, p, rfl, ⟨_, SqL.of (sG _ _ hp0)⟩, fun D nD => ?_⟩
    refine LR.lc_dp (K := K) (walk_list (a := p) (xs := qs) (K := K)) (fun G2 s' => SqL.of ((sG.trans s') _ _ hp0)) (by omega) nD (ps.map fun t => pileD (l ++ [t])) (by rw [List.length_map, pl]) (fun j x2 d G2 R hx2 hd s2 ac go => ?_) (fun G3 us2 s3 hD hus2 => ?_)
    · obtain ⟨acc, hDa⟩ := ac
      rw [List.getElem?_map] at hd
      obtain ⟨t, ht, rfl⟩ := Option.map_eq_some_iff.mp hd
      obtain ⟨d2, hd2, hxd2⟩ := dpAll_get hpd hx2
      rw [List.getElem?_map, ht] at hd2
      cases hd2
      have sH2 : Same H G2 := sG.trans s2
      refine ⟨rfl, _, rfl, _, rfl, lz1, fun T nT => ?_⟩
      have sT : Same G2 (upd G2 T (.tup [x2])) := same_new nT
      refine ⟨ha, T, xl, [x2], rfl, rfl, same_tup (sH2.trans sT) hs, SqT.of upd_same, ?_, fun e0 => ?_, fun _ e => (by cases e), fun _ _ q2 nq => ?_⟩
      · have := LC.small_line (n := xl.length + 1) (by omega)
        show xl.length + 1 ≤ _
        omega
      · refine go _ _ sT (LR.dp_hideF (sT _ _ hDa) _ _ (flat_pile _) ?_)
        have : l = [] := List.eq_nil_of_length_eq_zero (by rw [← xll, e0]; rfl)
        rw [this]
        exact .tup (SqT.of upd_same) (.cons (dp_same (sH2.trans sT) _ _ hxd2) .nil)
      · have sq : Same (upd G2 T (.tup [x2])) (upd (upd G2 T (.tup [x2])) q2 (.tup (xl ++ [x2]))) := same_new nq
        refine go _ _ (sT.trans sq) (LR.dp_hideF ((sT.trans sq) _ _ hDa) _ _ (flat_pile _) ?_)
        refine .tup (SqT.of upd_same) ?_
        rw [List.map_append]
        exact dpAll_app (dpAll_same (sH2.trans (sT.trans sq)) _ _ hsd) (.cons (dp_same (sH2.trans (sT.trans sq)) _ _ hxd2) .nil)
    · have ul : us2.length = ps.length := by rw [dpAll_len hus2, List.length_map]
      refine ⟨L, D, vs, us2, rfl, rfl, s3 _ _ hL, hD, ?_, fun q2 nq => ?_⟩
      · have := LC.small_line (n := vs.length + us2.length) (by omega)
        omega
      have sq : Same G3 (upd G3 q2 (.lst (vs ++ us2))) := same_new nq
      refine ⟨q2, vs ++ us2, _, _, rfl, sG.trans (s3.trans sq), same_none (sG.trans s3) nq, upd_same, ?_⟩
      rw [tk, List.map_append, List.map_map]
      exact dpAll_app (dpAll_same (s3.trans sq) _ _ hvs) (dpAll_same sq _ _ hus2)
  · obtain ⟨L, vs, y3, y4, rfl, sG, nL, hL, hvs⟩ := hP
    rw [List.take_of_length_le (by omega)] at hvs
    exact ⟨_, rfl, q _ L vs sG nL hL hvs⟩
end
def rowM (ps : List Pn) : Nat → List (List Pn)
  | 0 => [[]]
  | n + 1 => longer (rowM ps n) ps
def pilesM (ps : List Pn) : Nat → List (List Pn)
  | 0 => [[]]
  | n + 1 => pilesM ps n ++ rowM ps (n + 1)
theorem longer_len (ls : List (List Pn)) (ps : List Pn) : (longer ls ps).length = ls.length * ps.length := by
  induction ls with
  | nil => simp [longer]
  | cons a ls ih =>
    unfold longer at ih ⊢
    rw [List.flatMap_cons, List.length_append, List.length_map, List.length_cons, Nat.succ_mul]
    omega
theorem row_each {ps : List Pn} : ∀ {n : Nat} {l : List Pn}, l ∈ rowM ps n → l.length = n
  | 0, l, h => by
    rw [List.mem_singleton.mp h]; rfl
  | n + 1, l, h => by
    obtain ⟨m, hm, h2⟩ := List.mem_flatMap.mp (show l ∈ List.flatMap _ _ from h)
    obtain ⟨p, _, rfl⟩ := List.mem_map.mp h2
    rw [List.length_append, row_each hm]
    rfl
theorem piles_each {ps : List Pn} : ∀ {n : Nat} {l : List Pn}, l ∈ pilesM ps n → l.length ≤ n
  | 0, l, h => by
    rw [List.mem_singleton.mp h]; exact Nat.le_refl _
  | n + 1, l, h => by
    rcases List.mem_append.mp (show l ∈ pilesM ps n ++ rowM ps (n + 1) from h) with z | z
    · have := piles_each z
      omega
    · rw [row_each z]
      omega
abbrev nPl : List Str := ["_law_points", "_law_most", "_law_found", "_law_row", "_law_turn"]
theorem scPl : FnScope nPl ["_law_points", "_law_most"] (defScope s_law_piles) := ⟨rfl, rfl, rfl, by decide +kernel, rfl, by decide +kernel, by decide +kernel⟩
section
variable {P : Program} {w : World} {K : PySem.W.Frag} {mg : Str → Option Value} {base : Heap}
def spPl (K : PySem.W.Frag) : Sp := fun vs H Q _ => ∃ (p : Addr) (qs : List V) (ps : List Pn), vs = [.ref p, .int 3] ∧ H p = some (.lst qs) ∧ DpAll K H qs (ps.map pnD) ∧ ps.length = 3 ∧ ∀ H' L xs, Same H H' → H L = none → H' L = some (.lst xs) → DpAll K H' xs ((pilesM ps 3).map pileD) → Q (.ref L) H'
set_option maxHeartbeats 32000000 in
theorem ok_pl {f : Addr} {fd : FuncData} {k : Nat} (F : Fun K "_law_piles" "_law_piles" s_law_piles f fd) (DG : Def P w K mg base CX0 (k + 1) "_law_longer" ["_law_row", "_law_points"] (spLg K)) (m_range : mg "range" = none) : FnOk P w K mg base CX0 (k + 1 + 1) f fd ["_law_points", "_law_most"] (spPl K) := by
  refine F.ok scPl (fun vs H Q E h => ?_) (fun cdv A outer s H vs Q E hr h => ?_)
  · obtain ⟨p, qs, ps, rfl, _⟩ := h
    rfl
  obtain ⟨p, qs, ps, rfl, hp0, hpd, l2, q⟩ := h
  have nd := scPl.nd
  have hu := hu_of hr
  refine ⟨_, (pss_cons (ps_set (i := 2) nd rfl (.inl rfl) (pe_lst (pa_cons (pe_tup pa_nil) pa_nil)))
    (pss_cons (ps_set (i := 3) nd rfl (.inl rfl) (pe_lst (pa_cons (pe_tup pa_nil) pa_nil)))
    (pss_cons (ps_for PassesOwn.never rfl (pi_range1 (by rfl) m_range (pa_cons (pv 1) pa_nil)) (pg_name (i := 4) nd rfl (.inl rfl))
      (pss_cons (ps_set (i := 3) nd rfl (.inl rfl) (pe_call DG.ok hr (by rfl) DG.g DG.kp DG.b .nil pass0 (pa_cons (pv 3) (pa_cons (pv 0) pa_nil))))
    (pss_one (ps_set (i := 2) nd rfl (.inl rfl) (pe_op op_cat (pv 2) (pv 3))))))
    (pss_one (ps_ret (pv 2)))))), ?_⟩
  refine ⟨Nat.zero_le _, fun T1 nT1 => ?_⟩
  have s1 : Same H (upd H T1 (.tup [])) := same_new nT1
  have hT1 : (upd H T1 (.tup [])) T1 = some (.tup []) := upd_same
  generalize upd H T1 (.tup []) = G1 at s1 hT1 ⊢
  refine ⟨lz1, fun L1 nL1 => ?_⟩
  have s2 : Same G1 (upd G1 L1 (.lst [.ref T1])) := same_new nL1
  have hL1 : (upd G1 L1 (.lst [.ref T1])) L1 = some (.lst [.ref T1]) := upd_same
  generalize upd G1 L1 (.lst [.ref T1]) = G2 at s2 hL1 ⊢
  refine ⟨Nat.zero_le _, fun T2 nT2 => ?_⟩
  have s3 : Same G2 (upd G2 T2 (.tup [])) := same_new nT2
  have hT2 : (upd G2 T2 (.tup [])) T2 = some (.tup []) := upd_same
  generalize upd G2 T2 (.tup []) = G3 at s3 hT2 ⊢
  refine ⟨lz1, fun L2 nL2 => ?_⟩
  have s4 : Same G3 (upd G3 L2 (.lst [.ref T2])) := same_new nL2
  have hL2 : (upd G3 L2 (.lst [.ref T2])) L2 = some (.lst [.ref T2]) := upd_same
  generalize upd G3 L2 (.lst [.ref T2]) = G4 at s4 hL2 ⊢
  have sG4 : Same H G4 := s1.trans (s2.trans (s3.trans s4))
  have d1 : DpAll K G4 [.ref T1] (([[]] : List (List Pn)).map pileD) := .cons (.tup (SqT.of (s4 _ _ (s3 _ _ (s2 _ _ hT1)))) .nil) .nil
  have d2 : DpAll K G4 [.ref T2] (([[]] : List (List Pn)).map pileD) := .cons (.tup (SqT.of (s4 _ _ hT2)) .nil) .nil
  refine ⟨_, rfl, 3, rfl, by decide, by decide, for_range (n := 3) (fun i σ G => ∃ La Lb us ws y4, σ = [some (.ref p), some (.int 3), some (.ref La), some (.ref Lb), y4] ∧ Same H G ∧ H La = none ∧ G La = some (.lst us) ∧ G Lb = some (.lst ws) ∧ DpAll K G us ((pilesM ps i).map pileD) ∧ DpAll K G ws ((rowM ps i).map pileD)) ⟨_, _, _, _, _, rfl, sG4, same_none s1 nL1, s4 _ _ (s3 _ _ hL1), hL2, d1, d2⟩ (fun i σ G hi hP => ?_) (fun σ G hP => ?_)⟩
  · obtain ⟨La, Lb, us, ws, y4, rfl, sG, nLa, hLa, hLb, hus, hws⟩ := hP
    have rl : (rowM ps i).length ≤ 27 ∧ (pilesM ps i).length ≤ 40 ∧ (rowM ps (i + 1)).length ≤ 27 := by
      have e : ∀ n, (rowM ps n).length = 3 ^ n := fun n => by
        induction n with
        | zero => rfl
        | succ n ih =>
          show (longer (rowM ps n) ps).length = _
          rw [longer_len, ih, l2, Nat.pow_succ]
      have e2 : ∀ n, (pilesM ps (n + 1)).length = (pilesM ps n).length + 3 ^ (n + 1) := fun n => by
        show (pilesM ps n ++ rowM ps (n + 1)).length = _
        rw [List.length_append, e]
      have e3 : (pilesM ps 0).length = 1 := rfl
      match i, hi with
      | 0, _ => rw [e, e, e3]; decide
      | 1, _ => rw [e, e, e2, e3]; decide
      | 2, _ => rw [e, e, e2, e2, e3]; decide
    refine ⟨_, rfl, _, rfl, Lb, p, ws, qs, rowM ps i, ps, rfl, hLb, hws, sG _ _ hp0, dpAll_same sG _ _ hpd, by omega, by omega, fun l hl => by rw [row_each hl]; omega, fun G5 Lc xs s5 nLc hLc hxs => ?_⟩
    have hxl := dpAll_len hxs
    have hul := dpAll_len hus
    rw [List.length_map] at hxl hul
    have hxl' : xs.length = (rowM ps (i + 1)).length := hxl
    refine ⟨_, rfl, _, rfl, La, Lc, us, xs, rfl, rfl, s5 _ _ hLa, hLc, ?_, fun q2 nq => ?_⟩
    · have := LC.small_line (n := us.length + xs.length) (by omega)
      omega
    have sq : Same G5 (upd G5 q2 (.lst (us ++ xs))) := same_new nq
    refine ⟨q2, Lc, us ++ xs, xs, _, rfl, sG.trans (s5.trans sq), same_none (sG.trans s5) nq, upd_same, sq _ _ hLc, ?_, dpAll_same sq _ _ hxs⟩
    show DpAll K _ _ ((pilesM ps i ++ rowM ps (i + 1)).map pileD)
    rw [List.map_append]
    exact dpAll_app (dpAll_same (s5.trans sq) _ _ hus) (dpAll_same sq _ _ hxs)
  · obtain ⟨La, Lb, us, ws, y4, rfl, sG, nLa, hLa, _, hus, _⟩ := hP
    exact ⟨_, rfl, q _ La us sG nLa hLa hus⟩
end
end MM

set_option maxHeartbeats 4000000
namespace MM
open PySem PySem.Spec PyProof.Rows L2 G3 M0 LP
/-! ### the law: what lives -/
def Closed (w : Web) (F : List Int) : Prop := ∀ s p t, (s, p, t) ∈ w.2.1 → t ∈ F → s ∈ F
/-- within a pass -/
structure Liv (w : Web) (F : List Int) : Prop where
  sub : ∃ g, F = w.2.2 ++ g ∧ g.Nodup ∧ ∀ x ∈ g, x ∈ w.2.1.map (·.1)
  road : ∀ s ∈ F, ∃ l e, e ∈ w.2.2 ∧ Path w.2.1 s l e
theorem liv_start (w : Web) : Liv w w.2.2 := ⟨⟨[], by rw [List.append_nil], List.nodup_nil, fun _ h => nomatch h⟩, fun s hs => ⟨[], s, hs, rfl⟩⟩
theorem liv_add {w : Web} {F : List Int} {s : Int} {p : Pn} {t : Int} (h : Liv w F) (e : (s, p, t) ∈ w.2.1) (ht : t ∈ F) (hs : s ∉ F) : Liv w (F ++ [s]) := by
  obtain ⟨g, rfl, nd, sb⟩ := h.sub
  refine ⟨⟨g ++ [s], by rw [List.append_assoc], ?_, fun x hx => ?_⟩, fun x hx => ?_⟩
  · refine List.nodup_append.mpr ⟨nd, by simp, fun a ha b hb z => ?_⟩
    rw [List.mem_singleton.mp hb] at z
    exact hs (List.mem_append_right _ (z ▸ ha))
  · rcases List.mem_append.mp hx with z | z
    · exact sb x z
    · rw [List.mem_singleton.mp z]
      exact List.mem_map.mpr ⟨_, e, rfl⟩
  · rcases List.mem_append.mp hx with z | z
    · exact h.road x z
    · rw [List.mem_singleton.mp z]
      obtain ⟨l, en, h1, h2⟩ := h.road t ht
      exact ⟨p :: l, en, h1, t, e, h2⟩
theorem liv_len {w : Web} {F : List Int} (h : Liv w F) : F.length ≤ w.2.2.length + w.2.1.length := by
  obtain ⟨g, rfl, nd, sb⟩ := h.sub
  have := S2.nd_len nd sb
  rw [List.length_map] at this
  rw [List.length_append]
  omega
theorem closed_all {w : Web} {F : List Int} (h : Liv w F) (c : Closed w F) (s : Int) : s ∈ F ↔ ∃ l e, e ∈ w.2.2 ∧ Path w.2.1 s l e := by
  refine ⟨h.road s, fun ⟨l, e, he, hp⟩ => ?_⟩
  obtain ⟨g, eg, _, _⟩ := h.sub
  induction l generalizing s with
  | nil =>
    rw [show s = e from hp, eg]
    exact List.mem_append_left _ he
  | cons p l ih =>
    obtain ⟨t, h1, h2⟩ := hp
    exact c s p t h1 (ih t ⟨l, e, he, h2⟩ h2)
theorem inV_ints (s : Int) (F : List Int) : inV (.int s) (F.map V.int) = decide (s ∈ F) := by
  unfold inV
  induction F with
  | nil => simp
  | cons a F ih =>
    rw [List.map_cons, List.any_cons, ih]
    show (eqV (.int a) (.int s) || _) = _
    by_cases h : a = s
    · subst h
      simp [eqV]
    · have h' : s ≠ a := fun z => h z.symm
      simp [eqV, h, h']
theorem flat_ints (F : List Int) : (F.map V.int).all flatV = true := by
  rw [List.all_eq_true]
  intro x hx
  obtain ⟨i, _, rfl⟩ := List.mem_map.mp hx
  rfl
abbrev nLv : List Str := ["_law_web", "_law_begins", "_law_edges", "_law_ends", "_law_found", "_law_turn", "_law_one", "_law_point", "_law_other"]
theorem scLv : FnScope nLv ["_law_web"] (defScope s_law_live) := ⟨rfl, rfl, rfl, by decide +kernel, rfl, by decide +kernel, by decide +kernel⟩
section
variable {P : Program} {w : World} {K : PySem.W.Frag} {mg : Str → Option Value} {base : Heap}
def spLv (K : PySem.W.Frag) : Sp := fun vs H Q _ => ∃ (m : V) (wb : Web), vs = [m] ∧ Dp K H m (webD wb) ∧ WebOk wb ∧ ∀ H' L (F : List Int), Same H H' → H L = none → H' L = some (.lst (F.map V.int)) → (∀ s, s ∈ F ↔ ∃ l e, e ∈ wb.2.2 ∧ Path wb.2.1 s l e) → F.length ≤ 60 → Q (.ref L) H'
set_option maxHeartbeats 32000000 in
theorem ok_lv {f : Addr} {fd : FuncData} {k : Nat} (F : Fun K "_law_live" "_law_live" s_law_live f fd) (m_range : mg "range" = none) (m_len : mg "len" = none) (m_list : mg "list" = none) : FnOk P w K mg base CX0 (k + 1) f fd ["_law_web"] (spLv K) := by
  refine F.ok scLv (fun vs H Q E h => ?_) (fun cdv A outer s H vs Q E hr h => ?_)
  · obtain ⟨m, wb, rfl, _⟩ := h
    rfl
  obtain ⟨m, wb, rfl, hm, ok, q⟩ := h
  have nd := scLv.nd
  have hu := hu_of hr
  refine ⟨_, (pss_cons (ps_asg (pv 0) (pg_tup rfl (pgs_cons (pg_name (i := 1) nd rfl (.inl rfl)) (pgs_cons (pg_name (i := 2) nd rfl (.inl rfl)) (pgs_cons (pg_name (i := 3) nd rfl (.inl rfl)) pgs_nil)))))
    (pss_cons (ps_set (i := 4) nd rfl (.inl rfl) (pe_callTy (T := "list") call_list_of (by rfl) m_list (by decide +kernel) (pa_cons (pv 3) pa_nil)))
    (pss_cons (ps_for PassesOwn.never rfl (pi_range1 (by rfl) m_range (pa_cons (pe_op op_add (pe_callB call_len_seq (by rfl) m_len PySem.boot_len (pa_cons (pv 2) pa_nil)) pe_int) pa_nil)) (pg_name (i := 5) nd rfl (.inl rfl))
      (pss_one (ps_for PassesOwn.never rfl (pi_tup (pv 2)) (pg_tup rfl (pgs_cons (pg_name (i := 6) nd rfl (.inl rfl)) (pgs_cons (pg_name (i := 7) nd rfl (.inl rfl)) (pgs_cons (pg_name (i := 8) nd rfl (.inl rfl)) pgs_nil))))
      (pss_one (ps_if (PW.pt (pw_and (pt_cmpR op_in_seq (pv 8) (pv 4) (by rfl)) (pw_and1 (pt_cmpR op_notIn_seq (pv 6) (pv 4) (by rfl))))) (pss_one (ps_expr (pe_bm PySem.F.plainAttrs_list PySem.F.slot_list_append PySem.F.type_list_append mt_append (pv 4) (pa_cons (pv 6) pa_nil)))) pss_nil)))))
    (pss_one (ps_ret (pv 4)))))), ?_⟩
  obtain ⟨a, ba, ca, da, bs, es, rfl, h0, h1, h2, h3, h4, h5⟩ := web_of hm
  have el : es.length = wb.2.1.length := by rw [dpAll_len h4, List.length_map]
  have ne := ok.e
  have nn := ok.n
  refine ⟨_, rfl, a, _, rfl, h0, rfl, _, _, rfl, _, _, rfl, _, _, rfl, rfl, ?_⟩
  refine ⟨_, rfl, da, _, rfl, .inr h5, fun L nL => ?_⟩
  have s1 : Same H (upd H L (.lst (wb.2.2.map V.int))) := same_new nL
  have hL : (upd H L (.lst (wb.2.2.map V.int))) L = some (.lst (wb.2.2.map V.int)) := upd_same
  generalize upd H L (.lst (wb.2.2.map V.int)) = H1 at s1 hL ⊢
  refine ⟨_, rfl, ca, es, rfl, .inr (same_tup s1 h3), _, _, rfl, rfl, es.length + 1, rfl, ?_, ?_, for_range (n := es.length + 1) (fun i σ G => ∃ F y5 y6 y7 y8, σ = [some (.ref a), some (.ref ba), some (.ref ca), some (.ref da), some (.ref L), y5, y6, y7, y8] ∧ Same H G ∧ G L = some (.lst (F.map V.int)) ∧ Liv wb F ∧ (Closed wb F ∨ wb.2.2.length + i ≤ F.length)) ⟨wb.2.2, _, _, _, _, rfl, s1, hL, liv_start wb, .inr (Nat.le_refl _)⟩ (fun i σ G hi hP => ?_) (fun σ G hP => ?_)⟩
  · have : (0 : Int) ≤ (es.length : Int) := Int.natCast_nonneg _
    have h62 : (-2 ^ 62 : Int) ≤ 0 := by decide
    omega
  · have h62 : (31 : Int) ≤ 2 ^ 62 := by decide
    omega
  · obtain ⟨F0, y5, y6, y7, y8, rfl, sG, hLG, lv, cl⟩ := hP
    refine ⟨_, rfl, ca, rfl, ⟨_, same_tup sG h3⟩, for_tup (xs := es) (fun j σ G => ∃ F y6 y7 y8, σ = [some (.ref a), some (.ref ba), some (.ref ca), some (.ref da), some (.ref L), some (.int (0 + (i : Int))), y6, y7, y8] ∧ Same H G ∧ G L = some (.lst (F.map V.int)) ∧ Liv wb F ∧ ((F = F0 ∧ ∀ e ∈ wb.2.1.take j, e.2.2 ∈ F0 → e.1 ∈ F0) ∨ (¬ Closed wb F0 ∧ F0.length < F.length)))
      ⟨F0, _, _, _, rfl, sG, hLG, lv, .inl ⟨rfl, fun e he => by rw [List.take_zero] at he; cases he⟩⟩ (fun j σ G _ hP => ?_) (fun j x σ G hx hP => ?_) (fun σ G hP => ?_)⟩
    · obtain ⟨_, _, _, _, _, sG, _⟩ := hP
      exact same_tup sG h3
    · obtain ⟨F, y6, y7, y8, rfl, sG2, hL2, lv2, how⟩ := hP
      obtain ⟨dd, hdd, hxd⟩ := dpAll_get h4 hx
      rw [List.getElem?_map] at hdd
      obtain ⟨e, he, rfl⟩ := Option.map_eq_some_iff.mp hdd
      obtain ⟨t, u0, u1, u2, rfl, ht, e0, e1, e2⟩ := dp3 (show Dp K H x (.tuple [.int e.1, pnD e.2.1, .int e.2.2]) from hxd)
      cases dp_int e0
      cases dp_int e2
      have tk : wb.2.1.take (j + 1) = wb.2.1.take j ++ [e] := by rw [List.take_add_one, he]; rfl
      have hem := List.mem_of_getElem? he
      refine ⟨t, _, rfl, same_tup sG2 ht, rfl, _, _, rfl, _, _, rfl, _, _, rfl, rfl, ?_⟩
      refine ⟨_, rfl, _, rfl, L, _, rfl, .inl (SqL.of hL2), rfl, flat_ints F, _, rfl, ?_⟩
      have ll := liv_len lv2
      rw [show (if false = true then !inV (V.int e.2.2) (F.map V.int) else inV (V.int e.2.2) (F.map V.int)) = decide (e.2.2 ∈ F) from inV_ints _ _]
      have stay : (e.2.2 ∈ F → e.1 ∈ F) → (F = F0 ∧ ∀ e ∈ wb.2.1.take (j + 1), e.2.2 ∈ F0 → e.1 ∈ F0) ∨ (¬ Closed wb F0 ∧ F0.length < F.length) := fun hh => by
        rcases how with ⟨rfl, z⟩ | z
        · refine .inl ⟨rfl, fun e' he' => ?_⟩
          rw [tk] at he'
          rcases List.mem_append.mp he' with y | y
          · exact z e' y
          · rw [List.mem_singleton.mp y]
            exact hh
        · exact .inr z
      refine ite2 (fun b1 => ?_) (fun b1 => ?_)
      · have ht2 := of_decide_eq_true b1
        refine ⟨_, rfl, _, rfl, L, _, rfl, .inl (SqL.of hL2), rfl, flat_ints F, _, rfl, ?_⟩
        rw [show (if true = true then !inV (V.int e.1) (F.map V.int) else inV (V.int e.1) (F.map V.int)) = !decide (e.1 ∈ F) by rw [if_pos rfl, inV_ints]]
        refine ite2 (fun b2 => ?_) (fun b2 => ?_)
        · have hs2 : e.1 ∉ F := by simpa using b2
          refine ⟨_, rfl, .inl ⟨rfl, _, SqL.of hL2⟩, _, rfl, L, _, _, rfl, rfl, hL2, LC.small_line (by rw [List.length_map]; omega), F ++ [e.1], _, _, _, rfl, same_put sG2 nL, by rw [upd_same, List.map_append]; rfl, liv_add lv2 hem ht2 hs2, .inr ?_⟩
          rw [List.length_append, List.length_singleton]
          rcases how with ⟨rfl, z⟩ | ⟨z1, z2⟩
          · exact ⟨fun c => hs2 (c e.1 e.2.1 e.2.2 hem ht2), by omega⟩
          · exact ⟨z1, by omega⟩
        · have hs2 : e.1 ∈ F := by simpa using b2
          exact ⟨F, _, _, _, rfl, sG2, hL2, lv2, stay fun _ => hs2⟩
      · have ht2 := of_decide_eq_false (Bool.eq_false_iff.mpr b1)
        exact iteF ⟨F, _, _, _, rfl, sG2, hL2, lv2, stay fun z => absurd z ht2⟩
    · obtain ⟨F, y6, y7, y8, rfl, sG2, hL2, lv2, how⟩ := hP
      refine ⟨F, _, _, _, _, rfl, sG2, hL2, lv2, ?_⟩
      rcases how with ⟨rfl, z⟩ | ⟨z1, z2⟩
      · rw [List.take_of_length_le (by omega)] at z
        exact .inl fun s p t he => z (s, p, t) he
      · refine .inr ?_
        rcases cl with y | y
        · exact absurd y z1
        · omega
  · obtain ⟨F, y5, y6, y7, y8, rfl, sG, hLG, lv, cl⟩ := hP
    have cl2 : Closed wb F := by
      rcases cl with z | z
      · exact z
      · have := liv_len lv
        omega
    have := liv_len lv
    exact ⟨_, rfl, q _ L F sG nL hLG (closed_all lv cl2) (by omega)⟩
end
end MM

set_option maxHeartbeats 4000000
namespace MM
open PySem PySem.Spec PyProof.Rows L2 G3 M0 LP
/-! ### the law: what is read -/
theorem ints_shaped (c : List Int) : SeqAt.shaped (.list (c.map .int)) = true := by
  have e1 : ∀ l : List Int, PyData.canLayAll0 (l.map .int) = true := fun l => by
    induction l with
    | nil => simp [PyData.canLayAll0]
    | cons a l ih => simp only [List.map_cons, PyData.canLayAll0, PyData.canLay0, ih, Bool.and_self]
  have e2 : ∀ l : List Int, PyData.depthAll (l.map .int) = 0 := fun l => by
    induction l with
    | nil => simp [PyData.depthAll]
    | cons a l ih => simp only [List.map_cons, PyData.depthAll, PyData.depth, ih]; rfl
  unfold SeqAt.shaped
  simp only [PyData.canLay0, e1, PyData.depth, e2, Bool.true_and]
  rfl
theorem ints_eqv (c : List Int) : PyData.eqv (.list (c.map .int)) (.list []) = c.isEmpty := by
  cases c <;> simp [PyData.eqv, PyData.eqvAll]
abbrev nLr : List Str := ["_law_web", "_law_mode", "_law_heap", "_law_begins", "_law_edges", "_law_ends", "_law_here", "_law_own", "_law_state", "_law_point", "_law_there", "_law_one", "_law_other"]
theorem scLr : FnScope nLr ["_law_web", "_law_mode", "_law_heap"] (defScope s_law_reads) := ⟨rfl, rfl, rfl, by decide +kernel, rfl, by decide +kernel, by decide +kernel⟩
section
variable {P : Program} {w : World} {K : PySem.W.Frag} {mg : Str → Option Value} {base : Heap}
def spLr (K : PySem.W.Frag) : Sp := fun vs H Q _ => ∃ (m c pl : V) (wb : Web) (k : Ct) (l : List Pn), vs = [m, c, pl] ∧ Dp K H m (webD wb) ∧ WebOk wb ∧ Dp K H c (ctD k) ∧ Dp K H pl (pileD l) ∧ l.length ≤ 100 ∧ ∀ H' b, Same H H' → (b = true ↔ Acc wb k l) → Q (.bl b) H'
set_option maxHeartbeats 32000000 in
theorem ok_lr {f : Addr} {fd : FuncData} {k : Nat} (F : Fun K "_law_reads" "_law_reads" s_law_reads f fd) : FnOk P w K mg base CX0 (k + 1) f fd ["_law_web", "_law_mode", "_law_heap"] (spLr K) := by
  refine F.ok scLr (fun vs H Q E h => ?_) (fun cdv A outer s H vs Q E hr h => ?_)
  · obtain ⟨m, c, pl, wb, k, l, rfl, _⟩ := h
    rfl
  obtain ⟨m, c, pl, wb, k, l, rfl, hm, ok, hc, hl, ll, q⟩ := h
  have nd := scLr.nd
  have hu := hu_of hr
  refine ⟨_, (pss_cons (ps_asg (pv 0) (pg_tup rfl (pgs_cons (pg_name (i := 3) nd rfl (.inl rfl)) (pgs_cons (pg_name (i := 4) nd rfl (.inl rfl)) (pgs_cons (pg_name (i := 5) nd rfl (.inr rfl)) pgs_nil)))))
    (pss_cons (ps_setLc (i := 6) (own := [("_law_own", 7), ("_law_state", 8)]) (g := (gTup K 2 (gCons (gName 7) (gCons (gName 8) gNil)))) (by rfl) nd rfl rfl (sw_true rfl rfl rfl (by decide +kernel)) (pi_tup (pv 3)) (blkOk_by (N := nLr) (sc := defScope s_law_reads) (by decide +kernel)) (fun _ _ _ _ _ => (pg_tup rfl (pgs_cons (pg_name (i := 7) nd rfl (.inl rfl)) (pgs_cons (pg_name (i := 8) nd rfl (.inl rfl)) pgs_nil)))) (fun _ _ _ _ _ => (pts_one  (pt_cmpR (r := rEqD K) (op_eqD hr.units) (pv 7) (pv 1) (nomark _)))) (fun _ _ _ _ _ => (pv 8)))
    (pss_cons (ps_for PassesOwn.never rfl (pi_tup (pv 2)) (pg_name (i := 9) nd rfl (.inl rfl))
      (pss_cons (ps_set (i := 10) nd rfl (.inl rfl) (pe_lst pa_nil))
    (pss_cons (ps_for PassesOwn.never rfl (pi_tup (pv 4)) (pg_tup rfl (pgs_cons (pg_name (i := 11) nd rfl (.inl rfl)) (pgs_cons (pg_name (i := 7) nd rfl (.inl rfl)) (pgs_cons (pg_name (i := 12) nd rfl (.inl rfl)) pgs_nil))))
      (pss_one (ps_if (PW.pt (pw_and (pt_cmpR op_in_seq (pv 11) (pv 6) (by rfl)) (pw_and (pt_cmpR (op_eqD hr.units) (pv 7) (pv 9) (nomark _)) (pw_and1 (pt_cmpR op_notIn_seq (pv 12) (pv 10) (by rfl)))))) (pss_one (ps_expr (pe_bm PySem.F.plainAttrs_list PySem.F.slot_list_append PySem.F.type_list_append mt_append (pv 10) (pa_cons (pv 12) pa_nil)))) pss_nil)))
    (pss_one (ps_set (i := 6) nd rfl (.inl rfl) (pv 10))))))
    (pss_one (ps_ret (pe_cmpR (op_neD hr.units) (pe_lc (own := [("_law_state", 8)]) (g := (gName 8)) (by rfl) nd (pi_list (pv 6)) (blkOk_by (N := nLr) (sc := defScope s_law_reads) (by decide +kernel)) (fun _ _ _ _ _ => (pg_name (i := 8) nd rfl (.inl rfl))) (fun _ _ _ _ _ => (pts_one  (pt_cmpR (r := rIn K false) op_in_seq (pv 8) (pv 5) (by rfl)))) (fun _ _ _ _ _ => (pv 8))) (pe_lst pa_nil) (nomark _))))))), ?_⟩
  obtain ⟨a, ba, ca, da, bs, es, rfl, h0, h1, h2, h3, h4, h5⟩ := web_of hm
  have bl : bs.length = wb.1.length := by rw [dpAll_len h2, List.length_map]
  have el : es.length = wb.2.1.length := by rw [dpAll_len h4, List.length_map]
  have nb := ok.b
  have ne := ok.e
  have nn := ok.n
  obtain ⟨pa, ps, rfl, hps, hpsd⟩ := dpT hl
  have pll : ps.length = l.length := by rw [dpAll_len hpsd, List.length_map]
  refine ⟨_, rfl, a, _, rfl, h0, rfl, _, _, rfl, _, _, rfl, _, _, rfl, rfl, ?_⟩
  refine ⟨_, rfl, ba, rfl, ⟨_, h1⟩, fun D nD => ?_⟩
  refine lc_pick (walk_tup (a := ba) (xs := bs) (K := K)) (fun G s' => same_tup s' h1) (by omega) nD (wb.1.map fun b => (decide (b.1 = k), V.int b.2)) (by rw [List.length_map, bl]) (fun i x b y G R hx hp s1 go => ?_) (fun H1 s1 hD => ?_)
  · obtain ⟨d, hd, hxd⟩ := dpAll_get h2 hx
    rw [List.getElem?_map] at hd hp
    obtain ⟨b0, hb0, rfl⟩ := Option.map_eq_some_iff.mp hd
    rw [hb0] at hp
    cases hp
    obtain ⟨t, u0, u1, rfl, ht, e0, e1⟩ := dp2 (show Dp K H x (.tuple [ctD b0.1, .int b0.2]) from hxd)
    cases dp_int e1
    refine ⟨t, _, rfl, same_tup s1 ht, rfl, _, _, rfl, _, _, rfl, rfl, rfl, ?_⟩
    refine ⟨_, rfl, _, rfl, _, _, dp_same s1 _ _ e0, dp_same s1 _ _ hc, ct_shaped, ct_shaped, _, rfl, ?_⟩
    rw [ct_eqv]
    exact go _ _ (Same.refl _) fun _ Q' hQ => ⟨_, rfl, hQ _ (Same.refl _)⟩
  have hD' : H1 D = some (.lst ((statesM wb k).map V.int)) := by
    rw [hD]
    unfold picked statesM
    rw [List.filter_map, List.map_map, List.map_map]
    rfl
  have sl := states_len wb k
  refine ⟨_, rfl, pa, rfl, ⟨_, same_tup s1 hps⟩, for_tup (xs := ps) (fun i σ G => ∃ (L : Addr) (hs : List Int) (y7 y8 y9 y10 y11 y12 : Option V), σ = [some (.ref a), some c, some (.ref pa), some (.ref ba), some (.ref ca), some (.ref da), some (.ref L), y7, y8, y9, y10, y11, y12] ∧ Same H G ∧ G L = some (.lst (hs.map V.int)) ∧ hs.length ≤ 30 ∧ ∀ s, s ∈ hs ↔ Reach wb.2.1 (Starts wb k) (l.take i) s)
    ⟨D, _, _, _, _, _, _, _, rfl, s1, hD', by omega, fun s => by rw [states_start, List.take_zero, reach_nil]⟩ (fun i σ G _ hP => ?_) (fun i x σ G hx hP => ?_) (fun σ G hP => ?_)⟩
  · obtain ⟨_, _, _, _, _, _, _, _, _, sG, _⟩ := hP
    exact same_tup sG hps
  · obtain ⟨L, hs, y7, y8, y9, y10, y11, y12, rfl, sG, hL, hl30, km⟩ := hP
    obtain ⟨dd, hdd, hxd⟩ := dpAll_get hpsd hx
    rw [List.getElem?_map] at hdd
    obtain ⟨p, hp, rfl⟩ := Option.map_eq_some_iff.mp hdd
    refine ⟨Nat.zero_le _, fun T nT => ?_⟩
    have sT : Same G (upd G T (.lst [])) := same_new nT
    have hT : (upd G T (.lst [])) T = some (.lst []) := upd_same
    have hLT := sT _ _ hL
    have nLT : L ≠ T := fun z => by rw [z, nT] at hL; cases hL
    generalize upd G T (.lst []) = G0 at sT hT hLT ⊢
    refine ⟨_, rfl, ca, rfl, ⟨_, same_tup (sG.trans sT) h3⟩, for_tup (xs := es) (fun j σ G2 => ∃ (ts : List Int) (y7 y8 y11 y12 : Option V), σ = [some (.ref a), some c, some (.ref pa), some (.ref ba), some (.ref ca), some (.ref da), some (.ref L), y7, y8, some x, some (.ref T), y11, y12] ∧ Same G G2 ∧ G2 T = some (.lst (ts.map V.int)) ∧ ts.length ≤ j ∧ ∀ s, s ∈ ts ↔ ∃ e ∈ wb.2.1.take j, e.1 ∈ hs ∧ e.2.1 = p ∧ e.2.2 = s)
      ⟨[], _, _, _, _, rfl, sT, hT, Nat.le_refl _, fun s => by simp⟩ (fun j σ G2 _ hP => ?_) (fun j x2 σ G2 hx2 hP => ?_) (fun σ G2 hP => ?_)⟩
    · obtain ⟨_, _, _, _, _, _, s2, _⟩ := hP
      exact same_tup (sG.trans s2) h3
    · obtain ⟨ts, y7, y8, y11, y12, rfl, s2, hT2, tl, tm⟩ := hP
      obtain ⟨dd, hdd2, hxd2⟩ := dpAll_get h4 hx2
      rw [List.getElem?_map] at hdd2
      obtain ⟨e, he, rfl⟩ := Option.map_eq_some_iff.mp hdd2
      obtain ⟨t, u0, u1, u2, rfl, ht, e0, e1, e2⟩ := dp3 (show Dp K H x2 (.tuple [.int e.1, pnD e.2.1, .int e.2.2]) from hxd2)
      cases dp_int e0
      cases dp_int e2
      have sH2 : Same H G2 := sG.trans s2
      have tk : wb.2.1.take (j + 1) = wb.2.1.take j ++ [e] := by rw [List.take_add_one, he]; rfl
      have jl := (List.getElem?_eq_some_iff.mp hx2).1
      have hL2 := s2 _ _ hL
      refine ⟨t, _, rfl, same_tup sH2 ht, rfl, _, _, rfl, _, _, rfl, _, _, rfl, rfl, ?_⟩
      have skip : (e.1 ∈ hs → e.2.1 = p → e.2.2 ∈ ts) → ∀ s, s ∈ ts ↔ ∃ e ∈ wb.2.1.take (j + 1), e.1 ∈ hs ∧ e.2.1 = p ∧ e.2.2 = s := fun hh s => by
        rw [tm, tk]
        constructor
        · rintro ⟨e', a1, a2⟩
          exact ⟨e', List.mem_append_left _ a1, a2⟩
        · rintro ⟨e', a1, a2⟩
          rcases List.mem_append.mp a1 with z | z
          · exact ⟨e', z, a2⟩
          · rw [List.mem_singleton.mp z] at a2
            have := hh a2.1 a2.2.1
            rw [a2.2.2] at this
            exact (tm s).mp this
      refine ⟨_, rfl, _, rfl, L, _, rfl, .inl (SqL.of hL2), rfl, flat_ints hs, _, rfl, ?_⟩
      rw [show (if false = true then !inV (V.int e.1) (hs.map V.int) else inV (V.int e.1) (hs.map V.int)) = decide (e.1 ∈ hs) from inV_ints _ _]
      refine ite2 (fun b1 => ?_) (fun b1 => ?_)
      rotate_left
      · have n1 := of_decide_eq_false (Bool.eq_false_iff.mpr b1)
        exact iteF ⟨ts, _, _, _, _, rfl, s2, hT2, by omega, skip fun z => absurd z n1⟩
      have m1 := of_decide_eq_true b1
      refine ⟨_, rfl, _, rfl, _, _, dp_same sH2 _ _ e1, dp_same sH2 _ _ hxd, pn_shaped _, pn_shaped _, _, rfl, ?_⟩
      rw [pn_eqv]
      refine ite2 (fun b2 => ?_) (fun b2 => ?_)
      rotate_left
      · have n2 := of_decide_eq_false (Bool.eq_false_iff.mpr b2)
        exact iteF ⟨ts, _, _, _, _, rfl, s2, hT2, by omega, skip fun _ z => absurd z n2⟩
      have m2 := of_decide_eq_true b2
      refine ⟨_, rfl, _, rfl, T, _, rfl, .inl (SqL.of hT2), rfl, flat_ints ts, _, rfl, ?_⟩
      rw [show (if true = true then !inV (V.int e.2.2) (ts.map V.int) else inV (V.int e.2.2) (ts.map V.int)) = !decide (e.2.2 ∈ ts) by rw [if_pos rfl, inV_ints]]
      refine ite2 (fun b3 => ?_) (fun b3 => ?_)
      rotate_left
      · have n3 : e.2.2 ∈ ts := by simpa using b3
        exact ⟨ts, _, _, _, _, rfl, s2, hT2, by omega, skip fun _ _ => n3⟩
      refine ⟨_, rfl, .inl ⟨rfl, _, SqL.of hT2⟩, _, rfl, T, _, _, rfl, rfl, hT2, LC.small_line (by rw [List.length_map]; omega), ts ++ [e.2.2], _, _, _, _, rfl, same_put s2 nT, by rw [upd_same, List.map_append]; rfl, by rw [List.length_append, List.length_singleton]; omega, fun s => ?_⟩
      rw [List.mem_append, tm, tk]
      constructor
      · rintro (⟨e', a1, a2⟩ | z)
        · exact ⟨e', List.mem_append_left _ a1, a2⟩
        · exact ⟨e, List.mem_append_right _ (List.mem_singleton.mpr rfl), m1, m2, (List.mem_singleton.mp z).symm⟩
      · rintro ⟨e', a1, a2⟩
        rcases List.mem_append.mp a1 with z | z
        · exact .inl ⟨e', z, a2⟩
        · rw [List.mem_singleton.mp z] at a2
          exact .inr (List.mem_singleton.mpr a2.2.2.symm)
    · obtain ⟨ts, y7, y8, y11, y12, rfl, s2, hT2, tl, tm⟩ := hP
      refine ⟨_, rfl, T, ts, _, _, _, _, _, _, rfl, sG.trans s2, hT2, by omega, fun s => ?_⟩
      rw [tm, List.take_of_length_le (by omega), List.take_add_one, hp]
      show _ ↔ Reach _ _ (l.take i ++ [p]) s
      rw [reach_snoc]
      constructor
      · rintro ⟨⟨e1, e2, e3⟩, a1, a2, rfl, rfl⟩
        exact ⟨e1, (km e1).mp a2, a1⟩
      · rintro ⟨t, a1, a2⟩
        exact ⟨(t, p, s), a2, (km t).mpr a1, rfl, rfl⟩
  · obtain ⟨L, hs, y7, y8, y9, y10, y11, y12, rfl, sG, hL, hl30, km⟩ := hP
    rw [List.take_of_length_le (by omega)] at km
    refine ⟨_, rfl, L, rfl, ⟨_, SqL.of hL⟩, fun D2 nD2 => ?_⟩
    refine lc_pick (walk_list (a := L) (xs := hs.map V.int) (K := K)) (fun G s' => SqL.of (s' _ _ hL)) (by rw [List.length_map]; omega) nD2 (hs.map fun s => (decide (s ∈ wb.2.2), V.int s)) (by rw [List.length_map, List.length_map]) (fun i x b y G2 R hx hp s2 go => ?_) (fun G2 s2 hD2 => ?_)
    · rw [List.getElem?_map] at hx hp
      obtain ⟨z, hz, rfl⟩ := Option.map_eq_some_iff.mp hx
      rw [hz] at hp
      cases hp
      refine ⟨rfl, _, rfl, _, rfl, da, _, rfl, .inr (same_tup (sG.trans s2) h5), rfl, flat_ints wb.2.2, _, rfl, ?_⟩
      rw [show (if false = true then !inV (V.int z) (wb.2.2.map V.int) else inV (V.int z) (wb.2.2.map V.int)) = decide (z ∈ wb.2.2) from inV_ints _ _]
      exact go _ _ (Same.refl _) fun _ Q' hQ => ⟨_, rfl, hQ _ (Same.refl _)⟩
    rw [picked_fil] at hD2
    refine ⟨Nat.zero_le _, fun D3 nD3 => ?_⟩
    have s3 : Same G2 (upd G2 D3 (.lst [])) := same_new nD3
    refine ⟨.list ((hs.filter fun s => decide (s ∈ wb.2.2)).map .int), .list [], .lst (SqL.of (s3 _ _ hD2)) (of_ints _), .lst (SqL.of upd_same) .nil, ints_shaped _, ints_shaped [], q _ _ (sG.trans (s2.trans s3)) ?_⟩
    rw [ints_eqv]
    cases z : hs.filter fun s => decide (s ∈ wb.2.2) with
    | nil =>
      refine ⟨fun h => by simp at h, fun ⟨e, he, hr⟩ => ?_⟩
      have : e ∈ hs.filter fun s => decide (s ∈ wb.2.2) := List.mem_filter.mpr ⟨(km e).mpr hr, decide_eq_true he⟩
      rw [z] at this
      cases this
    | cons x r =>
      have : x ∈ hs.filter fun s => decide (s ∈ wb.2.2) := by rw [z]; exact List.mem_cons_self
      obtain ⟨a1, a2⟩ := List.mem_filter.mp this
      exact ⟨fun _ => ⟨x, of_decide_eq_true a2, (km x).mp a1⟩, fun _ => rfl⟩
end
end MM

set_option maxHeartbeats 4000000
namespace MM
open PySem PySem.Spec PyProof.Rows L2 G3 M0 LP
theorem walk_enumT {K : PySem.W.Frag} {a : Addr} {xs : List V} : Walk (EN.Iet K a) xs.length (fun H => SqT K H a xs) (YPair (fun i => some (.int (i : Nat))) (fun i => xs[i]?)) := by
  refine ⟨fun i _ hi q => ⟨xs, xs[i], q, by simp [hi]⟩, fun _ q => ⟨xs, q, rfl⟩, fun i H v H' _ q y => ?_⟩
  obtain ⟨T, x, h1, h2, h3, h4⟩ := y
  exact ⟨T, .int (i : Nat), x, h1, h2, h3, rfl, h4 xs q⟩
/-! ### the law: lines -/
def lineE (l : List Pn) : List Ed := (List.range l.length).map fun (i : Nat) => ((i : Int), l.getD i (0, 0), (i : Int) + 1)
def lineW (c : Ct) (l : List Pn) : Web := ([(c, 0)], lineE l, [(l.length : Int)])
theorem line_mem {l : List Pn} {s t : Int} {p : Pn} : (s, p, t) ∈ lineE l ↔ ∃ i : Nat, s = i ∧ l[i]? = some p ∧ t = (i : Int) + 1 := by
  unfold lineE
  rw [List.mem_map]
  constructor
  · rintro ⟨i, hi, e⟩
    have il := List.mem_range.mp hi
    have e' : ((i : Int), l.getD i (0, 0), (i : Int) + 1) = (s, p, t) := e
    cases e'
    exact ⟨i, rfl, by rw [List.getD_eq_getElem?_getD, List.getElem?_eq_getElem il]; rfl, rfl⟩
  · rintro ⟨i, rfl, hp, rfl⟩
    refine ⟨i, List.mem_range.mpr (List.getElem?_eq_some_iff.mp hp).1, ?_⟩
    show ((i : Int), l.getD i (0, 0), (i : Int) + 1) = _
    rw [List.getD_eq_getElem?_getD, hp]
    rfl
theorem line_to {l : List Pn} : ∀ {m : List Pn} {i : Nat}, i ≤ l.length → Path (lineE l) (i : Int) m (l.length : Nat) → m = l.drop i
  | [], i, _, h => by
    have : (i : Int) = (l.length : Nat) := h
    have e : i = l.length := by omega
    rw [e, List.drop_length]
  | p :: m, i, hi, ⟨t, h1, h2⟩ => by
    obtain ⟨j, e1, hp, rfl⟩ := line_mem.mp h1
    have e : i = j := by omega
    subst e
    obtain ⟨il1, il2⟩ := List.getElem?_eq_some_iff.mp hp
    have ih := line_to (l := l) (i := i + 1) il1 (by rw [show (((i + 1 : Nat)) : Int) = (i : Int) + 1 by omega]; exact h2)
    rw [ih, List.drop_eq_getElem_cons il1, il2]
theorem line_from {l : List Pn} : ∀ (n i : Nat), i + n = l.length → Path (lineE l) (i : Int) (l.drop i) (l.length : Nat)
  | 0, i, e => by
    rw [List.drop_of_length_le (Nat.le_of_eq (by omega))]
    show (i : Int) = (l.length : Nat)
    omega
  | n + 1, i, e => by
    have il : i < l.length := by omega
    rw [List.drop_eq_getElem_cons il]
    refine ⟨((i + 1 : Nat) : Int), line_mem.mpr ⟨i, rfl, List.getElem?_eq_getElem il, by omega⟩, line_from n (i + 1) (by omega)⟩
theorem line_acc {c c' : Ct} {l m : List Pn} : Acc (lineW c l) c' m ↔ c' = c ∧ m = l := by
  constructor
  · rintro ⟨e, he, s, hs, hp⟩
    have he' : e = (l.length : Nat) := List.mem_singleton.mp he
    have hs' : (c', s) = (c, (0 : Int)) := List.mem_singleton.mp hs
    cases hs'
    subst he'
    exact ⟨rfl, line_to (i := 0) (Nat.zero_le _) hp⟩
  · rintro ⟨rfl, rfl⟩
    exact ⟨_, List.mem_singleton.mpr rfl, 0, List.mem_singleton.mpr rfl, line_from _ 0 (Nat.zero_add _)⟩
theorem line_least {c : Ct} {l : List Pn} : IsLeast (lineW c l) c l := ⟨line_acc.mpr ⟨rfl, rfl⟩, fun m hm => .inr (by rw [(line_acc.mp hm).2]; exact ⟨rfl, lLt_irr l⟩)⟩
theorem line_ok {c : Ct} {l : List Pn} (h : l.length ≤ 30) (hc : c.length ≤ 10) : WebOk (lineW c l) := ⟨by show 1 ≤ 30; decide, by show (lineE l).length ≤ 30; unfold lineE; rw [List.length_map, List.length_range]; exact h, by show 1 ≤ 30; decide, fun x hx => by rw [List.mem_singleton.mp hx]; exact hc, by show [(l.length : Int)].Nodup; simp⟩
abbrev nLn : List Str := ["_law_mode", "_law_heap", "_law_edges", "_law_at", "_law_point"]
theorem scLn : FnScope nLn ["_law_mode", "_law_heap"] (defScope s_law_line) := ⟨rfl, rfl, rfl, by decide +kernel, rfl, by decide +kernel, by decide +kernel⟩
section
variable {P : Program} {w : World} {K : PySem.W.Frag} {mg : Str → Option Value} {base : Heap}
def spLn (K : PySem.W.Frag) : Sp := fun vs H Q _ => ∃ (c pl : V) (k : Ct) (l : List Pn), vs = [c, pl] ∧ Dp K H c (ctD k) ∧ Dp K H pl (pileD l) ∧ l.length ≤ 30 ∧ ∀ H' v, Same H H' → Dp K H' v (webD (lineW k l)) → Q v H'
set_option maxHeartbeats 32000000 in
theorem ok_ln {f : Addr} {fd : FuncData} {k : Nat} (F : Fun K "_law_line" "_law_line" s_law_line f fd) (m_enumerate : mg "enumerate" = none) (m_tuple : mg "tuple" = none) (m_len : mg "len" = none) : FnOk P w K mg base CX0 (k + 1) f fd ["_law_mode", "_law_heap"] (spLn K) := by
  refine F.ok scLn (fun vs H Q E h => ?_) (fun cdv A outer s H vs Q E hr h => ?_)
  · obtain ⟨c, pl, k, l, rfl, _⟩ := h
    rfl
  obtain ⟨c, pl, k, l, rfl, hc, hl, ll, q⟩ := h
  have nd := scLn.nd
  have hu := hu_of hr
  refine ⟨_, (pss_cons (ps_set (i := 2) nd rfl (.inl rfl) (pe_callTy (T := "tuple") call_tuple_of (by rfl) m_tuple (by decide +kernel) (pa_cons (pe_lc (own := [("_law_at", 3), ("_law_point", 4)]) (g := (gTup K 2 (gCons (gName 3) (gCons (gName 4) gNil)))) (tt := tYes) (by rfl) nd (EN.pi_enumT (by rfl) m_enumerate (pa_cons (pv 1) pa_nil)) (blkOk_by (N := nLn) (sc := defScope s_law_line) (by decide +kernel)) (fun _ _ _ _ _ => (pg_tup rfl (pgs_cons (pg_name (i := 3) nd rfl (.inl rfl)) (pgs_cons (pg_name (i := 4) nd rfl (.inl rfl)) pgs_nil)))) (fun _ _ _ _ _ => pts_nil) (fun _ _ _ _ _ => (pe_tup (pa_cons (pv 3) (pa_cons (pv 4) (pa_cons (pe_op op_add (pv 3) pe_int) pa_nil)))))) pa_nil)))
    (pss_one (ps_ret (pe_tup (pa_cons (pe_tup (pa_cons (pe_tup (pa_cons (pv 0) (pa_cons pe_int pa_nil))) pa_nil)) (pa_cons (pv 2) (pa_cons (pe_tup (pa_cons (pe_callB call_len_seq (by rfl) m_len PySem.boot_len (pa_cons (pv 1) pa_nil)) pa_nil)) pa_nil))))))), ?_⟩
  obtain ⟨pa, ps, rfl, hps, hpsd⟩ := dpT hl
  have pll : ps.length = l.length := by rw [dpAll_len hpsd, List.length_map]
  refine ⟨_, rfl, pa, _, rfl, hps, fun D nD => ?_⟩
  refine lc_dpP (K := K) (walk_enumT (a := pa) (xs := ps) (K := K)) (fun G s' => same_tup s' hps) (by omega) nD ((lineE l).map edgeD) (by unfold lineE; rw [List.length_map, List.length_map, List.length_range, pll]) (fun i x y T d G R hx hy hd s1 hT ac go => ?_) (fun H1 us s1 hD hus => ?_)
  · obtain ⟨acc, hDa⟩ := ac
    cases hx
    obtain ⟨d2, hd2, hyd⟩ := dpAll_get hpsd hy
    rw [List.getElem?_map] at hd2 hd
    obtain ⟨p, hp, rfl⟩ := Option.map_eq_some_iff.mp hd2
    obtain ⟨e, he, rfl⟩ := Option.map_eq_some_iff.mp hd
    have il := (List.getElem?_eq_some_iff.mp hp).1
    have ee : e = ((i : Int), p, (i : Int) + 1) := by
      unfold lineE at he
      rw [List.getElem?_map, List.getElem?_range il] at he
      cases he
      show ((i : Int), l.getD i (0, 0), (i : Int) + 1) = _
      rw [List.getD_eq_getElem?_getD, hp]
      rfl
    subst ee
    refine ⟨T, _, rfl, SqT.of hT, rfl, _, _, rfl, _, _, rfl, rfl, rfl, ?_⟩
    refine ⟨_, rfl, _, rfl, _, rfl, _, 1, rfl, rfl, lz3, fun T2 nT2 => ?_⟩
    have sT : Same G (upd G T2 (.tup [.int (i : Nat), y, .int ((i : Int) + 1)])) := same_new nT2
    refine go _ _ sT (LR.dp_hideF (sT _ _ hDa) _ _ (flat_edge _) ?_)
    exact .tup (SqT.of upd_same) (.cons (.int _) (.cons (dp_same (s1.trans sT) _ _ hyd) (.cons (.int _) .nil)))
  · refine ⟨D, us, rfl, .inl ⟨SqL.of hD, fun Te nTe => ?_⟩⟩
    have t1 : Same H1 (upd H1 Te (.tup us)) := same_new nTe
    have hTe : (upd H1 Te (.tup us)) Te = some (.tup us) := upd_same
    generalize upd H1 Te (.tup us) = G1 at t1 hTe ⊢
    refine ⟨_, rfl, lz2, fun A1 n1 => ?_⟩
    have t2 : Same G1 (upd G1 A1 (.tup [c, .int 0])) := same_new n1
    have hA1 : (upd G1 A1 (.tup [c, .int 0])) A1 = some (.tup [c, .int 0]) := upd_same
    generalize upd G1 A1 (.tup [c, .int 0]) = G2 at t2 hA1 ⊢
    refine ⟨lz1, fun A2 n2 => ?_⟩
    have t3 : Same G2 (upd G2 A2 (.tup [.ref A1])) := same_new n2
    have hA2 : (upd G2 A2 (.tup [.ref A1])) A2 = some (.tup [.ref A1]) := upd_same
    generalize upd G2 A2 (.tup [.ref A1]) = G3 at t3 hA2 ⊢
    refine ⟨_, rfl, _, rfl, pa, ps, rfl, .inr (same_tup (s1.trans (t1.trans (t2.trans t3))) hps), lz1, fun A3 n3 => ?_⟩
    have t4 : Same G3 (upd G3 A3 (.tup [.int (ps.length : Nat)])) := same_new n3
    have hA3 : (upd G3 A3 (.tup [.int (ps.length : Nat)])) A3 = some (.tup [.int (ps.length : Nat)]) := upd_same
    generalize upd G3 A3 (.tup [.int (ps.length : Nat)]) = G4 at t4 hA3 ⊢
    refine ⟨lz3, fun A4 n4 => ?_⟩
    have t5 : Same G4 (upd G4 A4 (.tup [.ref A2, .ref Te, .ref A3])) := same_new n4
    refine q _ _ (s1.trans (t1.trans (t2.trans (t3.trans (t4.trans t5))))) (.tup (SqT.of upd_same) (.cons ?_ (.cons ?_ (.cons ?_ .nil))))
    · exact .tup (SqT.of (t5 _ _ (t4 _ _ hA2))) (.cons (.tup (SqT.of (t5 _ _ (t4 _ _ (t3 _ _ hA1)))) (.cons (dp_same (s1.trans (t1.trans (t2.trans (t3.trans (t4.trans t5))))) _ _ hc) (.cons (.int 0) .nil))) .nil)
    · exact .tup (SqT.of (t5 _ _ (t4 _ _ (t3 _ _ (t2 _ _ hTe))))) (dpAll_same (t1.trans (t2.trans (t3.trans (t4.trans t5)))) _ _ hus)
    · refine .tup (SqT.of (t5 _ _ hA3)) (.cons ?_ .nil)
      rw [pll]
      exact .int _
end
end MM

set_option maxHeartbeats 4000000
namespace XQ
open PySem PySem.Spec PyProof.Rows L2 S1 S2 G3
section
variable {P : Program} {w : World} {A : Around} {E : Value → Shared → Prop} {s : Shared}
set_option maxRecDepth 100000 in
set_option maxHeartbeats 3200000 in
/-- set(l), l a list -/
theorem set_of_list {l : Addr} {items : Array Value} {Wd : Nat → Heap → Prop} {Q : Value → Shared → Prop} (calm : A.handled = none) (tl : s.heap.IsList l items)
    (wd0 : ∀ h1, (∀ b o, s.heap.get? b = some o → h1.get? b = some o) → h1.get? s.heap.objs.size = some (bareSet w) → Wd 0 h1)
    (stay : ∀ i h h1, Wd i h → (∀ b o, b ∉ [s.heap.objs.size + 1] → h.get? b = some o → h1.get? b = some o) → Wd i h1)
    (puts : Puts P w A.in1.in1.in1 s.heap.objs.size items.size (fun i v => items[i]? = some v) Wd)
    (fin : ∀ (h1 : Heap) (tk : Nat), Wd items.size h1 → (∀ b o, s.heap.get? b = some o → h1.get? b = some o) → Q (.ref s.heap.objs.size) { s with heap := h1, toks := tk }) :
    wpAny (model P w) A (call (.type "set") [.ref l]) Q E s := by
  obtain ⟨cM, tM, m0⟩ := F.called_set.mro
  have m1 := F.called_set.made
  have m2 := F.called_set.sub
  refine wpAny_call (codeAny_of_tree ?_)
  show wpAny _ _ (callAny (.type "set") _) _ _ _
  refine wpAny_pure ⟨Code.quiet_builtin _ (by decide +kernel), codeAny_builtin F.entry_type_call ?_⟩
  rw [Around.under_plain (weight_type_call_type "set" [.ref l] []) rfl]
  have m3 := F.called_set.notType
  have m4 := F.called_set.canCreate
  have m5 := F.typeCall_set_1 (.ref l)
  repeat (any_goals (first | assumption | wp_step))
  refine codeAny_mono (code_set_led1 (.ref l) (E := E) (Q₁ := fun u s1 => u = .ref s.heap.objs.size ∧ s1 = { s with heap := s.heap.push (bareSet w) }) ⟨rfl, rfl⟩) fun r s1 got => ?_
  match r, got with
  | .error _, got => exact got
  | .ok .next, got => exact got.elim
  | .ok .brk, got => exact got.elim
  | .ok .cont, got => exact got.elim
  | .ok (.ret u), ⟨eu, es1⟩ =>
    subst eu
    subst es1
    have new0 : (s.heap.push (bareSet w)).get? s.heap.objs.size = some (bareSet w) := Heap.get?_push_size _ rfl
    have ty0 : Shared.TypeIs { s with heap := s.heap.push (bareSet w) } (.ref s.heap.objs.size) "set" := ⟨_, new0, rfl⟩
    have m6 := F.called_set.init.lookup
    have m7 := F.called_set.init.bind (.ref s.heap.objs.size)
    repeat (any_goals (first | assumption | wp_step))
    refine codeAny_mono (codeAny_call_builtin (R := wants (fun r s2 => r = .none ∧ ∃ h1 tk, s2 = { s with heap := h1, toks := tk } ∧ Wd items.size h1 ∧ (∀ b o, s.heap.get? b = some o → h1.get? b = some o)) E) F.called_set.init.plain F.entry_set_init (check_set_init_1 ty0 ?_)) fun r2 s2 got2 => ?_
    · have old : ∀ b o, s.heap.get? b = some o → (s.heap.push (bareSet w)).get? b = some o := fun b o e => Heap.get?_push_of_some _ e
      have sz1 : (s.heap.push (bareSet w)).objs.size = s.heap.objs.size + 1 := Heap.size_push ..
      obtain ⟨⟨c0, d0, da0, sl0⟩, at0, ec, nl, ed⟩ := tl
      simp only at ec ed
      subst ec
      subst ed
      have lt0 : l < s.heap.objs.size := Heap.lt_size at0
      have at1 := old _ _ at0
      have tl1 : (s.heap.push (bareSet w)).IsList l items := ⟨_, at1, rfl, nl, rfl⟩
      have n1 := F.sub_list_set
      have n2 := F.sub_list_frozenset
      have n3 : (Value.type "list" == Value.type "dict") = false := by decide
      unfold Builtin.«set.__init__» noKeywords Builtin.Frozenset.updateFrom
      generalize ePI : pyIter = PI
      wp_walk
      subst ePI
      refine wpAny_pyIter_list tl1 (wpAny_bind (wpAny_runValue ?_))
      have ap : s.heap.objs.size ∉ [(s.heap.push (bareSet w)).objs.size, l] := by
        rw [sz1]
        intro m
        rcases List.mem_cons.mp m with z | z
        · omega
        · rw [List.mem_singleton.mp z] at lt0
          exact absurd lt0 (Nat.lt_irrefl _)
      have calm3 : A.in1.in1.in1.handled = none := by simp [calm]
      refine put_all ((Walks.list calm3 _ l (by rw [sz1]; exact Nat.ne_of_lt (Nat.lt_succ_of_lt lt0)) items).toS) ap (by rw [sz1]; exact stay) puts (items.size - 0) 0 _ (by omega) (Nat.zero_le _) ⟨⟨_, Heap.get?_push_size _ rfl, rfl, rfl⟩, (tl1.push _)⟩ (wd0 _ (fun b o e => Heap.get?_push_of_some _ (old b o e)) (Heap.get?_push_of_some _ new0)) fun s3 mv wd3 => ?_
      obtain ⟨h3, g3, d3, tk3, os3⟩ := s3
      obtain rfl : g3 = s.gens := mv.gens
      obtain rfl : d3 = s.drawn := mv.drawn
      obtain rfl : os3 = s.os := mv.os
      show wpAny _ _ _ _ _ _
      refine wpAny_pure ?_
      show wpAny _ _ (ret Value.none) _ _ _
      refine wpAny_pure ⟨rfl, h3, tk3, rfl, wd3, fun b o e => mv.heap b o (fun m => ?_) (Heap.get?_push_of_some _ (old b o e))⟩
      have lt := Heap.lt_size e
      rw [sz1] at m
      rcases List.mem_cons.mp m with z | z
      · exact absurd lt (z ▸ Nat.lt_irrefl _)
      · have z2 : b = s.heap.objs.size + 1 := List.mem_singleton.mp z
        rw [z2] at lt
        exact absurd (Nat.lt_of_succ_lt lt) (Nat.lt_irrefl _)
    · match r2, got2 with
      | .error _, got2 => exact got2
      | .ok .next, got2 => exact got2.elim
      | .ok .brk, got2 => exact got2.elim
      | .ok .cont, got2 => exact got2.elim
      | .ok (.ret r3), ⟨e3, h3, tk3, es3, wd3, old3⟩ =>
        subst e3
        subst es3
        repeat (any_goals (first | assumption | wp_step))
        exact fin _ _ wd3 old3
end
section
variable {X : Cx}
/-- set(l), l a list of such tuples -/
def rSetKL (K : PySem.W.Frag) (w : World) : List V → Hp → VK → Prop := fun vs H Q => ∃ (t : Addr) (bs : List S2.Row), vs = [.ref t] ∧ SqL K H t (bs.map fun p => V.ref p.1) ∧ Rows K H bs ∧ (∃ U : List NestedKey, (∀ p ∈ bs, p.2 ∈ U) ∧ U.length < 63) ∧
  ∀ a L, H a = none → (∀ p ∈ L, p ∈ bs) → (∀ p ∈ bs, p.2 ∈ L.map (·.2)) → Q (.ref a) (upd H a (setO w a L))
theorem cr_setKL (calm : X.calm = true) (hu : X.A.units + 64 < cLine) : CallR X (.type "set") (rSetKL X.K X.w) := by
  intro pins s σ H vs us Q I r ⟨t, bs, e, ht, rw0, ⟨U, hU, few⟩, q⟩
  subst e
  rw [Vals.ref1 r]
  obtain ⟨its, rv, hl, hz⟩ := I.list ht
  obtain ⟨o, at0, oc, n, od⟩ := hl.isList
  have it : its.toArray.toList = bs.map fun p => Value.ref p.1 := by simpa using refs_vals rv
  have it2 : (its.toArray).size = bs.length := by
    have z := congrArg List.length it
    simpa using z
  have figs := rows_fig I rw0
  have gone : ∀ b, s.heap.objs.size ≤ b → s.heap.get? b = none := fun b le => by
    cases e : s.heap.get? b with
    | none => rfl
    | some o => exact absurd (Nat.lt_of_lt_of_le (Heap.lt_size e) le) (Nat.lt_irrefl _)
  refine set_of_list (Wd := Upto X.w s.heap bs s.heap.objs.size) (I.ok.hd calm) ⟨o, at0, oc, n, od⟩ (fun h1 old new => ⟨old, [], stands_of (has_bare new), fun _ z => (nomatch z), fun p z => by simp at z, trivial⟩) ?stay (upto_puts figs (gone _ (Nat.le_refl _)) it hU few ?ro) fun h1 tk wd old => ?_
  case ro =>
    show X.A.units + 3 + 8 < cLine
    omega
  case stay =>
    rintro i h h1 ⟨old, L, st, more⟩ k
    refine ⟨fun b o e => k b o (fun m => ?_) (old b o e), L, stands_at st fun o e => k _ o (fun m => ?_) e, more⟩
    · rw [List.mem_singleton.mp m, gone _ (Nat.le_succ _)] at e
      cases e
    · exact absurd (List.mem_singleton.mp m) (Nat.ne_of_lt (Nat.lt_succ_self _))
  obtain ⟨_, L, st, a1, a2, a3⟩ := wd
  obtain ⟨es, ep, t1, R⟩ := has_of st fun q hq => (figs q (List.mem_of_mem_take (a1 q hq))).on old
  refine ⟨.ref s.heap.objs.size, _, I.laid (t' := tk) old (Nat.le_refl _) (setO_ok R), rfl, q _ L (I.hok.fresh (Nat.le_refl _)) (fun p hp => List.mem_of_mem_take (a1 p hp)) fun p hp => a2 p (by rw [it2, List.take_length]; exact hp)⟩
end
end XQ

set_option maxHeartbeats 4000000
namespace MM
open PySem PySem.Spec PyProof.Rows L2 G3 M0 LP S1 S2
abbrev nLc : List Str := ["_law_web", "_law_live_here", "_law_mode", "_law_state"]
theorem scLc : FnScope nLc ["_law_web"] (defScope s_law_controls) := ⟨rfl, rfl, rfl, by decide +kernel, rfl, by decide +kernel, by decide +kernel⟩
section
variable {P : Program} {w : World} {K : PySem.W.Frag} {mg : Str → Option Value} {base : Heap}
theorem all_unkey {H : Hp} : ∀ N : List S2.Row, (∀ p ∈ N, ∃ c : Ct, p.2 = ckey c ∧ Dp K H (.ref p.1) (ctD c)) → DpAll K H (N.map fun p => V.ref p.1) ((N.map fun p => unkey p.2).map ctD) ∧ (N.map fun p => unkey p.2).map ckey = N.map (·.2)
  | [], _ => ⟨.nil, rfl⟩
  | p :: N, h => by
    obtain ⟨c, e, d⟩ := h p List.mem_cons_self
    obtain ⟨i1, i2⟩ := all_unkey N fun x hx => h x (List.mem_cons_of_mem _ hx)
    refine ⟨.cons ?_ i1, ?_⟩
    · show Dp K H (.ref p.1) (ctD (unkey p.2))
      rw [e, unkey_c]
      exact d
    · rw [List.map_cons, List.map_cons, List.map_cons, i2]
      show ckey (unkey p.2) :: _ = p.2 :: _
      rw [e, unkey_c]
set_option maxHeartbeats 32000000 in
theorem ok_lc {f : Addr} {fd : FuncData} {k : Nat} (F : Fun K "_law_controls" "_law_controls" s_law_controls f fd) (DL : Def P w K mg base CX0 (k + 1) "_law_live" ["_law_web"] (spLv K)) (m_sorted : mg "sorted" = none) (m_set : mg "set" = none) : FnOk P w K mg base CX0 (k + 1 + 1) f fd ["_law_web"] (spCtOf K) := by
  refine F.ok scLc (fun vs H Q E h => ?_) (fun cdv A outer s H vs Q E hr h => ?_)
  · obtain ⟨m, wb, rfl, _⟩ := h
    rfl
  obtain ⟨m, wb, rfl, hm, ok, q⟩ := h
  have nd := scLc.nd
  have hu := hu_of hr
  refine ⟨_, (pss_cons (ps_set (i := 1) nd rfl (.inr rfl) (pe_call DL.ok hr (by rfl) DL.g DL.kp DL.b .nil pass0 (pa_cons (pv 0) pa_nil)))
    (pss_one (ps_ret (pe_callB (XO.cr_sortKE rfl hr.units) (by rfl) m_sorted (by decide +kernel) (pa_cons (pe_callTy (T := "set") (XQ.cr_setKL rfl hr.units) (by rfl) m_set (by decide +kernel) (pa_cons (pe_lc (own := [("_law_mode", 2), ("_law_state", 3)]) (g := (gTup K 2 (gCons (gName 2) (gCons (gName 3) gNil)))) (by rfl) nd (pi_tup (pe_ix ix_tup (pv 0) pe_int (fun _ _ => rfl))) (blkOk_by (N := nLc) (sc := defScope s_law_controls) (by decide +kernel)) (fun _ _ _ _ _ => (pg_tup rfl (pgs_cons (pg_name (i := 2) nd rfl (.inl rfl)) (pgs_cons (pg_name (i := 3) nd rfl (.inl rfl)) pgs_nil)))) (fun _ _ _ _ _ => (pts_one  (pt_cmpR (r := rIn K false) op_in_seq (pv 3) (pv 1) (by rfl)))) (fun _ _ _ _ _ => (pv 2))) pa_nil)) pa_nil))))), ?_⟩
  obtain ⟨a, ba, ca, da, bs, es, rfl, h0, h1, h2, _, _, _⟩ := web_of hm
  obtain ⟨rs, rl, rfl, rp⟩ := begins_of h2
  have n := ok.b
  have bl : (rs.map fun r => V.ref r.1).length = wb.1.length := by rw [List.length_map, rl]
  refine ⟨_, rfl, _, wb, rfl, hm, ok, fun X Fa fr sX nF hF fm fl => ?_⟩
  let ps : List (Bool × S2.Row) := List.zipWith (fun b r => (decide (b.2 ∈ fr), (r.2, ckey b.1))) wb.1 rs
  have inps : ∀ {p : S2.Row}, (true, p) ∈ ps → ∃ b, b ∈ wb.1 ∧ b.2 ∈ fr ∧ p.2 = ckey b.1 ∧ Dp K H (.ref p.1) (ctD b.1) := fun {p} hp => by
    obtain ⟨i, hi⟩ := List.mem_iff_getElem?.mp hp
    obtain ⟨b, r, hb, hr, e⟩ := zip_at hi
    have e1 := congrArg Prod.fst e
    have e2 : p = (r.2, ckey b.1) := congrArg Prod.snd e
    rw [e2]
    exact ⟨b, List.mem_of_getElem? hb, of_decide_eq_true e1.symm, rfl, (rp i b r hb hr).2⟩
  refine ⟨_, rfl, a, _, 0, .ref ba, rfl, rfl, same_tup sX h0, atI_nat (j := 0) rfl, ba, rfl, ⟨_, same_tup sX h1⟩, fun D nD => ?_⟩
  refine lc_pick (walk_tup (a := ba) (xs := rs.map fun r => V.ref r.1) (K := K)) (fun G s' => same_tup (sX.trans s') h1) (by omega) nD (ps.map fun x => (x.1, V.ref x.2.1)) (by rw [List.length_map, bl]; show (List.zipWith _ _ _).length = _; rw [List.length_zipWith]; omega) (fun i x b y G R hx hp s1 go => ?_) (fun H1 s1 hD => ?_)
  · rw [List.getElem?_map] at hp
    obtain ⟨x2, hx2, e2⟩ := Option.map_eq_some_iff.mp hp
    obtain ⟨b0, r, hb, hr, e⟩ := zip_at hx2
    subst e
    obtain ⟨eb, ey⟩ := Prod.mk.inj e2
    subst eb
    subst ey
    rw [List.getElem?_map, hr] at hx
    cases hx
    obtain ⟨g1, g2⟩ := rp i b0 r hb hr
    refine ⟨r.1, _, rfl, same_tup (sX.trans s1) g1, rfl, _, _, rfl, _, _, rfl, rfl, rfl, ?_⟩
    refine ⟨_, rfl, _, rfl, Fa, _, rfl, .inl (SqL.of (s1 _ _ hF)), rfl, flat_ints fr, _, rfl, ?_⟩
    rw [show (if false = true then !inV (V.int b0.2) (fr.map V.int) else inV (V.int b0.2) (fr.map V.int)) = decide (b0.2 ∈ fr) from inV_ints _ _]
    exact go _ _ (Same.refl _) fun _ Q' hQ => ⟨_, rfl, hQ _ (Same.refl _)⟩
  let B : List S2.Row := (ps.filter (·.1)).map (·.2)
  have mB : ∀ p, p ∈ B ↔ (true, p) ∈ ps := fun p => by
    show p ∈ (ps.filter (·.1)).map (·.2) ↔ _
    rw [List.mem_map]
    constructor
    · rintro ⟨x, hx, rfl⟩
      obtain ⟨a1, a2⟩ := List.mem_filter.mp hx
      have : x = (true, x.2) := by rw [← show x.1 = true from a2]
      rw [← this]
      exact a1
    · intro h
      exact ⟨_, List.mem_filter.mpr ⟨h, rfl⟩, rfl⟩
  have eB : picked (ps.map fun x => (x.1, V.ref x.2.1)) = B.map fun p => V.ref p.1 := by
    show picked _ = ((ps.filter (·.1)).map (·.2)).map _
    unfold picked
    rw [List.filter_map, List.map_map, List.map_map]
    rfl
  rw [eB] at hD
  have Bl : B.length ≤ 30 := by
    show ((ps.filter (·.1)).map (·.2)).length ≤ 30
    rw [List.length_map]
    refine Nat.le_trans (List.length_filter_le _ _) ?_
    show (List.zipWith _ _ _).length ≤ _
    rw [List.length_zipWith]
    omega
  have sX1 : Same H H1 := sX.trans s1
  have rowsB : ∀ {H' : Hp}, Same H H' → ∀ L : List S2.Row, (∀ p ∈ L, p ∈ B) → Rows K H' L := fun s' L hL p hp => by
    obtain ⟨b, _, _, e, d⟩ := inps ((mB p).mp (hL p hp))
    rw [e, ckey_data]
    exact ⟨dp_same s' _ _ d, ckey_fig _, ckey_depth _⟩
  refine ⟨D, B, rfl, SqL.of hD, rowsB sX1 B fun _ h => h, ⟨B.map (·.2), fun p hp => List.mem_map.mpr ⟨p, hp, rfl⟩, by rw [List.length_map]; omega⟩, fun Sa L nS a1 a2 => ?_⟩
  have sS : Same H1 (upd H1 Sa (setO w Sa L)) := same_new nS
  have ds : ∀ d ∈ L.map (fun p => p.2.data), ∃ c, d = ctD c := fun d hd => by
    obtain ⟨p, hp, rfl⟩ := List.mem_map.mp hd
    obtain ⟨b, _, _, e, _⟩ := inps ((mB p).mp (a1 p hp))
    exact ⟨b.1, by rw [e, ckey_data]⟩
  refine ⟨Sa, L, rfl, upd_same, rowsB (sX1.trans sS) L a1, ct_alikes ds, ct_sorts ds, fun p M np pm ri => ?_⟩
  have eM : ∀ p ∈ M, ∃ b, b ∈ wb.1 ∧ b.2 ∈ fr ∧ p.2 = ckey b.1 ∧ Dp K H (.ref p.1) (ctD b.1) := fun p hp => inps ((mB p).mp (a1 p (pm.mem_iff.mp hp)))
  obtain ⟨k1, k2⟩ := all_unkey (K := K) (H := H) M fun p hp => by
    obtain ⟨b, _, _, e, d⟩ := eM p hp
    exact ⟨b.1, e, d⟩
  refine q _ p _ (M.map fun p => unkey p.2) ((sX1.trans sS).trans (same_new np)) (same_none (sX1.trans sS) np) upd_same k1 (by rw [k2]; exact ri) fun c => ?_
  have key : (∃ l, Acc wb c l) ↔ ∃ s, (c, s) ∈ wb.1 ∧ s ∈ fr := by
    constructor
    · rintro ⟨l, e, he, s, hs, hp⟩
      exact ⟨s, hs, (fm s).mpr ⟨l, e, he, hp⟩⟩
    · rintro ⟨s, hs, hf⟩
      obtain ⟨l, e, he, hp⟩ := (fm s).mp hf
      exact ⟨l, e, he, s, hs, hp⟩
  rw [key]
  constructor
  · intro hc
    obtain ⟨p, hp, rfl⟩ := List.mem_map.mp hc
    obtain ⟨b, h1, h2, e, _⟩ := eM p hp
    refine ⟨b.2, ?_, h2⟩
    rw [e, unkey_c]
    exact h1
  · rintro ⟨s, hs, hf⟩
    obtain ⟨i, hi⟩ := List.mem_iff_getElem?.mp hs
    have lt : i < rs.length := by
      have := (List.getElem?_eq_some_iff.mp hi).1
      omega
    have hr : rs[i]? = some rs[i] := List.getElem?_eq_getElem lt
    have hin : (true, (rs[i].2, ckey c)) ∈ ps := by
      refine List.mem_iff_getElem?.mpr ⟨i, ?_⟩
      show (List.zipWith _ _ _)[i]? = _
      rw [List.getElem?_zipWith, hi, hr]
      show some (decide (s ∈ fr), _) = _
      rw [decide_eq_true hf]
    obtain ⟨p, hp, ep⟩ := List.mem_map.mp (a2 _ ((mB _).mpr hin))
    exact List.mem_map.mpr ⟨p, pm.mem_iff.mpr hp, by rw [ep]; exact unkey_c c⟩
end
end MM

set_option maxHeartbeats 16000000
/-! k13: pool, take, machines that are drawn (out of the texts of k12) -/
namespace MM
open PySem PySem.Spec PyProof.Rows L2 G3 G4 M0 N1 S1 S2
theorem datas_nums : ∀ is : List Int, NestedKey.datas (is.map NestedKey.num) = is.map PyData.int
  | [] => by simp [NestedKey.datas]
  | i :: is => by simp [NestedKey.datas, NestedKey.data, datas_nums is]
theorem fig_nums : ∀ is : List Int, figuresAll (is.map NestedKey.num) = true
  | [] => by simp [figuresAll]
  | i :: is => by simp [figuresAll, figures, fig_nums is]
theorem dep_nums : ∀ is : List Int, NestedKey.depthAll (is.map NestedKey.num) = 0
  | [] => by simp [NestedKey.depthAll]
  | i :: is => by simp [NestedKey.depthAll, NestedKey.depth, dep_nums is]
def kCtl (is : List Int) (n : Int) : NestedKey := .tup [.tup (is.map NestedKey.num), .num n]
def kEdge (a p q b : Int) : NestedKey := .tup [.num a, .tup [.num p, .num q], .num b]
theorem kCtl_data (is : List Int) (n : Int) : (kCtl is n).data = .tuple [.tuple (is.map PyData.int), .int n] := by
  simp only [kCtl, NestedKey.data, NestedKey.datas, datas_nums]
theorem kEdge_data (a p q b : Int) : (kEdge a p q b).data = .tuple [.int a, .tuple [.int p, .int q], .int b] := by
  simp only [kEdge, NestedKey.data, NestedKey.datas]
theorem kCtl_fig (is : List Int) (n : Int) : figures (kCtl is n) = true := by
  simp only [kCtl, figures, figuresAll, fig_nums, Bool.and_self]
theorem kEdge_fig (a p q b : Int) : figures (kEdge a p q b) = true := by
  simp only [kEdge, figures, figuresAll, Bool.and_self]
theorem kCtl_dep (is : List Int) (n : Int) : (kCtl is n).depth ≤ 8 := by
  simp [kCtl, NestedKey.depth, NestedKey.depthAll, dep_nums]
theorem kEdge_dep (a p q b : Int) : (kEdge a p q b).depth ≤ 8 := by
  simp [kEdge, NestedKey.depth, NestedKey.depthAll]
theorem rows_sub {K : PySem.W.Frag} {H : Hp} {bs L : List S2.Row} (h : Rows K H bs) (s : ∀ p ∈ L, p ∈ bs) : Rows K H L := fun p hp => h p (s p hp)
theorem rows_same {K : PySem.W.Frag} {H H' : Hp} {bs : List S2.Row} (h : Rows K H bs) (e : Same H H') : Rows K H' bs := fun p hp => ⟨dp_same e _ _ (h p hp).1, (h p hp).2⟩
theorem rows_dp {K : PySem.W.Frag} {H : Hp} : ∀ {bs : List S2.Row}, Rows K H bs → DpAll K H (bs.map fun p => V.ref p.1) (bs.map fun p => p.2.data)
  | [], _ => .nil
  | p :: bs, h => .cons (h p List.mem_cons_self).1 (rows_dp fun q hq => h q (List.mem_cons_of_mem _ hq))
theorem dp_ints {K : PySem.W.Frag} {H : Hp} : ∀ ns : List Int, DpAll K H (ns.map V.int) (ns.map PyData.int)
  | [] => .nil
  | i :: ns => .cons (.int i) (dp_ints ns)
theorem scPool : FnScope ["_law_script", "_law_k", "_law_cell", "_law_mixed"] ["_law_script", "_law_k"] (defScope s_law_pool) := ⟨rfl, rfl, rfl, by decide +kernel, rfl, by decide +kernel, by decide +kernel⟩
theorem scTake : FnScope ["_law_pool_here", "_law_many", "_law_found"] ["_law_pool_here", "_law_many"] (defScope s_law_take) := ⟨rfl, rfl, rfl, by decide +kernel, rfl, by decide +kernel, by decide +kernel⟩
section
variable {P : Program} {w : World} {K : PySem.W.Frag} {mg : Str → Option Value} {base : Heap}

/-- what a pool holds -/
def Pool (H : Hp) (p : Addr) : Prop := ∃ x y : Int, H p = some (.lst [.int x, .int y]) ∧ 0 ≤ x ∧ 0 ≤ y ∧ y < 2147483647
def spTake : Sp := fun vs H Q _ => ∃ (p : Addr) (m : Int), vs = [.ref p, .int m] ∧ Pool H p ∧ 0 < m ∧ m < 1073741824 ∧
  ∀ (x y r : Int), 0 ≤ x → 0 ≤ y → y < 2147483647 → 0 ≤ r → r < m → Q (.int r) (upd H p (.lst [.int x, .int y]))
def spPool (K : PySem.W.Frag) : Sp := fun vs H Q _ => ∃ (a : Addr) (ns : List Int) (k : Nat), vs = [.ref a, .int k] ∧ SqL K H a (ns.map V.int) ∧ k ≤ 1000 ∧
  ∀ (p : Addr) (x y : Int), H p = none → 0 ≤ x → 0 ≤ y → y < 2147483647 → Q (.ref p) (upd H p (.lst [.int x, .int y]))

theorem ok_take {f : Addr} {fd : FuncData} {k : Nat} (F : Fun K "_law_take" "_law_take" s_law_take f fd) : FnOk P w K mg base CX0 (k + 1) f fd ["_law_pool_here", "_law_many"] spTake := by
  refine F.ok scTake (fun vs H Q E h => ?_) (fun cdv A outer s H vs Q E hr h => ?_)
  · obtain ⟨p, m, rfl, _⟩ := h
    rfl
  · obtain ⟨p, m, rfl, ⟨x, y, hp, hx, hy, hy2⟩, hm, hm2, q⟩ := h
    have nd := scTake.nd
    refine ⟨_, pss_cons (ps_if (pt_cmpR op_gt (pe_ix ix_list (pv 0) pe_int (fun _ _ => rfl)) pe_int (nomark _))
        (pss_cons (ps_set (i := 2) nd rfl (.inl rfl) (pe_op op_mod (pe_ix ix_list (pv 0) pe_int (fun _ _ => rfl)) (pv 1)))
        (pss_cons (ps_asg (pe_op op_fdiv (pe_ix ix_list (pv 0) pe_int (fun _ _ => rfl)) (pv 1)) (pg_sub (pv 0) pe_int set_list))
        (pss_one (ps_ret (pv 2))))) pss_nil)
      (pss_cons (ps_asg (pe_op op_mod (pe_op op_add (pe_op op_mul (pe_ix ix_list (pv 0) pe_int (fun _ _ => rfl)) pe_int) pe_int) pe_int) (pg_sub (pv 0) pe_int set_list))
      (pss_one (ps_ret (pe_op op_mod (pe_op op_fdiv (pe_op op_mod (pe_op op_mul (pe_ix ix_list (pv 0) pe_int (fun _ _ => rfl)) (pe_ix ix_list (pv 0) pe_int (fun _ _ => rfl))) pe_int) pe_int) (pv 1))))), ?_⟩
    have g0 : atI [V.int x, V.int y] 0 = some (V.int x) := atI_nat (j := 0) rfl
    have g1 : atI [V.int x, V.int y] 1 = some (V.int y) := atI_nat (j := 1) rfl
    refine ⟨_, rfl, p, _, 0, _, rfl, rfl, SqL.of hp, g0, x, 0, rfl, rfl, _, rfl, ite2 (fun e => ?_) (fun e => ?_)⟩
    · -- the great cell
      have hd1 : 0 ≤ x / m := Int.ediv_nonneg hx (Int.le_of_lt hm)
      refine ⟨_, rfl, p, _, 0, _, rfl, rfl, SqL.of hp, g0, _, rfl, x, m, rfl, rfl, hm, ?_⟩
      refine ⟨_, rfl, p, _, 0, _, rfl, rfl, SqL.of hp, g0, _, rfl, x, m, rfl, rfl, ⟨hm, hm2⟩, ?_⟩
      refine ⟨_, rfl, p, _, 0, 0, rfl, rfl, hp, rfl, _, rfl, ?_⟩
      exact q _ _ _ hd1 hy hy2 (Int.emod_nonneg x (by omega)) (Int.emod_lt_of_pos x hm)
    · have hz1 : 0 ≤ (y * 48271 + 12345) % 2147483647 := Int.emod_nonneg _ (by decide)
      have hz2 : (y * 48271 + 12345) % 2147483647 < 2147483647 := Int.emod_lt_of_pos _ (by decide)
      refine ⟨_, rfl, p, _, 1, _, rfl, rfl, SqL.of hp, g1, y, 48271, rfl, rfl, .inr ⟨by decide, by decide⟩, _, _, rfl, rfl, _, _, rfl, rfl, (show (0 : Int) < 2147483647 by decide), ?_⟩
      refine ⟨_, rfl, p, _, 1, 1, rfl, rfl, hp, rfl, ?_⟩
      have g2 : atI ([V.int x, V.int y].set 1 (V.int ((y * 48271 + 12345) % 2147483647))) 1 = some (V.int ((y * 48271 + 12345) % 2147483647)) := atI_nat (j := 1) rfl
      refine ⟨_, rfl, p, _, 1, _, rfl, rfl, SqL.of upd_same, g2, _, rfl, p, _, 1, _, rfl, rfl, SqL.of upd_same, g2, _, _, rfl, rfl, .inl ⟨by omega, by omega⟩, ?_⟩
      refine ⟨_, _, rfl, rfl, (show (0 : Int) < 2147483629 by decide), _, _, rfl, rfl, ⟨by decide, by decide⟩, _, rfl, _, m, rfl, rfl, hm, ?_⟩
      exact q _ _ _ hx hz1 hz2 (Int.emod_nonneg _ (by omega)) (Int.emod_lt_of_pos _ hm)

theorem ok_pool {f : Addr} {fd : FuncData} {k : Nat} (F : Fun K "_law_pool" "_law_pool" s_law_pool f fd) (ml : mg "len" = none) (ma : mg "abs" = none) (mi : mg "int" = none) : FnOk P w K mg base CX0 (k + 1) f fd ["_law_script", "_law_k"] (spPool K) := by
  refine F.ok scPool (fun vs H Q E h => ?_) (fun cdv A outer s H vs Q E hr h => ?_)
  · obtain ⟨a, ns, k, rfl, _⟩ := h
    rfl
  · obtain ⟨a, ns, k, rfl, hS, hk, q⟩ := h
    have nd := scPool.nd
    refine ⟨_, pss_cons (ps_set (i := 2) nd rfl (.inl rfl) pe_int)
      (pss_cons (ps_if (pt_cmpR op_lt (pv 1) (pe_callB call_len_seq (by rfl) ml PySem.boot_len (pa_cons (pv 0) pa_nil)) (nomark _))
        (pss_one (ps_set (i := 2) nd rfl (.inl rfl) (pe_callB call_abs (by rfl) ma (by decide +kernel) (pa_cons (pe_ix ix_list (pv 0) (pv 1) (fun _ _ => rfl)) pa_nil)))) pss_nil)
      (pss_cons (ps_set (i := 3) nd rfl (.inl rfl) (pe_op op_mod (pe_op op_mul (pe_op op_add (pe_op op_add (pe_op op_add (pe_op op_mod (pv 2) pe_int) (pe_op op_mul (pe_op op_mul pe_int (pv 1)) (pv 1))) (pe_op op_mul pe_int (pv 1))) pe_int) pe_int) pe_int))
      (pss_one (ps_ret (pe_lst (pa_cons (pe_op op_mul (pv 2) (pe_callTy call_int1 (by rfl) mi (by decide +kernel) (pa_cons (pe_cmpR op_ge (pv 2) (pe_op op_pow pe_int pe_int) (nomark _)) pa_nil)))
        (pa_cons (pe_op op_mod (pe_op op_mul (pv 3) (pv 3)) pe_int) pa_nil))))))), ?_⟩
    -- what follows once the cell is known
    have rest : ∀ c : Int, 0 ≤ c → (tSeq (tAsg (tOp (rI (fun _ j => 0 < j) fun i j => .int (i % j)) (tOp (rI CMul fun i j => .int (i * j)) (tOp (rI0 fun i j => .int (i + j)) (tOp (rI0 fun i j => .int (i + j)) (tOp (rI0 fun i j => .int (i + j)) (tOp (rI (fun _ j => 0 < j) fun i j => .int (i % j)) (tVar 2) (tC (.int 2147483629))) (tOp (rI CMul fun i j => .int (i * j)) (tOp (rI CMul fun i j => .int (i * j)) (tC (.int 7919)) (tVar 1)) (tVar 1))) (tOp (rI CMul fun i j => .int (i * j)) (tC (.int 31)) (tVar 1))) (tC (.int 17))) (tC (.int 48271))) (tC (.int 2147483647))) (gName 3))
        (tRet (tLst (tCons (tOp (rI CMul fun i j => .int (i * j)) (tVar 2) (tCB (fun xs H Q => (∃ i, xs = [.int i] ∧ Q (.int i) H) ∨ ∃ k, xs = [.bl k] ∧ Q (.int (if k then 1 else 0)) H) (tCons (tOp (rI0 fun i j => .bl (decide (j ≤ i))) (tVar 2) (tOp (rI CPow fun i j => .int (i ^ j.toNat)) (tC (.int 10)) (tC (.int 18)))) tNil)))
          (tCons (tOp (rI (fun _ j => 0 < j) fun i j => .int (i % j)) (tOp (rI CMul fun i j => .int (i * j)) (tVar 3) (tVar 3)) (tC (.int 2147483629))) tNil)))))
        { nx := fun _ H' => Q .non H', rt := Q } [some (.ref a), some (.int k), some (.int c), none] H := by
      intro c hc
      refine ⟨_, rfl, c, _, rfl, rfl, (show (0 : Int) < 2147483629 by decide), _, rfl, _, _, rfl, rfl, .inl ⟨by decide, by decide⟩, _, rfl, _, _, rfl, rfl, .inr ⟨by omega, by omega⟩, _, _, rfl, rfl, _, rfl, _, _, rfl, rfl, .inl ⟨by decide, by decide⟩, _, _, rfl, rfl, _, _, rfl, rfl, _, _, rfl, rfl, .inr ⟨by decide, by decide⟩, _, _, rfl, rfl, (show (0 : Int) < 2147483647 by decide), ?_⟩
      have hz1 : 0 ≤ (c % 2147483629 + 7919 * (k : Int) * k + 31 * k + 17) * 48271 % 2147483647 := Int.emod_nonneg _ (by decide)
      have hz2 : (c % 2147483629 + 7919 * (k : Int) * k + 31 * k + 17) * 48271 % 2147483647 < 2147483647 := Int.emod_lt_of_pos _ (by decide)
      refine ⟨_, rfl, _, rfl, _, _, rfl, rfl, ⟨by decide, by decide, by decide⟩, c, _, rfl, rfl, .inr ⟨_, rfl, ?_⟩⟩
      have key : ∀ b : Bool, 0 ≤ c * (if b then 1 else 0) := fun b => by cases b <;> simp [hc]
      have sm : ∀ b : Bool, (-(2 ^ 64) : Int) < (if b then 1 else 0) ∧ ((if b then 1 else 0) : Int) < 2 ^ 64 := fun b => by cases b <;> decide
      refine ⟨c, _, rfl, rfl, .inr (sm _), _, rfl, _, rfl, _, _, rfl, rfl, .inl ⟨Int.lt_of_lt_of_le (by decide) hz1, Int.lt_trans hz2 (by decide)⟩, _, _, rfl, rfl, (show (0 : Int) < 2147483629 by decide), by show 2 ≤ sizeLine; decide, fun p np => ?_⟩
      exact q p _ _ np (key _) (Int.emod_nonneg _ (by decide)) (Int.lt_trans (Int.emod_lt_of_pos _ (by decide)) (by decide))
    refine ⟨_, rfl, _, rfl, a, _, rfl, .inl hS, _, _, rfl, rfl, _, rfl, ite2 (fun e => ?_) (fun e => ?_)⟩
    · have hk2 : k < ns.length := by
        have := of_decide_eq_true e
        rw [List.length_map] at this
        omega
      have g : (ns.map V.int)[k]? = some (.int ns[k]) := by
        rw [List.getElem?_map, List.getElem?_eq_getElem hk2]
        rfl
      refine ⟨_, rfl, _, rfl, a, _, k, _, rfl, rfl, hS, atI_nat g, ns[k], rfl, ?_⟩
      refine rest _ ?_
      split <;> omega
    · exact rest 0 (by decide)
end

abbrev nMake : List Str := ["_law_pool_here", "_law_controls_here", "_law_many", "_law_points", "_law_edges", "_law_turn", "_law_begins", "_law_ends"]
theorem scMake : FnScope nMake ["_law_pool_here", "_law_controls_here"] (defScope s_law_machine) := ⟨rfl, rfl, rfl, by decide +kernel, rfl, by decide +kernel, by decide +kernel⟩
/-! what stands beside the pool and a dict -/
def off2 (p d : Addr) (H : Hp) : Hp := fun b => if b = p ∨ b = d then none else H b
section
variable {p d b t : Addr} {H H' : Hp} {o : HO}
theorem off2_ne (h1 : b ≠ p) (h2 : b ≠ d) : off2 p d H b = H b := if_neg fun z => z.elim h1 h2
theorem off2_p : off2 p d (upd H p o) = off2 p d H := by
  funext b
  by_cases e : b = p
  · unfold off2; rw [if_pos (.inl e), if_pos (.inl e)]
  · unfold off2; rw [upd_ne e]
theorem off2_d : off2 p d (upd H d o) = off2 p d H := by
  funext b
  by_cases e : b = d
  · unfold off2; rw [if_pos (.inr e), if_pos (.inr e)]
  · unfold off2; rw [upd_ne e]
theorem off2_some {x : HO} (h : off2 p d H b = some x) : b ≠ p ∧ b ≠ d ∧ H b = some x := by
  by_cases z : b = p ∨ b = d
  · unfold off2 at h; rw [if_pos z] at h; cases h
  · unfold off2 at h; rw [if_neg z] at h
    exact ⟨fun e => z (.inl e), fun e => z (.inr e), h⟩
theorem off2_mono (e : Same H H') : Same (off2 p d H) (off2 p d H') := fun b x h => by
  obtain ⟨h1, h2, h3⟩ := off2_some h
  rw [off2_ne h1 h2]
  exact e b x h3
theorem off2_sub : Same (off2 p d H) (M0.off p H) := fun b x h => by
  obtain ⟨h1, _, h3⟩ := off2_some h
  rw [off_ne h1]
  exact h3
theorem off2_all : Same (off2 p d H) H := fun b x h => (off2_some h).2.2
theorem off2_start (n : H d = none) : Same (M0.off p H) (off2 p d (upd H d o)) := fun b x h => by
  by_cases z : b = p
  · unfold M0.off at h; rw [if_pos z] at h; cases h
  · rw [off_ne z] at h
    have z2 : b ≠ d := ne_of_none h n
    rw [off2_ne z z2, upd_ne z2]
    exact h
end
/-! tuples of ints to choose from -/
abbrev Tp := Addr × List Int
def Menu (K : PySem.W.Frag) (H : Hp) (l : Addr) (cs : List Tp) (R : List Int → Prop) : Prop := SqL K H l (cs.map fun x => V.ref x.1) ∧ ∀ x ∈ cs, SqT K H x.1 (x.2.map V.int) ∧ R x.2
theorem Menu.same {K : PySem.W.Frag} {H H' : Hp} {l : Addr} {cs : List Tp} {R : List Int → Prop} (h : Menu K H l cs R) (e : Same H H') : Menu K H' l cs R := ⟨e.seq h.1, fun x hx => ⟨same_tup e (h.2 x hx).1, (h.2 x hx).2⟩⟩
theorem Menu.at {K : PySem.W.Frag} {H : Hp} {l : Addr} {cs : List Tp} {R : List Int → Prop} (h : Menu K H l cs R) {r : Int} (h0 : 0 ≤ r) (h1 : r < cs.length) : ∃ x ∈ cs, atI (cs.map fun x => V.ref x.1) r = some (.ref x.1) := by
  obtain ⟨j, rfl⟩ : ∃ j : Nat, r = (j : Int) := ⟨r.toNat, by omega⟩
  have hl : j < cs.length := by omega
  refine ⟨cs[j], List.getElem_mem hl, ?_⟩
  exact atI_nat (by rw [List.getElem?_map, List.getElem?_eq_getElem hl]; rfl)
def ctlOk (is : List Int) : Prop := is.length ≤ 2 ∧ ∀ i ∈ is, -100 ≤ i ∧ i < 100
/-! rows of the dicts -/
def ERow (r : S2.Row) : Prop := ∃ a p q b : Int, r.2 = kEdge a p q b ∧ ∀ i ∈ [a, p, q, b], 0 ≤ i ∧ i < 100
def BRow (r : S2.Row) : Prop := ∃ (is : List Int) (n : Int), r.2 = kCtl is n ∧ ctlOk is ∧ 0 ≤ n ∧ n < 100
structure InvD (P : Program) (w : World) (K : PySem.W.Frag) (B : Hp) (p d : Addr) (R : S2.Row → Prop) (n : Nat) (H : Hp) : Prop where
  sm : Same B (off2 p d H)
  pl : Pool H p
  ne : d ≠ p
  has : ∃ L, H d = some (dicO P w d L) ∧ Rows K (off2 p d H) L ∧ (∀ r ∈ L, R r) ∧ L.length ≤ n
section
variable {P : Program} {w : World} {K : PySem.W.Frag} {B H : Hp} {p d t : Addr} {R : S2.Row → Prop} {n : Nat}
theorem InvD.take (h : InvD P w K B p d R n H) {x y : Int} (hx : 0 ≤ x) (hy : 0 ≤ y) (hy2 : y < 2147483647) : InvD P w K B p d R n (upd H p (.lst [.int x, .int y])) := by
  obtain ⟨L, h1, h2, h3⟩ := h.has
  refine ⟨by rw [off2_p]; exact h.sm, ⟨x, y, upd_same, hx, hy, hy2⟩, h.ne, L, by rw [upd_ne h.ne]; exact h1, by rw [off2_p]; exact h2, h3⟩
theorem InvD.new (h : InvD P w K B p d R n H) {o : HO} (nt : H t = none) : InvD P w K B p d R n (upd H t o) := by
  obtain ⟨L, h1, h2, h3⟩ := h.has
  obtain ⟨x, y, q1, q2⟩ := h.pl
  have s : Same H (upd H t o) := same_new nt
  exact ⟨h.sm.trans (off2_mono s), ⟨x, y, s _ _ q1, q2⟩, h.ne, L, s _ _ h1, rows_same h2 (off2_mono s), h3⟩
theorem InvD.start (pl : Pool H p) (nd : H d = none) : InvD P w K (M0.off p H) p d R 0 (upd H d (dicO P w d [])) := by
  obtain ⟨x, y, q1, q2⟩ := pl
  have ne : d ≠ p := fun e => by rw [e, q1] at nd; cases nd
  exact ⟨off2_start nd, ⟨x, y, by rw [upd_ne ne.symm]; exact q1, q2⟩, ne, [], upd_same, fun _ z => (nomatch z), fun _ z => (nomatch z), Nat.le_refl _⟩
/-- d[k] = True, the key a new tuple at t -/
theorem InvD.put (h : InvD P w K B p d R n H) {k : NestedKey} (hn : n < 900) (ht : Dp K (off2 p d H) (.ref t) k.data) (fk : figures k = true) (dk : k.depth ≤ 8) (hr : R (t, k)) {Q : Hp → Prop} (q : ∀ H', InvD P w K B p d R (n + 1) H' → Q H') :
    rDicN K P w (.ref d) (.ref t) (.bl true) H Q := by
  obtain ⟨L, h1, h2, h3, h4⟩ := h.has
  refine ⟨d, t, k, L, rfl, rfl, rfl, h1, ?_, by omega, fun L' how => q _ ?_⟩
  · intro r hr
    rcases List.mem_cons.mp hr with rfl | hr
    · exact ⟨dp_same off2_all _ _ ht, fk, dk⟩
    · exact rows_same h2 off2_all r hr
  · obtain ⟨x, y, q1, q2⟩ := h.pl
    refine ⟨by rw [off2_d]; exact h.sm, ⟨x, y, by rw [upd_ne h.ne.symm]; exact q1, q2⟩, h.ne, L', upd_same, ?_⟩
    rw [off2_d]
    rcases how with ⟨_, rfl⟩ | ⟨_, rfl⟩
    · exact ⟨h2, h3, by omega⟩
    · refine ⟨fun r hr' => ?_, fun r hr' => ?_, by rw [List.length_append]; simp; omega⟩
      · rcases List.mem_append.mp hr' with z | z
        · exact h2 r z
        · rw [List.mem_singleton.mp z]; exact ⟨ht, fk, dk⟩
      · rcases List.mem_append.mp hr' with z | z
        · exact h3 r z
        · rw [List.mem_singleton.mp z]; exact hr
end
/-! the ends' dict -/
structure EndD (kvs : List (L2.Key × V)) (n : Nat) : Prop where
  ex : ∃ ks : List Int, kvs.map (·.1) = ks.map Sum.inl ∧ ks.Nodup ∧ (∀ k ∈ ks, 0 ≤ k ∧ k < 100) ∧ ks.length ≤ n
theorem EndD.put {kvs : List (L2.Key × V)} {n : Nat} (h : EndD kvs n) {k : Int} {v : V} (h0 : 0 ≤ k) (h1 : k < 100) : EndD (putK kvs (Sum.inl k) v) (n + 1) := by
  obtain ⟨ks, e, nd, b, l⟩ := h.ex
  by_cases m : (kvs.any fun kv => decide (kv.1 = (Sum.inl k : L2.Key))) = true
  · refine ⟨ks, ?_, nd, b, by omega⟩
    unfold putK
    rw [if_pos m, List.map_map, ← e]
    refine List.map_congr_left fun x _ => ?_
    show (if x.1 = Sum.inl k then (x.1, v) else x).1 = x.1
    split <;> rfl
  · have nk : k ∉ ks := fun z => m (by
      rw [List.any_eq_true]
      have z2 : (Sum.inl k : L2.Key) ∈ kvs.map (·.1) := by rw [e]; exact List.mem_map.mpr ⟨k, z, rfl⟩
      obtain ⟨x, hx, ex⟩ := List.mem_map.mp z2
      exact ⟨x, hx, decide_eq_true ex⟩)
    refine ⟨ks ++ [k], ?_, ?_, fun j hj => ?_, by rw [List.length_append]; simp; omega⟩
    · unfold putK
      rw [if_neg m, List.map_append, List.map_append, e]
      rfl
    · rw [List.nodup_append]
      refine ⟨nd, List.nodup_cons.mpr ⟨List.not_mem_nil, List.nodup_nil⟩, fun x hx y hy => ?_⟩
      rw [List.mem_singleton.mp hy]
      exact fun z => nk (z ▸ hx)
    · rcases List.mem_append.mp hj with z | z
      · exact b j z
      · rw [List.mem_singleton.mp z]; exact ⟨h0, h1⟩

def ptOk (is : List Int) : Prop := ∃ a b : Int, is = [a, b] ∧ ∀ i ∈ [a, b], 0 ≤ i ∧ i < 100
theorem pool_new {H : Hp} {p t : Addr} {o : HO} (pl : Pool H p) (nt : H t = none) : Pool (upd H t o) p := by
  obtain ⟨x, y, h, r⟩ := pl
  exact ⟨x, y, same_new nt _ _ h, r⟩
theorem pool_ne {H : Hp} {p t : Addr} (pl : Pool H p) (nt : H t = none) : t ≠ p := fun e => by
  obtain ⟨x, y, h, _⟩ := pl
  rw [e, h] at nt
  cases nt
theorem dp_nums {K : PySem.W.Frag} {H : Hp} {a : Addr} {is : List Int} (h : SqT K H a (is.map V.int)) : Dp K H (.ref a) (.tuple (is.map PyData.int)) := .tup h (dp_ints is)
def toB : NestedKey → Ct × Int
  | .tup [c, .num n] => (unkey c, n)
  | _ => ([], 0)
def toE : NestedKey → Ed
  | .tup [.num a, .tup [.num p, .num q], .num b] => (a, (p, q), b)
  | _ => (0, (0, 0), 0)
theorem toB_k (is : List Int) (n : Int) : toB (kCtl is n) = (is, n) := by
  show (unkey (.tup (is.map NestedKey.num)), n) = _
  rw [show unkey (.tup (is.map NestedKey.num)) = is from unkey_c is]
theorem toE_k (a p q b : Int) : toE (kEdge a p q b) = (a, (p, q), b) := rfl
theorem edge_rows {L : List S2.Row} (h : ∀ r ∈ L, ERow r) : PySem.W.AllAlike (L.map fun r => r.2.data) ∧ PySem.W.Sortable (L.map fun r => r.2.data) ∧ L.map (fun r => r.2.data) = (L.map fun r => toE r.2).map edgeD := by
  refine ⟨fun x hx y hy => ?_, .inl fun x hx => ?_, ?_⟩
  · obtain ⟨r, hr, rfl⟩ := List.mem_map.mp hx
    obtain ⟨s, hs, rfl⟩ := List.mem_map.mp hy
    obtain ⟨a, p, q, b, e, _⟩ := h r hr
    obtain ⟨a', p', q', b', e', _⟩ := h s hs
    rw [e, e', kEdge_data, kEdge_data]
    rfl
  · obtain ⟨r, hr, rfl⟩ := List.mem_map.mp hx
    obtain ⟨a, p, q, b, e, _⟩ := h r hr
    rw [e, kEdge_data]
    exact ⟨_, _, rfl⟩
  · rw [List.map_map]
    refine List.map_congr_left fun r hr => ?_
    obtain ⟨a, p, q, b, e, _⟩ := h r hr
    show r.2.data = edgeD (toE r.2)
    rw [e, kEdge_data, toE_k]
    rfl
theorem ctl_rows {L : List S2.Row} (h : ∀ r ∈ L, BRow r) : PySem.W.AllAlike (L.map fun r => r.2.data) ∧ PySem.W.Sortable (L.map fun r => r.2.data) ∧ L.map (fun r => r.2.data) = (L.map fun r => toB r.2).map beginD ∧ ∀ x ∈ L.map (fun r => toB r.2), x.1.length ≤ 10 := by
  refine ⟨fun x hx y hy => ?_, .inl fun x hx => ?_, ?_, fun x hx => ?_⟩
  · obtain ⟨r, hr, rfl⟩ := List.mem_map.mp hx
    obtain ⟨s, hs, rfl⟩ := List.mem_map.mp hy
    obtain ⟨a, p, e, _⟩ := h r hr
    obtain ⟨a', p', e', _⟩ := h s hs
    rw [e, e', kCtl_data, kCtl_data]
    simp only [PySem.W.alike, PySem.W.alikeAll, PySem.W.alike_ints, Bool.and_self]
  · obtain ⟨r, hr, rfl⟩ := List.mem_map.mp hx
    obtain ⟨a, p, e, _⟩ := h r hr
    rw [e, kCtl_data]
    exact ⟨_, _, rfl⟩
  · rw [List.map_map]
    refine List.map_congr_left fun r hr => ?_
    obtain ⟨a, p, e, _⟩ := h r hr
    show r.2.data = beginD (toB r.2)
    rw [e, kCtl_data, toB_k]
    rfl
  · obtain ⟨r, hr, rfl⟩ := List.mem_map.mp hx
    obtain ⟨a, p, e, ok, _⟩ := h r hr
    rw [e, toB_k]
    have := ok.1
    show a.length ≤ 10
    omega
def spMake (K : PySem.W.Frag) : Sp := fun vs H Q _ => ∃ (p c : Addr) (cs : List Tp), vs = [.ref p, .ref c] ∧ Pool H p ∧ Menu K (M0.off p H) c cs ctlOk ∧ cs.length = 4 ∧
  ∀ H' v wb, Same (M0.off p H) (M0.off p H') → Pool H' p → Dp K (M0.off p H') v (webD wb) → WebOk wb → wb.2.1.length ≤ 10 → Q v H'
section
variable {P : Program} {w : World} {K : PySem.W.Frag} {mg : Str → Option Value} {base : Heap}
theorem ok_make {f : Addr} {fd : FuncData} {k : Nat} (F : Fun K "_law_machine" "_law_machine" s_law_machine f fd) (T : Def P w K mg base CX0 (k + 1) "_law_take" ["_law_pool_here", "_law_many"] spTake) (mr : mg "range" = none) (ml : mg "len" = none) (mt : mg "tuple" = none) (mso : mg "sorted" = none) :
    FnOk P w K mg base CX0 (k + 1 + 1) f fd ["_law_pool_here", "_law_controls_here"] (spMake K) := by
  refine F.ok scMake (fun vs H Q E h => ?_) (fun cdv A outer s H vs Q E hr h => ?_)
  · obtain ⟨p, c, cs, rfl, _⟩ := h
    rfl
  obtain ⟨p, c, cs, rfl, pl, mc, lc, q⟩ := h
  have nd := scMake.nd
  have hu := hu_of hr
  refine ⟨_, pss_cons (ps_set (i := 2) nd rfl (.inl rfl) (pe_op op_add pe_int (pe_call T.ok hr (by rfl) T.g T.kp T.b .nil pass0 (pa_cons (pv 0) (pa_cons pe_int pa_nil)))))
    (pss_cons (ps_set (i := 3) nd rfl (.inl rfl) (pe_lst (pa_cons (pe_tup (pa_cons pe_int (pa_cons pe_int pa_nil))) (pa_cons (pe_tup (pa_cons pe_int (pa_cons pe_int pa_nil))) (pa_cons (pe_tup (pa_cons pe_int (pa_cons pe_int pa_nil))) pa_nil)))))
    (pss_cons (ps_set (i := 4) nd rfl (.inl rfl) pe_dnewN)
    (pss_cons (ps_for PassesOwn.never rfl (pi_range1 (by rfl) mr (pa_cons (pe_call T.ok hr (by rfl) T.g T.kp T.b .nil pass0 (pa_cons (pv 0) (pa_cons pe_int pa_nil))) pa_nil)) (pg_name (i := 5) nd rfl (.inl rfl))
      (pss_one (ps_asg pe_bl (pg_sub (pv 4) (pe_tup (pa_cons (pe_call T.ok hr (by rfl) T.g T.kp T.b .nil pass0 (pa_cons (pv 0) (pa_cons (pv 2) pa_nil)))
        (pa_cons (pe_ix ix_list (pv 3) (pe_call T.ok hr (by rfl) T.g T.kp T.b .nil pass0 (pa_cons (pv 0) (pa_cons pe_int pa_nil))) (fun _ _ => rfl))
        (pa_cons (pe_call T.ok hr (by rfl) T.g T.kp T.b .nil pass0 (pa_cons (pv 0) (pa_cons (pv 2) pa_nil))) pa_nil)))) (set_dicN hr.units)))))
    (pss_cons (ps_set (i := 6) nd rfl (.inl rfl) pe_dnewN)
    (pss_cons (ps_for PassesOwn.never rfl (pi_range1 (by rfl) mr (pa_cons (pe_call T.ok hr (by rfl) T.g T.kp T.b .nil pass0 (pa_cons (pv 0) (pa_cons pe_int pa_nil))) pa_nil)) (pg_name (i := 5) nd rfl (.inl rfl))
      (pss_one (ps_asg pe_bl (pg_sub (pv 6) (pe_tup (pa_cons (pe_ix ix_list (pv 1) (pe_call T.ok hr (by rfl) T.g T.kp T.b .nil pass0 (pa_cons (pv 0) (pa_cons (pe_callB call_len_seq (by rfl) ml PySem.boot_len (pa_cons (pv 1) pa_nil)) pa_nil))) (fun _ _ => rfl))
        (pa_cons (pe_call T.ok hr (by rfl) T.g T.kp T.b .nil pass0 (pa_cons (pv 0) (pa_cons (pv 2) pa_nil))) pa_nil))) (set_dicN hr.units)))))
    (pss_cons (ps_set (i := 7) nd rfl (.inl rfl) pe_dnewK)
    (pss_cons (ps_for PassesOwn.never rfl (pi_range1 (by rfl) mr (pa_cons (pe_op op_add pe_int (pe_call T.ok hr (by rfl) T.g T.kp T.b .nil pass0 (pa_cons (pv 0) (pa_cons pe_int pa_nil)))) pa_nil)) (pg_name (i := 5) nd rfl (.inl rfl))
      (pss_one (ps_dput hu (pv 7) (pe_call T.ok hr (by rfl) T.g T.kp T.b .nil pass0 (pa_cons (pv 0) (pa_cons (pv 2) pa_nil))) pe_bl rfl)))
    (pss_one (ps_ret (pe_tup (pa_cons (pe_callTy call_tuple_of (by rfl) mt (by decide +kernel) (pa_cons (pe_callB (cr_sortN rfl hr.units) (by rfl) mso (by decide +kernel) (pa_cons (pv 6) pa_nil)) pa_nil))
      (pa_cons (pe_callTy call_tuple_of (by rfl) mt (by decide +kernel) (pa_cons (pe_callB (cr_sortN rfl hr.units) (by rfl) mso (by decide +kernel) (pa_cons (pv 4) pa_nil)) pa_nil))
      (pa_cons (pe_callTy call_tuple_of (by rfl) mt (by decide +kernel) (pa_cons (pe_callB (call_sortedDI rfl) (by rfl) mso (by decide +kernel) (pa_cons (pv 7) pa_nil)) pa_nil)) pa_nil))))))))))))), ?_⟩
  have sz2 : 2 ≤ sizeLine := by decide
  have sz3 : 3 ≤ sizeLine := by decide
  -- many = 1 + take(5)
  refine ⟨_, rfl, p, 5, rfl, pl, by decide, by decide, fun x1 y1 r1 hx1 hy1 hz1 h01 h11 => ?_⟩
  refine ⟨1, r1, rfl, rfl, ?_⟩
  have hm0 : 0 < 1 + r1 := by omega
  have hm1 : 1 + r1 ≤ 5 := by omega
  have hm2 : 1 + r1 < 1073741824 := by omega
  have pl1 : Pool (upd H p (.lst [.int x1, .int y1])) p := ⟨x1, y1, upd_same, hx1, hy1, hz1⟩
  have o1 : M0.off p (upd H p (.lst [.int x1, .int y1])) = M0.off p H := off_upd
  generalize upd H p (.lst [.int x1, .int y1]) = H1 at pl1 o1 ⊢
  -- points
  refine ⟨sz2, fun t1 n1 => ⟨sz2, fun t2 n2 => ⟨sz2, fun t3 n3 => ⟨sz3, fun lp n4 => ?_⟩⟩⟩⟩
  have s1 : Same H1 (upd H1 t1 (.tup [.int 0, .int 0])) := same_new n1
  have s2 := same_new (o := .tup [.int 0, .int 1]) n2
  have s3 := same_new (o := .tup [.int 1, .int 0]) n3
  have s4 := same_new (o := .lst [.ref t1, .ref t2, .ref t3]) n4
  have e1 : p ≠ t1 := (pool_ne pl1 n1).symm
  have pl2 := pool_new (o := .tup [.int 0, .int 0]) pl1 n1
  have e2 : p ≠ t2 := (pool_ne pl2 n2).symm
  have pl3 := pool_new (o := .tup [.int 0, .int 1]) pl2 n2
  have e3 : p ≠ t3 := (pool_ne pl3 n3).symm
  have pl4 := pool_new (o := .tup [.int 1, .int 0]) pl3 n3
  have e4 : p ≠ lp := (pool_ne pl4 n4).symm
  have pl5 := pool_new (o := .lst [.ref t1, .ref t2, .ref t3]) pl4 n4
  have sA : Same H1 _ := s1.trans (s2.trans (s3.trans s4))
  have mp : Menu K (M0.off p (upd (upd (upd (upd H1 t1 (.tup [.int 0, .int 0])) t2 (.tup [.int 0, .int 1])) t3 (.tup [.int 1, .int 0])) lp (.lst [.ref t1, .ref t2, .ref t3]))) lp [(t1, [0, 0]), (t2, [0, 1]), (t3, [1, 0])] ptOk := by
    refine ⟨SqL.of (by rw [off_ne e4.symm]; exact upd_same), fun x hx => ?_⟩
    rcases List.mem_cons.mp hx with rfl | hx
    · exact ⟨SqT.of (by rw [off_ne e1.symm]; exact s4 _ _ (s3 _ _ (s2 _ _ upd_same))), 0, 0, rfl, by decide⟩
    rcases List.mem_cons.mp hx with rfl | hx
    · exact ⟨SqT.of (by rw [off_ne e2.symm]; exact s4 _ _ (s3 _ _ upd_same)), 0, 1, rfl, by decide⟩
    rw [List.mem_singleton.mp hx]
    exact ⟨SqT.of (by rw [off_ne e3.symm]; exact s4 _ _ upd_same), 1, 0, rfl, by decide⟩
  generalize upd (upd (upd (upd H1 t1 (.tup [.int 0, .int 0])) t2 (.tup [.int 0, .int 1])) t3 (.tup [.int 1, .int 0])) lp (.lst [.ref t1, .ref t2, .ref t3]) = H2 at sA mp pl5 ⊢
  have sB : Same (M0.off p H) (M0.off p H2) := by rw [← o1]; exact off_mono sA
  clear n1 n2 n3 n4 s1 s2 s3 s4 e1 e2 e3 e4 pl2 pl3 pl4 sA
  -- edges = {}
  intro dE nE
  have I0 : InvD P w K (M0.off p H2) p dE ERow 0 (upd H2 dE (dicO P w dE [])) := InvD.start pl5 nE
  refine ⟨_, rfl, p, 10, rfl, I0.pl, by decide, by decide, fun x2 y2 r2 hx2 hy2 hz2 h02 h12 => ?_⟩
  have I1 := I0.take hx2 hy2 hz2
  refine ⟨r2, rfl, by omega, by omega, ?_⟩
  refine for_range (n := r2.toNat) (fun i σ H5 => ∃ y5, σ = [some (.ref p), some (.ref c), some (.int (1 + r1)), some (.ref lp), some (.ref dE), y5, none, none] ∧ InvD P w K (M0.off p H2) p dE ERow i H5)
    ⟨none, rfl, I1⟩ (fun i σ H5 hi hP => ?_) (fun σ H5 hP => ?_)
  · obtain ⟨y5, rfl, J⟩ := hP
    refine ⟨_, rfl, ?_⟩
    refine ⟨_, rfl, _, rfl, p, 1 + r1, rfl, J.pl, hm0, hm2, fun x3 y3 r3 hx3 hy3 hz3 h03 h13 => ?_⟩
    have J1 := J.take hx3 hy3 hz3
    generalize upd H5 p (.lst [.int x3, .int y3]) = H6 at J1 ⊢
    refine ⟨_, rfl, _, rfl, p, 3, rfl, J1.pl, by decide, by decide, fun x4 y4 r4 hx4 hy4 hz4 h04 h14 => ?_⟩
    have J2 := J1.take hx4 hy4 hz4
    generalize upd H6 p (.lst [.int x4, .int y4]) = H7 at J2 ⊢
    have mp7 := mp.same (J2.sm.trans off2_all)
    obtain ⟨pt, hpt, apt⟩ := mp7.at h04 (show r4 < ((3 : Nat) : Int) from h14)
    refine ⟨lp, _, r4, .ref pt.1, rfl, rfl, mp7.1, apt, ?_⟩
    refine ⟨_, rfl, _, rfl, p, 1 + r1, rfl, J2.pl, hm0, hm2, fun x6 y6 r6 hx6 hy6 hz6 h06 h16 => ?_⟩
    have J3 := J2.take hx6 hy6 hz6
    generalize upd H7 p (.lst [.int x6, .int y6]) = H8 at J3 ⊢
    refine ⟨sz3, fun t nt => ?_⟩
    have mp8 := mp.same J3.sm
    obtain ⟨a1, a2, ea, ba⟩ := (mp8.2 pt hpt).2
    have hpt8 : SqT K (off2 p dE H8) pt.1 ([a1, a2].map V.int) := by rw [← ea]; exact (mp8.2 pt hpt).1
    have sN : Same (off2 p dE H8) (off2 p dE (upd H8 t (.tup [.int r3, .ref pt.1, .int r6]))) := off2_mono (same_new nt)
    have J4 := J3.new (o := .tup [.int r3, .ref pt.1, .int r6]) nt
    have tp : t ≠ p := pool_ne J3.pl nt
    have td : t ≠ dE := fun e => by
      obtain ⟨L, h1, _⟩ := J3.has
      rw [e, h1] at nt
      cases nt
    have ht : Dp K (off2 p dE (upd H8 t (.tup [.int r3, .ref pt.1, .int r6]))) (.ref t) (kEdge r3 a1 a2 r6).data := by
      rw [kEdge_data]
      exact .tup (SqT.of (by rw [off2_ne tp td]; exact upd_same)) (.cons (.int _) (.cons (dp_nums (is := [a1, a2]) (same_tup sN hpt8)) (.cons (.int _) .nil)))
    refine J4.put (by omega) ht (kEdge_fig _ _ _ _) (kEdge_dep _ _ _ _) ⟨r3, a1, a2, r6, rfl, ?_⟩ (fun H9 J5 => ⟨_, rfl, J5⟩)
    intro z hz
    rcases List.mem_cons.mp hz with rfl | hz
    · omega
    rcases List.mem_cons.mp hz with rfl | hz
    · exact ba _ (by simp)
    rcases List.mem_cons.mp hz with rfl | hz
    · exact ba _ (by simp)
    rw [List.mem_singleton.mp hz]
    omega
  obtain ⟨y5, rfl, J⟩ := hP
  have sC : Same (M0.off p H) (M0.off p H5) := sB.trans (J.sm.trans off2_sub)
  obtain ⟨LE, hE, rE, kE, lE⟩ := J.has
  have plJ := J.pl
  have jE : (M0.off p H5) dE = some (dicO P w dE LE) := by rw [off_ne J.ne]; exact hE
  have rE5 : Rows K (M0.off p H5) LE := rows_same rE off2_sub
  have lE2 : LE.length ≤ 10 := by omega
  clear lE hE rE J sB mp I1 I0 nE
  -- begins = {}
  intro dB nB
  have I2 : InvD P w K (M0.off p H5) p dB BRow 0 (upd H5 dB (dicO P w dB [])) := InvD.start plJ nB
  refine ⟨_, rfl, p, 5, rfl, I2.pl, by decide, by decide, fun x7 y7 r7 hx7 hy7 hz7 h07 h17 => ?_⟩
  have I3 := I2.take hx7 hy7 hz7
  refine ⟨r7, rfl, by omega, by omega, ?_⟩
  refine for_range (n := r7.toNat) (fun i σ H6 => ∃ y5, σ = [some (.ref p), some (.ref c), some (.int (1 + r1)), some (.ref lp), some (.ref dE), y5, some (.ref dB), none] ∧ InvD P w K (M0.off p H5) p dB BRow i H6)
    ⟨y5, rfl, I3⟩ (fun i σ H6 hi hP => ?_) (fun σ H6 hP => ?_)
  · obtain ⟨y6, rfl, J⟩ := hP
    have mc6 := mc.same (sC.trans (J.sm.trans off2_all))
    have hl4 : ((cs.map fun x => V.ref x.1).length : Int) = 4 := by rw [List.length_map, lc]; rfl
    refine ⟨_, rfl, _, rfl, _, rfl, _, rfl, c, _, rfl, .inl mc6.1, p, _, rfl, J.pl, by omega, by omega, fun x8 y8 r8 hx8 hy8 hz8 h08 h18 => ?_⟩
    have J1 := J.take hx8 hy8 hz8
    generalize upd H6 p (.lst [.int x8, .int y8]) = H7 at J1 ⊢
    have mc7 := mc.same (sC.trans (J1.sm.trans off2_all))
    obtain ⟨ct, hct, act⟩ := mc7.at h08 (show r8 < (cs.length : Int) by rw [List.length_map] at h18; exact h18)
    refine ⟨c, _, r8, .ref ct.1, rfl, rfl, mc7.1, act, ?_⟩
    refine ⟨_, rfl, _, rfl, p, 1 + r1, rfl, J1.pl, hm0, hm2, fun x9 y9 r9 hx9 hy9 hz9 h09 h19 => ?_⟩
    have J3 := J1.take hx9 hy9 hz9
    generalize upd H7 p (.lst [.int x9, .int y9]) = H8 at J3 ⊢
    refine ⟨sz2, fun t nt => ?_⟩
    have mc8 := mc.same (sC.trans J3.sm)
    have hct8 := mc8.2 ct hct
    have sN : Same (off2 p dB H8) (off2 p dB (upd H8 t (.tup [.ref ct.1, .int r9]))) := off2_mono (same_new nt)
    have J4 := J3.new (o := .tup [.ref ct.1, .int r9]) nt
    have tp : t ≠ p := pool_ne J3.pl nt
    have td : t ≠ dB := fun e => by
      obtain ⟨L, h1, _⟩ := J3.has
      rw [e, h1] at nt
      cases nt
    have ht : Dp K (off2 p dB (upd H8 t (.tup [.ref ct.1, .int r9]))) (.ref t) (kCtl ct.2 r9).data := by
      rw [kCtl_data]
      exact .tup (SqT.of (by rw [off2_ne tp td]; exact upd_same)) (.cons (dp_nums (same_tup sN hct8.1)) (.cons (.int _) .nil))
    exact J4.put (by omega) ht (kCtl_fig _ _) (kCtl_dep _ _) ⟨ct.2, r9, rfl, hct8.2, h09, by omega⟩ (fun H9 J5 => ⟨_, rfl, J5⟩)
  obtain ⟨y6, rfl, J⟩ := hP
  have sD : Same (M0.off p H5) (M0.off p H6) := J.sm.trans off2_sub
  obtain ⟨LB, hB, rB, kB, lB⟩ := J.has
  have plK := J.pl
  have jB : (M0.off p H6) dB = some (dicO P w dB LB) := by rw [off_ne J.ne]; exact hB
  have rB6 : Rows K (M0.off p H6) LB := rows_same rB off2_sub
  have jE6 := sD _ _ jE
  have rE6 := rows_same rE5 sD
  have lB2 : LB.length ≤ 10 := by omega
  have sE := sC.trans sD
  clear lB hB rB J sC sD mc I2 I3 nB jE rE5
  -- ends = {}
  intro dN nN
  have eN : dN ≠ p := pool_ne plK nN
  have pl7 := pool_new (o := .dK []) plK nN
  refine ⟨_, rfl, p, 2, rfl, pl7, by decide, by decide, fun x7 y7 r8 hx8 hy8 hz8 h08 h18 => ⟨1, r8, rfl, rfl, ?_⟩⟩
  refine ⟨1 + r8, rfl, by omega, by omega, ?_⟩
  refine for_range (n := (1 + r8).toNat) (fun i σ H7 => ∃ y5, σ = [some (.ref p), some (.ref c), some (.int (1 + r1)), some (.ref lp), some (.ref dE), y5, some (.ref dB), some (.ref dN)] ∧ Same (M0.off p H6) (off2 p dN H7) ∧ Pool H7 p ∧ ∃ kvs, H7 dN = some (.dK kvs) ∧ EndD kvs i)
    ⟨y6, rfl, ?_, ⟨x7, y7, upd_same, hx8, hy8, hz8⟩, [], ?_, ⟨[], rfl, List.nodup_nil, fun _ z => (nomatch z), Nat.le_refl _⟩⟩ (fun i σ H7 hi hP => ?_) (fun σ H7 hP => ?_)
  · rw [off2_p]
    exact off2_start nN
  · rw [upd_ne eN]
    exact upd_same
  · obtain ⟨y8, rfl, sm, pl8, kvs, hk, ek⟩ := hP
    refine ⟨_, rfl, _, rfl, _, rfl, p, 1 + r1, rfl, pl8, hm0, hm2, fun x9 y9 r9 hx9 hy9 hz9 h09 h19 => ?_⟩
    have hk2 : (upd H7 p (.lst [.int x9, .int y9])) dN = some (.dK kvs) := by rw [upd_ne eN]; exact hk
    have few : kvs.length < sizeLine := by
      obtain ⟨ks, e, _, _, l⟩ := ek.ex
      have z := congrArg List.length e
      rw [List.length_map, List.length_map] at z
      exact LC.small_line (by omega)
    refine ⟨dN, _, rfl, DPut.k (k := Sum.inl r9) hk2 few, ?_⟩
    refine ⟨_, rfl, ?_, ⟨x9, y9, by rw [upd_ne eN.symm]; exact upd_same, hx9, hy9, hz9⟩, _, upd_same, ek.put h09 (by omega)⟩
    rw [off2_d, off2_p]
    exact sm
  obtain ⟨y8, rfl, sm, pl8, kvs, hk, ek⟩ := hP
  obtain ⟨ks, eks, ndk, bk, lk⟩ := ek.ex
  have sF : Same (M0.off p H6) (M0.off p H7) := sm.trans off2_sub
  have sG : Same (M0.off p H) (M0.off p H7) := sE.trans sF
  have jB7 := sF _ _ jB
  have jE7 := sF _ _ jE6
  have rB7 := rows_same rB6 sF
  have rE7 := rows_same rE6 sF
  obtain ⟨fB1, fB3, _, _⟩ := ctl_rows kB
  obtain ⟨fE1, fE3, _⟩ := edge_rows kE
  -- tuple(sorted(begins))
  refine ⟨_, rfl, dB, LB, rfl, off_sub _ _ jB7, rows_same rB7 off_sub, by omega, fB1, fB3, fun q1 MB' nq1 pmB rmB => ⟨q1, _, rfl, .inl ⟨SqL.of upd_same, fun tb ntb => ?_⟩⟩⟩
  have sH1 : Same H7 (upd (upd H7 q1 (.lst (MB'.map fun p => V.ref p.1))) tb (.tup (MB'.map fun p => V.ref p.1))) := (same_new nq1).trans (same_new ntb)
  have hb1 : (upd (upd H7 q1 (.lst (MB'.map fun p => V.ref p.1))) tb (.tup (MB'.map fun p => V.ref p.1))) tb = some (.tup (MB'.map fun p => V.ref p.1)) := upd_same
  generalize upd (upd H7 q1 (.lst (MB'.map fun p => V.ref p.1))) tb (.tup (MB'.map fun p => V.ref p.1)) = H8 at sH1 hb1 ⊢
  refine ⟨_, rfl, dE, LE, rfl, sH1 _ _ (off_sub _ _ jE7), rows_same rE7 (off_sub.trans sH1), by omega, fE1, fE3, fun q2 ME nq2 pmE rmE => ⟨q2, _, rfl, .inl ⟨SqL.of upd_same, fun te nte => ?_⟩⟩⟩
  have sH2 : Same H8 (upd (upd H8 q2 (.lst (ME.map fun p => V.ref p.1))) te (.tup (ME.map fun p => V.ref p.1))) := (same_new nq2).trans (same_new nte)
  have he1 : (upd (upd H8 q2 (.lst (ME.map fun p => V.ref p.1))) te (.tup (ME.map fun p => V.ref p.1))) te = some (.tup (ME.map fun p => V.ref p.1)) := upd_same
  generalize upd (upd H8 q2 (.lst (ME.map fun p => V.ref p.1))) te (.tup (ME.map fun p => V.ref p.1)) = H9 at sH2 he1 ⊢
  refine ⟨_, rfl, dN, kvs, ks, rfl, .inl (sH2 _ _ (sH1 _ _ hk)), eks, by omega, fun ys q3 pmN pwN nq3 => ⟨q3, _, rfl, .inl ⟨SqL.of upd_same, fun tn ntn => ?_⟩⟩⟩
  have sH3 : Same H9 (upd (upd H9 q3 (.lst (ys.map V.int))) tn (.tup (ys.map V.int))) := (same_new nq3).trans (same_new ntn)
  have hn1 : (upd (upd H9 q3 (.lst (ys.map V.int))) tn (.tup (ys.map V.int))) tn = some (.tup (ys.map V.int)) := upd_same
  generalize upd (upd H9 q3 (.lst (ys.map V.int))) tn (.tup (ys.map V.int)) = H10 at sH3 hn1 ⊢
  refine ⟨sz3, fun t nt => ?_⟩
  have sH4 : Same H10 (upd H10 t (.tup [.ref tb, .ref te, .ref tn])) := same_new nt
  have sAll : Same H7 (upd H10 t (.tup [.ref tb, .ref te, .ref tn])) := sH1.trans (sH2.trans (sH3.trans sH4))
  have ht1 : (upd H10 t (.tup [.ref tb, .ref te, .ref tn])) t = some (.tup [.ref tb, .ref te, .ref tn]) := upd_same
  have hb2 := sH4 _ _ (sH3 _ _ (sH2 _ _ hb1))
  have he2 := sH4 _ _ (sH3 _ _ he1)
  have hn2 := sH4 _ _ hn1
  have plE : Pool (upd H10 t (.tup [.ref tb, .ref te, .ref tn])) p := by
    obtain ⟨x, y, h1, h2⟩ := pl8
    exact ⟨x, y, sAll _ _ h1, h2⟩
  generalize upd H10 t (.tup [.ref tb, .ref te, .ref tn]) = H11 at sAll ht1 hb2 he2 hn2 plE ⊢
  have isTup : ∀ {a : Addr} {xs : List V}, H11 a = some (.tup xs) → (M0.off p H11) a = some (.tup xs) := fun {a xs} h => by
    have z : a ≠ p := fun e => by
      obtain ⟨x, y, h1, _⟩ := plE
      rw [e, h1] at h
      cases h
    rw [off_ne z]
    exact h
  have sO : Same (M0.off p H7) (M0.off p H11) := off_mono sAll
  have hMB : ∀ r ∈ MB', r ∈ LB := fun r hr => pmB.mem_iff.mp hr
  have hME : ∀ r ∈ ME, r ∈ LE := fun r hr => pmE.mem_iff.mp hr
  obtain ⟨_, _, gB, gB2⟩ := ctl_rows (L := MB') fun r hr => kB r (hMB r hr)
  obtain ⟨_, _, gE⟩ := edge_rows (L := ME) fun r hr => kE r (hME r hr)
  refine q H11 (.ref t) (MB'.map (fun r => toB r.2), ME.map (fun r => toE r.2), ys) (sG.trans sO) plE ?_ ⟨?_, ?_, ?_, gB2, pmN.nodup_iff.mpr ndk⟩ ?_
  · refine .tup (SqT.of (isTup ht1)) (.cons (.tup (SqT.of (isTup hb2)) ?_) (.cons (.tup (SqT.of (isTup he2)) ?_) (.cons (.tup (SqT.of (isTup hn2)) (dp_ints ys)) .nil)))
    · show DpAll K _ _ ((MB'.map fun r => toB r.2).map beginD)
      rw [← gB]
      exact rows_dp (rows_sub (rows_same rB7 sO) hMB)
    · show DpAll K _ _ ((ME.map fun r => toE r.2).map edgeD)
      rw [← gE]
      exact rows_dp (rows_sub (rows_same rE7 sO) hME)
  · show (MB'.map _).length ≤ 30
    rw [List.length_map, pmB.length_eq]; omega
  · show (ME.map _).length ≤ 30
    rw [List.length_map, pmE.length_eq]; omega
  · show ys.length ≤ 30
    rw [pmN.length_eq]; omega
  · show (ME.map _).length ≤ 10
    rw [List.length_map, pmE.length_eq]; omega
end
end MM

set_option maxHeartbeats 4000000
/-! mathematics of the law's own least pile: level by level -/
namespace MM
open PySem PySem.Spec PyProof.Rows L2 G3 M0 LP
/-! no farther than there are edges -/
def Dist (w : Web) (s : Int) (k : Nat) : Prop := (∃ l e, l.length = k ∧ e ∈ w.2.2 ∧ Path w.2.1 s l e) ∧ ∀ l e, e ∈ w.2.2 → Path w.2.1 s l e → k ≤ l.length
theorem dist_some {w : Web} {s e : Int} {l : List Pn} (he : e ∈ w.2.2) (hp : Path w.2.1 s l e) : ∃ k, Dist w s k := by
  have key : ∀ n : Nat, ∀ l e, l.length ≤ n → e ∈ w.2.2 → Path w.2.1 s l e → ∃ k, Dist w s k := fun n => by
    induction n with
    | zero =>
      intro l e hl he hp
      exact ⟨0, ⟨l, e, by omega, he, hp⟩, fun _ _ _ _ => Nat.zero_le _⟩
    | succ n ih =>
      intro l e hl he hp
      by_cases z : ∃ l' e', l'.length < l.length ∧ e' ∈ w.2.2 ∧ Path w.2.1 s l' e'
      · obtain ⟨l', e', a1, a2, a3⟩ := z
        exact ih l' e' (by omega) a2 a3
      · refine ⟨l.length, ⟨l, e, rfl, he, hp⟩, fun l' e' a2 a3 => ?_⟩
        by_cases y : l.length ≤ l'.length
        · exact y
        · exact absurd ⟨l', e', by omega, a2, a3⟩ z
  exact key l.length l e (Nat.le_refl _) he hp
theorem dist_one {w : Web} {s : Int} {k j : Nat} (h : Dist w s k) (h' : Dist w s j) : k = j := by
  obtain ⟨⟨l, e, a1, a2, a3⟩, a4⟩ := h
  obtain ⟨⟨m, f, b1, b2, b3⟩, b4⟩ := h'
  have := a4 m f b2 b3
  have := b4 l e a2 a3
  omega
theorem dist_edges {w : Web} {s : Int} {k : Nat} (h : Dist w s k) : k ≤ w.2.1.length := by
  have key : ∀ (k : Nat) (s : Int), Dist w s k → ∃ L : List Int, L.Nodup ∧ L.length = k ∧ (∀ x ∈ L, x ∈ w.2.1.map (·.1)) ∧ ∀ x ∈ L, ∃ m, Dist w x m ∧ m ≤ k := fun k => by
    induction k with
    | zero => exact fun s _ => ⟨[], List.nodup_nil, rfl, fun _ z => (nomatch z), fun _ z => nomatch z⟩
    | succ k ih =>
      intro s hs
      obtain ⟨⟨l, e, a1, a2, a3⟩, a4⟩ := hs
      match l, a1, a3 with
      | p :: r, a1, ⟨t, h1, h2⟩ =>
        rw [List.length_cons] at a1
        have ht : Dist w t k := ⟨⟨r, e, by omega, a2, h2⟩, fun m f b2 b3 => by
          have := a4 (p :: m) f b2 ⟨t, h1, b3⟩
          rw [List.length_cons] at this
          omega⟩
        obtain ⟨L, l1, l2, l3, l4⟩ := ih t ht
        have hs : Dist w s (k + 1) := ⟨⟨p :: r, e, by rw [List.length_cons]; omega, a2, t, h1, h2⟩, a4⟩
        refine ⟨s :: L, List.nodup_cons.mpr ⟨fun z => ?_, l1⟩, by rw [List.length_cons, l2], fun x hx => ?_, fun x hx => ?_⟩
        · obtain ⟨m, a, b⟩ := l4 s z
          have := dist_one hs a
          omega
        · rcases List.mem_cons.mp hx with z | z
          · rw [z]; exact List.mem_map.mpr ⟨_, h1, rfl⟩
          · exact l3 x z
        · rcases List.mem_cons.mp hx with z | z
          · rw [z]; exact ⟨_, hs, Nat.le_refl _⟩
          · obtain ⟨m, a, b⟩ := l4 x z
            exact ⟨m, a, by omega⟩
  obtain ⟨L, l1, l2, l3, _⟩ := key k s h
  have := S2.nd_len (U := w.2.1.map (·.1)) l1 l3
  rw [List.length_map, l2] at this
  exact this
theorem acc_short {w : Web} {c : Ct} {l : List Pn} (h : Acc w c l) : ∃ m, Acc w c m ∧ m.length ≤ w.2.1.length := by
  obtain ⟨e, he, s, hs, hp⟩ := h
  obtain ⟨k, hk⟩ := dist_some he hp
  obtain ⟨⟨m, f, b1, b2, b3⟩, _⟩ := id hk
  exact ⟨m, ⟨f, b2, s, hs, b3⟩, by rw [b1]; exact dist_edges hk⟩
/-! the order, once more -/
theorem lLt_as : ∀ {a b : List Pn}, lLt a b = true → lLt b a = false
  | [], [], h => by simp [lLt] at h
  | [], _ :: _, _ => rfl
  | _ :: _, [], h => by simp [lLt] at h
  | a :: r, b :: t, h => by
    unfold lLt at h ⊢
    by_cases e : a = b
    · rw [if_pos e] at h
      rw [if_pos e.symm]
      exact lLt_as h
    · rw [if_neg e] at h
      rw [if_neg fun z => e z.symm]
      exact pLt_as h
def minL (x : List Pn) (xs : List (List Pn)) : List Pn := xs.foldl (fun a y => if lLt y a = true then y else a) x
theorem minL_ok (x : List Pn) (xs : List (List Pn)) : minL x xs ∈ x :: xs ∧ ∀ y ∈ x :: xs, lLt y (minL x xs) = false := by
  unfold minL
  induction xs generalizing x with
  | nil => exact ⟨List.mem_cons_self, fun y hy => by rw [List.mem_singleton.mp hy]; exact lLt_irr x⟩
  | cons z xs ih =>
    rw [List.foldl_cons]
    cases e : lLt z x with
    | true =>
      rw [if_pos rfl]
      obtain ⟨a, b⟩ := ih z
      refine ⟨List.mem_cons_of_mem _ a, fun y hy => ?_⟩
      rcases List.mem_cons.mp hy with r | r
      · rw [r]
        exact lLt_tr (b z List.mem_cons_self) (lLt_as e)
      · exact b y r
    | false =>
      rw [if_neg Bool.false_ne_true]
      obtain ⟨a, b⟩ := ih x
      refine ⟨?_, fun y hy => ?_⟩
      · rcases List.mem_cons.mp a with r | r
        · rw [r]; exact List.mem_cons_self
        · exact List.mem_cons_of_mem _ (List.mem_cons_of_mem _ r)
      · rcases List.mem_cons.mp hy with r | r
        · rw [r]; exact b x List.mem_cons_self
        · rcases List.mem_cons.mp r with q | q
          · rw [q]
            exact lLt_tr (b x List.mem_cons_self) e
          · exact b y (List.mem_cons_of_mem _ q)
theorem pns_alk : ∀ a b : List Pn, PySem.W.alikeAll (a.map pnD) (b.map pnD) = true
  | [], [] => by simp [PySem.W.alikeAll]
  | [], _ :: _ => by simp [PySem.W.alikeAll]
  | _ :: _, [] => by simp [PySem.W.alikeAll]
  | x :: a, y :: b => by
    rw [List.map_cons, List.map_cons, PySem.W.alikeAll, pns_alk a b]
    rfl
theorem pile_alike (a b : List Pn) : PySem.W.alike (pileD a) (pileD b) = true := by
  unfold pileD
  simp only [PySem.W.alike]
  exact pns_alk a b
theorem piles_alike (ls : List (List Pn)) : PySem.W.AlikeAll (ls.map pileD) := ⟨fun x hx y hy => by
  obtain ⟨a, _, rfl⟩ := List.mem_map.mp hx
  obtain ⟨b, _, rfl⟩ := List.mem_map.mp hy
  exact pile_alike a b, fun x hx => by
  obtain ⟨a, _, rfl⟩ := List.mem_map.mp hx
  exact fun z => by cases z⟩
theorem pile_lt {a b : List Pn} (h : a.length = b.length) : PySem.W.dataLt (pileD a) (pileD b) = lLt a b := by
  unfold pileD
  rw [PySem.W.dataLt_tuple]
  induction a generalizing b with
  | nil =>
    cases b with
    | nil => rfl
    | cons y b => simp at h
  | cons x a ih =>
    cases b with
    | nil => simp at h
    | cons y b =>
      rw [List.map_cons, List.map_cons, PySem.W.dataLt_cons rfl, pn_eqv, ih (Nat.succ.inj h), pn_lt]
      show _ = if x = y then lLt a b else pLt x y
      by_cases e : x = y
      · rw [if_pos e, if_pos (decide_eq_true e)]
      · rw [if_neg e, if_neg (by rw [decide_eq_false e]; exact Bool.false_ne_true)]
theorem minD_pile {i : Nat} (x : List Pn) (xs : List (List Pn)) (h : ∀ y ∈ x :: xs, y.length = i) : PySem.W.minD (pileD x) (xs.map pileD) = pileD (minL x xs) := by
  unfold PySem.W.minD minL
  induction xs generalizing x with
  | nil => rfl
  | cons y xs ih =>
    have hx := h x List.mem_cons_self
    have hy := h y (List.mem_cons_of_mem _ List.mem_cons_self)
    rw [List.map_cons, List.foldl_cons, List.foldl_cons, pile_lt (hy.trans hx.symm)]
    cases lLt y x
    · exact ih x fun z hz => by
        rcases List.mem_cons.mp hz with q | q
        · rw [q]; exact hx
        · exact h z (List.mem_cons_of_mem _ (List.mem_cons_of_mem _ q))
    · exact ih y fun z hz => by
        rcases List.mem_cons.mp hz with q | q
        · rw [q]; exact hy
        · exact h z (List.mem_cons_of_mem _ (List.mem_cons_of_mem _ q))
theorem pile_depth (l : List Pn) : (pileD l).depth ≤ 2 := by
  have e : ∀ l : List Pn, PyData.depthAll (l.map pnD) ≤ 1 := fun l => by
    induction l with
    | nil => simp [PyData.depthAll]
    | cons a l ih =>
      rw [List.map_cons]
      simp only [PyData.depthAll]
      have : (pnD a).depth = 1 := by simp [pnD, PyData.depth, PyData.depthAll]
      omega
  unfold pileD
  simp only [PyData.depth]
  have := e l
  omega
/-! levels -/
abbrev Row := List (Int × List Pn)
structure RowOk (w : Web) (c : Ct) (i : Nat) (R : Row) : Prop where
  nd : (R.map (·.1)).Nodup
  at_ : ∀ x ∈ R, x.2.length = i ∧ Reach w.2.1 (Starts w c) x.2 x.1 ∧ ∀ m, m.length = i → Reach w.2.1 (Starts w c) m x.1 → lLt m x.2 = false
  all : ∀ m s, m.length = i → Reach w.2.1 (Starts w c) m s → s ∈ R.map (·.1)
theorem row_start {w : Web} {c : Ct} {ks : List Int} (nd : ks.Nodup) (h : ∀ s, s ∈ ks ↔ (c, s) ∈ w.1) : RowOk w c 0 (ks.map fun s => (s, [])) := by
  refine ⟨by rw [List.map_map]; exact (List.map_congr_left fun _ _ => rfl : List.map _ ks = ks.map id) ▸ (by rw [List.map_id]; exact nd), fun x hx => ?_, fun m s hm hr => ?_⟩
  · obtain ⟨s, hs, rfl⟩ := List.mem_map.mp hx
    refine ⟨rfl, reach_nil.mpr ((h s).mp hs), fun m hm _ => ?_⟩
    rw [List.eq_nil_of_length_eq_zero hm]
    rfl
  · rw [List.eq_nil_of_length_eq_zero hm] at hr
    rw [List.map_map]
    exact List.mem_map.mpr ⟨s, (h s).mpr (reach_nil.mp hr), rfl⟩
structure Thr (R : Row) (es : List Ed) (T : Row) : Prop where
  nd : (T.map (·.1)).Nodup
  at_ : ∀ x ∈ T, (∃ e ∈ es, ∃ r, (e.1, r) ∈ R ∧ e.2.2 = x.1 ∧ x.2 = r ++ [e.2.1]) ∧ ∀ e ∈ es, ∀ r, (e.1, r) ∈ R → e.2.2 = x.1 → lLt (r ++ [e.2.1]) x.2 = false
  all : ∀ e ∈ es, ∀ r, (e.1, r) ∈ R → e.2.2 ∈ T.map (·.1)
def putR (T : Row) (s : Int) (l : List Pn) : Row := if T.any (fun x => decide (x.1 = s)) = true then T.map fun x => if x.1 = s then (s, l) else x else T ++ [(s, l)]
theorem any_key {T : Row} {s : Int} : T.any (fun x => decide (x.1 = s)) = true ↔ s ∈ T.map (·.1) := by
  rw [List.any_eq_true, List.mem_map]
  exact ⟨fun ⟨x, h, e⟩ => ⟨x, h, of_decide_eq_true e⟩, fun ⟨x, h, e⟩ => ⟨x, h, decide_eq_true e⟩⟩
theorem putR_mem {T : Row} {s : Int} {l : List Pn} {x : Int × List Pn} : x ∈ putR T s l ↔ x = (s, l) ∨ (x ∈ T ∧ x.1 ≠ s) := by
  unfold putR
  by_cases h : T.any (fun x => decide (x.1 = s)) = true
  · rw [if_pos h, List.mem_map]
    constructor
    · rintro ⟨y, hy, rfl⟩
      by_cases e : y.1 = s
      · rw [if_pos e]; exact .inl rfl
      · rw [if_neg e]; exact .inr ⟨hy, e⟩
    · rintro (rfl | ⟨h1, h2⟩)
      · obtain ⟨y, hy, e⟩ := List.mem_map.mp (any_key.mp h)
        exact ⟨y, hy, by rw [if_pos e]⟩
      · exact ⟨x, h1, by rw [if_neg h2]⟩
  · rw [if_neg h, List.mem_append, List.mem_singleton]
    constructor
    · rintro (z | z)
      · exact .inr ⟨z, fun e => h (any_key.mpr (List.mem_map.mpr ⟨x, z, e⟩))⟩
      · exact .inl z
    · rintro (z | z)
      · exact .inr z
      · exact .inl z.1
theorem putR_keys {T : Row} {s : Int} {l : List Pn} : (putR T s l).map (·.1) = addK (T.map (·.1)) s := by
  unfold putR addK
  by_cases h : T.any (fun x => decide (x.1 = s)) = true
  · rw [if_pos h, if_pos (any_key.mp h), List.map_map]
    refine List.map_congr_left fun x _ => ?_
    show (if x.1 = s then (s, l) else x).1 = x.1
    by_cases e : x.1 = s
    · rw [if_pos e]; exact e.symm
    · rw [if_neg e]
  · rw [if_neg h, if_neg fun z => h (any_key.mpr z), List.map_append]
    rfl
theorem row_one {R : Row} (nd : (R.map (·.1)).Nodup) {s : Int} {a b : List Pn} (h : (s, a) ∈ R) (k : (s, b) ∈ R) : a = b := by
  induction R with
  | nil => cases h
  | cons x R ih =>
    rw [List.map_cons, List.nodup_cons] at nd
    rcases List.mem_cons.mp h with e1 | e1
    · rcases List.mem_cons.mp k with e2 | e2
      · rw [← e2] at e1
        exact congrArg Prod.snd e1
      · exact absurd (List.mem_map.mpr ⟨_, e2, by rw [← e1]⟩) nd.1
    · rcases List.mem_cons.mp k with e2 | e2
      · exact absurd (List.mem_map.mpr ⟨_, e1, by rw [← e2]⟩) nd.1
      · exact ih nd.2 e1 e2
theorem thr_skip {R T : Row} {es : List Ed} {e : Ed} (h : Thr R es T) (n : e.1 ∉ R.map (·.1)) : Thr R (es ++ [e]) T := by
  have no : ∀ r, (e.1, r) ∉ R := fun r z => n (List.mem_map.mpr ⟨_, z, rfl⟩)
  refine ⟨h.nd, fun x hx => ?_, fun e' he' r hr => ?_⟩
  · obtain ⟨⟨e1, a1, a2⟩, a3⟩ := h.at_ x hx
    refine ⟨⟨e1, List.mem_append_left _ a1, a2⟩, fun e' he' r hr eq => ?_⟩
    rcases List.mem_append.mp he' with z | z
    · exact a3 e' z r hr eq
    · rw [List.mem_singleton.mp z] at hr
      exact absurd hr (no r)
  · rcases List.mem_append.mp he' with z | z
    · exact h.all e' z r hr
    · rw [List.mem_singleton.mp z] at hr
      exact absurd hr (no r)
theorem thr_put {R T : Row} {es : List Ed} {e : Ed} {r l : List Pn} (nd : (R.map (·.1)).Nodup) (h : Thr R es T) (hr : (e.1, r) ∈ R) (hl : (l = r ++ [e.2.1] ∧ ((e.2.2 ∉ T.map (·.1)) ∨ ∃ o, (e.2.2, o) ∈ T ∧ lLt o (r ++ [e.2.1]) = false)) ∨ ((e.2.2, l) ∈ T ∧ lLt (r ++ [e.2.1]) l = false)) : Thr R (es ++ [e]) (putR T e.2.2 l) := by
  have same : ∀ {e' : Ed}, e' ∈ [e] → ∀ r', (e'.1, r') ∈ R → e' = e ∧ r' = r := fun {e'} z r' hr' => by
    have := List.mem_singleton.mp z
    subst this
    exact ⟨rfl, row_one nd hr' hr⟩
  refine ⟨by rw [putR_keys]; exact addK_nd h.nd, fun x hx => ?_, fun e' he' r' hr' => ?_⟩
  · rcases putR_mem.mp hx with rfl | ⟨h1, h2⟩
    · refine ⟨?_, fun e' he' r' hr' eq => ?_⟩
      · rcases hl with ⟨rfl, _⟩ | ⟨z, _⟩
        · exact ⟨e, List.mem_append_right _ (List.mem_singleton.mpr rfl), r, hr, rfl, rfl⟩
        · obtain ⟨e1, a1, a2⟩ := (h.at_ _ z).1
          exact ⟨e1, List.mem_append_left _ a1, a2⟩
      · rcases List.mem_append.mp he' with z | z
        · rcases hl with ⟨rfl, n | ⟨o, ho, hlt⟩⟩ | ⟨ho, _⟩
          · exact absurd (by rw [← show e'.2.2 = e.2.2 from eq]; exact h.all e' z r' hr') n
          · exact lLt_tr hlt ((h.at_ _ ho).2 e' z r' hr' eq)
          · exact (h.at_ _ ho).2 e' z r' hr' eq
        · obtain ⟨rfl, rfl⟩ := same z r' hr'
          rcases hl with ⟨rfl, _⟩ | ⟨_, hlt⟩
          · exact lLt_irr _
          · exact hlt
    · obtain ⟨⟨e1, a1, a2⟩, a3⟩ := h.at_ x h1
      refine ⟨⟨e1, List.mem_append_left _ a1, a2⟩, fun e' he' r' hr' eq => ?_⟩
      rcases List.mem_append.mp he' with z | z
      · exact a3 e' z r' hr' eq
      · obtain ⟨rfl, rfl⟩ := same z r' hr'
        exact absurd eq.symm h2
  · rw [putR_keys, addK_mem]
    rcases List.mem_append.mp he' with z | z
    · exact .inl (h.all e' z r' hr')
    · rw [List.mem_singleton.mp z]
      exact .inr rfl
theorem row_next {w : Web} {c : Ct} {i : Nat} {R T : Row} (h : RowOk w c i R) (t : Thr R w.2.1 T) : RowOk w c (i + 1) T := by
  have snoc : ∀ m : List Pn, m.length = i + 1 → ∃ a q, m = a ++ [q] ∧ a.length = i := fun m hm => by
    have ne : m ≠ [] := fun z => by rw [z] at hm; simp at hm
    refine ⟨m.dropLast, m.getLast ne, (List.dropLast_concat_getLast ne).symm, by rw [List.length_dropLast]; omega⟩
  refine ⟨t.nd, fun x hx => ?_, fun m s hm hr => ?_⟩
  · obtain ⟨⟨e, he, r, hr, e1, e2⟩, a3⟩ := t.at_ x hx
    obtain ⟨b1, b2, _⟩ := h.at_ _ hr
    refine ⟨by rw [e2, List.length_append]; show r.length + 1 = _; rw [show r.length = i from b1], by rw [e2, reach_snoc]; exact ⟨e.1, b2, by rw [← e1]; exact he⟩, fun m hm hmr => ?_⟩
    obtain ⟨a, q, rfl, al⟩ := snoc m hm
    obtain ⟨t', c1, c2⟩ := reach_snoc.mp hmr
    obtain ⟨y, hy, ey⟩ := List.mem_map.mp (h.all a t' al c1)
    have ey' : y.1 = t' := ey
    obtain ⟨d1, d2, d3⟩ := h.at_ y hy
    have l1 := d3 a al (by rw [ey']; exact c1)
    have l2 := a3 (t', q, x.1) c2 y.2 (by rw [← ey']; exact hy) rfl
    exact lLt_tr l2 (lLt_snoc (d1.trans al.symm) l1 fun _ => pLt_irr q)
  · obtain ⟨a, q, rfl, al⟩ := snoc m hm
    obtain ⟨t', c1, c2⟩ := reach_snoc.mp hr
    obtain ⟨y, hy, ey⟩ := List.mem_map.mp (h.all a t' al c1)
    have ey' : y.1 = t' := ey
    exact t.all (t', q, s) c2 y.2 (by rw [← ey']; exact hy)
/-- what ends at this level -/
def hits (w : Web) (R : Row) : List (List Pn) := (R.filter fun x => decide (x.1 ∈ w.2.2)).map (·.2)
theorem hits_none {w : Web} {c : Ct} {i : Nat} {R : Row} (h : RowOk w c i R) (lo : ∀ m, Acc w c m → i ≤ m.length) (e : hits w R = []) : ∀ m, Acc w c m → i + 1 ≤ m.length := fun m hm => by
  have l := lo m hm
  by_cases z : m.length = i
  · obtain ⟨en, he, hr⟩ := hm
    obtain ⟨y, hy, ey⟩ := List.mem_map.mp (h.all m en z hr)
    have ey' : y.1 = en := ey
    have : y.2 ∈ hits w R := List.mem_map.mpr ⟨y, List.mem_filter.mpr ⟨hy, decide_eq_true (by rw [ey']; exact he)⟩, rfl⟩
    rw [e] at this
    cases this
  · omega
theorem hits_least {w : Web} {c : Ct} {i : Nat} {R : Row} (h : RowOk w c i R) (lo : ∀ m, Acc w c m → i ≤ m.length) {l : List Pn} (hl : l ∈ hits w R) (mn : ∀ y ∈ hits w R, lLt y l = false) : IsLeast w c l := by
  have get : ∀ y ∈ hits w R, ∃ x ∈ R, x.1 ∈ w.2.2 ∧ x.2 = y := fun y hy => by
    obtain ⟨x, hx, e⟩ := List.mem_map.mp hy
    obtain ⟨a1, a2⟩ := List.mem_filter.mp hx
    exact ⟨x, a1, of_decide_eq_true a2, e⟩
  obtain ⟨x, hx, hxe, rfl⟩ := get l hl
  obtain ⟨b1, b2, _⟩ := h.at_ x hx
  refine ⟨⟨x.1, hxe, b2⟩, fun m hm => ?_⟩
  have ll := lo m hm
  by_cases z : m.length = i
  · refine .inr ⟨b1.trans z.symm, ?_⟩
    obtain ⟨en, he, hr⟩ := hm
    obtain ⟨y, hy, ey⟩ := List.mem_map.mp (h.all m en z hr)
    have ey' : y.1 = en := ey
    have hy2 : y.2 ∈ hits w R := List.mem_map.mpr ⟨y, List.mem_filter.mpr ⟨hy, decide_eq_true (by rw [ey']; exact he)⟩, rfl⟩
    obtain ⟨_, _, c3⟩ := h.at_ y hy
    exact lLt_tr (mn y.2 hy2) (c3 m z (by rw [ey']; exact hr))
  · exact .inl (by omega)
theorem hits_len {w : Web} {c : Ct} {i : Nat} {R : Row} (h : RowOk w c i R) : ∀ y ∈ hits w R, y.length = i := fun y hy => by
  obtain ⟨x, hx, rfl⟩ := List.mem_map.mp hy
  exact (h.at_ x (List.mem_filter.mp hx).1).1
end MM

set_option maxHeartbeats 4000000
namespace MM
open PySem PySem.Spec PyProof.Rows L2 G3 M0 LP
/-! rows as dicts -/
def RowD (K : PySem.W.Frag) (G : Hp) (kvs : List (L2.Key × V)) (R : Row) : Prop := kvs.map (·.1) = R.map (fun x => (Sum.inl x.1 : L2.Key)) ∧ DpAll K G (kvs.map (·.2)) (R.map fun x => pileD x.2)
def getR (R : Row) (s : Int) : Option (List Pn) := (R.find? fun x => decide (x.1 = s)).map (·.2)
theorem getR_some {R : Row} {s : Int} {l : List Pn} (h : getR R s = some l) : (s, l) ∈ R := by
  unfold getR at h
  obtain ⟨x, hx, rfl⟩ := Option.map_eq_some_iff.mp h
  have e : x.1 = s := of_decide_eq_true (List.find?_some (p := fun x : Int × List Pn => decide (x.1 = s)) hx)
  rw [← e]
  exact List.mem_of_find?_eq_some hx
theorem getR_none {R : Row} {s : Int} (h : getR R s = none) : s ∉ R.map (·.1) := fun z => by
  unfold getR at h
  rw [Option.map_eq_none_iff, List.find?_eq_none] at h
  obtain ⟨x, hx, e⟩ := List.mem_map.mp z
  exact h x hx (decide_eq_true e)
section
variable {K : PySem.W.Frag} {G G' : Hp} {kvs : List (L2.Key × V)} {R : Row}
theorem RowD.same (h : RowD K G kvs R) (s : Same G G') : RowD K G' kvs R := ⟨h.1, dpAll_same s _ _ h.2⟩
theorem RowD.len (h : RowD K G kvs R) : kvs.length = R.length := by
  have := congrArg List.length h.1
  rwa [List.length_map, List.length_map] at this
theorem rowD_get : ∀ {kvs : List (L2.Key × V)} {R : Row}, RowD K G kvs R → ∀ s : Int, (∃ v l, valV kvs (Sum.inl s) = some v ∧ getR R s = some l ∧ Dp K G v (pileD l)) ∨ (valV kvs (Sum.inl s) = none ∧ getR R s = none)
  | [], [], _, s => .inr ⟨rfl, rfl⟩
  | [], _ :: _, h, s => by have := h.1; simp at this
  | _ :: _, [], h, s => by have := h.1; simp at this
  | kv :: kvs, x :: R, h, s => by
    obtain ⟨h1, h2⟩ := h
    rw [List.map_cons, List.map_cons] at h1 h2
    obtain ⟨e1, e2⟩ := List.cons.inj h1
    cases h2 with
    | cons d1 d2 =>
      have ih := rowD_get (kvs := kvs) (R := R) ⟨e2, d2⟩ s
      unfold valV getR at ih ⊢
      by_cases e : x.1 = s
      · refine .inl ⟨kv.2, x.2, ?_, ?_, d1⟩
        · rw [List.find?_cons_of_pos (by rw [e1, e]; exact decide_eq_true rfl)]; rfl
        · rw [List.find?_cons_of_pos (by exact decide_eq_true e)]; rfl
      · rw [List.find?_cons_of_neg (by rw [e1]; simpa using e), List.find?_cons_of_neg (by simpa using e)]
        exact ih
theorem rowD_put {v : V} {l : List Pn} {s : Int} (h : RowD K G kvs R) (hv : Dp K G v (pileD l)) : RowD K G (putK kvs (Sum.inl s) v) (putR R s l) := by
  have any_eq : ∀ {kvs : List (L2.Key × V)} {R : Row}, kvs.map (·.1) = R.map (fun x => (Sum.inl x.1 : L2.Key)) → (kvs.any fun kv => decide (kv.1 = (Sum.inl s : L2.Key))) = R.any fun x => decide (x.1 = s) := fun {kvs} => by
    induction kvs with
    | nil => intro R h; cases R with
      | nil => rfl
      | cons => simp at h
    | cons kv kvs ih =>
      intro R h
      cases R with
      | nil => simp at h
      | cons x R =>
        rw [List.map_cons, List.map_cons] at h
        obtain ⟨e1, e2⟩ := List.cons.inj h
        rw [List.any_cons, List.any_cons, ih e2, e1]
        by_cases e : x.1 = s
        · rw [decide_eq_true e, decide_eq_true (by rw [e])]
        · rw [decide_eq_false e, decide_eq_false fun z => e (by injection z)]
  unfold putK putR
  rw [any_eq h.1]
  by_cases a : R.any (fun x => decide (x.1 = s)) = true
  · rw [if_pos a, if_pos a]
    clear a any_eq
    have key : ∀ {kvs : List (L2.Key × V)} {R : Row}, RowD K G kvs R → RowD K G (kvs.map fun kv => if kv.1 = Sum.inl s then (kv.1, v) else kv) (R.map fun x => if x.1 = s then (s, l) else x) := fun {kvs} => by
      induction kvs with
      | nil => intro R h; cases R with
        | nil => exact ⟨rfl, .nil⟩
        | cons => have := h.1; simp at this
      | cons kv kvs ih =>
        intro R h
        cases R with
        | nil => have := h.1; simp at this
        | cons x R =>
          obtain ⟨h1, h2⟩ := h
          rw [List.map_cons, List.map_cons] at h1 h2
          obtain ⟨e1, e2⟩ := List.cons.inj h1
          cases h2 with
          | cons d1 d2 =>
            obtain ⟨i1, i2⟩ := ih ⟨e2, d2⟩
            rw [List.map_cons, List.map_cons]
            by_cases e : x.1 = s
            · rw [if_pos (by rw [e1, e]), if_pos e]
              exact ⟨by rw [List.map_cons, List.map_cons, i1]; show kv.1 :: _ = Sum.inl s :: _; rw [e1, e], .cons hv i2⟩
            · rw [if_neg (by rw [e1]; exact fun z => e (by injection z)), if_neg e]
              exact ⟨by rw [List.map_cons, List.map_cons, i1, e1], .cons d1 i2⟩
    exact key h
  · rw [if_neg a, if_neg a]
    refine ⟨by rw [List.map_append, List.map_append, h.1]; rfl, ?_⟩
    rw [List.map_append, List.map_append]
    exact dpAll_app h.2 (.cons hv .nil)
end
def startR (ss : List Int) : Row := ss.foldl (fun T s => putR T s []) []
theorem startR_ok (ss : List Int) : (startR ss).map (·.1) = dk ss ∧ ∀ x ∈ startR ss, x.2 = [] := by
  obtain ⟨r, hr⟩ : ∃ r, r = ss.reverse := ⟨_, rfl⟩
  have e : ss = r.reverse := by rw [hr, List.reverse_reverse]
  subst e
  clear hr
  induction r with
  | nil => exact ⟨rfl, fun _ h => nomatch h⟩
  | cons y r ih =>
    rw [List.reverse_cons, dk_snoc]
    have e : startR (r.reverse ++ [y]) = putR (startR r.reverse) y [] := by unfold startR; rw [List.foldl_append]; rfl
    rw [e]
    refine ⟨by rw [putR_keys, ih.1], fun x hx => ?_⟩
    rcases putR_mem.mp hx with rfl | ⟨h1, _⟩
    · rfl
    · exact ih.2 x h1
theorem row_start2 {w : Web} {c : Ct} {ss : List Int} (h : ∀ s, s ∈ ss ↔ (c, s) ∈ w.1) : RowOk w c 0 (startR ss) := by
  obtain ⟨e1, e2⟩ := startR_ok ss
  obtain ⟨d1, d2⟩ := dk_ok ss
  refine ⟨by rw [e1]; exact d1, fun x hx => ?_, fun m s hm hr => ?_⟩
  · have hs : x.1 ∈ dk ss := by rw [← e1]; exact List.mem_map.mpr ⟨x, hx, rfl⟩
    rw [e2 x hx]
    refine ⟨rfl, reach_nil.mpr ((h _).mp ((d2 _).mp hs)), fun m hm _ => ?_⟩
    rw [List.eq_nil_of_length_eq_zero hm]
    rfl
  · rw [List.eq_nil_of_length_eq_zero hm] at hr
    rw [e1]
    exact (d2 _).mpr ((h s).mpr (reach_nil.mp hr))
theorem piles_shaped (ls : List (List Pn)) : SeqAt.shaped (.list (ls.map pileD)) = true := by
  have a1 : ∀ l : List Pn, PyData.canLayAll0 (l.map pnD) = true := fun l => by
    induction l with
    | nil => simp [PyData.canLayAll0]
    | cons a l ih => simp only [List.map_cons, PyData.canLayAll0, ih, Bool.and_true]; rfl
  have a2 : ∀ ls : List (List Pn), PyData.canLayAll0 (ls.map pileD) = true := fun ls => by
    induction ls with
    | nil => simp [PyData.canLayAll0]
    | cons l ls ih =>
      simp only [List.map_cons, PyData.canLayAll0, ih, Bool.and_true]
      unfold pileD
      simp only [PyData.canLay0, a1]
  have a3 : ∀ ls : List (List Pn), PyData.depthAll (ls.map pileD) ≤ 2 := fun ls => by
    induction ls with
    | nil => simp [PyData.depthAll]
    | cons l ls ih =>
      simp only [List.map_cons, PyData.depthAll]
      have := pile_depth l
      omega
  unfold SeqAt.shaped
  simp only [PyData.canLay0, a2, PyData.depth, Bool.true_and]
  have := a3 ls
  exact decide_eq_true (by omega)
theorem piles_eqv (ls : List (List Pn)) : PyData.eqv (.list (ls.map pileD)) (.list []) = ls.isEmpty := by
  cases ls <;> simp [PyData.eqv, PyData.eqvAll]
theorem rowD_offs {K : PySem.W.Frag} {G : Hp} {kvs : List (L2.Key × V)} {R : Row} {ms : List Addr} (c : Cells ms G) (h : RowD K G kvs R) : RowD K (offs ms G) kvs R := ⟨h.1, dpAll_offs c _ _ (fun d hd => by
  obtain ⟨x, _, rfl⟩ := List.mem_map.mp hd
  exact flat_pile _) h.2⟩
theorem walk_keysAt {d : Addr} {o : Obj} {kvs : List (L2.Key × V)} : Walk (Itk d o kvs) (kvs.map fun kv => kV kv.1).length (fun H => H d = some (.frz o (.dK kvs))) (YAt (kvs.map fun kv => kV kv.1)) :=
  ⟨fun _ _ hi q => ⟨q, by rw [List.length_map] at hi; exact hi⟩, fun _ q => ⟨q, by rw [List.length_map]; exact Nat.le_refl _⟩, fun i H x H' _ _ y => by
    obtain ⟨h, k, v, e, ex⟩ := y
    exact ⟨h, by rw [List.getElem?_map, e, ex]; rfl⟩⟩
theorem valV_at : ∀ {kvs : List (L2.Key × V)} {i : Nat} {k : L2.Key} {v : V}, (kvs.map (·.1)).Nodup → kvs[i]? = some (k, v) → valV kvs k = some v
  | [], _, _, _, _, h => by simp at h
  | kv :: kvs, 0, k, v, _, h => by
    rw [List.getElem?_cons_zero] at h
    cases h
    unfold valV
    rw [List.find?_cons_of_pos (by exact decide_eq_true rfl)]
    rfl
  | kv :: kvs, i + 1, k, v, nd, h => by
    rw [List.getElem?_cons_succ] at h
    rw [List.map_cons, List.nodup_cons] at nd
    have ne : kv.1 ≠ k := fun e => nd.1 (by rw [e]; exact List.mem_map.mpr ⟨_, List.mem_of_getElem? h, rfl⟩)
    have ih := valV_at nd.2 h
    unfold valV at ih ⊢
    rw [List.find?_cons_of_neg (by simpa using ne)]
    exact ih
theorem rowD_nd {K : PySem.W.Frag} {G : Hp} {kvs : List (L2.Key × V)} {R : Row} (h : RowD K G kvs R) (nd : (R.map (·.1)).Nodup) : (kvs.map (·.1)).Nodup := by
  rw [h.1, show (R.map fun x => (Sum.inl x.1 : L2.Key)) = (R.map (·.1)).map (fun s => (Sum.inl s : L2.Key)) by rw [List.map_map]; rfl]
  exact List.pairwise_map.mpr (nd.imp fun {a b} n e => n (by injection e))
def hitsV (w : Web) (kvs : List (L2.Key × V)) (R : Row) : List V := picked (List.zipWith (fun v x => (decide (x.1 ∈ w.2.2), v)) (kvs.map (·.2)) R)
theorem hitsV_dp {K : PySem.W.Frag} {G : Hp} {kvs : List (L2.Key × V)} {R : Row} {w : Web} (h : RowD K G kvs R) : DpAll K G (hitsV w kvs R) ((hits w R).map pileD) := by
  have := picked_zip (g := fun x : Int × List Pn => decide (x.1 ∈ w.2.2)) (e := fun x : Int × List Pn => pileD x.2) h.2
  unfold hits
  rw [List.map_map]
  exact this
theorem catA_pile {K : PySem.W.Frag} {H : Hp} {x u : V} {b : Addr} {r : List Pn} {p : Pn} {Q : VK} (hx : Dp K H x (pileD r)) (hb : SqT K H b [u]) (hu : Dp K H u (pnD p)) (len : r.length ≤ 1000) (q : ∀ H' v, Same H H' → Dp K H' v (pileD (r ++ [p])) → Q v H') : rCatA K x (.ref b) H Q := by
  obtain ⟨ha, xl, rfl, hs, hsd⟩ := dpT hx
  have xll : xl.length = r.length := by rw [dpAll_len hsd, List.length_map]
  refine ⟨ha, b, xl, [u], rfl, rfl, hs, hb, ?_, fun e0 => ?_, fun _ e => (by cases e), fun _ _ q2 nq => ?_⟩
  · have := LC.small_line (n := xl.length + 1) (by omega)
    show xl.length + 1 ≤ _
    omega
  · have : r = [] := List.eq_nil_of_length_eq_zero (by rw [← xll, e0]; rfl)
    refine q _ _ (Same.refl _) ?_
    rw [this]
    exact .tup hb (.cons hu .nil)
  · have sq : Same H (upd H q2 (.tup (xl ++ [u]))) := same_new nq
    refine q _ _ sq (.tup (SqT.of upd_same) ?_)
    rw [List.map_append]
    exact dpAll_app (dpAll_same sq _ _ hsd) (.cons (dp_same sq _ _ hu) .nil)
theorem thr_len {R T : Row} {es : List Ed} (h : Thr R es T) : T.length ≤ es.length := by
  have := S2.nd_len (U := es.map (·.2.2)) h.nd fun s hs => by
    obtain ⟨x, hx, rfl⟩ := List.mem_map.mp hs
    obtain ⟨⟨e, he, r, _, e1, _⟩, _⟩ := h.at_ x hx
    exact List.mem_map.mpr ⟨e, he, e1⟩
  rwa [List.length_map, List.length_map] at this
def spLs (K : PySem.W.Frag) : Sp := fun vs H Q _ => ∃ (m c : V) (wb : Web) (k : Ct), vs = [m, c] ∧ Dp K H m (webD wb) ∧ WebOk wb ∧ wb.2.1.length ≤ 11 ∧ Dp K H c (ctD k) ∧ ((∀ l, ¬ Acc wb k l) → ∀ H', Same H H' → Q .non H') ∧ ∀ l, IsLeast wb k l → ∀ H' v, Same H H' → Dp K H' v (pileD l) → Q v H'
abbrev nLs : List Str := ["_law_web", "_law_mode", "_law_begins", "_law_edges", "_law_ends", "_law_row", "_law_own", "_law_state", "_law_turn", "_law_some", "_law_there", "_law_one", "_law_point", "_law_other", "_law_longer_here"]
theorem scLs : FnScope nLs ["_law_web", "_law_mode"] (defScope s_law_least) := ⟨rfl, rfl, rfl, by decide +kernel, rfl, by decide +kernel, by decide +kernel⟩
section
variable {P : Program} {w : World} {K : PySem.W.Frag} {mg : Str → Option Value} {base : Heap}
set_option maxHeartbeats 32000000 in
theorem ok_ls {f : Addr} {fd : FuncData} {k : Nat} (F : Fun K "_law_least" "_law_least" s_law_least f fd) (m_range : mg "range" = none) (m_min : mg "min" = none) (m_dict : mg "dict" = none) : FnOk P w K mg base CX0 (k + 1) f fd ["_law_web", "_law_mode"] (spLs K) := by
  refine F.ok scLs (fun vs H Q E h => ?_) (fun cdv A outer s H vs Q E hr h => ?_)
  · obtain ⟨m, c, wb, k, rfl, _⟩ := h
    rfl
  obtain ⟨m, c, wb, kc, rfl, hm, ok, e11, hc, q0, q⟩ := h
  have nd := scLs.nd
  have hu := hu_of hr
  refine ⟨_, (pss_cons (ps_asg (pv 0) (pg_tup rfl (pgs_cons (pg_name (i := 2) nd rfl (.inl rfl)) (pgs_cons (pg_name (i := 3) nd rfl (.inl rfl)) (pgs_cons (pg_name (i := 4) nd rfl (.inr rfl)) pgs_nil)))))
    (pss_cons (ps_set (i := 5) nd rfl (.inr rfl) (pe_callTy (T := "dict") (call_dictP rfl) (by rfl) m_dict (by decide +kernel) (pa_cons (pe_lc (own := [("_law_own", 6), ("_law_state", 7)]) (g := (gTup K 2 (gCons (gName 6) (gCons (gName 7) gNil)))) (by rfl) nd (pi_tup (pv 2)) (blkOk_by (N := nLs) (sc := defScope s_law_least) (by decide +kernel)) (fun _ _ _ _ _ => (pg_tup rfl (pgs_cons (pg_name (i := 6) nd rfl (.inl rfl)) (pgs_cons (pg_name (i := 7) nd rfl (.inl rfl)) pgs_nil)))) (fun _ _ _ _ _ => (pts_one  (pt_cmpR (r := rEqD K) (op_eqD hr.units) (pv 6) (pv 1) (nomark _)))) (fun _ _ _ _ _ => (pe_tup (pa_cons (pv 7) (pa_cons (pe_tup pa_nil) pa_nil))))) pa_nil)))
    (pss_cons (ps_for PassesOwn.never rfl (pi_range1 (by rfl) m_range (pa_cons pe_int pa_nil)) (pg_name (i := 8) nd rfl (.inl rfl))
      (pss_cons (ps_lock (ps_setLc (i := 9) (own := [("_law_state", 7)]) (g := (gName 7)) (by rfl) nd rfl rfl (sw_true rfl rfl rfl (by decide +kernel)) (pi_keys (pv 5)) (blkOk_by (N := nLs) (sc := defScope s_law_least) (by decide +kernel)) (fun _ _ _ _ _ => (pg_name (i := 7) nd rfl (.inl rfl))) (fun _ _ _ _ _ => (pts_one  (pt_cmpR (r := rIn K false) op_in_seq (pv 7) (pv 4) (by rfl)))) (fun _ _ _ _ _ => (pe_dget hu (pv 5) (pv 7) (fun _ _ => rfl)))))
    (pss_cons (ps_if (pt_cmpR (op_neD hr.units) (pv 9) (pe_lst pa_nil) (nomark _)) (pss_one (ps_ret (pe_callB (XA.cr_minD rfl hr.units) (by rfl) m_min (by decide +kernel) (pa_cons (pv 9) pa_nil)))) pss_nil)
    (pss_cons (ps_set (i := 10) nd rfl (.inl rfl) pe_dnewK)
    (pss_cons (ps_for PassesOwn.never rfl (pi_tup (pv 3)) (pg_tup rfl (pgs_cons (pg_name (i := 11) nd rfl (.inl rfl)) (pgs_cons (pg_name (i := 12) nd rfl (.inl rfl)) (pgs_cons (pg_name (i := 13) nd rfl (.inl rfl)) pgs_nil))))
      (pss_one (ps_if (pt_cmp (pc_din hu (pv 11) (pv 5))) (pss_cons (ps_set (i := 14) nd rfl (.inl rfl) (pe_op op_catA (pe_dget hu (pv 5) (pv 11) (fun _ _ => rfl)) (pe_tup (pa_cons (pv 12) pa_nil))))
    (pss_one (ps_dput hu (pv 10) (pv 13) (pe_callB (XA.call_min2D rfl hr.units) (by rfl) m_min (by decide +kernel) (pa_cons (pe_dget2 hu (pv 10) (pv 13) (pv 14) ⟨rfl, rfl, rfl, rfl⟩) (pa_cons (pv 14) pa_nil))) rfl))) pss_nil)))
    (pss_one (ps_set (i := 5) nd rfl (.inr rfl) (pv 10))))))))
    (pss_one (ps_ret pe_non))))), ?_⟩
  obtain ⟨a, ba, ca, da, bs, es, rfl, h0, h1, h2, h3, h4, h5⟩ := web_of hm
  have bl : bs.length = wb.1.length := by rw [dpAll_len h2, List.length_map]
  have el : es.length = wb.2.1.length := by rw [dpAll_len h4, List.length_map]
  have nb := ok.b
  have ne := ok.e
  have nn := ok.n
  refine ⟨_, rfl, a, _, rfl, h0, rfl, _, _, rfl, _, _, rfl, _, _, rfl, rfl, ?_⟩
  refine ⟨_, rfl, ba, rfl, ⟨_, h1⟩, fun D nD => ?_⟩
  refine lc_it (walk_tup (a := ba) (xs := bs) (K := K)) (fun i G => Same H G ∧ ∃ ts : List (Addr × Int × V), G D = some (.lst (ts.map fun t => V.ref t.1)) ∧ ts.length ≤ i ∧ ts.map (·.2.1) = ((wb.1.take i).filter fun b => decide (b.1 = kc)).map (·.2) ∧ ∀ t ∈ ts, SqT K (offs [D] G) t.1 [.int t.2.1, t.2.2] ∧ Dp K (offs [D] G) t.2.2 (pileD []))
    ⟨same_new nD, [], upd_same, Nat.le_refl _, by rw [List.take_zero]; rfl, fun _ z => nomatch z⟩ (fun i G _ h => same_tup h.1 h1) (fun i x G G' hi h yy => ?_) (fun G h => ?_)
  · obtain ⟨rfl, hx⟩ := yy
    obtain ⟨sG, ts, hD, tl, tm, tt⟩ := h
    obtain ⟨d, hd, hxd⟩ := dpAll_get h2 hx
    rw [List.getElem?_map] at hd
    obtain ⟨b0, hb0, rfl⟩ := Option.map_eq_some_iff.mp hd
    obtain ⟨t, u0, u1, rfl, ht, e0, e1⟩ := dp2 (show Dp K H x (.tuple [ctD b0.1, .int b0.2]) from hxd)
    cases dp_int e1
    have tk : wb.1.take (i + 1) = wb.1.take i ++ [b0] := by rw [List.take_add_one, hb0]; rfl
    refine ⟨t, _, rfl, same_tup sG ht, rfl, _, _, rfl, _, _, rfl, rfl, rfl, ?_⟩
    refine ⟨_, rfl, _, rfl, _, _, dp_same sG _ _ e0, dp_same sG _ _ hc, ct_shaped, ct_shaped, _, rfl, ?_⟩
    rw [ct_eqv]
    refine ite2 (fun b1 => ?_) (fun b1 => ?_)
    · have b1' := of_decide_eq_true b1
      refine ⟨_, rfl, Nat.zero_le _, fun T1 n1 => ?_⟩
      have s1 : Same G' (upd G' T1 (.tup [])) := same_new n1
      have hT1 : (upd G' T1 (.tup [])) T1 = some (.tup []) := upd_same
      have e1 : T1 ≠ D := fun z => by rw [z, hD] at n1; cases n1
      generalize upd G' T1 (.tup []) = G1 at s1 hT1 ⊢
      refine ⟨lz2, fun T2 n2 => ?_⟩
      have s2 : Same G1 (upd G1 T2 (.tup [.int b0.2, .ref T1])) := same_new n2
      have hT2 : (upd G1 T2 (.tup [.int b0.2, .ref T1])) T2 = some (.tup [.int b0.2, .ref T1]) := upd_same
      have hD1 := s1 _ _ hD
      have e2 : T2 ≠ D := fun z => by rw [z, hD1] at n2; cases n2
      have hT1' := s2 _ _ hT1
      have hD2 := s2 _ _ hD1
      generalize upd G1 T2 (.tup [.int b0.2, .ref T1]) = G2 at s2 hT2 hT1' hD2 ⊢
      have s12 : Same G' G2 := s1.trans s2
      refine ⟨_, hD2, LC.small_line (by rw [List.length_map]; omega), same_put (sG.trans s12) nD, ts ++ [(T2, b0.2, .ref T1)], by rw [upd_same, List.map_append]; rfl, by rw [List.length_append]; simp; omega, ?_, fun t ht => ?_⟩
      · rw [tk, List.filter_append, List.map_append, List.map_append, tm, List.filter_cons_of_pos (by simpa using b1')]
        rfl
      · rw [offs_put (List.mem_singleton.mpr rfl)]
        rcases List.mem_append.mp ht with z | z
        · obtain ⟨a1, a2⟩ := tt t z
          exact ⟨same_tup (offs_mono s12) a1, dp_same (offs_mono s12) _ _ a2⟩
        · rw [List.mem_singleton.mp z]
          exact ⟨SqT.of (by rw [offs_ne (by simpa using e2)]; exact hT2), .tup (SqT.of (by rw [offs_ne (by simpa using e1)]; exact hT1')) .nil⟩
    · have b1' := of_decide_eq_false (Bool.eq_false_iff.mpr b1)
      refine ⟨sG, ts, hD, by omega, ?_, tt⟩
      rw [tk, List.filter_append, List.map_append, tm, List.filter_cons_of_neg (by simpa using b1')]
      simp
  obtain ⟨sG, ts, hD, tl, tm, tt⟩ := h
  rw [List.take_of_length_le (by omega)] at tm
  have hpair : ∀ ts : List (Addr × Int × V), (∀ t ∈ ts, SqT K G t.1 [.int t.2.1, t.2.2]) → Paired (fun p (kv : L2.Key × V) => SqT K G p [kV kv.1, kv.2]) (ts.map (·.1)) (ts.map fun t => ((Sum.inl t.2.1 : L2.Key), t.2.2)) := fun ts => by
    induction ts with
    | nil => exact fun _ => .nil
    | cons t ts ih => exact fun h => .cons (h t List.mem_cons_self) (ih fun x hx => h x (List.mem_cons_of_mem _ hx))
  have hrow : ∀ (ts : List (Addr × Int × V)) (kvs : List (L2.Key × V)) (R : Row), RowD K G kvs R → (∀ t ∈ ts, Dp K G t.2.2 (pileD [])) → RowD K G (mergeK kvs (ts.map fun t => ((Sum.inl t.2.1 : L2.Key), t.2.2))) ((ts.map (·.2.1)).foldl (fun T s => putR T s []) R) := fun ts => by
    induction ts with
    | nil => exact fun _ _ h _ => h
    | cons t ts ih => exact fun kvs R h ht => ih _ _ (rowD_put h (ht t List.mem_cons_self)) fun x hx => ht x (List.mem_cons_of_mem _ hx)
  have row0 := hrow ts [] [] ⟨rfl, .nil⟩ fun t ht => dp_same offs_sub _ _ (tt t ht).2
  rw [tm] at row0
  have rok : RowOk wb kc 0 (startR (statesM wb kc)) := row_start2 fun s => by rw [states_start]; exact Iff.rfl
  have row1 : RowD K G (mergeK [] (ts.map fun t => ((Sum.inl t.2.1 : L2.Key), t.2.2))) (startR (statesM wb kc)) := row0
  have hp1 := hpair ts fun t ht => same_tup offs_sub (tt t ht).1
  refine ⟨D, _, _, rfl, SqL.of (by rw [hD, List.map_map]; rfl), hp1, fun Da nDa => ?_⟩
  generalize mergeK [] (ts.map fun t => ((Sum.inl t.2.1 : L2.Key), t.2.2)) = kvs0 at row1 ⊢
  generalize startR (statesM wb kc) = R0 at row1 rok
  clear hpair hp1 hrow row0 tm tt hD
  have sDa : Same G (upd G Da (.dK kvs0)) := same_new nDa
  refine ⟨12, rfl, by decide, by decide, for_range (n := 12) (fun i σ G => ∃ (Da : Addr) (kvs : List (L2.Key × V)) (R : Row) (y6 y7 y8 y9 y10 y11 y12 y13 y14 : Option V), σ = [some (.ref a), some c, some (.ref ba), some (.ref ca), some (.ref da), some (.ref Da), y6, y7, y8, y9, y10, y11, y12, y13, y14] ∧ Same H G ∧ H Da = none ∧ G Da = some (.dK kvs) ∧ RowD K G kvs R ∧ R.length ≤ 30 ∧ RowOk wb kc i R ∧ ∀ m, Acc wb kc m → i ≤ m.length)
    ⟨Da, kvs0, R0, _, _, _, _, _, _, _, _, _, rfl, sG.trans sDa, same_none sG nDa, upd_same, row1.same sDa, ?_, rok, fun _ _ => Nat.zero_le _⟩ (fun i σ G hi hP => ?_) (fun σ G hP => ?_)⟩
  · have h1 := S2.nd_len (U := wb.1.map (·.2)) rok.nd fun s hs => by
      obtain ⟨x, hx, rfl⟩ := List.mem_map.mp hs
      obtain ⟨b1, b2, _⟩ := rok.at_ x hx
      rw [List.eq_nil_of_length_eq_zero b1, reach_nil] at b2
      exact List.mem_map.mpr ⟨_, b2, rfl⟩
    rw [List.length_map, List.length_map] at h1
    omega
  · obtain ⟨Da, kvs, R, y6, y7, y8, y9, y10, y11, y12, y13, y14, rfl, sG, nDa, hDa, row, rl, rok, lo⟩ := hP
    have cells1 : Cells [Da] G := fun m hm o e => by
      rw [List.mem_singleton.mp hm, hDa] at e
      cases e
      exact notT_dK
    have rowO := rowD_offs cells1 row
    refine ⟨Da, _, hDa, trivial, fun od => ?_⟩
    have s1 : Same (offs [Da] G) (upd G Da (.frz od (.dK kvs))) := by
      have := offs_sub (ms := [Da]) (H := upd G Da (.frz od (.dK kvs)))
      rwa [offs_put (List.mem_singleton.mpr rfl)] at this
    have sH1 : Same H (upd G Da (.frz od (.dK kvs))) := same_put sG nDa
    have hD1 : (upd G Da (.frz od (.dK kvs))) Da = some (.frz od (.dK kvs)) := upd_same
    generalize upd G Da (.frz od (.dK kvs)) = G1 at s1 sH1 hD1 ⊢
    have kl := row.len
    refine ⟨_, rfl, Da, od, rfl, .inl ⟨_, hD1, fun De nDe => ?_⟩⟩
    refine lc_pick (walk_keysAt (kvs := kvs)) (fun G s' => s' _ _ hD1) (by rw [List.length_map]; omega) nDe (List.zipWith (fun v x => (decide (x.1 ∈ wb.2.2), v)) (kvs.map (·.2)) R) (by rw [List.length_zipWith, List.length_map, List.length_map]; omega) (fun j x b y G2 Rr hx hp s2 go => ?_) (fun G2 s2 hDe => ?_)
    · obtain ⟨v, xr, hv, hxr, e⟩ := zip_at hp
      obtain ⟨eb, ey⟩ := Prod.mk.inj e
      subst eb
      subst ey
      rw [List.getElem?_map] at hx hv
      obtain ⟨kv, hkv, rfl⟩ := Option.map_eq_some_iff.mp hx
      rw [hkv] at hv
      cases hv
      have ek : kv.1 = Sum.inl xr.1 := by
        have := congrArg (fun l => l[j]?) row.1
        rw [List.getElem?_map, List.getElem?_map, hkv, hxr] at this
        exact Option.some.inj this
      have hget : valV kvs (Sum.inl xr.1) = some kv.2 := valV_at (i := j) (rowD_nd row rok.nd) (by rw [hkv, ← ek])
      rw [show kV kv.1 = V.int xr.1 by rw [ek]; rfl]
      refine ⟨rfl, _, rfl, _, rfl, da, _, rfl, .inr (same_tup (sH1.trans s2) h5), rfl, flat_ints wb.2.2, _, rfl, ?_⟩
      rw [show (if false = true then !inV (V.int xr.1) (wb.2.2.map V.int) else inV (V.int xr.1) (wb.2.2.map V.int)) = decide (xr.1 ∈ wb.2.2) from inV_ints _ _]
      exact go _ _ (Same.refl _) fun _ Q' hQ => ⟨_, rfl, _, rfl, Da, kv.2, rfl, .inl ⟨kvs, Sum.inl xr.1, .inr ⟨od, s2 _ _ hD1⟩, rfl, hget.symm⟩, hQ _ (Same.refl _)⟩
    have hDe' : G2 De = some (.lst (hitsV wb kvs R)) := hDe
    clear hDe
    refine ⟨s2 _ _ hD1, ?_⟩
    have nEA : De ≠ Da := fun z => by rw [z, hD1] at nDe; cases nDe
    have sO2 : Same (offs [Da] G) (offs [Da] G2) := by
      have h1 := offs_mono (ms := [Da]) s2
      intro x o e
      have n1 : x ∉ [Da] := fun z => by rw [offs_in z] at e; cases e
      exact h1 _ _ (by rw [offs_ne n1]; exact s1 _ _ e)
    have s3 : Same (offs [Da] G) (upd G2 Da (.dK kvs)) := by
      have := offs_sub (ms := [Da]) (H := upd G2 Da (.dK kvs))
      rw [offs_put (List.mem_singleton.mpr rfl)] at this
      exact sO2.trans this
    have sH3 : Same H (upd G2 Da (.dK kvs)) := same_put (sH1.trans s2) nDa
    have hDa3 : (upd G2 Da (.dK kvs)) Da = some (.dK kvs) := upd_same
    have hDe3 : (upd G2 Da (.dK kvs)) De = some (.lst (hitsV wb kvs R)) := by rw [upd_ne nEA]; exact hDe'
    generalize upd G2 Da (.dK kvs) = G3 at s3 sH3 hDa3 hDe3 ⊢
    clear hDe' sO2 nDe s2 hD1 sH1 s1 cells1 hDa sG G1 G2
    have row3 := rowO.same s3
    have hv3 := hitsV_dp (w := wb) row3
    refine ⟨_, rfl, Nat.zero_le _, fun T0 n0 => ?_⟩
    have s4 : Same G3 (upd G3 T0 (.lst [])) := same_new n0
    have hT0 : (upd G3 T0 (.lst [])) T0 = some (.lst []) := upd_same
    generalize upd G3 T0 (.lst []) = G4 at s4 hT0 ⊢
    have hDe4 := s4 _ _ hDe3
    have hDa4 := s4 _ _ hDa3
    have row4 := row3.same s4
    have hv4 := dpAll_same s4 _ _ hv3
    have sH4 := sH3.trans s4
    refine ⟨.list ((hits wb R).map pileD), .list [], .lst (SqL.of hDe4) hv4, .lst (SqL.of hT0) .nil, piles_shaped _, piles_shaped [], _, rfl, ?_⟩
    rw [piles_eqv]
    refine ite2 (fun b1 => ?_) (fun b1 => ?_)
    · cases ez : hits wb R with
      | nil => rw [ez] at b1; simp at b1
      | cons x0 xs =>
        have hl := hits_len rok
        rw [ez] at hl hv4
        have lok := minL_ok x0 xs
        have hv5 := hv4
        rw [List.map_cons] at hv5
        refine ⟨_, rfl, De, hitsV wb kvs R, pileD x0, xs.map pileD, rfl, SqL.of hDe4, hv5, ?_, ?_, fun j u hu hmn => ?_⟩
        · have := piles_alike (x0 :: xs)
          rw [List.map_cons] at this
          exact this
        · intro e he
          obtain ⟨l, _, rfl⟩ := List.mem_map.mp (show e ∈ (x0 :: xs).map pileD from he)
          have := pile_depth l
          omega
        · rw [minD_pile x0 xs hl] at hmn
          obtain ⟨dd, hdd, hud⟩ := dpAll_get hv5 hu
          rw [hmn] at hdd
          cases hdd
          exact q _ (hits_least rok lo (by rw [ez]; exact lok.1) (by rw [ez]; exact lok.2)) _ _ sH4 hud
    have ez : hits wb R = [] := by
      cases z : hits wb R with
      | nil => rfl
      | cons x xs => rw [z] at b1; simp at b1
    have lo2 := hits_none rok lo ez
    intro Dt nDt
    have s5 : Same G4 (upd G4 Dt (.dK [])) := same_new nDt
    have s5o : Same G4 (offs [Dt] (upd G4 Dt (.dK []))) := fun x o e => by
      have n1 : x ≠ Dt := fun z => by rw [z, nDt] at e; cases e
      rw [offs_ne (by simpa using n1), upd_ne n1]
      exact e
    have hDt : (upd G4 Dt (.dK [])) Dt = some (.dK []) := upd_same
    have nAT : Da ≠ Dt := fun z => by rw [← z, hDa4] at nDt; cases nDt
    have nTH := same_none sH4 nDt
    have row5 := row4.same s5o
    have hDa5 := s5 _ _ hDa4
    have sH5 := sH4.trans s5
    generalize upd G4 Dt (.dK []) = G5 at hDt row5 hDa5 sH5 ⊢
    clear s5 s5o row4 hv4 hDe4 hDa4 s4 hT0 hDe3 hDa3 hv3 row3 s3 sH3 sH4 n0 nDt
    refine ⟨_, rfl, ca, rfl, ⟨_, same_tup sH5 h3⟩, for_tup (xs := es) (fun j σ G => ∃ (kvs2 : List (L2.Key × V)) (T : Row) (y6 y7 y11 y12 y13 y14 : Option V), σ = [some (.ref a), some c, some (.ref ba), some (.ref ca), some (.ref da), some (.ref Da), y6, y7, some (.int (0 + (i : Int))), some (.ref De), some (.ref Dt), y11, y12, y13, y14] ∧ Same H G ∧ G Da = some (.dK kvs) ∧ RowD K (offs [Dt] G) kvs R ∧ G Dt = some (.dK kvs2) ∧ RowD K (offs [Dt] G) kvs2 T ∧ Thr R (wb.2.1.take j) T)
      ⟨[], [], _, _, _, _, _, _, rfl, sH5, hDa5, row5, hDt, ⟨rfl, .nil⟩, ⟨List.nodup_nil, fun _ z => (nomatch z), fun e he => by rw [List.take_zero] at he; cases he⟩⟩ (fun j σ G _ hP => ?_) (fun j x σ G hx hP => ?_) (fun σ G hP => ?_)⟩
    · obtain ⟨_, _, _, _, _, _, _, _, _, sG, _⟩ := hP
      exact same_tup sG h3
    · obtain ⟨kvs2, T, y6, y7, y11, y12, y13, y14, rfl, sG, hDaG, rowG, hDtG, rowT, thr⟩ := hP
      obtain ⟨dd, hdd, hxd⟩ := dpAll_get h4 hx
      rw [List.getElem?_map] at hdd
      obtain ⟨e, he, rfl⟩ := Option.map_eq_some_iff.mp hdd
      obtain ⟨t, u0, u1, u2, rfl, ht, e0, e1, e2⟩ := dp3 (show Dp K H x (.tuple [.int e.1, pnD e.2.1, .int e.2.2]) from hxd)
      cases dp_int e0
      cases dp_int e2
      have tk : wb.2.1.take (j + 1) = wb.2.1.take j ++ [e] := by rw [List.take_add_one, he]; rfl
      have jl := (List.getElem?_eq_some_iff.mp hx).1
      refine ⟨t, _, rfl, same_tup sG ht, rfl, _, _, rfl, _, _, rfl, _, _, rfl, rfl, ?_⟩
      refine ⟨_, rfl, _, rfl, Da, valV kvs (Sum.inl e.1), rfl, DGet.k (k := Sum.inl e.1) hDaG, _, rfl, ?_⟩
      rcases rowD_get rowG e.1 with ⟨v, r, hv, hr, hvd⟩ | ⟨hv, hr⟩
      rotate_left
      · rw [hv]
        exact iteF ⟨kvs2, T, _, _, _, _, _, _, rfl, sG, hDaG, rowG, hDtG, rowT, by rw [tk]; exact thr_skip thr (getR_none hr)⟩
      have hrm := getR_some hr
      have hrl := (rok.at_ _ hrm).1
      have hrl' : r.length = i := hrl
      have hget : DGet G Da (.int e.1) (some v) := by
        have := DGet.k (k := Sum.inl e.1) hDaG
        rw [hv] at this
        exact this
      rw [hv]
      refine iteT ?_
      refine ⟨_, rfl, _, rfl, Da, v, rfl, hget, _, rfl, lz1, fun T1 n1 => ?_⟩
      have t1 : Same G (upd G T1 (.tup [u1])) := same_new n1
      refine catA_pile (r := r) (p := e.2.1) (u := u1) (dp_same t1 _ _ (dp_same offs_sub _ _ hvd)) (SqT.of upd_same) (dp_same (sG.trans t1) _ _ e1) (by omega) (fun G2 lv s2 hlv => ?_)
      have tG : Same G G2 := t1.trans s2
      have hDt2 := tG _ _ hDtG
      have hDa2 := tG _ _ hDaG
      have cells2 : Cells [Dt] G2 := fun m hm o e => by
        rw [List.mem_singleton.mp hm, hDt2] at e
        cases e
        exact notT_dK
      have hlvO := dp_offs cells2 _ _ (flat_pile _) hlv
      have row2 := rowG.same (offs_mono tG)
      have rowT2 := rowT.same (offs_mono tG)
      clear s2 t1 n1
      have tl := thr_len thr
      rw [List.length_take] at tl
      have kT := rowT.len
      let kvs2o : List (L2.Key × V) := kvs2
      have put : ∀ (l : List Pn) (z : V), Dp K (offs [Dt] G2) z (pileD l) → ((l = r ++ [e.2.1] ∧ ((e.2.2 ∉ T.map (·.1)) ∨ ∃ o, (e.2.2, o) ∈ T ∧ lLt o (r ++ [e.2.1]) = false)) ∨ ((e.2.2, l) ∈ T ∧ lLt (r ++ [e.2.1]) l = false)) →
          ∃ (kvs2 : List (L2.Key × V)) (T : Row) (y6' y7' y11' y12' y13' y14' : Option V), [some (V.ref a), some c, some (.ref ba), some (.ref ca), some (.ref da), some (.ref Da), y6, y7, some (.int (0 + (i : Int))), some (.ref De), some (.ref Dt), some (.int e.1), some u1, some (.int e.2.2), some lv] = [some (.ref a), some c, some (.ref ba), some (.ref ca), some (.ref da), some (.ref Da), y6', y7', some (.int (0 + (i : Int))), some (.ref De), some (.ref Dt), y11', y12', y13', y14'] ∧ Same H (upd G2 Dt (.dK (putK kvs2o (Sum.inl e.2.2) z))) ∧ (upd G2 Dt (.dK (putK kvs2o (Sum.inl e.2.2) z))) Da = some (.dK kvs) ∧ RowD K (offs [Dt] (upd G2 Dt (.dK (putK kvs2o (Sum.inl e.2.2) z)))) kvs R ∧ (upd G2 Dt (.dK (putK kvs2o (Sum.inl e.2.2) z))) Dt = some (.dK kvs2) ∧ RowD K (offs [Dt] (upd G2 Dt (.dK (putK kvs2o (Sum.inl e.2.2) z)))) kvs2 T ∧ Thr R (wb.2.1.take (j + 1)) T := fun l z hz hl => by
        refine ⟨putK kvs2o (Sum.inl e.2.2) z, putR T e.2.2 l, _, _, _, _, _, _, rfl, same_put (sG.trans tG) nTH, by rw [upd_ne nAT]; exact hDa2, ?_, upd_same, ?_, by rw [tk]; exact thr_put rok.nd thr hrm hl⟩
        · rw [offs_put (List.mem_singleton.mpr rfl)]
          exact row2
        · rw [offs_put (List.mem_singleton.mpr rfl)]
          exact rowD_put rowT2 hz
      refine ⟨_, rfl, Dt, rfl, .inl ⟨_, .inl hDt2⟩, _, rfl, _, rfl, valV kvs2 (Sum.inl e.2.2), DGet.k (k := Sum.inl e.2.2) hDt2, _, rfl, ?_⟩
      have al2 : ∀ a b : List Pn, PySem.W.AlikeAll [pileD a, pileD b] := fun a b => piles_alike [a, b]
      rcases rowD_get rowT2 e.2.2 with ⟨v2, o, hv2, ho, hv2d⟩ | ⟨hv2, ho⟩
      · have hom := getR_some ho
        have hol : o.length = (r ++ [e.2.1]).length := by
          obtain ⟨⟨e', _, r', hr', _, e2'⟩, _⟩ := thr.at_ _ hom
          have := (rok.at_ _ hr').1
          rw [show o = r' ++ [e'.2.1] from e2', List.length_append, List.length_append, show r'.length = i from this, hrl']
          rfl
        rw [hv2]
        have d1 := pile_depth o
        have d2 := pile_depth (r ++ [e.2.1])
        refine ⟨v2, lv, _, _, rfl, dp_same offs_sub _ _ hv2d, hlv, al2 _ _, by omega, by omega, ?_⟩
        rw [pile_lt hol.symm]
        cases elt : lLt (r ++ [e.2.1]) o with
        | true =>
          rw [if_pos rfl]
          exact ⟨_, rfl, _, rfl, Dt, _, rfl, DPut.k (k := Sum.inl e.2.2) hDt2 (LC.small_line (by omega)), put (r ++ [e.2.1]) lv hlvO (.inl ⟨rfl, .inr ⟨o, hom, lLt_as elt⟩⟩)⟩
        | false =>
          rw [if_neg Bool.false_ne_true]
          exact ⟨_, rfl, _, rfl, Dt, _, rfl, DPut.k (k := Sum.inl e.2.2) hDt2 (LC.small_line (by omega)), put o v2 hv2d (.inr ⟨hom, elt⟩)⟩
      · rw [hv2]
        have d2 := pile_depth (r ++ [e.2.1])
        refine ⟨lv, lv, _, _, rfl, hlv, hlv, al2 _ _, by omega, by omega, ?_⟩
        rw [ite_self]
        exact ⟨_, rfl, _, rfl, Dt, _, rfl, DPut.k (k := Sum.inl e.2.2) hDt2 (LC.small_line (by omega)), put (r ++ [e.2.1]) lv hlvO (.inl ⟨rfl, .inl (getR_none ho)⟩)⟩
    · obtain ⟨kvs2, T, y6, y7, y11, y12, y13, y14, rfl, sG, hDaG, rowG, hDtG, rowT, thr⟩ := hP
      rw [List.take_of_length_le (by omega)] at thr
      have := thr_len thr
      exact ⟨_, rfl, Dt, kvs2, T, _, _, _, _, _, _, _, _, _, rfl, sG, nTH, hDtG, rowT.same offs_sub, by omega, row_next rok thr, lo2⟩
  · obtain ⟨Da, kvs, R, y6, y7, y8, y9, y10, y11, y12, y13, y14, rfl, sG, _, _, _, _, _, lo⟩ := hP
    refine q0 (fun l hl => ?_) _ sG
    obtain ⟨m, hm, ml⟩ := acc_short hl
    have := lo m hm
    omega
end
end MM

set_option maxHeartbeats 4000000
/-! what any law about programs needs: dead branches, d.copy(), programs as data -/
namespace PA
open PySem PySem.Spec PyProof.Rows L2 G3 M0
section
variable {X : Cx}
/-- what is never come to -/
theorem ps_dead {st : Stmt} : PS X st (fun _ _ _ => False) := ⟨fun _ _ _ _ _ _ h => h.elim⟩
theorem pe_dead {e : Expr} : PE X e (fun _ _ _ => False) := ⟨fun _ _ _ _ _ _ h => h.elim⟩
/-- d.copy() -/
theorem mt_copy : MtR X "dict.copy" (fun x xs H Q => ∃ a kvs, x = .ref a ∧ xs = [] ∧ H a = some (.dK kvs) ∧ ∀ p, H p = none → Q (.ref p) (upd H p (.dK kvs))) := by
  intro pins s σ H x xs v us Q I rx rs h
  obtain ⟨a, kvs, rfl, rfl, ha, q⟩ := h
  obtain rfl : v = Value.ref a := rx
  cases rs
  obtain ⟨z, hd, vs, rel, dd⟩ := dk_rd I.hok (.inl ha)
  refine call_meetsIn F.slot_dict_copy dd.typeIs F.entry_dict_copy (F.args_dict_copy_1 _) (meets_dict_copy (mixKind X.prog X.w) a hd) ⟨vs, dd, by rw [← rel.length]; exact z, fun h' dn _ keep => ?_⟩
  refine ⟨.ref s.heap.objs.size, _, I.laid (a := s.heap.objs.size) (o := .dK kvs) (t' := s.toks) keep (Nat.le_refl _) (dk_new z (beq_eq_false_iff_ne.mpr (Ne.symm (Nat.ne_of_lt I.big))) rel dn), rfl, q _ (I.hok.fresh (Nat.le_refl _))⟩
end
/-- a def that is never called -/
theorem fn_never {P : Program} {w : World} {K : PySem.W.Frag} {mg : Str → Option Value} {base : Heap} {CX : CXT} {k : Nat} {f : Addr} {fd : FuncData} {ps : List Str} : FnOk P w K mg base CX k f fd ps (fun _ _ _ _ => False) :=
  ⟨fun _ _ _ _ h => h.elim, fun _ _ _ _ _ _ _ _ _ _ _ _ _ h => h.elim⟩
theorem take_fresh {α β : Type} (f : α → β) {l : List α} {i : Nat} {b : α} (nd : (l.map f).Nodup) (h : l[i]? = some b) : ∀ e ∈ l.take i, f e ≠ f b := by
  have hi := (List.getElem?_eq_some_iff.mp h).1
  have e1 : l.map f = (l.take i).map f ++ (l.drop i).map f := by rw [← List.map_append, List.take_append_drop]
  rw [e1, List.nodup_append] at nd
  intro e he
  refine nd.2.2 _ (List.mem_map_of_mem he) _ (List.mem_map_of_mem ?_)
  rw [List.drop_eq_getElem_cons hi, (List.getElem?_eq_some_iff.mp h).2]
  exact List.mem_cons_self
/-! ### programs -/
inductive Src where
  | to (n : Int)
  | of (b : Str)
  | on (n : Int)
  | any
inductive Row where
  | set (b : Str) (s : Src)
  | ift (b : Str) (v r : Int)
  | go (rs : List Int)
  | call (t : Str)
  | back
  | wait (b : Str) (v : Int)
  | begin (h : Str)
  | fault
abbrev Box := Str × Int
abbrev Text := Str × List Row
abbrev Hand := Str × List Box × List Text
abbrev Prog := List Box × List Hand
def Src.data : Src → PyData
  | .to n => .tuple [.str "to", .int n]
  | .of b => .tuple [.str "of", .str b]
  | .on n => .tuple [.str "on", .int n]
  | .any => .tuple [.str "any"]
def Row.data : Row → PyData
  | .set b s => .tuple [.str "set", .str b, s.data]
  | .ift b v r => .tuple [.str "if", .str b, .int v, .int r]
  | .go rs => .tuple [.str "go", .tuple (rs.map .int)]
  | .call t => .tuple [.str "call", .str t]
  | .back => .tuple [.str "back"]
  | .wait b v => .tuple [.str "wait", .str b, .int v]
  | .begin h => .tuple [.str "begin", .str h]
  | .fault => .tuple [.str "fault"]
def boxD (b : Box) : PyData := .tuple [.str b.1, .int b.2]
def boxesD (bs : List Box) : PyData := .tuple (bs.map boxD)
def rowsD (rs : List Row) : PyData := .tuple (rs.map Row.data)
def textD (t : Text) : PyData := .tuple [.str t.1, rowsD t.2]
def handD (h : Hand) : PyData := .tuple [.str h.1, boxesD h.2.1, .tuple (h.2.2.map textD)]
def progD (p : Prog) : PyData := .tuple [boxesD p.1, .tuple (p.2.map handD)]
/-- small letters, one to eight -/
def nameB (z : Str) : Bool := decide (z.length ≤ 8) && (Txt.isascii z && (Txt.isalpha z && Txt.islower z))
def size? (bs : List Box) (b : Str) : Option Int := (bs.find? fun x => decide (x.1 = b)).map (·.2)
def SrcOk (bs : List Box) (b : Str) (size : Int) : Src → Prop
  | .to n => 0 ≤ n ∧ n < size
  | .of o => o ≠ b ∧ ∃ m, size? bs o = some m ∧ m ≤ size
  | .on n => 1 ≤ n ∧ n ≤ 3
  | .any => True
def Rising (a : Int) : List Int → Prop
  | [] => True
  | b :: r => a < b ∧ Rising b r
def RowOk (bs : List Box) (titles others : List Str) (many : Int) : Row → Prop
  | .set b s => ∃ n, size? bs b = some n ∧ SrcOk bs b n s
  | .ift b v r => ∃ n, size? bs b = some n ∧ 0 ≤ v ∧ v < n ∧ 0 ≤ r ∧ r ≤ many
  | .go rs => 1 ≤ rs.length ∧ rs.length ≤ 4 ∧ Rising (-1) rs ∧ ∀ r ∈ rs, r ≤ many
  | .call t => t ∈ titles
  | .back => True
  | .wait b v => ∃ n, size? bs b = some n ∧ 0 ≤ v ∧ v < n
  | .begin h => h ∈ others
  | .fault => True
structure BoxesOk (bs : List Box) (most : Nat) (great : Int) (ahead : List Str) : Prop where
  len : bs.length ≤ most
  nm : ∀ b ∈ bs, nameB b.1 = true ∧ 1 ≤ b.2 ∧ b.2 ≤ great ∧ b.1 ∉ ahead
  nd : (bs.map (·.1)).Nodup
structure TextsOk (bs : List Box) (others : List Str) (ts : List Text) : Prop where
  one : 1 ≤ ts.length
  few : ts.length ≤ 32
  nm : ∀ t ∈ ts, nameB t.1 = true ∧ 1 ≤ t.2.length ∧ t.2.length ≤ 2000
  nd : (ts.map (·.1)).Nodup
  row : ∀ t ∈ ts, ∀ r ∈ t.2, RowOk bs (ts.map (·.1)) others t.2.length r
structure ProgOk (p : Prog) : Prop where
  box : BoxesOk p.1 8 4 []
  one : 1 ≤ p.2.length
  few : p.2.length ≤ 4
  nm : ∀ h ∈ p.2, nameB h.1 = true
  nd : (p.2.map (·.1)).Nodup
  own : ∀ h ∈ p.2, BoxesOk h.2.1 24 8 (p.1.map (·.1))
  txt : ∀ h ∈ p.2, TextsOk (p.1 ++ h.2.1) ((p.2.map (·.1)).filter fun z => decide (z ≠ h.1)) h.2.2
end PA

set_option maxHeartbeats 4000000
/-! tuple * 0, tuple * 1 -/
namespace TM
open PySem PySem.Spec PyProof.Rows L2
theorem mul_one (l : Addr) (its : Array Value) (n : Nat) (dd : Option Addr) (sl : Array (Option Value)) (u : Tok) :
    Meets (Builtin.«tuple.__mul__» ⟨[.ref l, .int 1 u], []⟩) (fun _ R s => s.heap.get? l = some { cls := .type "tuple", dict := dd, data := .seq its n, slots := sl } ∧ R (.ok (.ret (Value.ref l))) s) :=
  .of_wp fun prog w A R s h => by
    obtain ⟨hp, g, d, tk, os⟩ := s
    obtain ⟨hl, h⟩ := h
    have f1 := AutoSeq1.idx_int
    wp_walk using wpAny_loadPart' hl
    exact ⟨_, rfl, h⟩
theorem mul_nought (l : Addr) (its : Array Value) (n : Nat) (dd : Option Addr) (sl : Array (Option Value)) (u : Tok) (c1 : (its.isEmpty || (0 : Int) == 1) = false) :
    Meets (Builtin.«tuple.__mul__» ⟨[.ref l, .int 0 u], []⟩) (fun _ R s => s.heap.get? l = some { cls := .type "tuple", dict := dd, data := .seq its n, slots := sl } ∧
      R (.ok (.ret (Value.ref s.heap.objs.size))) { s with heap := s.heap.push { cls := Value.type "tuple", data := Data.seq #[] }, toks := s.toks }) :=
  .of_wp fun prog w A R s h => by
    obtain ⟨hp, g, d, tk, os⟩ := s
    obtain ⟨hl, h⟩ := h
    have f1 := AutoSeq1.idx_int
    wp_walk using wpAny_loadPart' hl
    repeat (first
      | (refine wpAny_ite_false (decide_eq_false (by rw [c1]; exact Bool.false_ne_true)) ?_; wp_walk using wpAny_loadPart' hl))
    exact ⟨_, rfl, h⟩
def rRep01 (K : PySem.W.Frag) : R2 := fun x y H Q => ∃ l k xs, x = .ref l ∧ y = .int k ∧ SqT K H l xs ∧ xs ≠ [] ∧ ((k = 1 ∧ Q (.ref l) H) ∨ (k = 0 ∧ ∀ p, H p = none → Q (.ref p) (upd H p (.tup []))))
section
variable {X : Cx}
theorem op_rep01 : OpR X (binaryOp .Mult) (rRep01 X.K) := by
  intro pins s σ H x y v u Q I rx ry h
  obtain ⟨l, k, xs, rfl, rfl, hT, hne, h⟩ := h
  cases rx
  obtain ⟨t, rfl⟩ := ry
  obtain ⟨its, r, ⟨⟨cls, dd, data, sl⟩, ho, hc, n, hd⟩, hs⟩ := I.tuple hT
  simp only at hc hd
  subst hc hd
  have hle : its.length = xs.length := r.length.symm
  have hi : its.toArray.isEmpty = false := by
    cases its with
    | nil => exact absurd (List.eq_nil_of_length_eq_zero hle.symm) hne
    | cons a b => rfl
  refine wpAny_binaryOp_repeat_ref (T := "tuple") (U := "int") (by decide) ⟨_, ho, rfl⟩ (fun s' => typeIs_int s' k t) noFill_tuple_mul F.fills_int_mul F.slot_int_rmul repeat_tuple F.slot_int_index.lookup
    (call_meets F.slot_int_rmul (typeIs_int s k t) F.entry_int_rmul (F.args_int_rmul_2 _ _) (int_rmul_tuple k t l its.toArray n dd sl) ⟨ho, rfl, ⟨_, ho, rfl⟩, ?_⟩)
  rcases h with ⟨rfl, q⟩ | ⟨rfl, q⟩
  · exact call_meets F.slot_tuple_mul ⟨_, ho, rfl⟩ F.entry_tuple_mul (F.args_tuple_mul_2 _ _) (mul_one l its.toArray n dd sl t) ⟨ho, .ref l, H, I, rfl, q⟩
  · refine call_meets F.slot_tuple_mul ⟨_, ho, rfl⟩ F.entry_tuple_mul (F.args_tuple_mul_2 _ _) (mul_nought l its.toArray n dd sl t (by rw [hi]; rfl)) ⟨ho, ?_⟩
    exact ⟨.ref s.heap.objs.size, _, I.laid (t' := s.toks) (o := .tup []) (fun b ob q => Heap.get?_push_of_some _ q) (Nat.le_refl _) ⟨Nat.zero_le _, [], .nil, IsTup.new _ _⟩, rfl, q _ (I.hok.fresh (Nat.le_refl _))⟩
end
end TM

set_option maxHeartbeats 4000000
namespace E1
open PySem PySem.W Builtin Builtin.ObjectAttr
section
variable {prog : Program} {w : World} {A : Around} {R : Result → Shared → Prop} {hp : Heap} {g : Array GenState} {d : Drawn} {t : Nat} {os : OsState}
/-- the first field of an own error's object -/
theorem field_first {B : String} {bmB : List Value} {K : Frag} {name : Str} {tk : Tok} {v : Value} {x C : Addr} {fv : Array Value} {cd : ClassData} (SF : StoreFacts B bmB "object.__setattr__" "object")
    (X : K.In hp) (at0 : hp.get? x = some { cls := .ref C, data := .fields fv }) (cl : clsIn K C = some cd) (has : cd.hasDict = true) (ov : excOver K C bmB = true) (tak : takerIn K C name = some none)
    (go : ∀ h' tk' dx, (∀ b o, b ≠ x → hp.get? b = some o → h'.get? b = some o) → hp.objs.size ≤ dx → dx ≠ x → h'.get? x = some { cls := .ref C, dict := some dx, data := .fields fv } →
      h'.Ns1 dx (fun y => if y = name then some v else none) → R (.ok (.ret .none)) ⟨h', g, d, tk', os⟩) :
    codeAny (model prog w) A (.call (.builtin "object.__setattr__") ⟨[.ref x, .str name tk, v], []⟩) R ⟨hp, g, d, t, os⟩ := by
  have I : InstAt hp x { cls := .ref C, data := .fields fv } C none := ⟨at0, rfl, rfl, trivial⟩
  have xs : x ≠ hp.objs.size := Nat.ne_of_lt (Heap.lt_size at0)
  have data : Looks (model prog w) hp (classData C) cd := looks_clsIn X cl
  refine osa_openX (s := ⟨hp, g, d, t, os⟩) SF X I ov tak fun b => ?_
  show wpAny _ _ (storeInOwnDict (.ref x) (.ref C) (.str name tk) name v b) _ _ _
  obtain ⟨nm, bs, mro, ns, qn, hd, sn, sb, ab, col, del⟩ := cd
  dsimp only at has
  subst has
  unfold storeInOwnDict ownDictForStores
  repeat (first | with_reducible refine HandSPX.store_in_new ?_ ?_ | with_reducible refine wpAny_loadPart_at at0 ?_ | with_reducible refine data.at ?_ | wp_step)
  · exact ⟨_, #[], _, (Heap.get?_update_ne _ _ _ _ xs.symm).trans (Heap.get?_push_at rfl rfl), rfl, fun e he => absurd he (by simp), fun _ => rfl⟩
  · intro h' tk' isNs but
    have at1 : (hp.push { cls := .type "dict", data := .dict #[] }).get? x = some { cls := .ref C, data := .fields fv } := Heap.get?_push_of_some _ at0
    refine go h' tk' hp.objs.size (fun b o nb ob => ?_) (Nat.le_refl _) xs.symm ?_ isNs
    · exact (but.2 b (Nat.ne_of_lt (Heap.lt_size ob))).trans ((Heap.get?_update_ne _ _ _ _ nb).trans (Heap.get?_push_of_some _ ob))
    · exact (but.2 x xs).trans (Heap.get?_update_self _ at1 rfl)
/-- a further one -/
theorem field_more {B : String} {bmB : List Value} {K : Frag} {name : Str} {tk : Tok} {v : Value} {x C dx : Addr} {fv : Array Value} {cd : ClassData} {m0 : Str → Option Value} {nl : List Str} (SF : StoreFacts B bmB "object.__setattr__" "object")
    (X : K.In hp) (at0 : hp.get? x = some { cls := .ref C, dict := some dx, data := .fields fv }) (nsD : hp.Ns1 dx m0) (wi : Within m0 nl) (few : nl.length ≤ 1000) (cl : clsIn K C = some cd) (has : cd.hasDict = true) (ov : excOver K C bmB = true) (tak : takerIn K C name = some none)
    (go : ∀ h' tk', (∀ b o, b ≠ dx → hp.get? b = some o → h'.get? b = some o) → h'.Ns1 dx (fun y => if y = name then some v else m0 y) → R (.ok (.ret .none)) ⟨h', g, d, tk', os⟩) :
    codeAny (model prog w) A (.call (.builtin "object.__setattr__") ⟨[.ref x, .str name tk, v], []⟩) R ⟨hp, g, d, t, os⟩ := by
  obtain ⟨oD, esD, epD, hoD, hdD, _⟩ := nsD.count wi
  have I : InstAt hp x { cls := .ref C, dict := some dx, data := .fields fv } C (some oD) := ⟨at0, rfl, rfl, hoD⟩
  have data : Looks (model prog w) hp (classData C) cd := looks_clsIn X cl
  refine osa_openX (s := ⟨hp, g, d, t, os⟩) SF X I ov tak fun b => ?_
  show wpAny _ _ (storeInOwnDict (.ref x) (.ref C) (.str name tk) name v b) _ _ _
  obtain ⟨nm, bs, mro, ns, qn, hd, sn, sb, ab, col, del⟩ := cd
  dsimp only at has
  subst has
  unfold storeInOwnDict ownDictForStores
  repeat (first | with_reducible refine OEX.store_in_old nsD wi few ?_ | with_reducible refine wpAny_loadPart_at at0 ?_ | with_reducible refine data.at ?_ | wp_step)
  intro h' tk' isNs but
  exact go h' tk' (fun b o nb ob => (but.2 b nb).trans ob) isNs
end
end E1

set_option maxHeartbeats 4000000
namespace E2
open PySem PySem.Spec PyProof.Rows L2
/-- what is needed of a built-in __init__ -/
structure InitF (cls initId : String) : Prop where
  kind : builtinKind initId = some .slot
  row : Manifest.signature? initId = some ⟨.positional, "*", cls, .self, [⟨"args", .varPos, false⟩]⟩
  star : (cls != "*") = true
  plain : plainId initId = true
  entry : entryFor table initId = some Builtin.«BaseException.__init__»
theorem InitF.of {cls newId initId : String} (F : ExcCallFacts cls newId initId) : InitF cls initId := ⟨F.initKind, F.initRow, F.noStar, F.init.plain, F.initEntry⟩
/-- the built-in class that own error classes stand under: B gives __new__, Bs is the class itself, bmB its order -/
structure Under (B newId initId Bs : String) (bmB : List Value) : Prop where
  eb : ∃ i bmE, ExcBaseFacts B newId i bmE
  inf : InitF Bs initId
  kx : PySem.W.KxsFacts Bs initId
  sf : StoreFacts Bs bmB "object.__setattr__" "object"
  hasB : bmB.contains (.type B) = true
  noA : bmB.contains (.type "AttributeError") = false
  noN : bmB.contains (.type "NameError") = false
/-- what the written part says of an own error class at C, its __init__ at fI -/
structure ExC (K : PySem.W.Frag) (C fI : Addr) (B newId initId Bs : String) (bmB : List Value) : Prop where
  un : Under B newId initId Bs bmB
  made : PySem.W.excInitIn K C bmB newId = true
  ov : PySem.W.excOver K C bmB = true
  cls : ∃ cd, PySem.W.clsIn K C = some cd ∧ cd.hasDict = true
  sa : PySem.W.findIn K (.ref C) "__setattr__" = some (some (.builtin "object.__setattr__"))
  ini : PySem.W.findIn K (.ref C) "__init__" = some (some (.ref fI))
  isF : PySem.W.isFn K (.ref fI) = true
  sup : PySem.W.ks_superIn K C C "__init__" = some (some (.builtin initId))
  sub : PySem.W.subIn K (.ref C) (.type Bs) = some true
  self : PySem.W.subIn K (.ref C) (.ref C) = some true
  op : PySem.W.nsIn K cStatics "thirdparty.any" = some none
  exC : PySem.W.subIn K (.ref C) (.type "BaseException") = some true
  tyC : PySem.W.typeIn K (.ref C) = some (.type "type")
  kC : PySem.W.keepIn K (.ref C) = true
section
variable {X : Cx} {pins : List (Addr × Obj)} {σ : L2.St} {H : Hp} {s : Shared} {a C dx : Addr} {f : Str} {y : V} {u : Value} {fs : List (Str × V)} {Q : Unit → Shared → Prop} {E : Value → Shared → Prop} {A : Around} {fI : Addr} {B newId initId Bs : String} {bmB : List Value}
theorem ext_ne {φ : Heap → Prop} {o : HO} (h : ∀ ψ, o ≠ .ext ψ) : HO.ext φ ≠ o := fun z => h φ z.symm
/-- the object gets its dict -/
theorem inv_first {hp h' : Heap} {g : Array GenState} {dr : Drawn} {t tk' : Nat} {os : OsState} {t1 : Addr} {mA : Str → Option Value} (I : Inv X pins σ H ⟨hp, g, dr, t, os⟩) (e : H a = some (exo a C none))
    (k : ∀ b o, b ≠ a → hp.get? b = some o → h'.get? b = some o) (dn : hp.objs.size ≤ dx) (dne : dx ≠ a) (hx : h'.get? a = some ({ cls := .ref C, dict := some dx, data := .fields #[.ref t1, .none, .none, .none, .bool false, .none] } : Obj))
    (hn : h'.Ns1 dx mA) (rel : ∀ f, RelO (fs.lookup f) (mA f)) : H dx = none ∧ Inv X pins σ (upd (upd H dx (exd dx fs)) a (exo a C (some dx))) ⟨h', g, dr, tk', os⟩ := by
  have new : H dx = none := I.hok.fresh dn
  have offD : ∀ {b : Addr} {o : Obj}, hp.get? b = some o → b ≠ dx := fun {b o} q => Nat.ne_of_lt (Nat.lt_of_lt_of_le (Heap.lt_size q) dn)
  have offA : ∀ {b : Addr}, H b = none → b ≠ a := fun {b} n z => by
    rw [z, e] at n
    cases n
  have keepU : ∀ {b : Addr} {o : HO}, H b = some o → (∀ ψ, o ≠ .ext ψ) → upd (upd H dx (exd dx fs)) a (exo a C (some dx)) b = some o := fun {b o} q ne => by
    have ba : b ≠ a := at_ne e q (ext_ne ne)
    rw [upd_ne ba, upd_ne (ne_of_none q new)]
    exact q
  have U : Un X.fs [] H (upd (upd H dx (exd dx fs)) a (exo a C (some dx))) hp h' :=
    { keep := fun b o q n _ _ => k b o (offA n) q
      slot := fun b o q n _ _ => ⟨o.slots, k b o (offA n) q⟩
      free := fun b o q n _ => by
        rw [upd_ne (offA n), upd_ne (offD q)]
        exact n
      there := fun b o q _ => by
        by_cases ba : b = a
        · rw [ba]
          exact ⟨_, hx⟩
        · exact ⟨o, k b o ba q⟩
      tups := fun b xs q => keepU q fun ψ z => by cases z
      frzs := fun b o v q => keepU q fun ψ z => by cases z
      tbls := fun b ps q => ⟨#[], by rw [keepU q fun ψ z => by cases z]; simp⟩ }
  refine ⟨new, I.un (t' := tk') U fun b o q => ?_⟩
  by_cases ba : b = a
  · subst ba
    rw [upd_same] at q
    cases q
    exact exo_ok hx
  · rw [upd_ne ba] at q
    by_cases bd : b = dx
    · subst bd
      rw [upd_same] at q
      cases q
      exact exd_ok hn rel
    · rw [upd_ne bd] at q
      refine (I.hok b o q).stay (fun c v hc z => k c v ?_ z) (fun c hc => keepU hc fun ψ z => by cases z) (fun c xs hc => keepU hc fun ψ z => by cases z)
      rcases hc with hc | hc
      · rw [hc]
        exact ba
      · exact at_ne e hc exo_own
/-- self.f = y, the first -/
theorem keep_first (T : ExC X.K C fI B newId initId Bs bmB) (I : Inv X pins σ H s) (e : H a = some (exo a C none)) (tak : PySem.W.takerIn X.K C f = some none) (ry : RelV y u)
    (go : ∀ dx s', H dx = none → dx ≠ a → Inv X pins σ (upd (upd H dx (exd dx [(f, y)])) a (exo a C (some dx))) s' → Q () s') : wpAny (model X.prog X.w) A (setAttr (.ref a) f u) Q E s := by
  obtain ⟨cd, cl, has⟩ := T.cls
  obtain ⟨t1, at0⟩ := exo_at I.hok e
  obtain ⟨hp, g, dr, t, os⟩ := s
  refine PySem.W.set_plain I.kIn (ox := { cls := .ref C, dict := none, data := .fields #[.ref t1, .none, .none, .none, .bool false, .none] }) (od := none) ⟨at0, rfl, rfl, trivial⟩ T.sa ?_
  refine E1.field_first T.un.sf I.kIn at0 cl has T.ov tak fun h' tk' dx k dn dne hx hn => ?_
  have J := inv_first (tk' := tk') (fs := [(f, y)]) I e k dn dne hx hn (relO_put (fs := []) ry fun _ => True.intro)
  exact go dx _ J.1 dne J.2
/-- self.f = y, a further one -/
theorem keep_more (T : ExC X.K C fI B newId initId Bs bmB) (I : Inv X pins σ H s) (e : H a = some (exo a C (some dx))) (ed : H dx = some (exd dx fs)) (few : fs.length ≤ 900) (tak : PySem.W.takerIn X.K C f = some none) (ry : RelV y u)
    (go : ∀ s', Inv X pins σ (upd H dx (exd dx ((f, y) :: fs))) s' → Q () s') : wpAny (model X.prog X.w) A (setAttr (.ref a) f u) Q E s := by
  obtain ⟨cd, cl, has⟩ := T.cls
  obtain ⟨t1, at0⟩ := exo_at I.hok e
  obtain ⟨mA, nsD, rel⟩ := exd_at I.hok ed
  have wi := within_of rel
  obtain ⟨hp, g, dr, t, os⟩ := s
  obtain ⟨oD, _, _, hoD, _, _⟩ := nsD.count wi
  refine PySem.W.set_plain I.kIn (ox := { cls := .ref C, dict := some dx, data := .fields #[.ref t1, .none, .none, .none, .bool false, .none] }) (od := some oD) ⟨at0, rfl, rfl, hoD⟩ T.sa ?_
  refine E1.field_more T.un.sf I.kIn at0 nsD wi (by rw [List.length_map]; omega) cl has T.ov tak fun h' tk' k hn => ?_
  have there : ∃ o, h'.get? dx = some o := by
    obtain ⟨o, _, _, e', _⟩ := hn
    exact ⟨o, e'⟩
  exact go _ (I.write (t' := tk') (x := dx) (e := dx) (o := exd dx ((f, y) :: fs)) (by rw [ed]; exact True.intro) (.inl rfl) k there (exd_ok hn (relO_put ry rel)))
end
/-- self.f = e in an own error's __init__ -/
def tKeep (K : PySem.W.Frag) (f : Str) (to te : TE) : TS := fun D σ H => te σ H fun y H1 => to σ H1 fun x H2 => ∃ (a C fI : Addr) (B newId initId Bs : String) (bmB : List Value), x = .ref a ∧ ExC K C fI B newId initId Bs bmB ∧ PySem.W.takerIn K C f = some none ∧
  ((H2 a = some (exo a C none) ∧ ∀ dx, H2 dx = none → dx ≠ a → D.nx σ (upd (upd H2 dx (exd dx [(f, y)])) a (exo a C (some dx)))) ∨
    ∃ (dx : Addr) (fs : List (Str × V)), H2 a = some (exo a C (some dx)) ∧ H2 dx = some (exd dx fs) ∧ fs.length ≤ 900 ∧ D.nx σ (upd H2 dx (exd dx ((f, y) :: fs))))
theorem ps_keep {X : Cx} {o e : Expr} {to te : TE} {f : Str} {p' pos : Pos} (ho : PE X o to) (he : PE X e te) (hs : swapsWith e (some (.Attribute o f p')) pos.line X.env = pure false := by rfl) : PS X (.Assign [.Attribute o f p'] e pos) (tKeep X.K f to te) := by
  refine ⟨fun pins s σ H D I hyp => plainObj_wpAny_Assign_Attribute (thn (he.run pins s σ H _ I hyp) fun v s1 ⟨y, H1, I1, r1, q1⟩ => thn (ho.run pins s1 σ H1 _ I1 q1) fun u s2 ⟨x, H2, I2, r2, a, C, fI, B, n, i, b2, bm, ex, T, tak, q⟩ => ?_) hs⟩
  subst ex
  obtain rfl : u = Value.ref a := r2
  rcases q with ⟨ea, q⟩ | ⟨dx, fs, ea, ed, few, q⟩
  · exact keep_first T I2 ea tak r1 fun dx s' n ne J => ⟨σ, _, J, q dx n ne⟩
  · exact keep_more T I2 ea ed few tak r1 fun s' J => ⟨σ, _, J, q⟩
end E2

set_option maxHeartbeats 4000000
namespace E3
open PySem PySem.Spec PyProof.Rows L2 E2
/-- a def within a class that says super(): it keeps the class -/
abbrev fnCl (nm ql : Str) (pr : Arguments) (bd : List Stmt) (sc : Scope) (kV doc pm : Value) (an : Option Addr) (cdv ct : Value) (cl : Addr) : FuncData := { PySem.W.fnOf nm ql pr bd sc .none kV doc pm an cdv ct with closure := [("__class__", cl)] }
structure InitFn (P : Program) (K : PySem.W.Frag) (C f : Addr) (ql : Str) (pr : Arguments) (bd : List Stmt) (sc : Scope) (fd : FuncData) : Prop where
  ex : ∃ (oc kV doc pm cdv ct : Value) (od an : Option Addr) (osl : Array (Option Value)) (cl cc : Addr) (ocl occ : Obj) (vs : Array Value) (file : Str) (tf : Tok),
    fd = fnCl "__init__" ql pr bd sc kV doc pm an cdv ct cl ∧ K.lookup f = some ⟨oc, od, .func fd, osl⟩ ∧ PySem.W.codeIn K cdv ql = true ∧ K.lookup cl = some ocl ∧ ocl.data = .cell (some (.ref C)) ∧
    cdv = .ref cc ∧ K.lookup cc = some occ ∧ occ.data = .fields vs ∧ vs[2]? = some (.str file tf) ∧ ((P.main.file : Str) == file) = true
  top : (P.main.scope.names.lookup ("super" : Str)).isSome = false
/-- its names -/
structure InitScope (N ps : List Str) (sc : Scope) : Prop where
  kind : sc.kind = .function
  co : sc.isCoroutine = false
  gen : sc.isGenerator = false
  nd : N.Nodup
  is : N = ps
  par : ∀ x ∈ ps, sc.names.lookup x = some .local
  nocell : ∀ y ∈ sc.names, y.2 ≠ .cell
  only : ∀ y ∈ sc.names, y.2 = .free → y.1 = Str.ofString "__class__"
  cls : sc.names.lookup (Str.ofString "__class__") = some .free
  sup : sc.names.lookup (Str.ofString "super") = some .globalImplicit
def cxI (P : Program) (w : World) (K : PySem.W.Frag) (mg : Str → Option Value) (base : Heap) (N : List Str) (fd : FuncData) (f : Addr) (A : Around) (outer : List Env) (s : Shared) (H : Hp) : Cx where
  prog := P
  w := w
  K := K
  mg := mg
  base := base
  A := A.deeper (callEnv fd s.heap.objs.size f)
  N := N
  s_0 := s
  H_0 := H
  env := callEnv fd s.heap.objs.size f
  outer := outer
  stack := callEnv fd s.heap.objs.size f :: outer
  ex := []
  calm := true
  fn := fun _ => false
  pn := []
  xe := fun _ _ => False
theorem zip_look : ∀ {ps : List Str} {us : List Value} {i : Nat} {x : Str} {u : Value}, ps.Nodup → ps[i]? = some x → us[i]? = some u → (ps.zip us).reverse.lookup x = some u := by
  intro ps us i x u nd hp hu
  have mem : (x, u) ∈ (ps.zip us).reverse := by
    rw [List.mem_reverse]
    refine List.mem_of_getElem? (i := i) ?_
    rw [List.getElem?_zip_eq_some]
    exact ⟨hp, hu⟩
  have uni : ∀ (l : List (Str × Value)), (∀ v, (x, v) ∈ l → v = u) → (x, u) ∈ l → l.lookup x = some u := by
    intro l
    induction l with
    | nil => intro _ h; cases h
    | cons p l ih =>
      intro h m
      obtain ⟨y, v⟩ := p
      by_cases e : x = y
      · subst e
        rw [List.lookup_cons, beq_self_eq_true]
        exact congrArg some (h v List.mem_cons_self)
      · have e2 : (x == y) = false := by simpa using e
        rw [List.lookup_cons, e2]
        refine ih (fun v' hv => h v' (List.mem_cons_of_mem _ hv)) ?_
        rcases List.mem_cons.mp m with q | q
        · exact absurd (Prod.mk.inj q).1 e
        · exact q
  refine uni _ (fun v hv => ?_) mem
  rw [List.mem_reverse] at hv
  obtain ⟨j, hj⟩ := List.getElem?_of_mem hv
  rw [List.getElem?_zip_eq_some] at hj
  have ej : j = i := (List.getElem?_inj (List.getElem?_eq_some_iff.mp hj.1).1 nd).mp (hj.1.trans hp.symm)
  rw [ej, hu] at hj
  exact (Option.some.inj hj.2).symm
section
variable {P : Program} {w : World} {K : PySem.W.Frag} {mg : Str → Option Value} {base : Heap} {C f : Addr} {ql : Str} {pr : Arguments} {bd : List Stmt} {sc : Scope} {N ps : List Str} {A : Around} {outer : List Env} {s : Shared} {H : Hp} {us : List Value} {vs : List V} {kV doc pm cdv ct : Value} {an : Option Addr} {cl : Addr} {h0 : Heap}
theorem start_init {ocl : Obj} (S : InitScope N ps sc) (hd : A.handled = none) (e0 : Env0 P w K mg base A outer s H) (hl : vs.length = ps.length) (r : Vals vs us) (lcl : K.lookup cl = some ocl) (dcl : ocl.data = .cell (some (.ref C)))
    (ns : h0.Ns s.heap.objs.size (fun x => (ps.zip us).reverse.lookup x)) (kp : ∀ b o, s.heap.get? b = some o → h0.get? b = some o) {t : Nat} :
    Inv (cxI P w K mg base N (fnCl "__init__" ql pr bd sc kV doc pm an cdv ct cl) f A outer s H) [] (start N vs) H { s with heap := h0, toks := t } := by
  have hNp := S.is
  subst hNp
  have inB : base.get? cl = some ocl := e0.mod.kin cl ocl lcl
  have inS := e0.bs cl ocl inB
  have oneC : ∀ {x : Str} {c : Addr}, (callEnv (fnCl "__init__" ql pr bd sc kV doc pm an cdv ct cl) s.heap.objs.size f).cells.lookup x = some c → x = "__class__" ∧ c = cl := by
    intro x c h
    have h : ([(Str.ofString "__class__", cl)] : List (Str × Addr)).lookup x = some c := h
    by_cases e : x = "__class__"
    · subst e
      rw [List.lookup_cons, beq_self_eq_true] at h
      exact ⟨rfl, (Option.some.inj h).symm⟩
    · have e2 : (x == (Str.ofString "__class__")) = false := by simpa using e
      rw [List.lookup_cons, e2] at h
      cases h
  refine ⟨⟨e0.mod, S.kind, rfl, rfl, Nat.le_refl _, fun x y c h1 h2 => (oneC h1).1.trans (oneC h2).1.symm, fun x hx => ?_, fun x c h _ => ?_, fun _ => hd, Around.frames_deeper e0.frames, .inr ⟨rfl, rfl⟩, fun b z => G2.not_in_nil z, e0.bs, e0.bsz, fun b _ _ z => G2.not_in_nil z, fun b z => G2.not_in_nil z, e0.funs, e0.frf⟩,
    rfl, e0.bare, Un.kept kp, ⟨_, ns, fun i x v h1 h2 _ => ?_⟩, fun x c h => ?_, e0.hok.fresh (Nat.le_refl _), fun x c h => ?_, fun p z => G2.not_in_nil z, e0.hok.kept kp, ?_⟩
  · have hx : sc.names.lookup x = some .cell ∨ sc.names.lookup x = some .free := hx
    rcases hx with q | q
    · exact absurd rfl (S.nocell _ (PySem.mem_of_lookup q))
    · have e := S.only _ (PySem.mem_of_lookup q) rfl
      dsimp only at e
      subst e
      exact ⟨cl, rfl⟩
  · exact absurd h Bool.false_ne_true
  · have hi : i < vs.length := by
      by_cases q : i < vs.length
      · exact q
      · unfold L2.start at h2
        rw [List.getElem?_append_right (by simpa using q), List.getElem?_replicate] at h2
        split at h2 <;> cases h2
    have hv : vs[i]? = some v := by
      unfold L2.start at h2
      rw [List.getElem?_append_left (by simpa using hi), List.getElem?_map] at h2
      cases e : vs[i]? with
      | none => rw [e] at h2; cases h2
      | some z => rw [e] at h2; cases h2; rfl
    obtain ⟨u, hu, rv⟩ := r.get hv
    exact ⟨u, rv, .inl ⟨S.par x (List.mem_of_getElem? h1), zip_look S.nd h1 hu⟩⟩
  · obtain ⟨_, rfl⟩ := oneC h
    exact ⟨_, ocl, kp _ _ inS.1, dcl⟩
  · obtain ⟨_, rfl⟩ := oneC h
    exact inS.2
  · unfold L2.start
    show _ = N.length
    rw [List.length_append, List.length_map, List.length_replicate]
    omega
end
end E3

set_option maxHeartbeats 4000000
namespace E4
open PySem PySem.Spec PyProof.Rows L2 E2 E3
/-- a built-in __init__ bound to an own error may be called with anything by place -/
theorem bound_init {Mo : Model} {Ar : Around} {X : Value → Shared → Prop} {st : Shared} {top newId initId : String} (F : InitF top initId) {nm qn : Str} {C N x : Addr} {ox : Obj} {bases tail : List Value} {hasD : Bool} {sn : List Str} {subs : List Value} {abs : Bool} {col : Option Bool} {dd : Option Addr}
    {j0 j1 j2 j3 j5 : Option Value} {more : List Value} {R : Unit → Shared → Prop} (atC : st.heap.get? C = some (excClassObj nm qn C N bases tail hasD sn subs abs col dd j0 j1 j2 j3 j5 newId)) (atX : st.heap.get? x = some ox) (of : ox.cls = .ref C) (fin : R () st) :
    wpAny Mo Ar (checkBoundCall initId ⟨.ref x :: more, []⟩) R X st := by
  obtain ⟨hp, gs, dr, tk, os⟩ := st
  have ns := F.star
  have free : ∀ (u v : String) (m : Nat), Bind.check ⟨.positional, "*", top, .self, [⟨"args", .varPos, false⟩]⟩ u v m [] = pure () := fun u v m => check_star_args _ _ _ _ _ _
  simp only [checkBoundCall, F.kind, F.row]
  repeat
    first
    | (with_reducible refine wpAny_loadPart_at atX ?_
       rw [of])
    | with_reducible refine wpAny_loadPart_at atC ?_
    | wp_step
  refine wpAny_onRaise ?_
  simp only [List.map_nil]
  rw [free]
  exact wpAny_pure fin
/-- the built-in __init__, bound to the object, is called -/
theorem call_bound {prog : Program} {w : World} {A : Around} {E : Value → Shared → Prop} {h : Heap} {g : Array GenState} {d : Drawn} {t : Nat} {os : OsState} {K : PySem.W.Frag} {C x u t0 : Addr} {B newId i : String} {bmB : List Value} {rest : List Value} {Q : Value → Shared → Prop}
    (X : K.In h) (FB : InitF B i) (made : PySem.W.excInitIn K C bmB newId = true) (at1 : h.get? x = some ({ cls := .ref C, dict := none, data := .fields #[.ref t0, .none, .none, .none, .bool false, .none] } : Obj)) (atU : h.get? u = some (PySem.W.kxs_mw i x)) (few : rest.length ≤ sizeLine)
    (go : ∀ h' t1, (∀ b o, b ≠ x → h.get? b = some o → h'.get? b = some o) → h'.get? x = some ({ cls := .ref C, dict := none, data := .fields #[.ref t1, .none, .none, .none, .bool false, .none] } : Obj) → Q .none ⟨h', g, d, t, os⟩) :
    wpAny (model prog w) A (call (.ref u) rest) Q E ⟨h, g, d, t, os⟩ := by
  obtain ⟨nm, N', qn, bs, bm, hdct, sn, sub, ab, col, dd, k0, k1, k2, k3, k5, hC, hT⟩ := PySem.W.excInit_of X made
  refine wpAny_call (codeAny_of_tree ?_)
  show wpAny _ A.in1 (callAny (.ref u) ⟨rest, []⟩) _ _ _
  simp only [callAny]
  refine wpAny_bind (wpAny_load atU ?_)
  have isW : (Value.type "method-wrapper" == Value.type "method" || Value.type "method-wrapper" == Value.type "builtin_function_or_method" || Value.type "method-wrapper" == Value.type "method-wrapper") = true := by decide
  simp only [PySem.W.kxs_mw, isW, if_true]
  refine PySem.W.KFB.if_so (by decide) ?_
  refine wpAny_bind (bound_init FB hC at1 rfl ?_)
  refine wpAny_bind (wpAny_pure (wpAny_pure ?_))
  refine ⟨plainId_quiet FB.plain _, codeAny_builtin FB.entry ?_⟩
  exact PySem.W.exc_init_tree (cls := .ref C) (t0 := t0) (dv := none) (c2 := .none) (c3 := .none) (b4 := .bool false) at1 few fun h' k e _ => go h' _ k e
/-- super().__init__('..'), self in the first place -/
abbrev supE (p0 p1 p2 p3 p4 : Pos) (z : Str) (k : Nat) : Expr := .Call (.Attribute (.Call (.Name "super" p0) [] [] p1) "__init__" p2) [.Constant (.str z) k p3] [] p4
section
variable {P : Program} {w : World} {K : PySem.W.Frag} {mg : Str → Option Value} {base : Heap} {C f : Addr} {ql : Str} {pr : Arguments} {bd : List Stmt} {sc : Scope} {ps : List Str} {A : Around} {outer : List Env} {s s1 : Shared} {H : Hp} {σ : L2.St} {cdv : Value}
variable {B newId initId Bs : String} {bmB : List Value} {fI : Addr}
theorem run_super {fd : FuncData} {pl : Sem Bool} {ar : Arg} {a : Addr} {p0 p1 p2 p3 p4 : Pos} {z : Str} {kk : Nat} {Q : Value → Shared → Prop} {E : Value → Shared → Prop} {body : List Stmt} (T : ExC K C f B newId initId Bs bmB) (F : InitFn P K C f ql pr bd sc fd) (S : InitScope ps ps sc)
    (hp : (pr.posonlyargs ++ pr.args).head? = some ar) (p0s : ps[0]? = some ar.arg) (ms : mg "super" = none) (I : Inv (cxI P w K mg base ps fd f A outer s H) [] σ H s1) (sl : σ[0]? = some (some (.ref a))) (ea : H a = some (exo a C none))
    (he : eval (supE p0 p1 p2 p3 p4 z kk) (callEnv fd s.heap.objs.size f) = (do
      let ov ← attributeBase (.Call (.Name "super" p0) [] [] p1) "__init__" (callEnv fd s.heap.objs.size f) (eval (.Call (.Name "super" p0) [] [] p1) (callEnv fd s.heap.objs.size f))
      standAt p2.atName
      let (m, first) ← holding [ov] (getMethod ov "__init__" pl)
      callWith p4 m first (backTo p4 (starEach [.Constant (.str z) kk p3] (callEnv fd s.heap.objs.size f))) []))
    (go : ∀ s2, Inv (cxI P w K mg base ps fd f A outer s H) [] σ H s2 → Q .none s2) :
    PySem.wpAt (model P w) (A.deeper (callEnv fd s.heap.objs.size f)) (.func body (callEnv fd s.heap.objs.size f)) (eval (supE p0 p1 p2 p3 p4 z kk) (callEnv fd s.heap.objs.size f)) Q E s1 := by
  obtain ⟨oc, kV, doc, pm, cdv, ct, od, an, osl, cl, cc, ocl, occ, vs, file, tf, rfl, lf, cod, lcl, dcl, rfl, lcc, dcc, vfile, isf⟩ := F.ex
  have KX := I.kIn
  obtain ⟨cd, hcl, hasD⟩ := T.cls
  have env0 : callEnv (fnCl "__init__" ql pr bd sc kV doc pm an (.ref cc) ct cl) s.heap.objs.size f = (cxI P w K mg base ps (fnCl "__init__" ql pr bd sc kV doc pm an (.ref cc) ct cl) f A outer s H).env := rfl
  obtain ⟨nm, N', qn, bs, bm, hdct, sn, sub, ab, col, dd, k0, k1, k2, k3, k5, hC, hT⟩ := PySem.W.excInit_of KX T.made
  obtain ⟨t0, atA⟩ := exo_at I.hok ea
  obtain ⟨m, hn, hv⟩ := I.loc
  obtain ⟨u, ru, look⟩ := hv 0 ar.arg (.ref a) p0s sl (.inl (S.par _ (List.mem_of_getElem? p0s)))
  obtain rfl : u = Value.ref a := ru
  have mself : m ar.arg = some (.ref a) := by
    rcases look with ⟨_, q⟩ | ⟨q, _⟩
    · exact q
    · have loc : sc.names.lookup ar.arg = some .local := S.par _ (List.mem_of_getElem? p0s)
      have q : sc.names.lookup ar.arg = some .cell ∨ sc.names.lookup ar.arg = some .free := q
      rw [loc] at q
      rcases q with q | q <;> cases q
  obtain ⟨mb, b1, b2⟩ := I.mod.blt
  refine PySem.ks_wpAt_MethodCall (PySem.ks_wpAt_super_base (f := f) (ar := ar) S.sup S.cls (by decide) rfl (KX _ _ lf) rfl hp rfl (KX _ _ lcc) dcc vfile isf F.top ?_) he
  rw [show loadName (callEnv (fnCl "__init__" ql pr bd sc kV doc pm an (.ref cc) ct cl) s.heap.objs.size f) "super" = loadGlobal (callEnv (fnCl "__init__" ql pr bd sc kV doc pm an (.ref cc) ct cl) s.heap.objs.size f) "super" from loadName_read S.kind S.sup]
  refine Calls.loadGlobal_builtin (mg := mg) (mb := mb) (show s1.heap.Ns mainGlobals mg from I.mod.glob.keeps I.bk) ms (show s1.heap.Ns builtinsNs mb from b1.keeps I.bk) ((b2 _ (by decide)).trans (show bootBuiltins "super" = some (.type "super") by decide +kernel)) ⟨rfl, ?_⟩
  refine wpAny_loadName_free S.kind S.cls (c := cl) rfl ⟨ocl, KX _ _ lcl, dcl⟩ ?_
  refine wpAny_loadName_local S.kind (S.par _ (List.mem_of_getElem? p0s)) hn mself ?_
  obtain ⟨hp1, g, dr, t, os⟩ := s1
  refine PySem.ks_wpAny_isType_cls hC rfl ⟨rfl, ?_⟩
  refine PySem.ks_wpAny_call_super hC rfl atA rfl (fun c z => by cases z) (PySem.W.looks_subIn KX T.self) fun h2 atS kS => ?_
  have K2 := KX.keeps kS
  have atA2 := kS _ _ atA
  have Ia : PySem.W.InstAt h2 a ({ cls := .ref C, dict := none, data := .fields #[.ref t0, .none, .none, .none, .bool false, .none] } : Obj) C none := ⟨atA2, rfl, rfl, trivial⟩
  have sup := T.sup
  unfold PySem.W.ks_superIn at sup
  rw [hcl] at sup
  refine PySem.W.kxs_getMethod T.un.kx atS (PySem.W.looks_opaque K2 T.op) (l₀ := cd.mro) (fun A Q E s k q => wpAny_bind ((PySem.W.looks_clsIn K2 hcl) A _ E s k (wpAny_pure q))) rfl K2 sup (Ia.type.andThen (PySem.W.looks_subIn K2 T.sub)) (PySem.W.ks_ne K2 Ia hcl) (by decide) ?_
  have k3' : ∀ b o, hp1.get? b = some o → (h2.push (PySem.W.kxs_mw initId a)).get? b = some o := fun b o e => Heap.get?_push_of_some _ (kS b o e)
  refine PySem.W.kxs_callWith (i := initId) (x := a) rfl (Calls.evalArgs_plain ?_)
  refine Calls.spliced_cons (Calls.Constant_str (k := kk) (pos := p3) ?_)
  refine Calls.spliced_nil ⟨?_, ?_⟩
  · exact Heap.get?_push_at rfl rfl
  · refine call_bound (KX.keeps k3') T.un.inf T.made (k3' _ _ atA) (Heap.get?_push_at rfl rfl) (by show 1 ≤ sizeLine; decide) fun h4 t1 k4 at4 => ?_
    refine go _ ?_
    have J := (I.kept (h' := h2.push (PySem.W.kxs_mw initId a)) (t' := 0) k3').write (t' := t + 1 + 1) (x := a) (e := a) (o := exo a C none) (by rw [ea]; exact True.intro) (.inl rfl) k4 ⟨_, at4⟩ (exo_ok at4)
    have eu : upd H a (exo a C none) = H := by
      funext b
      by_cases hb : b = a
      · rw [hb, upd_same, ea]
      · rw [upd_ne hb]
    rw [eu] at J
    exact J
end
end E4

set_option maxHeartbeats 4000000
namespace E5
open PySem PySem.Spec PyProof.Rows L2 E2 E3 E4
section
variable {P : Program} {w : World} {K : PySem.W.Frag} {mg : Str → Option Value} {base : Heap} {C f : Addr} {ql : Str} {pr : Arguments} {rest : List Stmt} {sc : Scope} {ps : List Str} {B newId initId Bs : String} {bmB : List Value} {p0 p1 p2 p3 p4 p5 : Pos} {z : Str} {kk : Nat}
/-- what is asked of the text of super().__init__('..') -/
structure SupOk (fd : FuncData) (f : Addr) (p0 p1 p2 p3 p4 p5 : Pos) (z : Str) (kk : Nat) : Prop where
  he : ∀ L : Addr, ∃ pl : Sem Bool, eval (supE p0 p1 p2 p3 p4 z kk) (callEnv fd L f) = (do
      let ov ← attributeBase (.Call (.Name "super" p0) [] [] p1) "__init__" (callEnv fd L f) (eval (.Call (.Name "super" p0) [] [] p1) (callEnv fd L f))
      standAt p2.atName
      let (m, first) ← holding [ov] (getMethod ov "__init__" pl)
      callWith p4 m first (backTo p4 (starEach [.Constant (.str z) kk p3] (callEnv fd L f))) [])
  hi : ∀ L : Addr, interactive (callEnv fd L f) = false
  hs : ∀ L : Addr, swapsWith (supE p0 p1 p2 p3 p4 z kk) none p5.line (callEnv fd L f) = pure false
theorem ok_init {CX : CXT} {sp : Sp} {fd : FuncData} {ar : Arg} {k : Nat} (T : ExC K C f B newId initId Bs bmB) (F : InitFn P K C f ql pr (.Expr (supE p0 p1 p2 p3 p4 z kk) p5 :: rest) sc fd) (S : InitScope ps ps sc) (hp : (pr.posonlyargs ++ pr.args).head? = some ar) (p0s : ps[0]? = some ar.arg)
    (ms : mg "super" = none) (U : SupOk fd f p0 p1 p2 p3 p4 p5 z kk) (len : ∀ vs H Q E, sp vs H Q E → vs.length = ps.length)
    (self : ∀ vs H Q E, sp vs H Q E → ∃ a ws, vs = .ref a :: ws ∧ H a = some (exo a C none))
    (body : ∀ (A : Around) (outer : List Env) (s : Shared) (H : Hp) (vs : List V) (Q : VK) (E : XK), sp vs H Q E → ∃ t, PSs (cxI P w K mg base ps fd f A outer s H) rest t ∧ t { nx := fun _ H' => Q .non H', rt := Q } (start ps vs) H) :
    FnOk P w K mg base CX (k + 1) f fd ps sp := by
  refine ⟨len, fun A outer s H args us vs Q E hr e0 hb r hyp => ?_⟩
  have F0 := F
  obtain ⟨oc, kV, doc, pm, cdv, ct, od, an, osl, cl, cc, ocl, occ, fv, file, tf, efd, lf, cod, lcl, dcl, ecd, lcc, dcc, vfile, isf⟩ := F.ex
  have inS : K.In s.heap := e0.mod.kin.keeps fun b o e => (e0.bs b o e).1
  have noL : s.heap.NoLimit := e0.mod.nolimit.keeps fun b o e => (e0.bs b o e).1
  have hl := len _ _ _ _ hyp
  obtain ⟨a, ws, ev, ea⟩ := self _ _ _ _ hyp
  obtain ⟨t, pt, tt⟩ := body A outer s H vs Q E hyp
  have hcd : s.heap.CodeRec fd.code fd.qualname := by rw [efd]; exact PySem.W.codeRec_of inS cod
  refine PySem.ks_codeAny_call_defAt (body := .Expr (supE p0 p1 p2 p3 p4 z kk) p5 :: rest) hr.depth (inS _ _ lf) rfl noL hcd (by rw [efd]) hb (by rw [efd]; exact S.nocell) (fun x hx => ?_) (fun h0 ns kp => ?_) (by rw [efd]; exact S.co) (by rw [efd]; exact S.gen) (by rw [efd]; exact S.kind)
  · obtain ⟨n, v⟩ := x
    rw [efd]
    exact S.par n (List.of_mem_zip hx).1
  · have I : Inv (cxI P w K mg base ps fd f A outer s H) [] (start ps vs) H { s with heap := h0, toks := s.toks + (ps.zip us).length } := by
      rw [efd]
      exact start_init S hr.hd e0 hl r lcl dcl ns kp
    obtain ⟨pl, he⟩ := U.he s.heap.objs.size
    refine PySem.ks_wpAt_execs_cons (PySem.ks_wpAt_Expr_any (run_super T F0 S hp p0s ms I (by rw [ev]; rfl) ea he fun s2 J => ?_) (U.hi _) (U.hs _))
    refine wpAt_of_wpAny (wpAny_mono (pt.run [] s2 _ H _ J tt) (fun fl s3 h3 => ?_) fun e s3 h3 => h3.elim)
    cases fl with
    | ret u =>
      obtain ⟨v, σ', H', J', rv, q⟩ := h3
      exact ⟨v, H', J'.os, J'.bare, J'.base, J'.hok, rv, q⟩
    | next =>
      obtain ⟨σ', H', J', q⟩ := h3
      exact ⟨.non, H', J'.os, J'.bare, J'.base, J'.hok, rfl, q⟩
    | brk =>
      obtain ⟨_, _, _, q⟩ := h3
      exact q.elim
    | cont =>
      obtain ⟨_, _, _, q⟩ := h3
      exact q.elim
end
end E5

set_option maxHeartbeats 4000000
namespace E6
open PySem PySem.W
section
variable {M : Model} {prog : Program} {w : World} {A : Around} {E : Value → Shared → Prop} {R : Result → Shared → Prop} {h : Heap} {g : Array GenState} {d : Drawn} {t : Nat} {os : OsState}
variable {nm q : Str} {C N : Addr} {bs bm bmB : List Value} {hdct : Bool} {sn : List Str} {sub : List Value} {ab : Bool} {col : Option Bool} {dd : Option Addr} {k0 k1 k2 k3 k5 : Option Value} {B newId initId : String} {kw : List (Str × Value)}
theorem may_new (F : ExcBaseFacts B newId initId bmB) (cB : (Value.ref C :: bm).contains (.type B) = true) {rest : List Value} {Q : Unit → Shared → Prop}
    (hC : h.get? C = some (excClassObj nm q C N bs bm hdct sn sub ab col dd k0 k1 k2 k3 k5 newId)) (go : Q () ⟨h, g, d, t, os⟩) : wpAny M A (checkBuiltinCall newId ⟨.ref C :: rest, kw⟩) Q E ⟨h, g, d, t, os⟩ := by
  have star := F.noStar
  simp only [checkBuiltinCall, F.newKind, F.newSplit, F.newRow]
  repeat (first | refine wpAny_loadPart_at hC ?_ | (refine wpAny_isSubtype_exc hC ?_; rw [cB]) | refine wpAny_staticBase_exc hC ?_ | refine wpAny_madeBy_exc hC ?_ | simp only [bne_self_eq_false, Bool.false_eq_true, if_false] | wp_step)
  exact go
theorem new_obj (F : ExcBaseFacts B newId initId bmB) (cB : (Value.ref C :: bm).contains (.type B) = true) (cA : (Value.ref C :: bm).contains (.type "AttributeError") = false) (cN : (Value.ref C :: bm).contains (.type "NameError") = false) {rest : List Value}
    (hC : h.get? C = some (excClassObj nm q C N bs bm hdct sn sub ab col dd k0 k1 k2 k3 k5 newId)) (few : rest.length ≤ sizeLine)
    (go : R (.ok (.ret (.ref (h.objs.size + 1)))) ⟨(h.push (kdv_tup rest)).push (HandSPX.excO C h.objs.size), g, d, t, os⟩) :
    codeAny (model prog w) A (.builtin newId ⟨.ref C :: rest, kw⟩) R ⟨h, g, d, t, os⟩ := by
  have ends := F.ends
  refine codeAny_builtinAt F.entry ?_
  unfold Builtin.«BaseException.__new__»
  refine wpAt_bind ?_
  show wpAt _ _ _ (stack >>= _) _ _ _
  refine wpAt_bind (wpAt_stack fun p below => wpAt_of_wpAny ?_)
  wp_walk
  refine wpAt_of_wpAny ?_
  rw [F.owner]
  repeat (first | with_reducible refine wpAny_madeHere_exc F.canon hC ?_ | with_reducible refine wpAny_loadPart_at hC ?_ | (with_reducible refine wpAny_isSubtype_exc hC ?_; first | rw [cB] | rw [cA] | rw [cN]) | wp_step)
  show R _ _
  rw [Heap.size_push]
  exact go
theorem run_type (F : ExcBaseFacts B newId initId bmB) (cB : (Value.ref C :: bm).contains (.type B) = true) (cA : (Value.ref C :: bm).contains (.type "AttributeError") = false) (cN : (Value.ref C :: bm).contains (.type "NameError") = false) {rest : List Value} {fI : Addr} {Q : Fin → Shared → Prop}
    (hC : h.get? C = some (excClassObj nm q C N bs bm hdct sn sub ab col dd k0 k1 k2 k3 k5 newId)) (ini : Looks (model prog w) h (typeLookup (.ref C) "__init__") (some (.ref fI))) (bnd : ∀ self, Looks (model prog w) h (bindSpecial (.ref fI) self) (.ref fI, [self])) (few : rest.length ≤ sizeLine)
    (go : codeAny (model prog w) A (.call (.ref fI) ⟨.ref (h.objs.size + 1) :: rest, kw⟩)
      (fun r s' => match r with | .ok (.ret v) => v = .none ∧ Q (.done (.ret (.ref (h.objs.size + 1)))) s' | .ok _ => False | .error e => E e s') ⟨(h.push (kdv_tup rest)).push (HandSPX.excO C h.objs.size), g, d, t, os⟩) :
    wpAny (model prog w) A (Builtin.«type.__call__» ⟨.ref C :: rest, kw⟩) Q E ⟨h, g, d, t, os⟩ := by
  have up : ∀ b o, h.get? b = some o → ((h.push (kdv_tup rest)).push (HandSPX.excO C h.objs.size)).get? b = some o := fun b o e => Heap.get?_push_of_some _ (Heap.get?_push_of_some _ e)
  have hC2 := up _ _ hC
  have mine : ((h.push (kdv_tup rest)).push (HandSPX.excO C h.objs.size)).get? (h.objs.size + 1) = some (HandSPX.excO C h.objs.size) := by heap_get
  have cC : (Value.ref C :: bm).contains (.ref C) = true := by simp
  have ini2 := ini.keeps up
  have bnd2 := (bnd (.ref (h.objs.size + 1))).keeps up
  repeat (first | with_reducible refine wpAny_loadPart_at hC ?_ | with_reducible refine wpAny_madeBy_exc hC ?_ | wp_step)
  refine codeAny_call_builtin_code (Code.quiet_builtin _ F.quiet) (may_new F cB hC (new_obj F cB cA cN hC few ?_))
  show wpAny _ _ _ _ _ _
  unfold isInstance
  repeat (first | with_reducible refine wpAny_loadPart_at mine ?_ | (with_reducible refine wpAny_isSubtype_exc hC2 ?_; rw [cC]) | wp_step)
  show wpAny _ _ (typeLookup (.ref C) _) _ _ _
  refine ini2.at (wpAny_holding (wpAny_bind (bnd2.at ?_)))
  refine wpAny_bind (wpAny_call (codeAny_mono go fun r s' z => ?_))
  rcases r with e | (v | _ | _ | _) <;> first | exact z | exact z.elim | skip
  obtain ⟨rfl, z⟩ := z
  first | exact wpAny_pure (wpAny_pure z) | (wp_walk; exact z)
theorem may_call {rest : List Value} {Q : Unit → Shared → Prop} (hC : h.get? C = some (excClassObj nm q C N bs bm hdct sn sub ab col dd k0 k1 k2 k3 k5 newId)) (go : Q () ⟨h, g, d, t, os⟩) :
    wpAny M A (checkBuiltinCall "type.__call__" ⟨.ref C :: rest, kw⟩) Q E ⟨h, g, d, t, os⟩ := by
  have l3 := tc_sub
  have isT : (⟨h, g, d, t, os⟩ : Shared).TypeIs (.ref C) "type" := ⟨_, hC, rfl⟩
  simp only [checkBuiltinCall, tc_kind, tc_split]
  repeat (any_goals (first | assumption | with_reducible refine wpAny_loadPart_at hC ?_ | with_reducible refine wpAny_onRaise ?_ | with_reducible refine wpAny_map ?_ | wp_step))
theorem call_made (F : ExcBaseFacts B newId initId bmB) (cB : (Value.ref C :: bm).contains (.type B) = true) (cA : (Value.ref C :: bm).contains (.type "AttributeError") = false) (cN : (Value.ref C :: bm).contains (.type "NameError") = false) {rest : List Value} {fI : Addr}
    (hC : h.get? C = some (excClassObj nm q C N bs bm hdct sn sub ab col dd k0 k1 k2 k3 k5 newId)) (ini : Looks (model prog w) h (typeLookup (.ref C) "__init__") (some (.ref fI))) (bnd : ∀ self, Looks (model prog w) h (bindSpecial (.ref fI) self) (.ref fI, [self])) (few : rest.length ≤ sizeLine)
    (go : codeAny (model prog w) (A.under (.builtin "type.__call__" ⟨.ref C :: rest, kw⟩)) (.call (.ref fI) ⟨.ref (h.objs.size + 1) :: rest, kw⟩) (InitBack (h.objs.size + 1) R) ⟨(h.push (kdv_tup rest)).push (HandSPX.excO C h.objs.size), g, d, t, os⟩) :
    codeAny (model prog w) A (.call (.ref C) ⟨rest, kw⟩) R ⟨h, g, d, t, os⟩ := by
  have l1 := tc_lookup
  have l2 := tc_bind (.ref C)
  have isT : (⟨h, g, d, t, os⟩ : Shared).TypeIs (.ref C) "type" := ⟨_, hC, rfl⟩
  refine codeAny_of_tree ?_
  show wpAny _ _ (callAny (.ref C) _) _ _ _
  repeat (any_goals (first | assumption | with_reducible refine wpAny_loadPart_at hC ?_ | wp_step))
  refine ⟨rfl, codeAny_call_builtin_at (Code.quiet_builtin _ (by decide +kernel)) entry_typeCall (may_call hC (run_type F cB cA cN hC ini bnd few ?_))⟩
  refine codeAny_mono go fun r s' z => ?_
  rcases r with e | (v | _ | _ | _) <;> exact z
end
end E6

set_option maxHeartbeats 4000000
namespace E7
open PySem PySem.Spec PyProof.Rows L2 E2 E3 E4 E5
/-- C(..), an own error as a value -/
def tErr (C : Addr) (sp : Sp) (gV : List V → List V → List V) (ta tk : TA) : TE := fun σ H Q => ta σ H fun vs H1 => tk σ H1 fun zs H2 => vs.length ≤ 1000 ∧
  ∀ a, H2 a = none → sp (gV (.ref a :: vs) zs) (upd H2 a (exo a C none)) (fun v H3 => v = .non ∧ Q (.ref a) H3) fun _ _ _ => False
section
variable {X : Cx} {pins : List (Addr × Obj)} {σ : L2.St} {H : Hp} {s : Shared} {C fI : Addr} {B newId initId Bs : String} {bmB : List Value} {k : Nat} {fd : FuncData} {ps ks : List Str} {sp : Sp} {g : List Value → List Value → List Value} {gV : List V → List V → List V} {vs zs : List V} {us ws : List Value} {Q : VK}
theorem tl_has {l : List Value} (z : String) (h : PySem.W.excTail bmB l = true) : (Value.ref C :: l).contains (.type z) = bmB.contains (.type z) := by
  rw [List.contains_cons, PySem.W.excTail_contains z l h]
  rfl
theorem run_err (T : ExC X.K C fI B newId initId Bs bmB) (F1 : FnOk X.prog X.w X.K X.mg X.base CX0 k fI fd ps sp) (hr : Room (k + 1) X.A) (kb : KBinds X.K fd ps ks g gV) (I : Inv X pins σ H s) (r : Vals vs us) (rz : Vals zs ws) (few : vs.length ≤ 1000)
    (hyp : ∀ a, H a = none → sp (gV (.ref a :: vs) zs) (upd H a (exo a C none)) (fun v H3 => v = .non ∧ Q (.ref a) H3) fun _ _ _ => False) :
    wpAny (model X.prog X.w) X.A (call (.ref C) us (ks.zip ws)) (EP X pins σ Q) X.xe s := by
  obtain ⟨_, bmE, eb⟩ := T.un.eb
  have KX := I.kIn
  obtain ⟨nm, N', qn, bs, bm, hdct, sn, sub, ab, col, dd, k0, k1, k2, k3, k5, hC, hT⟩ := PySem.W.excInit_of KX T.made
  have con : ∀ z : String, (Value.ref C :: bm).contains (.type z) = bmB.contains (.type z) := fun z => by
    rw [List.contains_cons, hT]
    rfl
  obtain ⟨hp, g0, dr, tk, os⟩ := s
  have new : H (hp.objs.size + 1) = none := I.hok.fresh (Nat.le_succ _)
  have hq := hyp (hp.objs.size + 1) new
  have up : ∀ b o, hp.get? b = some o → ((hp.push (PySem.W.kdv_tup us)).push (HandSPX.excO C hp.objs.size)).get? b = some o := fun b o e => Heap.get?_push_of_some _ (Heap.get?_push_of_some _ e)
  have mine : ((hp.push (PySem.W.kdv_tup us)).push (HandSPX.excO C hp.objs.size)).get? (hp.objs.size + 1) = some (HandSPX.excO C hp.objs.size) := by heap_get
  have I2 : Inv X pins σ (upd H (hp.objs.size + 1) (exo (hp.objs.size + 1) C none)) ⟨(hp.push (PySem.W.kdv_tup us)).push (HandSPX.excO C hp.objs.size), g0, dr, tk, os⟩ :=
    I.laid (t' := tk) (a := hp.objs.size + 1) (o := exo (hp.objs.size + 1) C none) (h' := (hp.push (PySem.W.kdv_tup us)).push (HandSPX.excO C hp.objs.size)) up (Nat.le_succ _) (exo_ok mine)
  have r1 : Vals (V.ref (hp.objs.size + 1) :: vs) (Value.ref (hp.objs.size + 1) :: us) := .cons rfl r
  have r2 := kb.rel r1 rz
  have hl : (g (Value.ref (hp.objs.size + 1) :: us) ws).length = ps.length := by
    rw [← r2.length, F1.len _ _ _ _ hq]
  have hus : us.length ≤ sizeLine := by
    rw [← Paired.length r, sizeLine_eq]
    omega
  obtain ⟨oI, hoI, hcI⟩ : ∃ oI, hp.get? fI = some oI ∧ oI.cls = .type "function" := by
    obtain ⟨o, ho, hc⟩ := Option.map_eq_some_iff.mp (show (X.K.lookup fI).map (·.cls) = some (.type "function") from beq_iff_eq.mp T.isF)
    exact ⟨o, KX _ _ ho, hc⟩
  refine wpAny_call (E6.call_made eb ((con B).trans T.un.hasB) ((con _).trans T.un.noA) ((con _).trans T.un.noN) hC (PySem.W.looks_findIn KX T.ini) (fun self => PySem.W.exc_bind hoI hcI self) hus ?_)
  refine codeAny_mono (F1.run _ X.stack _ _ ⟨Value.ref (hp.objs.size + 1) :: us, ks.zip ws⟩ (g (Value.ref (hp.objs.size + 1) :: us) ws) _ _ (fun _ _ _ => False) (hr.make C us (ks.zip ws)) (I2.env0.make C us (ks.zip ws)) (kb.to _ _ ws I2.kIn hl) r2 hq) fun rr s' hq' => ?_
  match rr, hq' with
  | .error er, z => exact z.elim
  | .ok .next, z => exact z.elim
  | .ok .brk, z => exact z.elim
  | .ok .cont, z => exact z.elim
  | .ok (.ret u), z =>
    obtain ⟨v, H3, I3, rv, ev, q3⟩ := I2.after z
    subst ev
    exact ⟨rv, .ref _, H3, I3, rfl, q3⟩
end
section
variable {X : Cx} {C fI : Addr} {B newId initId Bs : String} {bmB : List Value} {k : Nat} {fd : FuncData} {ps ks : List Str} {sp : Sp} {g : List Value → List Value → List Value} {gV : List V → List V → List V} {x : Str} {p pos : Pos} {e : Expr} {es : List Expr} {kws : List Keyword} {ta tk : TA}
/-- C(e, ..) -/
theorem pe_err (T : ExC X.K C fI B newId initId Bs bmB) (F1 : FnOk X.prog X.w X.K X.mg X.base CX0 k fI fd ps sp) (hr : Room (k + 1) X.A) (kb : KBinds X.K fd ps [] g gV) (hg : Gl X x) (hm : X.mg x = some (.ref C)) (ha : PA X (e :: es) ta)
    (hdb : (x == ("__debug__" : Str)) = false := by decide) (he : starEach (e :: es) X.env = (false, eval e X.env) :: starEach es X.env := by rfl) (hpl : (backTo pos (starEach es X.env)).any (·.1) = false := by rfl) :
    PE X (.Call (.Name x p) (e :: es) [] pos) (tErr C sp gV ta tNil) := by
  refine ⟨fun pins s σ H Q I hyp => wpAny_Call_Name_kw (ld_glob I hg hm ?_ hdb)⟩
  refine PySem.W.callWith_K (h₀ := X.base) I.ok.mod.kin T.kC (thn (ha.run pos pins s σ H _ I hyp) fun us s1 ⟨vs, H1, I1, r1, few, q1⟩ => ⟨I1.kIn, ?_⟩) he hpl
  exact run_err (ks := []) (ws := []) (zs := []) T F1 hr kb I1 r1 .nil few q1
/-- C(k = v, ..) -/
theorem pe_errK (T : ExC X.K C fI B newId initId Bs bmB) (F1 : FnOk X.prog X.w X.K X.mg X.base CX0 k fI fd ps sp) (hr : Room (k + 1) X.A) (kb : KBinds X.K fd ps ks g gV) (hg : Gl X x) (hm : X.mg x = some (.ref C)) (pk : PK X kws tk)
    (h1 : (backToKw pos (keywordEach kws X.env)).all (·.1.isSome) = true := by rfl) (h2 : (backToKw pos (keywordEach kws X.env)).filterMap (·.1) = ks := by rfl) (h3 : (x == ("__debug__" : Str)) = false := by decide)
    (h4 : ((backTo pos (starEach [] X.env)).any (·.1) || (backToKw pos (keywordEach kws X.env)).any (·.1.isNone)) = false := by rfl) :
    PE X (.Call (.Name x p) [] kws pos) (tErr C sp gV tNil tk) := by
  refine ⟨fun pins s σ H Q I hyp => wpAny_Call_Name_kw (ld_glob I hg hm ?_ h3)⟩
  refine PySem.W.callWith_KW0 (h₀ := X.base) I.ok.mod.kin T.kC h1 (thn (pk.run pos pins s σ H _ I hyp) fun ws s2 ⟨zs, H2, I2, rz, few, q2⟩ => ⟨I2.kIn, ?_⟩) h4
  rw [h2]
  exact run_err (us := []) (vs := []) T F1 hr kb I2 .nil rz few q2
end
end E7

set_option maxHeartbeats 4000000
namespace E8
open PySem PySem.Spec PyProof.Rows L2 E2 E3 E4 E5 E7
/-- err.f -/
def tErrF (K : PySem.W.Frag) (f : Str) (te : TE) : TE := fun σ H Q => te σ H fun x H1 => ∃ (a C dx : Addr) (fs : List (Str × V)) (v : V), x = .ref a ∧ ExcC K C ∧ PySem.W.findIn K (.ref C) f = some none ∧ H1 a = some (exo a C (some dx)) ∧ H1 dx = some (exd dx fs) ∧ fs.lookup f = some v ∧ Q v H1
theorem pe_errF {X : Cx} {e : Expr} {te : TE} {pos : Pos} {n : Str} (he : PE X e te) (hb : attributeBase e n X.env (eval e X.env) = eval e X.env := by rfl) : PE X (.Attribute e n pos) (tErrF X.K n te) := by
  refine ⟨fun pins s σ H Q I hyp => attr_of hb (thn (he.run pins s σ H _ I hyp) fun u s1 hh => ?_)⟩
  obtain ⟨x, H1, I1, rx, a, C, dx, fs, v, ex, T, no, ea, ed, l, q⟩ := hh
  subst ex
  obtain rfl : u = Value.ref a := rx
  obtain ⟨t1, at0⟩ := exo_at I1.hok ea
  obtain ⟨mA, nsD, rel⟩ := exd_at I1.hok ed
  obtain ⟨od, ho, hl⟩ := lookIn_ns nsD
  obtain ⟨u, hu, ru⟩ := RelO.some_of (v := v) (o := mA n) (by rw [← l]; exact rel n)
  have J : PySem.W.InstAt s1.heap a _ C (some od) := ⟨at0, rfl, rfl, ho⟩
  exact HandSPX.exc_get I1.kIn J T.hg T.hk T.hs (PySem.W.findObj_own T.hd no rfl (by rw [hl, hu])) (handed_of ru) ⟨v, H1, I1.tok _, ru, q⟩
end E8

set_option maxHeartbeats 4000000
namespace E9
open PySem PySem.Spec PyProof.Rows L2 E2 E3 E4 E5 E7 E8
/-- an own error at a, of the class at C, with these fields -/
def ErrAt (H : Hp) (a C : Addr) (fs : List (Str × V)) : Prop := (fs = [] ∧ H a = some (exo a C none)) ∨ ∃ dx, H a = some (exo a C (some dx)) ∧ H dx = some (exd dx fs)
/-- the same, its fields in a new dict -/
def ErrNew (H0 H : Hp) (a C : Addr) (fs : List (Str × V)) : Prop := (fs = [] ∧ H a = some (exo a C none)) ∨ ∃ dx, H a = some (exo a C (some dx)) ∧ H dx = some (exd dx fs) ∧ H0 dx = none
theorem ErrNew.at {H0 H : Hp} {a C : Addr} {fs : List (Str × V)} (h : ErrNew H0 H a C fs) : ErrAt H a C fs := by
  rcases h with h | ⟨dx, h1, h2, _⟩
  · exact .inl h
  · exact .inr ⟨dx, h1, h2⟩
/-- new things at a and d alone -/
def Grow (H H' : Hp) (a : Addr) : Prop := ∀ b o, H b = some o → b ≠ a → H' b = some o
def names : List Str → List V → List (Str × V)
  | f :: fs, v :: vs => names fs vs ++ [(f, v)]
  | _, _ => []
def spI (C : Addr) (fn : List Str) : Sp := fun vs H Q _ => ∃ (a : Addr) (ws : List V), vs = .ref a :: ws ∧ ws.length = fn.length ∧ H a = some (exo a C none) ∧
  ∀ H', Grow H H' a → ErrNew H H' a C (names fn ws) → Q .non H'
section
variable {P : Program} {w : World} {K : PySem.W.Frag} {mg : Str → Option Value} {base : Heap} {C f : Addr} {ql : Str} {pr : Arguments} {sc : Scope} {B newId initId Bs : String} {bmB : List Value} {p0 p1 p2 p3 p4 p5 : Pos} {z : Str} {kk : Nat} {fd : FuncData} {ar : Arg} {k : Nat}
structure Nm (x : Str) : Prop where
  db : (x == ("__debug__" : Str)) = false
  cd : (x == ("__classdict__" : Str)) = false
theorem nm_self : Nm "self" := ⟨by decide, by decide⟩
theorem ok0 (T : ExC K C f B newId initId Bs bmB) (F : InitFn P K C f ql pr [.Expr (supE p0 p1 p2 p3 p4 z kk) p5] sc fd) (S : InitScope ["self"] ["self"] sc) (hp : (pr.posonlyargs ++ pr.args).head? = some ar) (h0 : ("self" : Str) = ar.arg) (ms : mg "super" = none) (U : SupOk fd f p0 p1 p2 p3 p4 p5 z kk) :
    FnOk P w K mg base CX0 (k + 1) f fd ["self"] (spI C []) := by
  refine ok_init T F S hp (by rw [← h0]; rfl) ms U (fun vs H Q E hyp => ?_) (fun vs H Q E hyp => ?_) (fun A outer s H vs Q E hyp => ?_)
  · obtain ⟨a, ws, rfl, hl, _⟩ := hyp
    rw [List.length_cons, hl]
    rfl
  · obtain ⟨a, ws, rfl, _, ea, _⟩ := hyp
    exact ⟨a, ws, rfl, ea⟩
  · obtain ⟨a, ws, rfl, hl, ea, q⟩ := hyp
    have e : ws = [] := List.length_eq_zero_iff.mp hl
    subst e
    exact ⟨_, pss_nil, q H (fun b o h _ => h) (.inl ⟨rfl, ea⟩)⟩
/-- self.x = x -/
abbrev keepS (x : Str) (q1 q2 q3 q4 : Pos) : Stmt := .Assign [.Attribute (.Name "self" q1) x q2] (.Name x q3) q4
theorem tak_name {x : Str} {X : Cx} {i : Nat} {pos : Pos} (n : Nm x) (hi : X.N[i]? = some x) (hv : X.env.scope.names.lookup x = some .local) : PE X (.Name x pos) (tVar i) := pe_var hi (.inl hv) n.db n.cd
theorem ok1 {x1 : Str} {a1 a2 a3 a4 : Pos} (T : ExC K C f B newId initId Bs bmB) (F : InitFn P K C f ql pr [.Expr (supE p0 p1 p2 p3 p4 z kk) p5, keepS x1 a1 a2 a3 a4] sc fd) (S : InitScope ["self", x1] ["self", x1] sc) (hp : (pr.posonlyargs ++ pr.args).head? = some ar) (h0 : ("self" : Str) = ar.arg) (ms : mg "super" = none) (U : SupOk fd f p0 p1 p2 p3 p4 p5 z kk)
    (n1 : Nm x1) (k1 : PySem.W.takerIn K C x1 = some none) : FnOk P w K mg base CX0 (k + 1) f fd ["self", x1] (spI C [x1]) := by
  refine ok_init T F S hp (by rw [← h0]; rfl) ms U (fun vs H Q E hyp => ?_) (fun vs H Q E hyp => ?_) (fun A outer s H vs Q E hyp => ?_)
  · obtain ⟨a, ws, rfl, hl, _⟩ := hyp
    rw [List.length_cons, hl]
    rfl
  · obtain ⟨a, ws, rfl, _, ea, _⟩ := hyp
    exact ⟨a, ws, rfl, ea⟩
  · obtain ⟨a, ws, rfl, hl, ea, q⟩ := hyp
    match ws, hl with
    | [v1], _ =>
      have env : (cxI P w K mg base ["self", x1] fd f A outer s H).env.scope = sc := by
        obtain ⟨oc, kV, doc, pm, cdv, ct, od, an, osl, cl, cc, ocl, occ, fv, file, tf, efd, _⟩ := F.ex
        rw [efd]
        rfl
      refine ⟨_, pss_one (ps_keep (tak_name (i := 0) nm_self rfl (by rw [env]; exact S.par _ (by simp))) (tak_name (i := 1) n1 rfl (by rw [env]; exact S.par _ (by simp)))), ?_⟩
      refine ⟨v1, rfl, .ref a, rfl, a, C, f, B, newId, initId, Bs, bmB, rfl, T, k1, .inl ⟨ea, fun dx nd ne => ?_⟩⟩
      refine q _ (fun b o hb hba => ?_) (.inr ⟨dx, upd_same, ?_, nd⟩)
      · rw [upd_ne hba, upd_ne (ne_of_none hb nd)]
        exact hb
      · rw [upd_ne ne]
        exact upd_same
theorem ok2 {x1 : Str} {a11 a21 a31 a41 : Pos} {x2 : Str} {a12 a22 a32 a42 : Pos} (T : ExC K C f B newId initId Bs bmB) (F : InitFn P K C f ql pr (.Expr (supE p0 p1 p2 p3 p4 z kk) p5 :: [keepS x1 a11 a21 a31 a41, keepS x2 a12 a22 a32 a42]) sc fd) (S : InitScope ["self", x1, x2] ["self", x1, x2] sc) (hp : (pr.posonlyargs ++ pr.args).head? = some ar) (h0 : ("self" : Str) = ar.arg) (ms : mg "super" = none) (U : SupOk fd f p0 p1 p2 p3 p4 p5 z kk)
    (n1 : Nm x1) (k1 : PySem.W.takerIn K C x1 = some none) (n2 : Nm x2) (k2 : PySem.W.takerIn K C x2 = some none) : FnOk P w K mg base CX0 (k + 1) f fd ["self", x1, x2] (spI C [x1, x2]) := by
  refine ok_init T F S hp (by rw [← h0]; rfl) ms U (fun vs H Q E hyp => ?_) (fun vs H Q E hyp => ?_) (fun A outer s H vs Q E hyp => ?_)
  · obtain ⟨a, ws, rfl, hl, _⟩ := hyp
    rw [List.length_cons, hl]
    rfl
  · obtain ⟨a, ws, rfl, _, ea, _⟩ := hyp
    exact ⟨a, ws, rfl, ea⟩
  · obtain ⟨a, ws, rfl, hl, ea, q⟩ := hyp
    match ws, hl with
    | [v1, v2], _ =>
      have env : (cxI P w K mg base ["self", x1, x2] fd f A outer s H).env.scope = sc := by
        obtain ⟨oc, kV, doc, pm, cdv, ct, od, an, osl, cl, cc, ocl, occ, fv, file, tf, efd, _⟩ := F.ex
        rw [efd]
        rfl
      refine ⟨_, pss_cons (ps_keep (tak_name (i := 0) nm_self rfl (by rw [env]; exact S.par _ (by simp))) (tak_name (i := 1) n1 rfl (by rw [env]; exact S.par _ (by simp)))) (pss_one (ps_keep (tak_name (i := 0) nm_self rfl (by rw [env]; exact S.par _ (by simp))) (tak_name (i := 2) n2 rfl (by rw [env]; exact S.par _ (by simp))))), ?_⟩
      refine ⟨v1, rfl, .ref a, rfl, a, C, f, B, newId, initId, Bs, bmB, rfl, T, k1, .inl ⟨ea, fun dx nd ne => ?_⟩⟩
      have ha1 : (upd (upd H dx (exd dx [(x1, v1)])) a (exo a C (some dx))) a = some (exo a C (some dx)) := upd_same
      have hd1 : (upd (upd H dx (exd dx [(x1, v1)])) a (exo a C (some dx))) dx = some (exd dx [(x1, v1)]) := by
        rw [upd_ne ne]
        exact upd_same
      have hg1 : Grow H (upd (upd H dx (exd dx [(x1, v1)])) a (exo a C (some dx))) a := fun b o hb hba => by
        rw [upd_ne hba, upd_ne (ne_of_none hb nd)]
        exact hb
      generalize upd (upd H dx (exd dx [(x1, v1)])) a (exo a C (some dx)) = H1 at ha1 hd1 hg1 ⊢
      refine ⟨v2, rfl, .ref a, rfl, a, C, f, B, newId, initId, Bs, bmB, rfl, T, k2, .inr ⟨dx, _, ha1, hd1, by simp, ?_⟩⟩
      have ha2 : (upd H1 dx (exd dx [(x2, v2), (x1, v1)])) a = some (exo a C (some dx)) := by
        rw [upd_ne ne.symm]
        exact ha1
      have hd2 : (upd H1 dx (exd dx [(x2, v2), (x1, v1)])) dx = some (exd dx [(x2, v2), (x1, v1)]) := upd_same
      have hg2 : Grow H (upd H1 dx (exd dx [(x2, v2), (x1, v1)])) a := fun b o hb hba => by
        rw [upd_ne (ne_of_none hb nd)]
        exact hg1 b o hb hba
      generalize upd H1 dx (exd dx [(x2, v2), (x1, v1)]) = H2 at ha2 hd2 hg2 ⊢
      exact q _ hg2 (.inr ⟨dx, ha2, hd2, nd⟩)
theorem ok3 {x1 : Str} {a11 a21 a31 a41 : Pos} {x2 : Str} {a12 a22 a32 a42 : Pos} {x3 : Str} {a13 a23 a33 a43 : Pos} (T : ExC K C f B newId initId Bs bmB) (F : InitFn P K C f ql pr (.Expr (supE p0 p1 p2 p3 p4 z kk) p5 :: [keepS x1 a11 a21 a31 a41, keepS x2 a12 a22 a32 a42, keepS x3 a13 a23 a33 a43]) sc fd) (S : InitScope ["self", x1, x2, x3] ["self", x1, x2, x3] sc) (hp : (pr.posonlyargs ++ pr.args).head? = some ar) (h0 : ("self" : Str) = ar.arg) (ms : mg "super" = none) (U : SupOk fd f p0 p1 p2 p3 p4 p5 z kk)
    (n1 : Nm x1) (k1 : PySem.W.takerIn K C x1 = some none) (n2 : Nm x2) (k2 : PySem.W.takerIn K C x2 = some none) (n3 : Nm x3) (k3 : PySem.W.takerIn K C x3 = some none) : FnOk P w K mg base CX0 (k + 1) f fd ["self", x1, x2, x3] (spI C [x1, x2, x3]) := by
  refine ok_init T F S hp (by rw [← h0]; rfl) ms U (fun vs H Q E hyp => ?_) (fun vs H Q E hyp => ?_) (fun A outer s H vs Q E hyp => ?_)
  · obtain ⟨a, ws, rfl, hl, _⟩ := hyp
    rw [List.length_cons, hl]
    rfl
  · obtain ⟨a, ws, rfl, _, ea, _⟩ := hyp
    exact ⟨a, ws, rfl, ea⟩
  · obtain ⟨a, ws, rfl, hl, ea, q⟩ := hyp
    match ws, hl with
    | [v1, v2, v3], _ =>
      have env : (cxI P w K mg base ["self", x1, x2, x3] fd f A outer s H).env.scope = sc := by
        obtain ⟨oc, kV, doc, pm, cdv, ct, od, an, osl, cl, cc, ocl, occ, fv, file, tf, efd, _⟩ := F.ex
        rw [efd]
        rfl
      refine ⟨_, pss_cons (ps_keep (tak_name (i := 0) nm_self rfl (by rw [env]; exact S.par _ (by simp))) (tak_name (i := 1) n1 rfl (by rw [env]; exact S.par _ (by simp)))) (pss_cons (ps_keep (tak_name (i := 0) nm_self rfl (by rw [env]; exact S.par _ (by simp))) (tak_name (i := 2) n2 rfl (by rw [env]; exact S.par _ (by simp)))) (pss_one (ps_keep (tak_name (i := 0) nm_self rfl (by rw [env]; exact S.par _ (by simp))) (tak_name (i := 3) n3 rfl (by rw [env]; exact S.par _ (by simp)))))), ?_⟩
      refine ⟨v1, rfl, .ref a, rfl, a, C, f, B, newId, initId, Bs, bmB, rfl, T, k1, .inl ⟨ea, fun dx nd ne => ?_⟩⟩
      have ha1 : (upd (upd H dx (exd dx [(x1, v1)])) a (exo a C (some dx))) a = some (exo a C (some dx)) := upd_same
      have hd1 : (upd (upd H dx (exd dx [(x1, v1)])) a (exo a C (some dx))) dx = some (exd dx [(x1, v1)]) := by
        rw [upd_ne ne]
        exact upd_same
      have hg1 : Grow H (upd (upd H dx (exd dx [(x1, v1)])) a (exo a C (some dx))) a := fun b o hb hba => by
        rw [upd_ne hba, upd_ne (ne_of_none hb nd)]
        exact hb
      generalize upd (upd H dx (exd dx [(x1, v1)])) a (exo a C (some dx)) = H1 at ha1 hd1 hg1 ⊢
      refine ⟨v2, rfl, .ref a, rfl, a, C, f, B, newId, initId, Bs, bmB, rfl, T, k2, .inr ⟨dx, _, ha1, hd1, by simp, ?_⟩⟩
      have ha2 : (upd H1 dx (exd dx [(x2, v2), (x1, v1)])) a = some (exo a C (some dx)) := by
        rw [upd_ne ne.symm]
        exact ha1
      have hd2 : (upd H1 dx (exd dx [(x2, v2), (x1, v1)])) dx = some (exd dx [(x2, v2), (x1, v1)]) := upd_same
      have hg2 : Grow H (upd H1 dx (exd dx [(x2, v2), (x1, v1)])) a := fun b o hb hba => by
        rw [upd_ne (ne_of_none hb nd)]
        exact hg1 b o hb hba
      generalize upd H1 dx (exd dx [(x2, v2), (x1, v1)]) = H2 at ha2 hd2 hg2 ⊢
      refine ⟨v3, rfl, .ref a, rfl, a, C, f, B, newId, initId, Bs, bmB, rfl, T, k3, .inr ⟨dx, _, ha2, hd2, by simp, ?_⟩⟩
      have ha3 : (upd H2 dx (exd dx [(x3, v3), (x2, v2), (x1, v1)])) a = some (exo a C (some dx)) := by
        rw [upd_ne ne.symm]
        exact ha2
      have hd3 : (upd H2 dx (exd dx [(x3, v3), (x2, v2), (x1, v1)])) dx = some (exd dx [(x3, v3), (x2, v2), (x1, v1)]) := upd_same
      have hg3 : Grow H (upd H2 dx (exd dx [(x3, v3), (x2, v2), (x1, v1)])) a := fun b o hb hba => by
        rw [upd_ne (ne_of_none hb nd)]
        exact hg2 b o hb hba
      generalize upd H2 dx (exd dx [(x3, v3), (x2, v2), (x1, v1)]) = H3 at ha3 hd3 hg3 ⊢
      exact q _ hg3 (.inr ⟨dx, ha3, hd3, nd⟩)
end
end E9

set_option maxHeartbeats 4000000
namespace EA
open PySem PySem.Spec PyProof.Rows L2 E2 E3 E4 E5 E7 E8 E9
section
variable {X : Cx} {pins : List (Addr × Obj)} {σ : L2.St}
/-- an error without fields is let go of -/
theorem let_go {H1 H2 : Hp} {hp hp2 h2 : Heap} {g1 g2 : Array GenState} {d1 d2 : Drawn} {t1 t2 : Nat} {os1 os2 : OsState} {a C : Addr} (I1 : Inv X pins σ H1 ⟨hp, g1, d1, t1, os1⟩) (ha : hp.objs.size ≤ a) (k : ∀ b o, hp.get? b = some o → hp2.get? b = some o)
    (un : Un (frs X.stack) [] (upd H1 a (exo a C none)) H2 hp2 h2) (hok : HOk X.prog X.w H2 h2) (ho : os2 = os1) (hb : AllBare g2) (ea : H2 a = some (exo a C none)) :
    ∃ (t0 : Addr) (G : Heap), Inv X pins σ (del H2 a) ⟨G, g2, d2, t2, os2⟩ ∧ (∀ b o, G.get? b = some o → h2.get? b = some o) ∧ G.get? a = none ∧
      h2.get? a = some ({ cls := .ref C, dict := none, data := .fields #[.ref t0, .none, .none, .none, .bool false, .none] } : Obj) := by
  obtain ⟨t0, at2⟩ := exo_at hok ea
  have new : H1 a = none := I1.hok.fresh ha
  obtain ⟨G, gin, gout⟩ := restrict h2 fun b => decide (b ≠ a)
  have gk : ∀ b, b ≠ a → G.get? b = h2.get? b := fun b nb => gin b (decide_eq_true nb)
  have ga : G.get? a = none := gout a (by simp)
  have off : ∀ {b : Addr} {o : Obj}, hp.get? b = some o → b ≠ a := fun {b o} q => Nat.ne_of_lt (Nat.lt_of_lt_of_le (Heap.lt_size q) ha)
  have un0 : ∀ {b : Addr}, b ≠ a → H1 b = none → upd H1 a (exo a C none) b = none := fun {b} nb n => by
    rw [upd_ne nb]
    exact n
  have un1 : ∀ {b : Addr} {o : HO}, H1 b = some o → upd H1 a (exo a C none) b = some o ∧ b ≠ a := fun {b o} q => by
    have nb := ne_of_none q new
    exact ⟨by rw [upd_ne nb]; exact q, nb⟩
  have U : Un (frs X.stack) [] H1 (del H2 a) hp G :=
    { keep := fun b o q n hf hx => by
        rw [gk b (off q)]
        exact un.keep b o (k b o q) (un0 (off q) n) hf hx
      slot := fun b o q n hf hx => by
        rw [gk b (off q)]
        exact un.slot b o (k b o q) (un0 (off q) n) hf hx
      free := fun b o q n hx => by
        rw [del_ne (off q)]
        exact un.free b o (k b o q) (un0 (off q) n) hx
      there := fun b o q hx => by
        rw [gk b (off q)]
        exact un.there b o (k b o q) hx
      tups := fun b xs q => by
        rw [del_ne (un1 q).2]
        exact un.tups b xs (un1 q).1
      frzs := fun b o v q => by
        rw [del_ne (un1 q).2]
        exact un.frzs b o v (un1 q).1
      tbls := fun b ps q => by
        rw [del_ne (un1 q).2]
        exact un.tbls b ps (un1 q).1 }
  have hokG : HOk X.prog X.w (del H2 a) G := fun b o q => by
    have nb : b ≠ a := fun e => by
      rw [e, del_same] at q
      cases q
    rw [del_ne nb] at q
    have noO : ∀ {c : Addr}, H2 c = some (.own b) → c ≠ a := fun {c} hc => at_ne ea hc exo_own
    refine (hok b o q).stay (fun c v hc y => ?_) (fun c hc => by rw [del_ne (noO hc)]; exact hc) (fun c xs hc => by rw [del_ne (at_ne ea hc exo_tup)]; exact hc)
    have nc : c ≠ a := by
      rcases hc with hc | hc
      · rw [hc]
        exact nb
      · exact noO hc
    rw [gk c nc]
    exact y
  refine ⟨t0, G, I1.call' (ch := []) ho U hokG hb (fun b q => absurd q (by simp)), fun b o q => ?_, ga, at2⟩
  by_cases nb : b = a
  · rw [nb, ga] at q
    cases q
  · exact (gk b nb).symm.trans q
/-- C(e, ..) that is to be raised -/
def tMkE (C : Addr) (sp : Sp) (gV : List V → List V → List V) (ta : TA) : L2.St → Hp → XK → Prop := fun σ H Q => ta σ H fun vs H1 => vs.length ≤ 1000 ∧ ∀ a, H1 a = none → sp (gV (.ref a :: vs) []) (upd H1 a (exo a C none))
  (fun v H2 => v = .non ∧ ((∃ (d : Addr) (fs : List (Str × V)), H2 a = some (exo a C (some d)) ∧ H2 d = some (exd d fs) ∧ H1 d = none ∧ Q (.ref C) (some d) (upd (del H2 a) d (.xd fs))) ∨ (H2 a = some (exo a C none) ∧ Q (.ref C) none (del H2 a)))) fun _ _ _ => False
theorem run_mk {C fI : Addr} {B newId initId Bs : String} {bmB : List Value} {k : Nat} {fd : FuncData} {ps : List Str} {sp : Sp} {g : List Value → List Value → List Value} {gV : List V → List V → List V} {H : Hp} {s : Shared} {vs : List V} {us : List Value} {Q : XK}
    (T : ExC X.K C fI B newId initId Bs bmB) (F1 : FnOk X.prog X.w X.K X.mg X.base CX0 k fI fd ps sp) (hr : Room (k + 1) X.A) (kb : KBinds X.K fd ps [] g gV) (I : Inv X pins σ H s) (r : Vals vs us) (few : vs.length ≤ 1000)
    (hyp : ∀ a, H a = none → sp (gV (.ref a :: vs) []) (upd H a (exo a C none)) (fun v H2 => v = .non ∧ ((∃ (d : Addr) (fs : List (Str × V)), H2 a = some (exo a C (some d)) ∧ H2 d = some (exd d fs) ∧ H d = none ∧ Q (.ref C) (some d) (upd (del H2 a) d (.xd fs))) ∨ (H2 a = some (exo a C none) ∧ Q (.ref C) none (del H2 a)))) fun _ _ _ => False) :
    wpAny (model X.prog X.w) X.A (call (.ref C) us) (MkP X pins σ Q) X.xe s := by
  obtain ⟨_, bmE, eb⟩ := T.un.eb
  have KX := I.kIn
  obtain ⟨nm, N', qn, bs, bm, hdct, sn, sub, ab, col, dd, k0, k1, k2, k3, k5, hC, hT⟩ := PySem.W.excInit_of KX T.made
  have con : ∀ z : String, (Value.ref C :: bm).contains (.type z) = bmB.contains (.type z) := fun z => by
    rw [List.contains_cons, hT]
    rfl
  obtain ⟨hp, g0, dr, tk, os⟩ := s
  have new : H (hp.objs.size + 1) = none := I.hok.fresh (Nat.le_succ _)
  have hq := hyp (hp.objs.size + 1) new
  have up : ∀ b o, hp.get? b = some o → ((hp.push (PySem.W.kdv_tup us)).push (HandSPX.excO C hp.objs.size)).get? b = some o := fun b o e => Heap.get?_push_of_some _ (Heap.get?_push_of_some _ e)
  have mine : ((hp.push (PySem.W.kdv_tup us)).push (HandSPX.excO C hp.objs.size)).get? (hp.objs.size + 1) = some (HandSPX.excO C hp.objs.size) := by heap_get
  have I2 : Inv X pins σ (upd H (hp.objs.size + 1) (exo (hp.objs.size + 1) C none)) ⟨(hp.push (PySem.W.kdv_tup us)).push (HandSPX.excO C hp.objs.size), g0, dr, tk, os⟩ :=
    I.laid (t' := tk) (a := hp.objs.size + 1) (o := exo (hp.objs.size + 1) C none) (h' := (hp.push (PySem.W.kdv_tup us)).push (HandSPX.excO C hp.objs.size)) up (Nat.le_succ _) (exo_ok mine)
  have r1 : Vals (V.ref (hp.objs.size + 1) :: vs) (Value.ref (hp.objs.size + 1) :: us) := .cons rfl r
  have r2 := kb.rel r1 Paired.nil
  have hl : (g (Value.ref (hp.objs.size + 1) :: us) []).length = ps.length := by
    rw [← r2.length, F1.len _ _ _ _ hq]
  have hus : us.length ≤ sizeLine := by
    rw [← Paired.length r, sizeLine_eq]
    omega
  obtain ⟨oI, hoI, hcI⟩ : ∃ oI, hp.get? fI = some oI ∧ oI.cls = .type "function" := by
    obtain ⟨o, ho, hc⟩ := Option.map_eq_some_iff.mp (show (X.K.lookup fI).map (·.cls) = some (.type "function") from beq_iff_eq.mp T.isF)
    exact ⟨o, KX _ _ ho, hc⟩
  refine wpAny_call (E6.call_made (kw := []) eb ((con B).trans T.un.hasB) ((con _).trans T.un.noA) ((con _).trans T.un.noN) hC (PySem.W.looks_findIn KX T.ini) (fun self => PySem.W.exc_bind hoI hcI self) hus ?_)
  refine codeAny_mono (F1.run _ X.stack _ _ ⟨Value.ref (hp.objs.size + 1) :: us, []⟩ (g (Value.ref (hp.objs.size + 1) :: us) []) _ _ (fun _ _ _ => False) (hr.make C us []) (I2.env0.make C us []) (kb.to _ _ [] I2.kIn hl) r2 hq) fun rr s' hq' => ?_
  match rr, hq' with
  | .error er, z => exact z.elim
  | .ok .next, z => exact z.elim
  | .ok .brk, z => exact z.elim
  | .ok .cont, z => exact z.elim
  | .ok (.ret u), ⟨v, H2, os2, bare2, un2, hok2, rv, ev, q2⟩ =>
    subst ev
    obtain ⟨h2, g2, d2, t2, os'⟩ := s'
    refine ⟨rv, ?_⟩
    rcases q2 with ⟨d, fs, ea, ed, nd, q⟩ | ⟨ea, q⟩
    · exact mk_end (raises_own T.exC T.tyC) I (Nat.le_succ _) up un2 hok2 os2 bare2 ea ed nd q
    · obtain ⟨t0, G, J, kG, ge, at2⟩ := let_go (d2 := d2) (t2 := t2) I (Nat.le_succ _) up un2 hok2 os2 bare2 ea
      exact ⟨hp.objs.size + 1, _, _, ⟨G, g2, d2, t2, os'⟩, _, .ref C, none, rfl, J, kG, ge, at2, ⟨rfl, rfl⟩, rfl, rfl, del_same, rfl, bare2, raises_own T.exC T.tyC, q⟩
end
section
variable {X : Cx} {C fI : Addr} {B newId initId Bs : String} {bmB : List Value} {k : Nat} {fd : FuncData} {ps : List Str} {sp : Sp} {g : List Value → List Value → List Value} {gV : List V → List V → List V} {x : Str} {p pos : Pos} {e : Expr} {es : List Expr} {ta : TA}
theorem pmk_err (T : ExC X.K C fI B newId initId Bs bmB) (F1 : FnOk X.prog X.w X.K X.mg X.base CX0 k fI fd ps sp) (hr : Room (k + 1) X.A) (kb : KBinds X.K fd ps [] g gV) (hg : Gl X x) (hm : X.mg x = some (.ref C)) (ha : PA X (e :: es) ta)
    (hdb : (x == ("__debug__" : Str)) = false := by decide) (he : starEach (e :: es) X.env = (false, eval e X.env) :: starEach es X.env := by rfl) (hpl : (backTo pos (starEach es X.env)).any (·.1) = false := by rfl) :
    PMk X (.Call (.Name x p) (e :: es) [] pos) (tMkE C sp gV ta) := by
  intro pins s σ H Q I hyp
  refine wpAny_Call_Name_kw (ld_glob I hg hm ?_ hdb)
  refine PySem.W.callWith_K (h₀ := X.base) I.ok.mod.kin T.kC (thn (ha.run pos pins s σ H _ I hyp) fun us s1 ⟨vs, H1, I1, r1, few, q1⟩ => ⟨I1.kIn, ?_⟩) he hpl
  exact run_mk T F1 hr kb I1 r1 few q1
theorem pmk_err0 (T : ExC X.K C fI B newId initId Bs bmB) (F1 : FnOk X.prog X.w X.K X.mg X.base CX0 k fI fd ps sp) (hr : Room (k + 1) X.A) (kb : KBinds X.K fd ps [] g gV) (hg : Gl X x) (hm : X.mg x = some (.ref C)) (hdb : (x == ("__debug__" : Str)) = false := by decide) :
    PMk X (.Call (.Name x p) [] [] pos) (tMkE C sp gV tNil) := by
  intro pins s σ H Q I hyp
  refine wpAny_Call_Name_kw (ld_glob I hg hm ?_ hdb)
  exact PySem.W.callWith_K0 I.kIn T.kC (run_mk (us := []) (vs := []) T F1 hr kb I .nil hyp.1 hyp.2)
theorem pe_err0 (T : ExC X.K C fI B newId initId Bs bmB) (F1 : FnOk X.prog X.w X.K X.mg X.base CX0 k fI fd ps sp) (hr : Room (k + 1) X.A) (kb : KBinds X.K fd ps [] g gV) (hg : Gl X x) (hm : X.mg x = some (.ref C)) (hdb : (x == ("__debug__" : Str)) = false := by decide) :
    PE X (.Call (.Name x p) [] [] pos) (tErr C sp gV tNil tNil) := by
  refine ⟨fun pins s σ H Q I hyp => wpAny_Call_Name_kw (ld_glob I hg hm ?_ hdb)⟩
  exact PySem.W.callWith_K0 I.kIn T.kC (run_err (ks := []) (ws := []) (zs := []) (us := []) (vs := []) T F1 hr kb I .nil .nil hyp.1 hyp.2)
end
end EA

set_option maxHeartbeats 4000000
namespace EB
open PySem PySem.Spec PyProof.Rows L2 E2 E3 E4 E5 E7 E8 E9
/-- isinstance(err, c) -/
def rIsErr (K : PySem.W.Frag) : List V → Hp → VK → Prop := fun xs H Q => ∃ (a C : Addr) (fs : List (Str × V)) (c : V) (u : Value) (b : Bool), xs = [.ref a, c] ∧ ErrAt H a C fs ∧ ExcC K C ∧ ClsV c u ∧ PySem.W.kitOne K (.ref C) u = some b ∧ Q (.bl b) H
theorem call_isErr {X : Cx} : CallR X (.builtin "isinstance") (rIsErr X.K) := by
  intro pins s σ H xs us Q I r hyp
  obtain ⟨a, C, fs, c, u, b, rfl, ea, T, cv, e, q⟩ := hyp
  cases r with
  | cons rx rr =>
    cases rr with
    | cons rt rr =>
      cases rr
      cases rx
      have ec := cv.eq rt
      subst ec
      have hcl : (PySem.W.clsIn X.K C).isSome = true := by
        obtain ⟨cd, hc, _⟩ := PySem.W.any_some T.hd
        rw [hc]
        rfl
      have fin : ∀ {ox : Obj} {od : Option Obj}, PySem.W.InstAt s.heap a ox C od → wpAny (model X.prog X.w) X.A (call (.builtin "isinstance") [.ref a, _]) (EP X pins σ Q) X.xe s := fun {ox od} J =>
        PySem.W.kia_one (PySem.W.kitx_exc hcl T.hg T.hk T.hs T.ha T.hn T.ht T.hm) I.kIn J e (fun z => nomatch z) fun tk => ⟨.bl b, H, I.kept (t' := tk) fun _ _ z => z, rfl, q⟩
      rcases ea with ⟨_, ea⟩ | ⟨dx, ea, ed⟩
      · obtain ⟨t1, at0⟩ := exo_at I.hok ea
        exact fin (ox := _) (od := none) ⟨at0, rfl, rfl, trivial⟩
      · obtain ⟨t1, at0⟩ := exo_at I.hok ea
        obtain ⟨mA, ⟨oD, es, ep, hoD, _⟩, _⟩ := exd_at I.hok ed
        exact fin (ox := _) (od := some oD) ⟨at0, rfl, rfl, hoD⟩
end EB

set_option maxHeartbeats 4000000
namespace EC
open PySem PySem.Spec PyProof.Rows L2 E2 E3 E4 E5 E7 E8 E9
/-- an error that was caught and is kept -/
def exk (a : Addr) (cls : Value) (d : Option Addr) : HO := .ext fun h => ∃ (oe : Obj) (vs : Array Value), h.get? a = some oe ∧ Zc cls d oe ∧ oe.data = .fields vs
theorem exk_ok {P : Program} {w : World} {H : Hp} {h : Heap} {a : Addr} {cls : Value} {d : Option Addr} {oe : Obj} {vs : Array Value} (e : h.get? a = some oe) (z : Zc cls d oe) (dt : oe.data = .fields vs) : ObjOk P w H h a (exk a cls d) :=
  ⟨⟨oe, vs, e, z, dt⟩, ⟨_, e⟩, fun h1 h2 ⟨o, v, q1, q2, q3⟩ k => ⟨o, v, k _ q1, q2, q3⟩⟩
theorem exk_at {P : Program} {w : World} {H : Hp} {h : Heap} {a : Addr} {cls : Value} {d : Option Addr} (hok : HOk P w H h) (e : H a = some (exk a cls d)) : ∃ (oe : Obj) (vs : Array Value), h.get? a = some oe ∧ Zc cls d oe ∧ oe.data = .fields vs := by
  have x : ObjOk P w H h a (.ext fun h => ∃ (oe : Obj) (vs : Array Value), h.get? a = some oe ∧ Zc cls d oe ∧ oe.data = .fields vs) := hok a _ e
  exact x.1
/-- a place that came new -/
structure Fresh (X : Cx) (pins : List (Addr × Obj)) (a : Addr) : Prop where
  n0 : X.s_0.heap.get? a = none
  nL : X.env.locals ≠ a
  nC : ∀ x c, X.env.cells.lookup x = some c → c ≠ a
  nP : ∀ p ∈ X.pn ++ pins, p.1 ≠ a
theorem fresh_of {X : Cx} {pins : List (Addr × Obj)} {σ : L2.St} {H : Hp} {s : Shared} {a : Addr} (I : Inv X pins σ H s) (ga : s.heap.get? a = none) (hx : X.ex = []) : Fresh X pins a := by
  refine ⟨?_, fun e => ?_, fun x c h e => ?_, fun p hp e => ?_⟩
  · cases q : X.s_0.heap.get? a with
    | none => rfl
    | some o =>
      obtain ⟨o', q'⟩ := I.base.there a o q (by rw [hx]; exact List.not_mem_nil)
      rw [ga] at q'
      cases q'
  · obtain ⟨m, ⟨o, es, ep, q, _⟩, _⟩ := I.loc
    rw [e, ga] at q
    cases q
  · obtain ⟨v, o, q, _⟩ := I.cell x c h
    rw [e, ga] at q
    cases q
  · have q := (I.pin p hp).1
    rw [e, ga] at q
    cases q
theorem retrack {X : Cx} {pins : List (Addr × Obj)} {σ : L2.St} {H : Hp} {s : Shared} {a : Addr} {o : HO} (F : Fresh X pins a) (I : Inv X pins σ H s) (na : H a = none) (ok : ObjOk X.prog X.w (upd H a o) s.heap a o) : Inv X pins σ (upd H a o) s := by
  have ne : ∀ {b : Addr} {u : HO}, H b = some u → b ≠ a := fun {b u} q => ne_of_none q na
  refine ⟨I.ok, I.os, I.bare, ?_, I.loc, I.cell, ?_, fun x c h => ?_, fun p hp => ?_, HOk.laidN I.hok (fun _ _ e => e) na ok, I.len⟩
  · exact { keep := I.base.keep, slot := I.base.slot,
            free := fun b u q n hx => by
              rw [upd_ne (fun e => by rw [e, F.n0] at q; cases q)]
              exact I.base.free b u q n hx
            there := I.base.there
            tups := fun b xs q => by
              have z := I.base.tups b xs q
              rw [upd_ne (ne z)]
              exact z
            frzs := fun b u v q => by
              have z := I.base.frzs b u v q
              rw [upd_ne (ne z)]
              exact z
            tbls := fun b ps q => by
              obtain ⟨m, z⟩ := I.base.tbls b ps q
              exact ⟨m, by rw [upd_ne (ne z)]; exact z⟩ }
  · rw [upd_ne F.nL]
    exact I.free
  · rw [upd_ne (F.nC x c h)]
    exact I.freeC x c h
  · obtain ⟨q1, q2, q3⟩ := I.pin p hp
    exact ⟨q1, by rw [upd_ne (F.nP p hp)]; exact q2, q3⟩
/-- except C as n: .., and the error is kept behind it -/
def wKept (K : PySem.W.Frag) (c : Value) (i : Nat) (ts : Addr → Value → Option Addr → TS) (Wout : WX) (D : Ends) : WX := fun cls d σ H =>
  ∃ b, PySem.W.exmOne K cls c = some b ∧ (b = true → ∀ a, H a = none → ts a cls d { nx := fun σ' H' => H' a = none ∧ D.nx (σ'.set i none) (upd H' a (exk a cls d)), rt := fun _ _ => False, bk := fun _ _ => False, ct := fun _ _ => False } (σ.set i (some (.ref a))) H) ∧
    (b = false → Wout cls d σ H)
section
variable {X : Cx} {x n : Str} {c : Value} {i : Nat} {body suite : List Stmt} {b0 : Stmt} {np pos pos' : Pos} {tb : WX → TS} {ts : Addr → Value → Option Addr → TS} {Wout : WX}
theorem ps_try_kept (hs : X.stack = X.env :: X.outer) (hf : X.env.frame = some X.env.locals) (hN : X.N.Nodup) (hi : X.N[i]? = some n) (hln : X.env.kindOf n = some .local) (hc : Names X x c) (hx : X.ex = [])
    (hb : ∀ (W : WX) (pn : List (Addr × Obj)) (xe : Value → Shared → Prop), Takes (X.tr pn xe) W → PassesOwn (model X.prog X.w) X.A X.env xe → PSs (X.tr pn xe) body (tb W))
    (hsu : ∀ (a : Addr) (oe : Obj) (cls : Value) (d : Option Addr) (pn : List (Addr × Obj)), Zc cls d oe → (∃ vs, oe.data = .fields vs) → PSs (X.suite a ((a, oe) :: pn)) (b0 :: suite) (ts a cls d)) :
    PS X (.Try body [.ExceptHandler (some (.Name x np)) (some n) (b0 :: suite) pos'] [] [] pos) (fun D σ H => tb (wKept X.K c i ts (fun _ _ _ _ => False) D) D σ H) := by
  refine ⟨fun pins s σ H D I hyp => ?_⟩
  have ok := I.ok
  have frm : X.A.frames = some (X.env :: X.outer) := by rw [ok.frames, hs]
  refine wpAny_Try_except ?_
  have run := hb (wKept X.K c i ts (fun _ _ _ _ => False) D) (X.pn ++ pins) (fun e s1 => wpAny (model X.prog X.w) X.A (noteFrame e X.env) (fun _ s2 => wpAny (model X.prog X.w) X.A (setFlight e none)
    (fun _ s3 => wpAny (model X.prog X.w) X.A (handleBy e X.env [.ExceptHandler (some (.Name x np)) (some n) (b0 :: suite) pos']) (SP X pins D) X.xe s3) X.xe s2) X.xe s1)
  refine wpAny_mono ((run (fun u s' xx => ?_) PassesOwn.looking).run [] s σ H D (I.toTry _) hyp) (fun fl s1 sp => ?_) (fun e s1 he => he)
  · obtain ⟨a, B, sI, pins', σ', H', cls, d, rfl, J', nb, up, sky, na, os, ag, b, hb1, yes, no⟩ := xx
    have J : Inv X pins σ' H' sI := J'.ofTry ok
    have sky2 : Sky B (X.env :: X.outer) a (Zc cls d) X.env.locals s'.heap := by rw [← hs]; exact sky
    show wpAny (model X.prog X.w) X.A (noteFrame (.ref a) X.env) _ _ _
    refine Sky.land Zc.steady frm hf sky2 fun h3 fl3 up3 => ?_
    have J3 : Inv X pins σ' H' { s' with heap := h3 } := J.landed nb fl3.1 (up.trans up3) os ag
    obtain ⟨oe3, vs3, at3, z3, d3⟩ := fl3.there
    have nfr : a ∉ frs (X.env :: X.outer) := fun hm => by
      obtain ⟨_, o', e', nf⟩ := fl3.2.2.1.mem hm
      rw [at3] at e'
      cases e'
      exact nf _ d3
    have gone : sI.heap.get? a = none := by
      cases q : sI.heap.get? a with
      | none => rfl
      | some o =>
        have z := nb a o q (by rw [show (frs X.stack) = frs (X.env :: X.outer) by rw [hs]]; exact nfr)
        rw [fl3.2.1] at z
        cases z
    have Fr := fresh_of J gone hx
    have nF : a ∉ X.fs := fun hm => by
      obtain ⟨e, he, q⟩ := List.mem_filterMap.mp hm
      exact nfr (List.mem_filterMap.mpr ⟨e, List.mem_cons_of_mem _ he, q⟩)
    have S3 := J3.suite at3 d3 na (fun e => Fr.nL e.symm) nF
    refine wpAny_handleBy_cons (codeAny_handlers_test ?_) (by intro q; cases q)
    have LT : PySem.W.Looks (model X.prog X.w) h3 (typeOf (.ref a)) cls := fun A Q E s k q => wpAny_typeOf_ref (k _ _ at3) (by rw [z3.1]; exact q)
    have LM := PySem.W.exm_one (M := model X.prog X.w) (J3.kIn) LT hb1
    have test : ∀ {Q : Value → Shared → Prop} {E : Value → Shared → Prop}, Q c { s' with heap := h3 } → wpAny (model X.prog X.w) (X.A.mark (some (.ref a))) (eval (.Name x np) X.env) Q E { s' with heap := h3 } := fun {Q E} q => by
      obtain ⟨hg, hdbg, hm | ⟨hm, hv, hnn⟩⟩ := hc
      · exact ld_glob (X := X.suite a ((a, oe3) :: (X.pn ++ pins))) S3 hg hm q hdbg
      · exact ld_blt (X := X.suite a ((a, oe3) :: (X.pn ++ pins))) S3 hg hm hv q hnn hdbg
    refine test (LM.here ?_)
    cases b with
    | false => exact (no rfl).elim
    | true =>
      refine codeAny_handlers_suite_as (HandSPX.lands_againZ fl3 fun h4 fl4 up4 => ?_)
      have J4 : Inv X pins σ' H' { s' with heap := h4 } := J.landed nb fl4.1 ((up.trans up3).trans up4) os ag
      obtain ⟨oe4, vs4, at4, z4, d4⟩ := fl4.there
      have S4 := J4.suite at4 d4 na (fun e => Fr.nL e.symm) nF
      refine store_ok (X := X.suite a ((a, oe4) :: (X.pn ++ pins))) (v := .ref a) S4 hN hi (.inl hln) rfl (fun s5 S5 => ?_) (.inr hln)
      refine wpAny_mono ((hsu a oe4 cls d (X.pn ++ pins) z4 ⟨_, d4⟩).run [] s5 _ H' _ S5 (yes rfl a na)) (fun fl s6 sp => ?_) (fun _ _ z => False.elim z)
      cases fl with
      | next =>
        obtain ⟨σ6, H6, S6, n6, q6⟩ := sp
        have at6 := (S6.pin (a, oe4) (List.mem_append_left _ List.mem_cons_self)).1
        have J6 := retrack (o := exk a cls d) Fr (S6.unsuite ok) n6 (exk_ok at6 z4 d4)
        exact gone_ok J6 hN hi hln fun s7 J7 => ⟨_, _, J7, q6⟩
      | brk =>
        obtain ⟨_, _, _, q⟩ := sp
        exact q.elim
      | cont =>
        obtain ⟨_, _, _, q⟩ := sp
        exact q.elim
      | ret u =>
        obtain ⟨_, _, _, _, _, q⟩ := sp
        exact q.elim
  · cases fl with
    | next =>
      obtain ⟨σ', H', J', q⟩ := sp
      exact wpAny_execs_nil ⟨σ', H', J'.ofTry ok, q⟩
    | brk =>
      obtain ⟨σ', H', J', q⟩ := sp
      exact ⟨σ', H', J'.ofTry ok, q⟩
    | cont =>
      obtain ⟨σ', H', J', q⟩ := sp
      exact ⟨σ', H', J'.ofTry ok, q⟩
    | ret u =>
      obtain ⟨v, σ', H', J', r, q⟩ := sp
      exact ⟨v, σ', H', J'.ofTry ok, r, q⟩
end
/-- kept.f -/
def tKeptF (K : PySem.W.Frag) (f : Str) (te : TE) : TE := fun σ H Q => te σ H fun x H1 => ∃ (a C d : Addr) (fs : List (Str × V)) (v : V), x = .ref a ∧ ExcC K C ∧ PySem.W.findIn K (.ref C) f = some none ∧ H1 a = some (exk a (.ref C) (some d)) ∧ H1 d = some (.xd fs) ∧ fs.lookup f = some v ∧ Q v H1
theorem pe_keptF {X : Cx} {e : Expr} {te : TE} {pos : Pos} {n : Str} (he : PE X e te) (hb : attributeBase e n X.env (eval e X.env) = eval e X.env := by rfl) : PE X (.Attribute e n pos) (tKeptF X.K n te) := by
  refine ⟨fun pins s σ H Q I hyp => attr_of hb (thn (he.run pins s σ H _ I hyp) fun u s1 hh => ?_)⟩
  obtain ⟨x, H1, I1, rx, a, C, d, fs, v, ex, T, no, ea, ed, l, q⟩ := hh
  subst ex
  obtain rfl : u = Value.ref a := rx
  obtain ⟨oe, vs, at0, z0, dt⟩ := exk_at I1.hok ea
  obtain ⟨mA, nsD, rel⟩ := (show ObjOk X.prog X.w H1 s1.heap d (.xd fs) from I1.hok d _ ed)
  obtain ⟨od, ho, hl⟩ := lookIn_ns nsD
  obtain ⟨u, hu, ru⟩ := RelO.some_of (v := v) (o := mA n) (by rw [← l]; exact rel n)
  have J : PySem.W.InstAt s1.heap a oe C (some od) := ⟨at0, z0.1, by unfold PySem.W.notCls; rw [dt] <;> rfl, by rw [z0.2]; exact ho⟩
  exact HandSPX.exc_get I1.kIn J T.hg T.hk T.hs (PySem.W.findObj_own T.hd no rfl (by rw [hl, hu])) (handed_of ru) ⟨v, H1, I1.tok _, ru, q⟩
end EC

set_option maxHeartbeats 4000000
namespace G6
open PySem PySem.Spec PyProof.Rows L2
/-- a dict with one text for a key and the empty list behind it -/
def DictB (H : Hp) (z : Str) (d : Addr) : Prop := ∃ i, H d = some (.dK [(Sum.inr z, .ref i)]) ∧ H i = some (.lst [])
def tB (z : Str) : Str := dictText [reprText z ++ ": " ++ "[]"]
section
variable {X : Cx} {pins : List (Addr × Obj)} {σ : L2.St} {H : Hp} {s : Shared} {d : Addr} {z : Str}
structure AtB (h : Heap) (prog : Program) (w : World) (d i : Addr) (z : Str) : Prop where
  di : d ≠ i
  dict : ∃ o es n, h.get? d = some o ∧ o.cls = .type "dict" ∧ o.data = .dict es n ∧ (d == sysModules) = false ∧ ReprEntriesK prog w [i] h 0 es.toList [reprText z ++ ": " ++ "[]"]
  emp : ∃ o n, h.get? i = some o ∧ o.cls = .type "list" ∧ o.data = .seq #[] n
theorem at_b (I : Inv X pins σ H s) (hz : (reprText z).length ≤ sizeLine) (h : DictB H z d) : ∃ i, AtB s.heap X.prog X.w d i z ∧ H i = some (.lst []) := by
  obtain ⟨i, hd, hi⟩ := h
  obtain ⟨_, its, n, rv, ei⟩ := (show ObjOk X.prog X.w H s.heap i (.lst []) from I.hok i _ hi)
  cases rv
  obtain ⟨_, nsys, vs, kv, o, es, ep, eo, ex, dt, ks, prs, _⟩ := (show ObjOk X.prog X.w H s.heap d (.dK [(Sum.inr z, .ref i)]) from I.hok d _ hd)
  have hdi : d ≠ i := ne_of hd hi (by intro q; cases q)
  refine ⟨i, ⟨hdi, ⟨o, es, ep, eo, ex.1, dt, nsys, ?_⟩, ⟨_, n, ei, rfl, rfl⟩⟩, hi⟩
  match vs, kv with
  | [(k', u)], .cons r1 .nil =>
    have e1 : k' = Sum.inr z := r1.1.symm
    have e2 : u = Value.ref i := r1.2
    subst e1 e2
    generalize es.toList = l at prs ⊢
    match l, prs with
    | [e], .cons p1 p2 .nil =>
      obtain ⟨key, t, e3, e4⟩ : ∃ x t, (Sum.inr z : Key) = Sum.inr x ∧ e.key = Value.str x t := by
        rcases keyIs_shape (show keyIs (Sum.inr z) e.key = true from p1) with ⟨_, _, q, _⟩ | ⟨x, t, q1, q2⟩
        · cases q
        · exact ⟨x, t, q1, q2⟩
      cases e3
      refine .cons ?_ ?_ .nil
      · rw [e4]
        exact .of_is (ReprIs.str z t hz) _ _ _
      · rw [show e.val = Value.ref i from p2]
        exact ReprK.listEmpty ei rfl rfl
/-- repr of such a dict, and of a list of the same over and over -/
def rReprB : List V → Hp → VK → Prop := fun xs H Q => ∃ (z : Str) (d : Addr), (reprText z).length ≤ 100 ∧ (tB z).length ≤ 200 ∧ DictB H z d ∧ ((xs = [.ref d] ∧ Q (.str (tB z)) H) ∨
  ∃ (l : Addr) (n : Nat), xs = [.ref l] ∧ H l = some (.lst (List.replicate (n + 1) (.ref d))) ∧ n ≤ 100 ∧ Q (.str (listText (List.replicate (n + 1) (tB z)))) H)
theorem vals_same {d : Addr} : ∀ {n : Nat} {its : List Value}, Vals (List.replicate n (V.ref d)) its → its = List.replicate n (Value.ref d)
  | 0, _, .nil => rfl
  | n + 1, _, r => by
    rw [List.replicate_succ] at r
    cases r with
    | cons r1 r2 =>
      cases r1
      rw [vals_same r2, List.replicate_succ]
theorem call_reprB (gu : X.A.guards = some []) (ro : X.A.units + 64 < cLine) : CallR X (.builtin "repr") rReprB := by
  intro pins s σ H xs us Q I rel hyp
  obtain ⟨z, d, hz, ln, hb, hyp⟩ := hyp
  have hz2 : (reprText z).length ≤ sizeLine := Nat.le_trans hz (by decide)
  obtain ⟨i, B, hi⟩ := at_b I hz2 hb
  obtain ⟨o, es, n, eo, ec, ed, nsys, ent⟩ := B.dict
  have one : ReprK X.prog X.w [d, i] s.heap 1 (.ref d) (tB z) := ReprK.dict eo ec ed nsys (by simp [B.di]) ent
  rcases hyp with ⟨rfl, fin⟩ | ⟨l, n, rfl, hl, hn, fin⟩
  · obtain ⟨u, rfl, ru⟩ := vals1 rel
    obtain rfl : u = Value.ref d := ru
    refine call_repr_slot (by omega) ⟨o, eo, ec⟩ F.slot_dict_repr (call_dict_reprK (d := 0) eo ec ed nsys (by simp [B.di]) ent gu (fun b _ => Clear.nil b) (by show X.A.units + 1 + 1 < cLine; omega) (fun _ _ e => e) (fun h' u tk k => ⟨_, _, rfl, .str _, H, I.kept k, ⟨_, rfl⟩, fin⟩) (Nat.le_trans ln (by decide)))
  · obtain ⟨u, rfl, ru⟩ := vals1 rel
    obtain rfl : u = Value.ref l := ru
    obtain ⟨_, its, m, rv, el⟩ := (show ObjOk X.prog X.w H s.heap l (.lst (List.replicate (n + 1) (.ref d))) from I.hok l _ hl)
    have eit := vals_same rv
    subst eit
    have hld : l ≠ d := by
      obtain ⟨i', hd, _⟩ := hb
      exact ne_of hl hd (by intro q; cases q)
    have hli : l ≠ i := ne_of hl hi (by intro q; rw [List.replicate_succ] at q; cases q)
    rw [List.replicate_succ] at el
    refine call_repr_slot (by omega) ⟨_, el, rfl⟩ F.slot_list_repr.toG (call_list_reprK (as := [d, i]) (d := 1) (ts := List.replicate (n + 1) (tB z)) el rfl rfl (by simp [hld, hli]) (by simp) (fun j y ej => ?_) gu (fun b _ => Clear.nil b) (by show X.A.units + 1 + (1 + 1) < cLine; omega) (fun _ _ e => e)
      (fun h' u tk k => ⟨_, _, rfl, .str _, H, I.kept k, ⟨_, rfl⟩, fin⟩) ?_)
    · rw [← List.replicate_succ, List.getElem?_toArray] at ej
      have hj : j < n + 1 := by
        have := (List.getElem?_eq_some_iff.mp ej).1
        rwa [List.length_replicate] at this
      rw [List.getElem?_replicate, if_pos hj] at ej
      obtain rfl : Value.ref d = y := Option.some.inj ej
      refine ⟨tB z, ?_, one⟩
      rw [List.getElem?_replicate, if_pos hj]
    · refine Nat.le_trans (listText_len_le _) ?_
      rw [List.map_replicate, List.sum_replicate_nat, List.length_replicate]
      refine Nat.le_trans (show (n + 1) * (tB z).length + 2 * (n + 1) + 3 ≤ 101 * 200 + 2 * 101 + 3 from ?_) (by decide)
      have := Nat.mul_le_mul (show n + 1 ≤ 101 by omega) ln
      omega
end
end G6

set_option maxHeartbeats 4000000
/-! own errors as any law needs them: found, made, raised, caught -/
namespace EE
open PySem PySem.Spec PyProof.Rows L2 G3 G5 E2 E3 E4 E5 E7 E8 E9 EB EC
def initOf (s : Stmt) : Stmt := match s with
  | .ClassDef _ _ _ b _ _ _ _ _ _ _ => b.getD 0 (.Pass ⟨0, 0, 0, 0⟩)
  | s => s
/-- all that can be asked of the class by looking -/
def lookC (K : PySem.W.Frag) (C fI : Addr) (B newId initId : String) (bmB : List Value) (fn : List Str) : Bool :=
  PySem.W.excInitIn K C bmB newId && (PySem.W.excOver K C bmB && (PySem.W.hasDictIn K C && (decide (PySem.W.findIn K (.ref C) "__setattr__" = some (some (.builtin "object.__setattr__"))) && (decide (PySem.W.findIn K (.ref C) "__init__" = some (some (.ref fI))) &&
  (PySem.W.isFn K (.ref fI) && (decide (PySem.W.ks_superIn K C C "__init__" = some (some (.builtin initId))) && (decide (PySem.W.subIn K (.ref C) (.type B) = some true) && (decide (PySem.W.subIn K (.ref C) (.ref C) = some true) && (decide (PySem.W.nsIn K cStatics "thirdparty.any" = some none) &&
  (decide (PySem.W.subIn K (.ref C) (.type "BaseException") = some true) && (decide (PySem.W.typeIn K (.ref C) = some (.type "type")) && (PySem.W.keepIn K (.ref C) && (decide (PySem.W.findIn K (.ref C) "__getattribute__" = some (some (.builtin "BaseException.__getattribute__"))) &&
  (decide (PySem.W.findIn K (.ref C) "__getattr__" = some none) && (decide (PySem.W.findIn K (.ref C) "__class__" = some (some (.builtin "object.__class__"))) && (decide (PySem.W.specialIn K (.builtin "object.__class__") "__get__" = some (some (.builtin "getset_descriptor.__get__"))) &&
  (decide (PySem.W.takesIn K (.builtin "object.__class__") = some true) && (decide (PySem.W.mroIn K C (.type "object") = some true) && fn.all fun f => decide (PySem.W.takerIn K C f = some none) && decide (PySem.W.findIn K (.ref C) f = some none)))))))))))))))))))
theorem looked {K : PySem.W.Frag} {C fI : Addr} {B newId initId Bs : String} {bmB : List Value} {fn : List Str} (U : Under B newId initId Bs bmB) (h : lookC K C fI Bs newId initId bmB fn = true) :
    ExC K C fI B newId initId Bs bmB ∧ ExcC K C ∧ ∀ f ∈ fn, PySem.W.takerIn K C f = some none ∧ PySem.W.findIn K (.ref C) f = some none := by
  unfold lookC at h
  simp only [Bool.and_eq_true, decide_eq_true_eq, List.all_eq_true] at h
  obtain ⟨h1, h2, h3, h4, h5, h6, h7, h8, h9, h10, h11, h12, h13, h14, h15, h16, h17, h18, h19, h20⟩ := h
  obtain ⟨cd, hc, hd⟩ := PySem.W.any_some h3
  exact ⟨⟨U, h1, h2, ⟨cd, hc, hd⟩, h4, h5, h6, h7, h8, h9, h10, h11, h12, h13⟩, ⟨h14, h15, h11, h3, h16, h17, h18, h19⟩, h20⟩
/-- by place; by names, the last first -/
def kwG {α : Type} (k : Nat) (us ws : List α) : List α := match us with
  | [a] => a :: (ws.take k).reverse
  | _ => []
/-- an own error class that the law may make -/
structure Err (P : Program) (w : World) (K : PySem.W.Frag) (mg : Str → Option Value) (base : Heap) (nm : Str) (fn : List Str) where
  C : Addr
  fI : Addr
  fd : FuncData
  B : String
  newId : String
  initId : String
  Bs : String
  bmB : List Value
  g : mg nm = some (.ref C)
  T : ExC K C fI B newId initId Bs bmB
  E : ExcC K C
  ok : FnOk P w K mg base CX0 1 fI fd ("self" :: fn) (spI C fn)
  fld : ∀ f ∈ fn, PySem.W.findIn K (.ref C) f = some none
  kb : KBinds K fd ("self" :: fn) [] (fun us _ => us) (fun vs _ => vs)
  kn : KBinds K fd ("self" :: fn) fn.reverse (kwG fn.length) (kwG fn.length)
theorem vals_rev : ∀ {vs : List V} {us : List Value}, Vals vs us → Vals vs.reverse us.reverse
  | _, _, .nil => .nil
  | _, _, .cons r t => by
    rw [List.reverse_cons, List.reverse_cons]
    exact (vals_rev t).append (.cons r .nil)
theorem kw_rel {k : Nat} {vs zs : List V} {us ws : List Value} (r : Vals vs us) (rz : Vals zs ws) : Vals (kwG k vs zs) (kwG k us ws) := by
  match vs, us, r with
  | _, _, .nil => exact .nil
  | _, _, .cons r1 .nil => exact .cons r1 (vals_rev (rz.take k))
  | _, _, .cons r1 (.cons r2 r3) => exact .nil
theorem uValue : Under "ValueError" "ValueError.__new__" "ValueError.__init__" "ValueError" [.type "ValueError", .type "Exception", .type "BaseException", .type "object"] :=
  ⟨⟨_, _, F.excBase_ValueError⟩, InitF.of F.excBase_ValueError.toExcCallFacts, PySem.W.kxs_ValueError, F.store_ValueError, by decide +kernel, by decide +kernel, by decide +kernel⟩
theorem uIndex : Under "IndexError" "IndexError.__new__" "IndexError.__init__" "IndexError" [.type "IndexError", .type "LookupError", .type "Exception", .type "BaseException", .type "object"] :=
  ⟨⟨_, _, F.excBase_IndexError⟩, InitF.of F.excBase_IndexError.toExcCallFacts, PySem.W.kxs_IndexError, PySem.F.store_IndexError, by decide +kernel, by decide +kernel, by decide +kernel⟩
theorem uOver : Under "OverflowError" "OverflowError.__new__" "OverflowError.__init__" "OverflowError" [.type "OverflowError", .type "ArithmeticError", .type "Exception", .type "BaseException", .type "object"] :=
  ⟨⟨_, _, F.excBase_OverflowError⟩, InitF.of F.excBase_OverflowError.toExcCallFacts, PySem.W.kxs_OverflowError, PySem.F.store_OverflowError, by decide +kernel, by decide +kernel, by decide +kernel⟩
theorem uRun : Under "RuntimeError" "RuntimeError.__new__" "RuntimeError.__init__" "RuntimeError" [.type "RuntimeError", .type "Exception", .type "BaseException", .type "object"] :=
  ⟨⟨_, _, F.excBase_RuntimeError⟩, InitF.of F.excBase_RuntimeError.toExcCallFacts, PySem.W.kxs_RuntimeError, PySem.F.store_RuntimeError, by decide +kernel, by decide +kernel, by decide +kernel⟩
abbrev keyTail : List Value := [.type "KeyError", .type "LookupError", .type "Exception", .type "BaseException", .type "object"]
theorem key_store : StoreFacts "KeyError" keyTail "object.__setattr__" "object" := by
  refine { mro := by kernel_rfl, slot := ?_, entry := PySem.F.entry_object_sa, kind := by decide +kernel, split := by decide +kernel, hasOwner := by decide +kernel, args := fun a b c => by unfold argsOk; kernel_rfl, passes := fun self => by kernel_rfl }
  refine Slot.of (owner := "object") (n := "__setattr__") ?_ (by decide +kernel) (by decide +kernel) (by decide +kernel) ?_ ?_
  · rw [typeLookup_type, builtinLookup_eq_fast]
    kernel_rfl
  · first | exact .inl (by decide +kernel) | exact .inr (by decide +kernel)
  · rw [isSubtype_type]
    kernel_rfl
theorem key_get : PySem.W.KxsFacts "KeyError" "KeyError.__init__" := by
  refine ⟨?_, ?_⟩
  · show builtinType _ = _
    rw [builtinType_eq_fast]
    kernel_rfl
  · first | kernel_rfl | rfl
theorem uKey : Under "LookupError" "LookupError.__new__" "KeyError.__init__" "KeyError" keyTail :=
  ⟨⟨_, _, F.excBase_LookupError⟩, ⟨excClass_KeyError.initKind, excClass_KeyError.initSig, excClass_KeyError.notStar, excClass_KeyError.init.plain, excClass_KeyError.initEntry⟩, key_get, key_store, by decide +kernel, by decide +kernel, by decide +kernel⟩
theorem nmOk {x : Str} (h : ((x == ("__debug__" : Str)) || (x == ("__classdict__" : Str))) = false) : Nm x := by
  rw [Bool.or_eq_false_iff] at h
  exact ⟨h.1, h.2⟩
/-- a new error that is raised -/
def tNewR (C : Addr) (fn : List Str) (ta : TA) : L2.St → Hp → XK → Prop := fun σ H Q => ta σ H fun vs H1 => vs.length ≤ 1000 ∧ vs.length = fn.length ∧ names fn vs ≠ [] ∧ ∀ d H', H1 d = none → Same H1 H' → H' d = some (.xd (names fn vs)) → Q (.ref C) (some d) H'
theorem pmk_new {X : Cx} {nm : Str} {fn : List Str} {p pos : Pos} {e : Expr} {es : List Expr} {ta : TA} (S : Err X.prog X.w X.K X.mg X.base nm fn) (hr : Room 2 X.A) (hg : Gl X nm) (ha : PA X (e :: es) ta)
    (hdb : (nm == ("__debug__" : Str)) = false := by decide) (he : starEach (e :: es) X.env = (false, eval e X.env) :: starEach es X.env := by rfl) (hpl : (backTo pos (starEach es X.env)).any (·.1) = false := by rfl) :
    PMk X (.Call (.Name nm p) (e :: es) [] pos) (tNewR S.C fn ta) := by
  intro pins s σ H Q I hyp
  refine wpAny_Call_Name_kw (ld_glob I hg S.g ?_ hdb)
  refine PySem.W.callWith_K (h₀ := X.base) I.ok.mod.kin S.T.kC (thn (ha.run pos pins s σ H _ I hyp) fun us s1 ⟨vs, H1, I1, r1, few, hl, hne, q1⟩ => ⟨I1.kIn, ?_⟩) he hpl
  refine EA.run_mk S.T S.ok hr S.kb I1 r1 few fun a na => ⟨a, vs, rfl, hl, upd_same, fun H2 gr en => ⟨rfl, .inl ?_⟩⟩
  rcases en with ⟨z, _⟩ | ⟨dx, ea, ed, nd⟩
  · exact (hne z).elim
  · have ne : dx ≠ a := fun e => by
      rw [e, upd_same] at nd
      cases nd
    have nd1 : H1 dx = none := by
      rw [upd_ne ne] at nd
      exact nd
    refine ⟨dx, _, ea, ed, nd1, q1 dx _ nd1 (fun b o hb => ?_) upd_same⟩
    have nba := ne_of_none hb na
    rw [upd_ne (ne_of_none hb nd1), del_ne nba]
    exact gr b o (by rw [upd_ne nba]; exact hb) nba
theorem ps_raiseN {X : Cx} {nm : Str} {fn : List Str} {p pos pos' : Pos} {e : Expr} {es : List Expr} {ta : TA} {W : WX} (hc : X.calm = true) (tk : Takes X W) (S : Err X.prog X.w X.K X.mg X.base nm fn) (hr : Room 2 X.A) (hg : Gl X nm) (ha : PA X (e :: es) ta)
    (hdb : (nm == ("__debug__" : Str)) = false := by decide) (he : starEach (e :: es) X.env = (false, eval e X.env) :: starEach es X.env := by rfl) (hpl : (backTo pos (starEach es X.env)).any (·.1) = false := by rfl) :
    PS X (.Raise (some (.Call (.Name nm p) (e :: es) [] pos)) none pos') (fun _ σ H => tNewR S.C fn ta σ H fun cls d H' => W cls d σ H') := ps_raise hc tk (pmk_new S hr hg ha hdb he hpl)
/-- e.f in the suite that caught it -/
def tByE (C : Addr) (a : Addr) (cls : Value) (d : Option Addr) (f : Str) (te : TE) : TE := fun σ H Q => te σ H fun x H1 => x = .ref a ∧ cls = .ref C ∧ ∃ (dd : Addr) (fs : List (Str × V)) (v : V), d = some dd ∧ H1 dd = some (.xd fs) ∧ fs.lookup f = some v ∧ Q v H1
theorem pe_byE {X : Cx} {C a : Addr} {oe : Obj} {cls : Value} {d : Option Addr} {pn : List (Addr × Obj)} {e : Expr} {te : TE} {pos : Pos} {f : Str} (T : ExcC X.K C) (no : PySem.W.findIn X.K (.ref C) f = some none) (hz : Zc cls d oe) (hf : ∃ vs, oe.data = .fields vs) (he : PE (X.suite a ((a, oe) :: pn)) e te)
    (hb : attributeBase e f X.env (eval e X.env) = eval e X.env := by rfl) :
    PE (X.suite a ((a, oe) :: pn)) (.Attribute e f pos) (tByE C a cls d f te) := by
  refine ⟨fun pins s σ H Q I h => ?_⟩
  refine attr_of hb (thn (he.run pins s σ H _ I h) fun u s1 hh => ?_)
  obtain ⟨x, H1, I1, rx, ex, ec, dd, fs, v, ed, ea, l, q⟩ := hh
  subst ex
  obtain rfl : u = Value.ref a := rx
  subst ec
  subst ed
  obtain ⟨ha, _⟩ := I1.pin (a, oe) (List.mem_append_left _ List.mem_cons_self)
  obtain ⟨vs, hd⟩ := hf
  have hx : ObjOk X.prog X.w H1 s1.heap dd (.xd fs) := I1.hok dd _ ea
  obtain ⟨mA, hns, hr⟩ := hx
  obtain ⟨od, ho, hl⟩ := lookIn_ns hns
  obtain ⟨u, hu, ru⟩ := RelO.some_of (v := v) (o := mA f) (by rw [← l]; exact hr f)
  have J : PySem.W.InstAt s1.heap a oe C (some od) := ⟨ha, hz.1, by unfold PySem.W.notCls; rw [hd] <;> rfl, by rw [hz.2]; exact ho⟩
  exact HandSPX.exc_get I1.kIn J T.hg T.hk T.hs (PySem.W.findObj_own T.hd no rfl (by rw [hl, hu])) (handed_of ru) ⟨v, H1, I1.tok _, ru, q⟩
/-- a def where the top has put it -/
def At (K : PySem.W.Frag) (x : Str) (st : Stmt) (f : Addr) : Prop :=
  PySem.W.nsIn K mainGlobals x = some (some (.ref f)) ∧ ∃ (od an : Option Addr) (sl : Array (Option Value)) (oc kV dc pm cd ct : Value),
    K.lookup f = some ⟨oc, od, .func (PySem.W.fnOf x x (defArgs st) (defBody st) (defScope st) .none kV dc pm an cd ct), sl⟩ ∧ PySem.W.codeIn K cd x = true ∧ PySem.W.keepIn K (.ref f) = true
theorem at_mk {K : PySem.W.Frag} {x : Str} {st : Stmt} {f : Addr} {od an : Option Addr} {sl : Array (Option Value)} {oc kV dc pm cd ct : Value} (a : PySem.W.nsIn K mainGlobals x = some (some (.ref f)))
    (l : K.lookup f = some ⟨oc, od, .func (PySem.W.fnOf x x (defArgs st) (defBody st) (defScope st) .none kV dc pm an cd ct), sl⟩) (c : PySem.W.codeIn K cd x = true) (k : PySem.W.keepIn K (.ref f) = true) : At K x st f := ⟨a, od, an, sl, oc, kV, dc, pm, cd, ct, l, c, k⟩
theorem At.fn {K : PySem.W.Frag} {x : Str} {st : Stmt} {f : Addr} (h : At K x st f) : ∃ fd, Fun K x x st f fd := by
  obtain ⟨_, od, an, sl, oc, kV, dc, pm, cd, ct, l, c, k⟩ := h
  exact ⟨_, fun_mk l c k⟩
/-- a class where the top has put it -/
def CAt (P : Program) (K : PySem.W.Frag) (nm ql : Str) (st : Stmt) (B newId initId : String) (bmB : List Value) (fn : List Str) (C fI : Addr) : Prop :=
  PySem.W.nsIn K mainGlobals nm = some (some (.ref C)) ∧ lookC K C fI B newId initId bmB fn = true ∧ ∃ fd, InitFn P K C fI ql (defArgs st) (defBody st) (defScope st) fd
theorem cat_mk {P : Program} {K : PySem.W.Frag} {nm ql : Str} {st : Stmt} {B newId initId : String} {bmB : List Value} {fn : List Str} {C fI cl cc : Addr} {od an od2 od3 : Option Addr} {sl sl2 sl3 : Array (Option Value)} {oc kV dc pm ct oc2 oc3 : Value} {fv : Array Value} {file : Str} {tf : Tok}
    (a : PySem.W.nsIn K mainGlobals nm = some (some (.ref C))) (i : PySem.W.findIn K (.ref C) "__init__" = some (some (.ref fI)))
    (l : K.lookup fI = some ⟨oc, od, .func (fnCl "__init__" ql (defArgs st) (defBody st) (defScope st) kV dc pm an (.ref cc) ct cl), sl⟩) (c : PySem.W.codeIn K (.ref cc) ql = true)
    (m : K.lookup cl = some ⟨oc2, od2, .cell (some (.ref C)), sl2⟩) (n : K.lookup cc = some ⟨oc3, od3, .fields fv, sl3⟩) (o : fv[2]? = some (.str file tf)) (p : ((P.main.file : Str) == file) = true) (top : (P.main.scope.names.lookup ("super" : Str)).isSome = false)
    (q : lookC K C fI B newId initId bmB fn = true) : CAt P K nm ql st B newId initId bmB fn C fI :=
  ⟨a, q, _, ⟨oc, kV, dc, pm, .ref cc, ct, od, an, sl, cl, cc, _, _, fv, file, tf, rfl, l, c, m, rfl, rfl, n, rfl, o, p⟩, top⟩
end EE

set_option maxHeartbeats 4000000
/-! errors without fields, calls with keywords that may raise, isinstance of an error that is kept, tuple times int -/
namespace QA
open PySem PySem.Spec PyProof.Rows L2 G3 G5 E2 E3 E4 E5 E7 E8 E9 EB EC EE
section
variable {X : Cx}
/-- an error's own dict, where there is one -/
def DictOf (H : Hp) (d : Option Addr) : Prop := d = none ∨ ∃ (dd : Addr) (fs : List (Str × V)), d = some dd ∧ H dd = some (.xd fs)
theorem pmk_new0 {nm : Str} {p pos : Pos} (S : Err X.prog X.w X.K X.mg X.base nm []) (hr : Room 2 X.A) (hg : Gl X nm) (hdb : (nm == ("__debug__" : Str)) = false := by decide) :
    PMk X (.Call (.Name nm p) [] [] pos) (fun _ H Q => ∀ (d : Option Addr) H', Same H H' → DictOf H' d → Q (.ref S.C) d H') := by
  intro pins s σ H Q I hyp
  refine wpAny_Call_Name_kw (ld_glob I hg S.g ?_ hdb)
  refine PySem.W.callWith_K0 I.kIn S.T.kC (EA.run_mk (us := []) (vs := []) S.T S.ok hr S.kb I .nil (by decide) fun a na => ⟨a, [], rfl, rfl, upd_same, fun H2 gr en => ⟨rfl, ?_⟩⟩)
  rcases en with ⟨_, ea⟩ | ⟨dx, ea, ed, nd⟩
  · refine .inr ⟨ea, hyp _ _ (fun b o hb => ?_) (.inl rfl)⟩
    have nba := ne_of_none hb na
    rw [del_ne nba]
    exact gr b o (by rw [upd_ne nba]; exact hb) nba
  · have ne : dx ≠ a := fun e => by
      rw [e, upd_same] at nd
      cases nd
    have nd1 : H dx = none := by
      rw [upd_ne ne] at nd
      exact nd
    refine .inl ⟨dx, _, ea, ed, nd1, hyp _ _ (fun b o hb => ?_) (.inr ⟨dx, _, rfl, upd_same⟩)⟩
    have nba := ne_of_none hb na
    rw [upd_ne (ne_of_none hb nd1), del_ne nba]
    exact gr b o (by rw [upd_ne nba]; exact hb) nba
theorem ps_raise0 {nm : Str} {p pos pos' : Pos} {W : WX} (hc : X.calm = true) (tk : Takes X W) (S : Err X.prog X.w X.K X.mg X.base nm []) (hr : Room 2 X.A) (hg : Gl X nm) (hdb : (nm == ("__debug__" : Str)) = false := by decide) :
    PS X (.Raise (some (.Call (.Name nm p) [] [] pos)) none pos') (fun _ σ H => ∀ (d : Option Addr) H', Same H H' → DictOf H' d → W (.ref S.C) d σ H') := ps_raise hc tk (pmk_new0 S hr hg hdb)
/-- isinstance(e, c), e an error that was caught and kept -/
def rIsKept (K : PySem.W.Frag) : List V → Hp → VK → Prop := fun xs H Q => ∃ (a C : Addr) (d : Option Addr) (c : V) (u : Value) (b : Bool), xs = [.ref a, c] ∧ H a = some (exk a (.ref C) d) ∧ DictOf H d ∧ ExcC K C ∧ ClsV c u ∧ PySem.W.kitOne K (.ref C) u = some b ∧ Q (.bl b) H
theorem call_isKept : CallR X (.builtin "isinstance") (rIsKept X.K) := by
  intro pins s σ H xs us Q I r hyp
  obtain ⟨a, C, d, c, u, b, rfl, ea, dd, T, cv, e, q⟩ := hyp
  cases r with
  | cons rx rr =>
    cases rr with
    | cons rt rr =>
      cases rr
      cases rx
      have ec := cv.eq rt
      subst ec
      have hcl : (PySem.W.clsIn X.K C).isSome = true := by
        obtain ⟨cd, hc, _⟩ := PySem.W.any_some T.hd
        rw [hc]
        rfl
      obtain ⟨oe, vs, at0, z0, dt⟩ := exk_at I.hok ea
      have fin : ∀ {od : Option Obj}, PySem.W.InstAt s.heap a oe C od → wpAny (model X.prog X.w) X.A (call (.builtin "isinstance") [.ref a, _]) (EP X pins σ Q) X.xe s := fun {od} J =>
        PySem.W.kia_one (PySem.W.kitx_exc hcl T.hg T.hk T.hs T.ha T.hn T.ht T.hm) I.kIn J e (fun z => nomatch z) fun tk => ⟨.bl b, H, I.kept (t' := tk) fun _ _ z => z, rfl, q⟩
      rcases dd with rfl | ⟨dd, fs, rfl, ed⟩
      · exact fin (od := none) ⟨at0, z0.1, by unfold PySem.W.notCls; rw [dt] <;> rfl, by rw [z0.2]; trivial⟩
      · obtain ⟨mA, nsD, rel⟩ := (show ObjOk X.prog X.w H s.heap dd (.xd fs) from I.hok dd _ ed)
        obtain ⟨od, ho, hl⟩ := lookIn_ns nsD
        exact fin (od := some od) ⟨at0, z0.1, by unfold PySem.W.notCls; rw [dt] <;> rfl, by rw [z0.2]; exact ho⟩
/-- f(e, .., k = v, ..) that may raise, wished for at the caller's slots -/
def tCallKS (sp : Sp) (gV : List V → List V → List V) (E : L2.St → XK) (t tk : TA) : TE := fun σ H Q => t σ H fun vs H1 => tk σ H1 fun zs H2 => sp (gV vs zs) H2 Q (E σ)
theorem pe_callKS {CX : CXT} {k : Nat} {f : Addr} {fd : FuncData} {ps ks : List Str} {sp : Sp} {E : L2.St → XK} {x : Str} {p pos : Pos} {e : Expr} {es : List Expr} {kws : List Keyword} {t tk : TA} {g : List Value → List Value → List Value} {gV : List V → List V → List V}
    (F : FnOk X.prog X.w X.K X.mg X.base CX k f fd ps sp) (hr : Room k X.A) (hg : Gl X x) (hm : X.mg x = some (.ref f)) (hk : PySem.W.keepIn X.K (.ref f) = true) (hb : KBinds X.K fd ps ks g gV) (hx : ∀ σ, PassesAt CX X σ (E σ))
    (ha : PA X (e :: es) t) (hkw : PK X kws tk) (hall : (backToKw pos (keywordEach kws X.env)).all (·.1.isSome) = true := by rfl) (hks : (backToKw pos (keywordEach kws X.env)).filterMap (·.1) = ks := by rfl)
    (hdb : (x == ("__debug__" : Str)) = false := by decide) (he : starEach (e :: es) X.env = (false, eval e X.env) :: starEach es X.env := by rfl)
    (hpl : ((backTo pos (starEach (e :: es) X.env)).any (·.1) || (backToKw pos (keywordEach kws X.env)).any (·.1.isNone)) = false := by rfl) :
    PE X (.Call (.Name x p) (e :: es) kws pos) (tCallKS sp gV E t tk) := by
  refine ⟨fun pins s σ H Q I h => ?_⟩
  refine wpAny_Call_Name_kw (ld_glob I hg hm ?_ hdb)
  refine PySem.W.callWith_KW (h₀ := X.base) I.ok.mod.kin hk hall (thn (ha.run pos pins s σ H _ I h) fun us s1 ⟨vs, H1, I1, r, q⟩ => ?_) hpl he
  refine thn (hkw.run pos pins s1 σ H1 _ I1 q) fun ws s2 ⟨zs, H2, I2, rz, q2⟩ => ⟨I2.kIn, ?_⟩
  rw [hks]
  have r2 := hb.rel r rz
  have hl : (g us ws).length = ps.length := by rw [← r2.length]; exact F.len _ _ _ _ q2
  refine wpAny_call (codeAny_mono (F.run X.A X.stack s2 H2 ⟨us, ks.zip ws⟩ (g us ws) (gV vs zs) Q (E σ) hr I2.env0 (hb.to s2 us ws I2.kIn hl) r2 q2) fun r s' hq => ?_)
  cases r with
  | error e => exact hx σ pins H2 s2 e s' I2 hq
  | ok fl =>
    cases fl with
    | ret u => exact I2.after hq
    | next => exact False.elim hq
    | brk => exact False.elim hq
    | cont => exact False.elim hq
/-- two promises of one def -/
theorem fn_or {P : Program} {w : World} {K : PySem.W.Frag} {mg : Str → Option Value} {base : Heap} {CX : CXT} {k : Nat} {f : Addr} {fd : FuncData} {ps : List Str} {sp sp2 : Sp} (F : FnOk P w K mg base CX k f fd ps sp) (G : FnOk P w K mg base CX k f fd ps sp2) : FnOk P w K mg base CX k f fd ps (fun vs H Q E => sp vs H Q E ∨ sp2 vs H Q E) :=
  ⟨fun vs H Q E h => h.elim (F.len vs H Q E) (G.len vs H Q E), fun A outer s H args us vs Q E hr e0 b r h => h.elim (F.run A outer s H args us vs Q E hr e0 b r) (G.run A outer s H args us vs Q E hr e0 b r)⟩
theorem op_or {f : Value → Value → Sem Value} {r1 r2 : R2} (h1 : OpR X f r1) (h2 : OpR X f r2) : OpR X f (fun x y H Q => r1 x y H Q ∨ r2 x y H Q) := by
  intro pins s σ H x y v u Q I rx ry h
  exact h.elim (h1 pins s σ H x y v u Q I rx ry) (h2 pins s σ H x y v u Q I rx ry)
theorem op_repA : OpR X (binaryOp .Mult) (fun x y H Q => TM.rRep01 X.K x y H Q ∨ rRepT X.K x y H Q) := op_or TM.op_rep01 op_repT
theorem rep_any {K : PySem.W.Frag} {G : Hp} {t : Addr} {x : V} {n : Nat} {T : VK} (h : SqT K G t [x]) (n1 : 1 ≤ n) (n2 : n ≤ 1000) (go : ∀ ot G', SqT K G' ot (List.replicate n x) → Same G G' → T (.ref ot) G') : TM.rRep01 K (.ref t) (.int n) G T ∨ rRepT K (.ref t) (.int n) G T := by
  by_cases e : n = 1
  · subst e
    exact .inl ⟨t, _, _, rfl, rfl, h, by simp, .inl ⟨rfl, go t G h (Same.refl G)⟩⟩
  · refine .inr ⟨t, n, _, rfl, rfl, h, by simp, by omega, by omega, by simp, fun p np => ?_⟩
    have e2 : (List.replicate ((n : Nat) : Int).toNat [x]).flatten = List.replicate n x := by
      rw [Int.toNat_natCast, List.flatten_replicate_singleton]
    rw [e2]
    exact go p _ (SqT.of upd_same) (same_new np)
end
section
variable {X : Cx}
theorem call_reprBl : CallR X (.builtin "repr") (fun xs H Q => ∃ b, xs = [.bl b] ∧ Q (.str (if b then "True" else "False")) H) := by
  intro pins s σ H xs us Q I rel hyp
  obtain ⟨b, rfl, fin⟩ := hyp
  obtain ⟨u, rfl, ru⟩ := vals1 rel
  cases ru
  exact PySem.P.repr_of_bool ⟨.str _, H, I.tok _, ⟨_, rfl⟩, fin⟩
end
/-! how keywords come to parameters -/
def g21 {α : Type} : List α → List α → List α
  | [a, b], [c] => [a, b, c]
  | _, _ => []
def gS2 {α : Type} : List α → List α → List α
  | [], [c, d] => [c, d]
  | _, _ => []
def gR2 {α : Type} : List α → List α → List α
  | [], [c, d] => [d, c]
  | _, _ => []
def gR3 {α : Type} : List α → List α → List α
  | [], [c, d, e] => [e, d, c]
  | _, _ => []
theorem g21_rel {vs zs : List V} {us ws : List Value} (r : Vals vs us) (rz : Vals zs ws) : Vals (g21 vs zs) (g21 us ws) := by
  match vs, us, r, zs, ws, rz with
  | _, _, .cons r1 (.cons r2 .nil), _, _, .cons r3 .nil => exact .cons r1 (.cons r2 (.cons r3 .nil))
  | _, _, .nil, _, _, _ => exact .nil
  | _, _, .cons _ .nil, _, _, _ => exact .nil
  | _, _, .cons _ (.cons _ (.cons _ _)), _, _, _ => exact .nil
  | _, _, .cons _ (.cons _ .nil), _, _, .nil => exact .nil
  | _, _, .cons _ (.cons _ .nil), _, _, .cons _ (.cons _ _) => exact .nil
theorem gS2_rel {vs zs : List V} {us ws : List Value} (r : Vals vs us) (rz : Vals zs ws) : Vals (gS2 vs zs) (gS2 us ws) := by
  match vs, us, r, zs, ws, rz with
  | _, _, .nil, _, _, .cons r1 (.cons r2 .nil) => exact .cons r1 (.cons r2 .nil)
  | _, _, .cons _ _, _, _, _ => exact .nil
  | _, _, .nil, _, _, .nil => exact .nil
  | _, _, .nil, _, _, .cons _ .nil => exact .nil
  | _, _, .nil, _, _, .cons _ (.cons _ (.cons _ _)) => exact .nil
theorem gR2_rel {vs zs : List V} {us ws : List Value} (r : Vals vs us) (rz : Vals zs ws) : Vals (gR2 vs zs) (gR2 us ws) := by
  match vs, us, r, zs, ws, rz with
  | _, _, .nil, _, _, .cons r1 (.cons r2 .nil) => exact .cons r2 (.cons r1 .nil)
  | _, _, .cons _ _, _, _, _ => exact .nil
  | _, _, .nil, _, _, .nil => exact .nil
  | _, _, .nil, _, _, .cons _ .nil => exact .nil
  | _, _, .nil, _, _, .cons _ (.cons _ (.cons _ _)) => exact .nil
theorem gR3_rel {vs zs : List V} {us ws : List Value} (r : Vals vs us) (rz : Vals zs ws) : Vals (gR3 vs zs) (gR3 us ws) := by
  match vs, us, r, zs, ws, rz with
  | _, _, .nil, _, _, .cons r1 (.cons r2 (.cons r3 .nil)) => exact .cons r3 (.cons r2 (.cons r1 .nil))
  | _, _, .cons _ _, _, _, _ => exact .nil
  | _, _, .nil, _, _, .nil => exact .nil
  | _, _, .nil, _, _, .cons _ .nil => exact .nil
  | _, _, .nil, _, _, .cons _ (.cons _ .nil) => exact .nil
  | _, _, .nil, _, _, .cons _ (.cons _ (.cons _ (.cons _ _))) => exact .nil
theorem g21_len {α : Type} {us ws : List α} (h : (g21 us ws).length = 3) : ∃ a b c, us = [a, b] ∧ ws = [c] := by
  unfold g21 at h
  split at h
  · exact ⟨_, _, _, rfl, rfl⟩
  · simp at h
theorem gS2_len {α : Type} {us ws : List α} (h : (gS2 us ws).length = 2) : ∃ c d, us = [] ∧ ws = [c, d] := by
  unfold gS2 at h
  split at h
  · exact ⟨_, _, rfl, rfl⟩
  · simp at h
theorem gR2_len {α : Type} {us ws : List α} (h : (gR2 us ws).length = 2) : ∃ c d, us = [] ∧ ws = [c, d] := by
  unfold gR2 at h
  split at h
  · exact ⟨_, _, rfl, rfl⟩
  · simp at h
theorem gR3_len {α : Type} {us ws : List α} (h : (gR3 us ws).length = 3) : ∃ c d e, us = [] ∧ ws = [c, d, e] := by
  unfold gR3 at h
  split at h
  · exact ⟨_, _, _, rfl, rfl⟩
  · simp at h
end QA

set_option maxHeartbeats 4000000
namespace MM
open PySem PySem.Spec PyProof.Rows L2 G3 M0 LP S2
theorem ct_self (c : Ct) : PyData.eqv (ctD c) (ctD c) = true := by rw [ct_eqv]; exact decide_eq_true rfl
theorem cts_self (cs : List Ct) : PyData.eqv (.list (cs.map ctD)) (.list (cs.map ctD)) = true := by
  have key : ∀ cs : List Ct, PyData.eqvAll (cs.map ctD) (cs.map ctD) = true := fun cs => by
    induction cs with
    | nil => simp [PyData.eqvAll]
    | cons c cs ih => simp only [List.map_cons, PyData.eqvAll, ct_self, ih, Bool.and_self]
  simp only [PyData.eqv, key]
theorem pile_self (l : List Pn) : PyData.eqv (pileD l) (pileD l) = true := by
  have key : ∀ l : List Pn, PyData.eqvAll (l.map pnD) (l.map pnD) = true := fun l => by
    induction l with
    | nil => simp [PyData.eqvAll]
    | cons p l ih =>
      simp only [List.map_cons, PyData.eqvAll, ih, pn_eqv]
      simp
  unfold pileD
  simp only [PyData.eqv, key]
theorem pile_shaped (l : List Pn) : SeqAt.shaped (pileD l) = true := by
  have a1 : ∀ l : List Pn, PyData.canLayAll0 (l.map pnD) = true := fun l => by
    induction l with
    | nil => simp [PyData.canLayAll0]
    | cons a l ih => simp only [List.map_cons, PyData.canLayAll0, ih, Bool.and_true]; rfl
  have := pile_depth l
  unfold SeqAt.shaped
  rw [Bool.and_eq_true]
  refine ⟨?_, decide_eq_true (by omega)⟩
  unfold pileD
  simp only [PyData.canLay0, a1]
theorem cts_shaped (cs : List Ct) : SeqAt.shaped (.list (cs.map ctD)) = true := by
  have d1 : ∀ c : Ct, (ctD c).depth ≤ 1 := fun c => by
    have e2 : ∀ l : List Int, PyData.depthAll (l.map .int) = 0 := fun l => by
      induction l with
      | nil => simp [PyData.depthAll]
      | cons a l ih => simp only [List.map_cons, PyData.depthAll, PyData.depth, ih]; rfl
    unfold ctD
    simp only [PyData.depth, e2]
    omega
  have l1 : ∀ c : Ct, (ctD c).canLay0 = true := fun c => by
    have := ct_shaped (c := c)
    unfold SeqAt.shaped at this
    exact (Bool.and_eq_true _ _ ▸ this).1
  have a2 : ∀ ls : List Ct, PyData.canLayAll0 (ls.map ctD) = true := fun ls => by
    induction ls with
    | nil => simp [PyData.canLayAll0]
    | cons l ls ih => simp only [List.map_cons, PyData.canLayAll0, ih, l1, Bool.and_self]
  have a3 : ∀ ls : List Ct, PyData.depthAll (ls.map ctD) ≤ 1 := fun ls => by
    induction ls with
    | nil => simp [PyData.depthAll]
    | cons l ls ih =>
      simp only [List.map_cons, PyData.depthAll]
      have := d1 l
      omega
  unfold SeqAt.shaped
  simp only [PyData.canLay0, a2, PyData.depth, Bool.true_and]
  have := a3 cs
  exact decide_eq_true (by omega)
theorem ctls_one {wb : Web} {cs ds : List Ct} (h1 : Rises (cs.map ckey)) (h2 : ∀ c, c ∈ cs ↔ ∃ l, Acc wb c l) (k1 : Rises (ds.map ckey)) (k2 : ∀ c, c ∈ ds ↔ ∃ l, Acc wb c l) : cs = ds := by
  have e := rises_one h1 k1 fun k => by
    rw [List.mem_map, List.mem_map]
    constructor
    · rintro ⟨c, hc, rfl⟩
      exact ⟨c, (k2 c).mpr ((h2 c).mp hc), rfl⟩
    · rintro ⟨c, hc, rfl⟩
      exact ⟨c, (h2 c).mpr ((k2 c).mp hc), rfl⟩
  have := congrArg (List.map unkey) e
  rw [List.map_map, List.map_map] at this
  have id1 : ∀ l : List Ct, l.map (unkey ∘ ckey) = l := fun l => (List.map_congr_left fun c _ => unkey_c c).trans (List.map_id l)
  rwa [id1, id1] at this
def gS1 {α : Type} : List α → List α → List α
  | [], [c] => [c]
  | _, _ => []
abbrev nRt : List Str := ["_law_web", "_law_controls_here", "_law_points", "_law_mode", "_law_heap", "_law_due", "_law_turn", "_law_found"]
theorem scRt : FnScope nRt ["_law_web", "_law_controls_here"] (defScope s_law_right) := ⟨rfl, rfl, rfl, by decide +kernel, rfl, by decide +kernel, by decide +kernel⟩
section
variable {P : Program} {w : World} {K : PySem.W.Frag} {mg : Str → Option Value} {base : Heap}
def spRt (K : PySem.W.Frag) : Sp := fun vs H Q _ => ∃ (m : V) (c : Addr) (wb : Web) (us : List V) (cs : List Ct), vs = [m, .ref c] ∧ Dp K H m (webD wb) ∧ WebOk wb ∧ wb.2.1.length ≤ 11 ∧ H c = some (.lst us) ∧ DpAll K H us (cs.map ctD) ∧ ∀ H', Same H H' → Q (.bl true) H'
set_option maxHeartbeats 32000000 in
theorem ok_rt {f : Addr} {fd : FuncData} {k : Nat} (F : Fun K "_law_right" "_law_right" s_law_right f fd) (DP : Def P w K mg base CX0 (k + 1 + 1 + 1) "_law_piles" ["_law_points", "_law_most"] (spPl K)) (DR : Def P w K mg base CX0 (k + 1 + 1 + 1) "reads" ["machine", "control", "pile"] (spReads K)) (DQ : Def P w K mg base CX0 (k + 1 + 1 + 1) "_law_reads" ["_law_web", "_law_mode", "_law_heap"] (spLr K))
    (DL : Def P w K mg base CX0 (k + 1 + 1 + 1) "least_pile" ["machine", "control"] (spLp K)) (DM : Def P w K mg base CX0 (k + 1 + 1 + 1) "_law_least" ["_law_web", "_law_mode"] (spLs K)) (DC : Def P w K mg base CX0 (k + 1 + 1 + 1) "_law_controls" ["_law_web"] (spCtOf K)) (DO : Def P w K mg base CX0 (k + 1 + 1 + 1) "controls_of" ["machine"] (spCtOf K)) (kO : KBinds K DO.d ["machine"] ["machine"] gS1 gS1)
    (m_range : mg "range" = none) (m_repr : mg "repr" = none) : FnOk P w K mg base CX0 (k + 1 + 1 + 1 + 1) f fd ["_law_web", "_law_controls_here"] (spRt K) := by
  refine F.ok scRt (fun vs H Q E h => ?_) (fun cdv A outer s H vs Q E hr h => ?_)
  · obtain ⟨m, c, wb, us, cs, rfl, _⟩ := h
    rfl
  obtain ⟨m, c, wb, us, cs, rfl, hm, ok, e11, hc, hcd, q⟩ := h
  have nd := scRt.nd
  have hu := hu_of hr
  refine ⟨_, (pss_cons (ps_set (i := 2) nd rfl (.inl rfl) (pe_lst (pa_cons (pe_tup (pa_cons pe_int (pa_cons pe_int pa_nil))) (pa_cons (pe_tup (pa_cons pe_int (pa_cons pe_int pa_nil))) (pa_cons (pe_tup (pa_cons pe_int (pa_cons pe_int pa_nil))) pa_nil)))))
    (pss_cons (ps_for PassesOwn.never rfl (pi_list (pv 1)) (pg_name (i := 3) nd rfl (.inl rfl))
      (pss_cons (ps_for PassesOwn.never rfl (pi_list (pe_call DP.ok hr (by rfl) DP.g DP.kp DP.b .nil pass0 (pa_cons (pv 2) (pa_cons pe_int pa_nil)))) (pg_name (i := 4) nd rfl (.inl rfl))
      (pss_one (ps_if (pt_cmpR op_ne (pe_callB QA.call_reprBl (by rfl) m_repr (by decide +kernel) (pa_cons (pe_call DR.ok hr (by rfl) DR.g DR.kp DR.b .nil pass0 (pa_cons (pv 0) (pa_cons (pv 3) (pa_cons (pv 4) pa_nil)))) pa_nil)) (pe_callB QA.call_reprBl (by rfl) m_repr (by decide +kernel) (pa_cons (pe_call DQ.ok hr (by rfl) DQ.g DQ.kp DQ.b .nil pass0 (pa_cons (pv 0) (pa_cons (pv 3) (pa_cons (pv 4) pa_nil)))) pa_nil)) (nomark _)) (pss_one (ps_ret pe_bl)) pss_nil)))
    (pss_one (ps_if (pt_cmpR (op_neD hr.units) (pe_call DL.ok hr (by rfl) DL.g DL.kp DL.b .nil pass0 (pa_cons (pv 0) (pa_cons (pv 3) pa_nil))) (pe_call DM.ok hr (by rfl) DM.g DM.kp DM.b .nil pass0 (pa_cons (pv 0) (pa_cons (pv 3) pa_nil))) (nomark _)) (pss_one (ps_ret pe_bl)) pss_nil))))
    (pss_cons (ps_set (i := 5) nd rfl (.inl rfl) (pe_call DC.ok hr (by rfl) DC.g DC.kp DC.b .nil pass0 (pa_cons (pv 0) pa_nil)))
    (pss_cons (ps_for PassesOwn.never rfl (pi_range1 (by rfl) m_range (pa_cons pe_int pa_nil)) (pg_name (i := 6) nd rfl (.inl rfl))
      (pss_cons (ps_set (i := 7) nd rfl (.inl rfl) (pe_named DO.ok hr (by rfl) DO.g DO.kp kO pass0 (pk_cons (pv 0) pk_nil)))
    (pss_cons (ps_if (pt_cmpR (op_neD hr.units) (pv 7) (pv 5) (nomark _)) (pss_one (ps_ret pe_bl)) pss_nil)
    (pss_one (ps_expr (pe_bm PySem.F.plainAttrs_list PySem.F.slot_list_append PySem.F.type_list_append mt_append (pv 7) (pa_cons pe_non pa_nil)))))))
    (pss_one (ps_ret pe_bl)))))), ?_⟩
  have ct_len : ∀ cs : List Ct, Rises (cs.map ckey) → (∀ c, c ∈ cs ↔ ∃ l, Acc wb c l) → cs.length ≤ 30 := fun cs r h => by
    have nd1 : cs.Nodup := (List.pairwise_map.mp (rises_once r)).imp fun {a b} n e => n (by rw [e])
    have := S2.nd_len (U := wb.1.map (·.1)) nd1 fun c hc => by
      obtain ⟨l, e, he, s, hs, _⟩ := (h c).mp hc
      exact List.mem_map.mpr ⟨_, hs, rfl⟩
    rw [List.length_map] at this
    have := ok.b
    omega
  refine ⟨lz2, fun t1 n1 => ?_⟩
  have s1 : Same H (upd H t1 (.tup [.int 0, .int 0])) := same_new n1
  have h1 : (upd H t1 (.tup [.int 0, .int 0])) t1 = some (.tup [.int 0, .int 0]) := upd_same
  generalize upd H t1 (.tup [.int 0, .int 0]) = G1 at s1 h1 ⊢
  refine ⟨lz2, fun t2 n2 => ?_⟩
  have s2 : Same G1 (upd G1 t2 (.tup [.int 0, .int 1])) := same_new n2
  have h2 : (upd G1 t2 (.tup [.int 0, .int 1])) t2 = some (.tup [.int 0, .int 1]) := upd_same
  generalize upd G1 t2 (.tup [.int 0, .int 1]) = G2 at s2 h2 ⊢
  refine ⟨lz2, fun t3 n3 => ?_⟩
  have s3 : Same G2 (upd G2 t3 (.tup [.int 1, .int 0])) := same_new n3
  have h3 : (upd G2 t3 (.tup [.int 1, .int 0])) t3 = some (.tup [.int 1, .int 0]) := upd_same
  generalize upd G2 t3 (.tup [.int 1, .int 0]) = G3 at s3 h3 ⊢
  refine ⟨lz3, fun lp n4 => ?_⟩
  have s4 : Same G3 (upd G3 lp (.lst [.ref t1, .ref t2, .ref t3])) := same_new n4
  have h4 : (upd G3 lp (.lst [.ref t1, .ref t2, .ref t3])) lp = some (.lst [.ref t1, .ref t2, .ref t3]) := upd_same
  generalize upd G3 lp (.lst [.ref t1, .ref t2, .ref t3]) = G4 at s4 h4 ⊢
  have sA : Same H G4 := s1.trans (s2.trans (s3.trans s4))
  have pd : DpAll K G4 [.ref t1, .ref t2, .ref t3] (([(0, 0), (0, 1), (1, 0)] : List Pn).map pnD) :=
    .cons (.tup (SqT.of (s4 _ _ (s3 _ _ (s2 _ _ h1)))) (.cons (.int 0) (.cons (.int 0) .nil))) (.cons (.tup (SqT.of (s4 _ _ (s3 _ _ h2))) (.cons (.int 0) (.cons (.int 1) .nil))) (.cons (.tup (SqT.of (s4 _ _ h3)) (.cons (.int 1) (.cons (.int 0) .nil))) .nil))
  clear h1 h2 h3 s1 s2 s3 s4 n1 n2 n3 n4
  have hm4 := dp_same sA _ _ hm
  have hc4 := sA _ _ hc
  have hcd4 := dpAll_same sA _ _ hcd
  refine ⟨_, rfl, c, rfl, ⟨_, SqL.of hc4⟩, for_list (xs := us) (fun i σ G => ∃ y3 y4 y5 y6 y7, σ = [some m, some (.ref c), some (.ref lp), y3, y4, y5, y6, y7] ∧ Same G4 G) ⟨_, _, _, _, _, rfl, Same.refl _⟩ (fun i σ G _ hP => ?_) (fun i x σ G hx hP => ?_) (fun σ G hP => ?_)⟩
  · obtain ⟨_, _, _, _, _, _, sG⟩ := hP
    exact SqL.of (sG _ _ hc4)
  · obtain ⟨y3, y4, y5, y6, y7, rfl, sG⟩ := hP
    obtain ⟨dd, hdd, hxd⟩ := dpAll_get hcd4 hx
    rw [List.getElem?_map] at hdd
    obtain ⟨c1, hc1, rfl⟩ := Option.map_eq_some_iff.mp hdd
    refine ⟨_, rfl, lp, _, [(0, 0), (0, 1), (1, 0)], rfl, sG _ _ h4, dpAll_same sG _ _ pd, rfl, fun G5 L xs s5 nL hL hxs => ?_⟩
    have sG5 := sG.trans s5
    have xl := dpAll_len hxs
    refine ⟨L, rfl, ⟨_, SqL.of hL⟩, for_list (xs := xs) (fun j σ G => ∃ y4 y5 y6 y7, σ = [some m, some (.ref c), some (.ref lp), some x, y4, y5, y6, y7] ∧ Same G5 G) ⟨_, _, _, _, rfl, Same.refl _⟩ (fun j σ G6 _ hP => ?_) (fun j y σ G6 hy hP => ?_) (fun σ G6 hP => ?_)⟩
    · obtain ⟨_, _, _, _, _, sG6⟩ := hP
      exact SqL.of (sG6 _ _ hL)
    · obtain ⟨y4, y5, y6, y7, rfl, s6⟩ := hP
      obtain ⟨d2, hd2, hyd⟩ := dpAll_get hxs hy
      rw [List.getElem?_map] at hd2
      obtain ⟨l, hl, rfl⟩ := Option.map_eq_some_iff.mp hd2
      have ll : l.length ≤ 3 := piles_each (List.mem_of_getElem? hl)
      have sG6 := sG5.trans s6
      refine ⟨_, rfl, _, rfl, _, rfl, m, x, y, wb, c1, l, rfl, dp_same sG6 _ _ hm4, ok, dp_same sG6 _ _ hxd, dp_same s6 _ _ hyd, by omega, fun G7 b1 s7 hb1 => ⟨b1, rfl, ?_⟩⟩
      have sG7 := sG6.trans s7
      refine ⟨_, rfl, _, rfl, _, rfl, m, x, y, wb, c1, l, rfl, dp_same sG7 _ _ hm4, ok, dp_same sG7 _ _ hxd, dp_same (s6.trans s7) _ _ hyd, by omega, fun G8 b2 s8 hb2 => ⟨b2, rfl, ?_⟩⟩
      have eb : b1 = b2 := Bool.eq_iff_iff.mpr (hb1.trans hb2.symm)
      subst eb
      refine ⟨rfl, _, rfl, ?_⟩
      rw [decide_eq_true rfl]
      exact iteF ⟨_, _, _, _, rfl, (s6.trans s7).trans s8⟩
    · obtain ⟨y4, y5, y6, y7, rfl, s6⟩ := hP
      have sG6 := sG5.trans s6
      by_cases hn : ∃ l, Acc wb c1 l
      · refine ⟨_, rfl, _, rfl, m, x, wb, c1, rfl, dp_same sG6 _ _ hm4, ok, dp_same sG6 _ _ hxd, fun z => (absurd hn fun ⟨l, hl⟩ => z l hl), fun l hl G7 v s7 hv => ?_⟩
        have sG7 := sG6.trans s7
        refine ⟨_, rfl, _, rfl, m, x, wb, c1, rfl, dp_same sG7 _ _ hm4, ok, e11, dp_same sG7 _ _ hxd, fun z => (absurd hn fun ⟨l, hl⟩ => z l hl), fun l2 hl2 G8 v2 s8 hv2 => ?_⟩
        have el : l = l2 := Option.some.inj (least_one (a := some l) (b := some l2) hl hl2)
        subst el
        refine ⟨pileD l, pileD l, dp_same s8 _ _ hv, hv2, pile_shaped l, pile_shaped l, _, rfl, ?_⟩
        rw [pile_self]
        exact iteF ⟨_, _, _, _, _, rfl, sG7.trans s8⟩
      · have hn' : ∀ l, ¬ Acc wb c1 l := fun l hl => hn ⟨l, hl⟩
        refine ⟨_, rfl, _, rfl, m, x, wb, c1, rfl, dp_same sG6 _ _ hm4, ok, dp_same sG6 _ _ hxd, fun _ G7 s7 => ?_, fun l hl => absurd hl.1 (hn' l)⟩
        have sG7 := sG6.trans s7
        refine ⟨_, rfl, _, rfl, m, x, wb, c1, rfl, dp_same sG7 _ _ hm4, ok, e11, dp_same sG7 _ _ hxd, fun _ G8 s8 => ?_, fun l hl => absurd hl.1 (hn' l)⟩
        refine ⟨.none, .none, .non, .non, by decide, by decide, _, rfl, ?_⟩
        rw [show PyData.eqv .none .none = true by simp [PyData.eqv]]
        exact iteF ⟨_, _, _, _, _, rfl, sG7.trans s8⟩
  · obtain ⟨y3, y4, y5, y6, y7, rfl, sG⟩ := hP
    refine ⟨_, rfl, m, wb, rfl, dp_same sG _ _ hm4, ok, fun G5 p us1 cs1 s5 np hp hd1 ri1 mem1 => ?_⟩
    have sG5 := sG.trans s5
    have hd1' := dpAll_same s5 _ _ hd1
    refine ⟨2, rfl, by decide, by decide, for_range (n := 2) (fun i σ G => ∃ y6 y7, σ = [some m, some (.ref c), some (.ref lp), y3, y4, some (.ref p), y6, y7] ∧ Same G5 G) ⟨_, _, rfl, Same.refl _⟩ (fun i σ G6 hi hP => ?_) (fun σ G6 hP => ?_)⟩
    · obtain ⟨y6, y7, rfl, s6⟩ := hP
      have sG6 := sG5.trans s6
      refine ⟨_, rfl, m, wb, rfl, dp_same sG6 _ _ hm4, ok, fun G7 p2 us2 cs2 s7 np2 hp2 hd2 ri2 mem2 => ?_⟩
      have ec : cs1 = cs2 := ctls_one ri1 mem1 ri2 mem2
      subst ec
      have l2 : us2.length ≤ 30 := by
        rw [dpAll_len hd2, List.length_map]
        exact ct_len _ ri2 mem2
      refine ⟨_, rfl, _, rfl, .list (cs1.map ctD), .list (cs1.map ctD), .lst (SqL.of hp2) (dpAll_same s7 _ _ hd2), .lst (SqL.of ((s6.trans s7) _ _ hp)) (dpAll_same (s6.trans s7) _ _ hd1'), cts_shaped _, cts_shaped _, _, rfl, ?_⟩
      rw [cts_self]
      refine iteF ?_
      exact ⟨_, rfl, .inl ⟨rfl, _, SqL.of hp2⟩, p2, _, _, rfl, rfl, hp2, LC.small_line (by omega), _, _, rfl, same_put (s6.trans s7) (same_none s6 np2)⟩
    · obtain ⟨y6, y7, rfl, s6⟩ := hP
      exact q _ (sA.trans (sG5.trans s6))
end
end MM

set_option maxHeartbeats 4000000
namespace MM
open PySem PySem.Spec PyProof.Rows L2 G1 G3 M0 LP S2 QA
abbrev nLaw : List Str := ["_law_script", "_law_controls_here", "_law_k", "_law_pool_here", "_law_heap", "_law_turn", "_law_line_here"]
theorem scLaw : FnScope nLaw ["_law_script"] (defScope s_law) := ⟨rfl, rfl, rfl, by decide +kernel, rfl, by decide +kernel, by decide +kernel⟩
theorem gS1_rel {vs zs : List V} {us ws : List Value} (r : Vals vs us) (rz : Vals zs ws) : Vals (gS1 vs zs) (gS1 us ws) := by
  match vs, us, r, zs, ws, rz with
  | _, _, .nil, _, _, .cons r1 .nil => exact .cons r1 .nil
  | _, _, .cons _ _, _, _, _ => exact .nil
  | _, _, .nil, _, _, .nil => exact .nil
  | _, _, .nil, _, _, .cons _ (.cons _ _) => exact .nil
theorem gS1_len {α : Type} {us ws : List α} (h : (gS1 us ws).length = 1) : ∃ c, us = [] ∧ ws = [c] := by
  unfold gS1 at h
  split at h
  · exact ⟨_, rfl, rfl⟩
  · simp at h
theorem lz4 : 4 ≤ sizeLine := by decide
theorem pool_same {H H' : Hp} {p : Addr} (h : Pool H p) (s : Same H H') : Pool H' p := by
  obtain ⟨x, y, e, r⟩ := h
  exact ⟨x, y, s _ _ e, r⟩
theorem off_same {H H' : Hp} {p : Addr} (s : Same H H') : Same (M0.off p H) (M0.off p H') := off_mono s
theorem menu_dp {K : PySem.W.Frag} {H : Hp} : ∀ cs : List Tp, (∀ x ∈ cs, SqT K H x.1 (x.2.map V.int)) → DpAll K H (cs.map fun x => V.ref x.1) ((cs.map (·.2)).map ctD)
  | [], _ => .nil
  | x :: cs, h => .cons (.tup (h x List.mem_cons_self) (of_ints x.2)) (menu_dp cs fun y hy => h y (List.mem_cons_of_mem _ hy))
section
variable {P : Program} {w : World} {K : PySem.W.Frag} {mg : Str → Option Value} {base : Heap}
structure Facts (P : Program) (w : World) (K : PySem.W.Frag) (mg : Str → Option Value) (base : Heap) where
  dO : Def P w K mg base CX0 22 "_law_pool" ["_law_script", "_law_k"] (spPool K)
  dT : Def P w K mg base CX0 22 "_law_take" ["_law_pool_here", "_law_many"] spTake
  dM : Def P w K mg base CX0 22 "_law_machine" ["_law_pool_here", "_law_controls_here"] (spMake K)
  dR : Def P w K mg base CX0 22 "_law_right" ["_law_web", "_law_controls_here"] (spRt K)
  dN : Def P w K mg base CX0 22 "_law_line" ["_law_mode", "_law_heap"] (spLn K)
  dL : Def P w K mg base CX0 22 "least_pile" ["machine", "control"] (spLp K)
  dE : Def P w K mg base CX0 22 "reads" ["machine", "control", "pile"] (spReads K)
  dC : Def P w K mg base CX0 22 "controls_of" ["machine"] (spCtOf K)
  kL : KBinds K dL.d ["machine", "control"] ["control", "machine"] gR2 gR2
  kE : KBinds K dE.d ["machine", "control", "pile"] ["pile", "control", "machine"] gR3 gR3
  mlen : mg "len" = none
  mmax : mg "max" = none
  mmin : mg "min" = none
  mran : mg "range" = none
  mtup : mg "tuple" = none
set_option maxHeartbeats 64000000 in
theorem law_body (X : Facts P w K mg base) {fa : Addr} {cdv : Value} {s : Shared} {H : Hp} {a : Addr} {ns : List Int} (hS : SqL K H a (ns.map V.int)) (h63 : ns.length ≤ 63)
    (hr : Room 22 (callerA.deeper (envOfC "law" (defScope s_law) s.heap.objs.size fa cdv))) :
    ∃ t, PSs (cxOf CX0 P w K mg base nLaw "law" (defScope s_law) fa cdv callerA [] s H (fun _ _ _ => False)).nox (defBody s_law) t ∧ t { nx := fun _ _ => False, rt := fun v _ => v = .bl true } (start nLaw [.ref a]) H := by
  have nd := scLaw.nd
  have m_len := X.mlen
  have m_range := X.mran
  have m_max := X.mmax
  have m_min := X.mmin
  have m_tuple := X.mtup
  refine ⟨_, (pss_cons (ps_set (i := 1) nd rfl (.inl rfl) (pe_lst (pa_cons (pe_tup (pa_cons pe_int pa_nil)) (pa_cons (pe_tup (pa_cons pe_int pa_nil)) (pa_cons (pe_tup (pa_cons pe_int (pa_cons pe_int pa_nil))) (pa_cons (pe_tup pa_nil) pa_nil))))))
    (pss_cons (ps_for PassesOwn.never rfl (pi_range1 (by rfl) m_range (pa_cons (pe_callB (call_max2 rfl) (by rfl) m_max (by decide +kernel) (pa_cons pe_int (pa_cons (pe_callB (call_min2 rfl) (by rfl) m_min (by decide +kernel) (pa_cons pe_int (pa_cons (pe_callB call_len_seq (by rfl) m_len PySem.boot_len (pa_cons (pv 0) pa_nil)) pa_nil))) pa_nil))) pa_nil)) (pg_name (i := 2) nd rfl (.inl rfl))
      (pss_cons (ps_set (i := 3) nd rfl (.inr rfl) (pe_call X.dO.ok hr (by rfl) X.dO.g X.dO.kp X.dO.b .nil pass0 (pa_cons (pv 0) (pa_cons (pv 2) pa_nil))))
    (pss_cons (ps_if (pt_not (pt_val (pe_call X.dR.ok hr (by rfl) X.dR.g X.dR.kp X.dR.b .nil pass0 (pa_cons (pe_call X.dM.ok hr (by rfl) X.dM.g X.dM.kp X.dM.b .nil pass0 (pa_cons (pv 3) (pa_cons (pv 1) pa_nil))) (pa_cons (pe_op op_cat (pv 1) (pe_lst (pa_cons (pe_tup (pa_cons pe_int pa_nil)) pa_nil))) pa_nil))))) (pss_one (ps_ret pe_bl)) pss_nil)
    (pss_cons (ps_set (i := 4) nd rfl (.inl rfl) (pe_callTy (T := "tuple") call_tuple_of (by rfl) m_tuple (by decide +kernel) (pa_cons (pe_lc (own := [("_law_turn", 5)]) (g := (gName 5)) (tt := tYes) (by rfl) nd (pi_range1 (by rfl) m_range (pa_cons (pe_call X.dT.ok hr (by rfl) X.dT.g X.dT.kp X.dT.b .nil pass0 (pa_cons (pv 3) (pa_cons pe_int pa_nil))) pa_nil)) (blkOk_by (N := nLaw) (sc := defScope s_law) (by decide +kernel)) (fun _ _ _ _ _ => (pg_name (i := 5) nd rfl (.inl rfl))) (fun _ _ _ _ _ => pts_nil) (fun _ _ _ _ _ => (pe_tup (pa_cons (pe_call X.dT.ok hr (by rfl) X.dT.g X.dT.kp X.dT.b .nil pass0 (pa_cons (pv 3) (pa_cons pe_int pa_nil))) (pa_cons (pe_call X.dT.ok hr (by rfl) X.dT.g X.dT.kp X.dT.b .nil pass0 (pa_cons (pv 3) (pa_cons pe_int pa_nil))) pa_nil))))) pa_nil)))
    (pss_cons (ps_set (i := 6) nd rfl (.inl rfl) (pe_call X.dN.ok hr (by rfl) X.dN.g X.dN.kp X.dN.b .nil pass0 (pa_cons (pe_tup (pa_cons pe_int (pa_cons pe_int pa_nil))) (pa_cons (pv 4) pa_nil))))
    (pss_cons (ps_if (PW.pt (pw_or (pt_cmpR (op_neD hr.units) (pe_named X.dL.ok hr (by rfl) X.dL.g X.dL.kp X.kL pass0 (pk_cons (pe_tup (pa_cons pe_int (pa_cons pe_int pa_nil))) (pk_cons (pv 6) pk_nil))) (pv 4) (nomark _)) (pw_or1 (pt_not (pt_val (pe_named X.dE.ok hr (by rfl) X.dE.g X.dE.kp X.kE pass0 (pk_cons (pv 4) (pk_cons (pe_tup (pa_cons pe_int (pa_cons pe_int pa_nil))) (pk_cons (pv 6) pk_nil))))))))) (pss_one (ps_ret pe_bl)) pss_nil)
    (pss_one (ps_if (PW.pt (pw_or (pt_val (pe_call X.dE.ok hr (by rfl) X.dE.g X.dE.kp X.dE.b .nil pass0 (pa_cons (pv 6) (pa_cons (pe_tup (pa_cons pe_int (pa_cons pe_int pa_nil))) (pa_cons (pe_op op_catA (pv 4) (pe_tup (pa_cons (pe_tup (pa_cons pe_int (pa_cons pe_int pa_nil))) pa_nil))) pa_nil))))) (pw_or (pt_val (pe_call X.dE.ok hr (by rfl) X.dE.g X.dE.kp X.dE.b .nil pass0 (pa_cons (pv 6) (pa_cons (pe_tup (pa_cons pe_int pa_nil)) (pa_cons (pv 4) pa_nil))))) (pw_or1 (PW.pt (pw_and (pt_cmpR (op_neD hr.units) (pv 4) (pe_tup pa_nil) (nomark _)) (pw_and1 (pt_val (pe_call X.dE.ok hr (by rfl) X.dE.g X.dE.kp X.dE.b .nil pass0 (pa_cons (pv 6) (pa_cons (pe_tup (pa_cons pe_int (pa_cons pe_int pa_nil))) (pa_cons (pe_tup pa_nil) pa_nil)))))))))))) (pss_one (ps_ret pe_bl)) pss_nil))))))))
    (pss_one (ps_ret (pe_and (pe_cmpR (op_eqD hr.units) (pe_call X.dC.ok hr (by rfl) X.dC.g X.dC.kp X.dC.b .nil pass0 (pa_cons (pe_tup (pa_cons (pe_tup pa_nil) (pa_cons (pe_tup pa_nil) (pa_cons (pe_tup pa_nil) pa_nil)))) pa_nil)) (pe_lst pa_nil) (nomark _)) (pe_one (pe_cmpR op_isN (pe_call X.dL.ok hr (by rfl) X.dL.g X.dL.kp X.dL.b .nil pass0 (pa_cons (pe_tup (pa_cons (pe_tup pa_nil) (pa_cons (pe_tup pa_nil) (pa_cons (pe_tup (pa_cons pe_int pa_nil)) pa_nil)))) (pa_cons (pe_tup pa_nil) pa_nil))) pe_non (nomark _)))))))), ?_⟩
  refine ⟨lz1, fun c1 n1 => ?_⟩
  have s1 : Same H (upd H c1 (.tup [.int 0])) := same_new n1
  have h1 : (upd H c1 (.tup [.int 0])) c1 = some (.tup [.int 0]) := upd_same
  generalize upd H c1 (.tup [.int 0]) = G1 at s1 h1 ⊢
  refine ⟨lz1, fun c2 n2 => ?_⟩
  have s2 : Same G1 (upd G1 c2 (.tup [.int 1])) := same_new n2
  have h2 : (upd G1 c2 (.tup [.int 1])) c2 = some (.tup [.int 1]) := upd_same
  generalize upd G1 c2 (.tup [.int 1]) = G2 at s2 h2 ⊢
  refine ⟨lz2, fun c3 n3 => ?_⟩
  have s3 : Same G2 (upd G2 c3 (.tup [.int 0, .int 2])) := same_new n3
  have h3 : (upd G2 c3 (.tup [.int 0, .int 2])) c3 = some (.tup [.int 0, .int 2]) := upd_same
  generalize upd G2 c3 (.tup [.int 0, .int 2]) = G3 at s3 h3 ⊢
  refine ⟨Nat.zero_le _, fun c4 n4 => ?_⟩
  have s4 : Same G3 (upd G3 c4 (.tup [])) := same_new n4
  have h4 : (upd G3 c4 (.tup [])) c4 = some (.tup []) := upd_same
  generalize upd G3 c4 (.tup []) = G4 at s4 h4 ⊢
  refine ⟨lz4, fun lc n5 => ?_⟩
  have s5 : Same G4 (upd G4 lc (.lst [.ref c1, .ref c2, .ref c3, .ref c4])) := same_new n5
  have h5 : (upd G4 lc (.lst [.ref c1, .ref c2, .ref c3, .ref c4])) lc = some (.lst [.ref c1, .ref c2, .ref c3, .ref c4]) := upd_same
  generalize upd G4 lc (.lst [.ref c1, .ref c2, .ref c3, .ref c4]) = G5 at s5 h5 ⊢
  have sA : Same H G5 := s1.trans (s2.trans (s3.trans (s4.trans s5)))
  obtain ⟨cs, ecs, lcs, ts⟩ : ∃ cs : List Tp, ([.ref c1, .ref c2, .ref c3, .ref c4] : List V) = (cs.map fun x => V.ref x.1) ∧ cs.length = 4 ∧ ∀ x ∈ cs, SqT K G5 x.1 (x.2.map V.int) ∧ ctlOk x.2 := by
    refine ⟨[(c1, [0]), (c2, [1]), (c3, [0, 2]), (c4, [])], rfl, rfl, fun x hx => ?_⟩
    simp only [List.mem_cons, List.not_mem_nil, or_false] at hx
    rcases hx with rfl | rfl | rfl | rfl
    · exact ⟨SqT.of (s5 _ _ (s4 _ _ (s3 _ _ (s2 _ _ h1)))), show ctlOk [0] from by unfold ctlOk; decide⟩
    · exact ⟨SqT.of (s5 _ _ (s4 _ _ (s3 _ _ h2))), show ctlOk [1] from by unfold ctlOk; decide⟩
    · exact ⟨SqT.of (s5 _ _ (s4 _ _ h3)), show ctlOk [0, 2] from by unfold ctlOk; decide⟩
    · exact ⟨SqT.of (s5 _ _ h4), show ctlOk [] from by unfold ctlOk; decide⟩
  rw [ecs] at h5
  clear ecs h1 h2 h3 h4 s1 s2 s3 s4 s5 n1 n2 n3 n4 n5
  have hS5 : SqL K G5 a (ns.map V.int) := sA.seq hS
  refine ⟨_, rfl, a, _, rfl, .inl hS5, _, _, rfl, _, _, rfl, ?_⟩
  obtain ⟨n, en, hn⟩ : ∃ n : Nat, (if (if (10 : Int) > ((ns.map V.int).length : Int) then ((ns.map V.int).length : Int) else (10 : Int)) > 1 then (if (10 : Int) > ((ns.map V.int).length : Int) then ((ns.map V.int).length : Int) else (10 : Int)) else 1) = (n : Int) ∧ n ≤ 10 := by
    refine ⟨(if (if (10 : Int) > ((ns.map V.int).length : Int) then ((ns.map V.int).length : Int) else (10 : Int)) > 1 then (if (10 : Int) > ((ns.map V.int).length : Int) then ((ns.map V.int).length : Int) else (10 : Int)) else 1).toNat, ?_, ?_⟩ <;> (split <;> split <;> omega)
  refine ⟨(n : Int), congrArg (fun z => [V.int z]) en, by omega, by omega, ?_⟩
  rw [show ((n : Int)).toNat = n from Int.toNat_natCast n]
  refine for_range (n := n) (fun i σ G => ∃ y2 y3 y4 y5 y6, σ = [some (.ref a), some (.ref lc), y2, y3, y4, y5, y6] ∧ Same G5 G) ⟨_, _, _, _, _, rfl, Same.refl _⟩ (fun i σ G6 hi hP => ?_) (fun σ G6 hP => ?_)
  rotate_left
  · obtain ⟨y2, y3, y4, y5, y6, rfl, s6⟩ := hP
    refine ⟨Nat.zero_le _, fun Z1 z1 => ?_⟩
    have t1 : Same G6 (upd G6 Z1 (.tup [])) := same_new z1
    have hZ1 : (upd G6 Z1 (.tup [])) Z1 = some (.tup []) := upd_same
    generalize upd G6 Z1 (.tup []) = Q1 at t1 hZ1 ⊢
    refine ⟨Nat.zero_le _, fun Z2 z2 => ?_⟩
    have t2 : Same Q1 (upd Q1 Z2 (.tup [])) := same_new z2
    have hZ2 : (upd Q1 Z2 (.tup [])) Z2 = some (.tup []) := upd_same
    generalize upd Q1 Z2 (.tup []) = Q2 at t2 hZ2 ⊢
    refine ⟨Nat.zero_le _, fun Z3 z3 => ?_⟩
    have t3 : Same Q2 (upd Q2 Z3 (.tup [])) := same_new z3
    have hZ3 : (upd Q2 Z3 (.tup [])) Z3 = some (.tup []) := upd_same
    generalize upd Q2 Z3 (.tup []) = Q3 at t3 hZ3 ⊢
    refine ⟨lz3, fun Z4 z4 => ?_⟩
    have t4 : Same Q3 (upd Q3 Z4 (.tup [.ref Z1, .ref Z2, .ref Z3])) := same_new z4
    have hZ4 : Dp K (upd Q3 Z4 (.tup [.ref Z1, .ref Z2, .ref Z3])) (.ref Z4) (webD ([], [], [])) := .tup (SqT.of upd_same) (.cons (.tup (SqT.of (t4 _ _ (t3 _ _ (t2 _ _ hZ1)))) .nil) (.cons (.tup (SqT.of (t4 _ _ (t3 _ _ hZ2))) .nil) (.cons (.tup (SqT.of (t4 _ _ hZ3)) .nil) .nil)))
    generalize upd Q3 Z4 (.tup [.ref Z1, .ref Z2, .ref Z3]) = Q4 at t4 hZ4 ⊢
    have ok0 : WebOk ([], [], []) := ⟨by decide, by decide, by decide, fun x hx => (nomatch hx), List.nodup_nil⟩
    refine ⟨.ref Z4, ([], [], []), rfl, hZ4, ok0, fun Q5 pc uc cs0 t5 _ hpc hcd0 _ mem0 => ?_⟩
    have ec0 : cs0 = [] := by
      cases cs0 with
      | nil => rfl
      | cons c r =>
        obtain ⟨l, e, he, _⟩ := (mem0 c).mp List.mem_cons_self
        cases he
    subst ec0
    cases hcd0
    refine ⟨Nat.zero_le _, fun L0 n0 => ?_⟩
    have t6 : Same Q5 (upd Q5 L0 (.lst [])) := same_new n0
    have hL0 : (upd Q5 L0 (.lst [])) L0 = some (.lst []) := upd_same
    generalize upd Q5 L0 (.lst []) = Q6 at t6 hL0 ⊢
    refine ⟨.list [], .list [], .lst (SqL.of (t6 _ _ hpc)) .nil, .lst (SqL.of hL0) .nil, by decide, by decide, _, rfl, ?_⟩
    rw [show PyData.eqv (.list []) (.list []) = true by simp [PyData.eqv, PyData.eqvAll]]
    refine iteT ?_
    clear t1 t2 t3 t4 t5 t6 hZ1 hZ2 hZ3 hZ4 hL0 hpc z1 z2 z3 z4 n0 mem0 ok0
    refine ⟨Nat.zero_le _, fun Z1 z1 => ?_⟩
    have hZ1 : (upd Q6 Z1 (.tup [])) Z1 = some (.tup []) := upd_same
    generalize upd Q6 Z1 (.tup []) = Q1 at hZ1 ⊢
    refine ⟨Nat.zero_le _, fun Z2 z2 => ?_⟩
    have t2 : Same Q1 (upd Q1 Z2 (.tup [])) := same_new z2
    have hZ2 : (upd Q1 Z2 (.tup [])) Z2 = some (.tup []) := upd_same
    generalize upd Q1 Z2 (.tup []) = Q2 at t2 hZ2 ⊢
    refine ⟨lz1, fun Z3 z3 => ?_⟩
    have t3 : Same Q2 (upd Q2 Z3 (.tup [.int 0])) := same_new z3
    have hZ3 : (upd Q2 Z3 (.tup [.int 0])) Z3 = some (.tup [.int 0]) := upd_same
    generalize upd Q2 Z3 (.tup [.int 0]) = Q3 at t3 hZ3 ⊢
    refine ⟨lz3, fun Z4 z4 => ?_⟩
    have t4 : Same Q3 (upd Q3 Z4 (.tup [.ref Z1, .ref Z2, .ref Z3])) := same_new z4
    have hZ4 : Dp K (upd Q3 Z4 (.tup [.ref Z1, .ref Z2, .ref Z3])) (.ref Z4) (webD ([], [], [0])) := .tup (SqT.of upd_same) (.cons (.tup (SqT.of (t4 _ _ (t3 _ _ (t2 _ _ hZ1)))) .nil) (.cons (.tup (SqT.of (t4 _ _ (t3 _ _ hZ2))) .nil) (.cons (.tup (SqT.of (t4 _ _ hZ3)) (.cons (.int 0) .nil)) .nil)))
    generalize upd Q3 Z4 (.tup [.ref Z1, .ref Z2, .ref Z3]) = Q4 at t4 hZ4 ⊢
    have ok1 : WebOk ([], [], [0]) := ⟨by decide, by decide, by decide, fun x hx => (nomatch hx), by simp⟩
    refine ⟨Nat.zero_le _, fun Z5 z5 => ?_⟩
    have t5 : Same Q4 (upd Q4 Z5 (.tup [])) := same_new z5
    have no : ∀ l, ¬ Acc ([], [], [0]) [] l := fun l hl => by
      obtain ⟨e, _, s, hs, _⟩ := hl
      cases hs
    exact ⟨.ref Z4, .ref Z5, ([], [], [0]), [], rfl, dp_same t5 _ _ hZ4, ok1, .tup (SqT.of upd_same) .nil, fun _ Q' _ => ⟨rfl, by simp⟩, fun l hl => absurd hl.1 (no l)⟩
  obtain ⟨y2, y3, y4, y5, y6, rfl, s6⟩ := hP
  refine ⟨_, rfl, _, rfl, a, ns, i, congrArg (fun z : Int => [V.ref a, V.int z]) (Int.zero_add (i : Int)), s6.seq hS5, by omega, fun p x0 y0 np hx0 hy0 hy20 => ?_⟩
  have pl : Pool (upd G6 p (.lst [.int x0, .int y0])) p := ⟨x0, y0, upd_same, hx0, hy0, hy20⟩
  have nH := same_none s6 np
  have o7 : M0.off p (upd G6 p (.lst [.int x0, .int y0])) = M0.off p G6 := off_upd
  have s7 : Same G5 (M0.off p (upd G6 p (.lst [.int x0, .int y0]))) := by
    rw [o7]
    intro x o e
    have ne : x ≠ p := fun z => by rw [z, nH] at e; cases e
    rw [off_ne ne]
    exact s6 _ _ e
  generalize upd G6 p (.lst [.int x0, .int y0]) = G7 at pl s7 ⊢
  clear o7 np s6
  have mn7 : Menu K (M0.off p G7) lc cs ctlOk := ⟨SqL.of (s7 _ _ h5), fun x hx => ⟨same_tup s7 (ts x hx).1, (ts x hx).2⟩⟩
  refine ⟨_, rfl, _, rfl, p, lc, cs, rfl, pl, mn7, lcs, fun G8 v wb s8 pl8 hv ok e10 => ?_⟩
  have s58 : Same G5 (M0.off p G8) := s7.trans s8
  have s58' : Same G5 G8 := s58.trans off_sub
  refine ⟨_, rfl, lz1, fun T5 n5 => ?_⟩
  have t1 : Same G8 (upd G8 T5 (.tup [.int 5])) := same_new n5
  have hT5 : (upd G8 T5 (.tup [.int 5])) T5 = some (.tup [.int 5]) := upd_same
  generalize upd G8 T5 (.tup [.int 5]) = G9 at t1 hT5 ⊢
  refine ⟨lz1, fun L5 n6 => ?_⟩
  have t2 : Same G9 (upd G9 L5 (.lst [.ref T5])) := same_new n6
  have hL5 : (upd G9 L5 (.lst [.ref T5])) L5 = some (.lst [.ref T5]) := upd_same
  generalize upd G9 L5 (.lst [.ref T5]) = G10 at t2 hL5 ⊢
  have s5A : Same G5 G10 := s58'.trans (t1.trans t2)
  refine ⟨lc, L5, cs.map (fun x => V.ref x.1), [.ref T5], rfl, rfl, s5A _ _ h5, hL5, ?_, fun L6 n7 => ?_⟩
  · rw [List.length_map, lcs]
    show 4 + 1 ≤ sizeLine
    decide
  have t3 : Same G10 (upd G10 L6 (.lst (cs.map (fun x => V.ref x.1) ++ [.ref T5]))) := same_new n7
  have hL6 : (upd G10 L6 (.lst (cs.map (fun x => V.ref x.1) ++ [.ref T5]))) L6 = some (.lst (cs.map (fun x => V.ref x.1) ++ [.ref T5])) := upd_same
  generalize upd G10 L6 (.lst (cs.map (fun x => V.ref x.1) ++ [.ref T5])) = G11 at t3 hL6 ⊢
  have s8B : Same G8 G11 := t1.trans (t2.trans t3)
  refine ⟨v, L6, wb, _, cs.map (·.2) ++ [[5]], rfl, dp_same (off_sub.trans s8B) _ _ hv, ok, by omega, hL6, ?_, fun G12 s12 => ?_⟩
  · rw [List.map_append]
    exact dpAll_app (menu_dp cs fun x hx => same_tup (s58'.trans s8B) (ts x hx).1) (.cons (.tup (SqT.of (t3 _ _ (t2 _ _ hT5))) (.cons (.int 5) .nil)) .nil)
  refine ⟨_, rfl, ?_⟩
  refine iteF ?_
  have pl12 : Pool G12 p := pool_same pl8 (s8B.trans s12)
  have s5C : Same G5 (M0.off p G12) := s58.trans (off_mono (s8B.trans s12))
  clear hL6 t3 n7 hL5 t2 n6 hT5 t1 n5 s58 s58' s5A s8B s12 hv ok e10 pl8 s8 mn7 s7 pl
  refine ⟨_, rfl, p, 9, rfl, pl12, by decide, by decide, fun x1 y1 r1 hx1 hy1 hz1 h01 h11 => ?_⟩
  have pl13 : Pool (upd G12 p (.lst [.int x1, .int y1])) p := ⟨x1, y1, upd_same, hx1, hy1, hz1⟩
  have s5D : Same G5 (M0.off p (upd G12 p (.lst [.int x1, .int y1]))) := by rw [off_upd]; exact s5C
  generalize upd G12 p (.lst [.int x1, .int y1]) = G13 at pl13 s5D ⊢
  clear s5C pl12
  obtain ⟨N, rfl⟩ : ∃ N : Nat, r1 = N := ⟨r1.toNat, (Int.toNat_of_nonneg h01).symm⟩
  refine ⟨(N : Int), rfl, by omega, by omega, fun D nD => ?_⟩
  rw [show ((N : Int)).toNat = N from Int.toNat_natCast N]
  refine lc_it (LR.walk_rangeAt (lo := 0) (n := N)) (fun m G => Pool G p ∧ Same G5 (M0.off p G) ∧ ∃ (us : List V) (l : List Pn), G D = some (.lst us) ∧ us.length = m ∧ l.length = m ∧ DpAll K (offs [p, D] G) us (l.map pnD)) ?_ (fun _ _ _ _ => trivial) (fun m x G G' hm hP hy => ?_) (fun G hP => ?_)
  · exact ⟨pool_new pl13 nD, s5D.trans (off_mono (same_new nD)), [], [], upd_same, rfl, rfl, .nil⟩
  · obtain ⟨rfl, _⟩ := hy
    obtain ⟨plG, sG, us, l, hD, ul, ll, hus⟩ := hP
    have nDp : D ≠ p := pool_ne pl13 nD
    rw [List.length_map, List.length_range] at hm
    refine ⟨rfl, ?_⟩
    dsimp only [tYes]
    simp only [if_true]
    refine ⟨_, rfl, p, 2, rfl, plG, by decide, by decide, fun x2 y2 r2 hx2 hy2 hz2 h02 h12 => ?_⟩
    refine ⟨_, rfl, p, 9, rfl, ⟨x2, y2, upd_same, hx2, hy2, hz2⟩, by decide, by decide, fun x3 y3 r3 hx3 hy3 hz3 h03 h13 => ?_⟩
    have plH : Pool (upd (upd G' p (.lst [.int x2, .int y2])) p (.lst [.int x3, .int y3])) p := ⟨x3, y3, upd_same, hx3, hy3, hz3⟩
    have sH : Same G5 (M0.off p (upd (upd G' p (.lst [.int x2, .int y2])) p (.lst [.int x3, .int y3]))) := by rw [off_upd, off_upd]; exact sG
    have hDH : (upd (upd G' p (.lst [.int x2, .int y2])) p (.lst [.int x3, .int y3])) D = some (.lst us) := by rw [upd_ne nDp, upd_ne nDp]; exact hD
    have oH : offs [p, D] (upd (upd G' p (.lst [.int x2, .int y2])) p (.lst [.int x3, .int y3])) = offs [p, D] G' := by rw [offs_put List.mem_cons_self, offs_put List.mem_cons_self]
    rw [← oH] at hus
    generalize upd (upd G' p (.lst [.int x2, .int y2])) p (.lst [.int x3, .int y3]) = GH at plH sH hDH hus ⊢
    refine ⟨lz2, fun T nT => ?_⟩
    have sT : Same GH (upd GH T (.tup [.int r2, .int r3])) := same_new nT
    have hT : (upd GH T (.tup [.int r2, .int r3])) T = some (.tup [.int r2, .int r3]) := upd_same
    have nTp := pool_ne plH nT
    have nTD : T ≠ D := fun z => by rw [z, hDH] at nT; cases nT
    have hDT := sT _ _ hDH
    have plT := pool_same plH sT
    have sTo := sH.trans (off_mono (p := p) sT)
    have husT := dpAll_same (offs_mono (ms := [p, D]) sT) _ _ hus
    generalize upd GH T (.tup [.int r2, .int r3]) = GT at hT hDT plT sTo husT ⊢
    refine ⟨us, hDT, LC.small_line (by omega), ?_, ?_, us ++ [.ref T], l ++ [(r2, r3)], upd_same, by rw [List.length_append, ul]; rfl, by rw [List.length_append, ll]; rfl, ?_⟩
    · obtain ⟨x, y, e, r⟩ := plT
      exact ⟨x, y, by rw [upd_ne nDp.symm]; exact e, r⟩
    · intro x o e
      have z := sTo _ _ e
      have nx : x ≠ D := fun q => by
        rw [q] at e
        have := off_sub _ _ (s5D _ _ e)
        rw [nD] at this
        cases this
      have np : x ≠ p := fun q => by
        rw [q] at z
        unfold M0.off at z
        rw [if_pos rfl] at z
        cases z
      rw [off_ne np] at z ⊢
      rw [upd_ne nx]
      exact z
    · rw [offs_put (List.mem_cons_of_mem _ List.mem_cons_self), List.map_append]
      refine dpAll_app husT (.cons (.tup (SqT.of (xs := [.int r2, .int r3]) ?_) (.cons (.int _) (.cons (.int _) .nil))) .nil)
      rw [offs_ne (by simp [nTp, nTD])]
      exact hT
  · obtain ⟨plG, sG, us, l, hD, ul, ll, hus⟩ := hP
    have hus := dpAll_same offs_sub _ _ hus
    have sG' : Same G5 G := sG.trans off_sub
    clear sG
    refine ⟨D, us, rfl, .inl ⟨SqL.of hD, fun TH nTH => ?_⟩⟩
    have t1 : Same G (upd G TH (.tup us)) := same_new nTH
    have hTH : Dp K (upd G TH (.tup us)) (.ref TH) (pileD l) := .tup (SqT.of upd_same) (dpAll_same t1 _ _ hus)
    have sB : Same G5 (upd G TH (.tup us)) := sG'.trans t1
    generalize upd G TH (.tup us) = GB at hTH sB ⊢
    clear t1 nTH hus hD plG
    rw [List.length_map, List.length_range] at ll
    refine ⟨lz2, fun T7 n7 => ?_⟩
    have t2 : Same GB (upd GB T7 (.tup [.int 7, .int 7])) := same_new n7
    have hT7 : Dp K (upd GB T7 (.tup [.int 7, .int 7])) (.ref T7) (ctD [7, 7]) := .tup (SqT.of upd_same) (of_ints [7, 7])
    generalize upd GB T7 (.tup [.int 7, .int 7]) = GC at t2 hT7 ⊢
    refine ⟨_, rfl, .ref T7, .ref TH, [7, 7], l, rfl, hT7, dp_same t2 _ _ hTH, by omega, fun GD vl t3 hvl => ?_⟩
    have hl := dp_same (t2.trans t3) _ _ hTH
    have sD := sB.trans (t2.trans t3)
    have okL : WebOk (lineW [7, 7] l) := line_ok (by omega) (by decide)
    clear hT7 hTH t2 t3 n7 sB
    refine ⟨lz2, fun A1 a1 => ?_⟩
    have u1 : Same GD (upd GD A1 (.tup [.int 7, .int 7])) := same_new a1
    have hA1 : Dp K (upd GD A1 (.tup [.int 7, .int 7])) (.ref A1) (ctD [7, 7]) := .tup (SqT.of upd_same) (of_ints [7, 7])
    generalize upd GD A1 (.tup [.int 7, .int 7]) = GE at u1 hA1 ⊢
    have hn : ¬ ∀ m, ¬ Acc (lineW [7, 7] l) [7, 7] m := fun z => z l line_least.1
    refine ⟨_, rfl, vl, .ref A1, lineW [7, 7] l, [7, 7], rfl, dp_same u1 _ _ hvl, okL, hA1, fun z => absurd z hn, fun l2 hl2 GF v2 u2 hv2 => ?_⟩
    have el : l = l2 := Option.some.inj (least_one (a := some l) (b := some l2) line_least hl2)
    subst el
    have u12 := u1.trans u2
    refine ⟨_, rfl, pileD l, pileD l, hv2, dp_same u12 _ _ hl, pile_shaped l, pile_shaped l, _, rfl, ?_⟩
    rw [pile_self]
    refine iteF ?_
    have hvl2 := dp_same u12 _ _ hvl
    have hl2' := dp_same u12 _ _ hl
    have sF := sD.trans u12
    clear u1 u12 u2 hv2 hl2 hA1 a1 hn
    refine ⟨_, rfl, lz2, fun A2 a2 => ?_⟩
    have u1 : Same GF (upd GF A2 (.tup [.int 7, .int 7])) := same_new a2
    have hA2 : Dp K (upd GF A2 (.tup [.int 7, .int 7])) (.ref A2) (ctD [7, 7]) := .tup (SqT.of upd_same) (of_ints [7, 7])
    generalize upd GF A2 (.tup [.int 7, .int 7]) = GG at u1 hA2 ⊢
    refine ⟨_, rfl, vl, .ref A2, .ref TH, lineW [7, 7] l, [7, 7], l, rfl, dp_same u1 _ _ hvl2, okL, hA2, dp_same u1 _ _ hl2', by omega, fun GI b u2 hb => ⟨b, rfl, ?_⟩⟩
    have eb : b = true := hb.mpr line_least.1
    subst eb
    refine iteF ?_
    have u12 := u1.trans u2
    have hvl3 := dp_same u12 _ _ hvl2
    have hl3 := dp_same u12 _ _ hl2'
    have sI := sF.trans u12
    clear u1 u12 u2 hA2 a2 hb hvl2 hl2' hl hvl
    refine ⟨_, rfl, lz2, fun A3 a3 => ?_⟩
    have u1 : Same GI (upd GI A3 (.tup [.int 7, .int 7])) := same_new a3
    have hA3 : Dp K (upd GI A3 (.tup [.int 7, .int 7])) (.ref A3) (ctD [7, 7]) := .tup (SqT.of upd_same) (of_ints [7, 7])
    generalize upd GI A3 (.tup [.int 7, .int 7]) = GJ at u1 hA3 ⊢
    refine ⟨_, rfl, lz2, fun B1 b1 => ?_⟩
    have u2 : Same GJ (upd GJ B1 (.tup [.int 0, .int 0])) := same_new b1
    have hB1 : Dp K (upd GJ B1 (.tup [.int 0, .int 0])) (.ref B1) (pnD (0, 0)) := .tup (SqT.of upd_same) (.cons (.int 0) (.cons (.int 0) .nil))
    generalize upd GJ B1 (.tup [.int 0, .int 0]) = GK at u2 hB1 ⊢
    refine ⟨lz1, fun B2 b2 => ?_⟩
    have u3 : Same GK (upd GK B2 (.tup [.ref B1])) := same_new b2
    have u123 := u1.trans (u2.trans u3)
    refine catA_pile (r := l) (p := (0, 0)) (u := .ref B1) (dp_same u123 _ _ hl3) (SqT.of upd_same) (dp_same u3 _ _ hB1) (by omega) (fun GL hv u4 hhv => ?_)
    have u14 := u123.trans u4
    refine ⟨vl, .ref A3, hv, lineW [7, 7] l, [7, 7], l ++ [(0, 0)], rfl, dp_same u14 _ _ hvl3, okL, dp_same (u2.trans (u3.trans u4)) _ _ hA3, hhv, by rw [List.length_append]; show l.length + 1 ≤ _; omega, fun GM b u5 hb => ⟨b, rfl, ?_⟩⟩
    have eb : b = false := Bool.eq_false_iff.mpr fun z => by
      have := (line_acc.mp (hb.mp z)).2
      have := congrArg List.length this
      rw [List.length_append] at this
      simp at this
    subst eb
    refine iteF ?_
    have u15 := u14.trans u5
    have hvl4 := dp_same u15 _ _ hvl3
    have hl4 := dp_same u15 _ _ hl3
    have sM := sI.trans u15
    clear u1 u2 u3 u4 u5 u14 u15 u123 hA3 a3 hb hvl3 hl3 hB1 b1 b2 hhv
    refine ⟨_, rfl, lz1, fun A4 a4 => ?_⟩
    have u1 : Same GM (upd GM A4 (.tup [.int 7])) := same_new a4
    have hA4 : Dp K (upd GM A4 (.tup [.int 7])) (.ref A4) (ctD [7]) := .tup (SqT.of upd_same) (of_ints [7])
    generalize upd GM A4 (.tup [.int 7]) = GN at u1 hA4 ⊢
    refine ⟨_, rfl, vl, .ref A4, .ref TH, lineW [7, 7] l, [7], l, rfl, dp_same u1 _ _ hvl4, okL, hA4, dp_same u1 _ _ hl4, by omega, fun GO b u2 hb => ⟨b, rfl, ?_⟩⟩
    have eb : b = false := Bool.eq_false_iff.mpr fun z => by
      have := (line_acc.mp (hb.mp z)).1
      simp at this
    subst eb
    refine iteF ?_
    have u12 := u1.trans u2
    have hvl5 := dp_same u12 _ _ hvl4
    have hl5 := dp_same u12 _ _ hl4
    have sO := sM.trans u12
    clear u1 u12 u2 hA4 a4 hb hvl4 hl4
    refine ⟨_, rfl, Nat.zero_le _, fun E1 e1 => ?_⟩
    have u1 : Same GO (upd GO E1 (.tup [])) := same_new e1
    have hE1 : Dp K (upd GO E1 (.tup [])) (.ref E1) (pileD []) := .tup (SqT.of upd_same) .nil
    generalize upd GO E1 (.tup []) = GP at u1 hE1 ⊢
    refine ⟨pileD l, pileD [], dp_same u1 _ _ hl5, hE1, pile_shaped l, pile_shaped [], _, rfl, ?_⟩
    refine ite2 (fun en => ?_) (fun en => ?_)
    rotate_left
    · exact iteF ⟨_, _, _, _, _, rfl, sO.trans u1⟩
    refine ⟨_, rfl, lz2, fun A5 a5 => ?_⟩
    have u2 : Same GP (upd GP A5 (.tup [.int 7, .int 7])) := same_new a5
    have hA5 : Dp K (upd GP A5 (.tup [.int 7, .int 7])) (.ref A5) (ctD [7, 7]) := .tup (SqT.of upd_same) (of_ints [7, 7])
    generalize upd GP A5 (.tup [.int 7, .int 7]) = GQ at u2 hA5 ⊢
    refine ⟨Nat.zero_le _, fun E2 e2 => ?_⟩
    have u3 : Same GQ (upd GQ E2 (.tup [])) := same_new e2
    have hE2 : Dp K (upd GQ E2 (.tup [])) (.ref E2) (pileD []) := .tup (SqT.of upd_same) .nil
    generalize upd GQ E2 (.tup []) = GR at u3 hE2 ⊢
    have u13 := u1.trans (u2.trans u3)
    refine ⟨vl, .ref A5, .ref E2, lineW [7, 7] l, [7, 7], [], rfl, dp_same u13 _ _ hvl5, okL, dp_same u3 _ _ hA5, hE2, Nat.zero_le _, fun GS b u4 hb => ⟨b, rfl, ?_⟩⟩
    have eb : b = false := Bool.eq_false_iff.mpr fun z => by
      have := (line_acc.mp (hb.mp z)).2
      rw [← this, pile_self] at en
      simp at en
    subst eb
    exact iteF ⟨_, _, _, _, _, rfl, sO.trans (u13.trans u4)⟩
end
end MM

set_option maxHeartbeats 8000000
namespace MM
open PySem PySem.Spec PyProof.Rows L2 G0 G1 G3 G4 G5 M0 PA EE QA E2 E3 E4 E5 E7 E8 E9 EB EC LC EN SA
set_option maxHeartbeats 64000000 in
theorem all_mk {P : Program} {w : World} {K : PySem.W.Frag} {h : Heap} {mg : Str → Option Value} {fa fD0 fD1 fD2 fD3 fD4 fD5 fD6 fD7 fD8 fD9 fD10 fD11 fD12 fD13 fD14 fD15 fD16 fD17 fZ : Addr}
    (X : K.In h) (G : h.Ns mainGlobals mg) (hfa : mg "law" = some (.ref fa))
    (aD0 : At K "_law_pool" s_law_pool fD0)
    (aD1 : At K "_law_take" s_law_take fD1)
    (aD2 : At K "_law_machine" s_law_machine fD2)
    (aD3 : At K "_law_right" s_law_right fD3)
    (aD4 : At K "_law_piles" s_law_piles fD4)
    (aD5 : At K "_law_longer" s_law_longer fD5)
    (aD6 : At K "reads" s_reads fD6)
    (aD7 : At K "edges_ahead" s_edges_ahead fD7)
    (aD8 : At K "states_of" s_states_of fD8)
    (aD9 : At K "_law_reads" s_law_reads fD9)
    (aD10 : At K "least_pile" s_least_pile fD10)
    (aD11 : At K "far_from_end" s_far_from_end fD11)
    (aD12 : At K "edges_behind" s_edges_behind fD12)
    (aD13 : At K "_law_least" s_law_least fD13)
    (aD14 : At K "_law_controls" s_law_controls fD14)
    (aD15 : At K "_law_live" s_law_live fD15)
    (aD16 : At K "controls_of" s_controls_of fD16)
    (aD17 : At K "_law_line" s_law_line fD17)
    (aZ : At K "law" s_law fZ)
    (z0 : PySem.W.nsIn K mainGlobals "len" = some none)
    (z1 : PySem.W.nsIn K mainGlobals "abs" = some none)
    (z2 : PySem.W.nsIn K mainGlobals "int" = some none)
    (z3 : PySem.W.nsIn K mainGlobals "range" = some none)
    (z4 : PySem.W.nsIn K mainGlobals "tuple" = some none)
    (z5 : PySem.W.nsIn K mainGlobals "sorted" = some none)
    (z6 : PySem.W.nsIn K mainGlobals "any" = some none)
    (z7 : PySem.W.nsIn K mainGlobals "list" = some none)
    (z8 : PySem.W.nsIn K mainGlobals "min" = some none)
    (z9 : PySem.W.nsIn K mainGlobals "dict" = some none)
    (z10 : PySem.W.nsIn K mainGlobals "set" = some none)
    (z11 : PySem.W.nsIn K mainGlobals "repr" = some none)
    (z12 : PySem.W.nsIn K mainGlobals "enumerate" = some none)
    (z13 : PySem.W.nsIn K mainGlobals "max" = some none) :
    LawDef P w K mg 22 fa "_law_script" (fun H a ns => SqL K H a (ns.map V.int) ∧ ns.length ≤ 63) := by
  have e := hfa.symm.trans (PySem.W.mg_of X G aZ.1)
  cases e
  obtain ⟨dD0, FD0⟩ := aD0.fn
  obtain ⟨dD1, FD1⟩ := aD1.fn
  obtain ⟨dD2, FD2⟩ := aD2.fn
  obtain ⟨dD3, FD3⟩ := aD3.fn
  obtain ⟨dD4, FD4⟩ := aD4.fn
  obtain ⟨dD5, FD5⟩ := aD5.fn
  obtain ⟨dD6, FD6⟩ := aD6.fn
  obtain ⟨dD7, FD7⟩ := aD7.fn
  obtain ⟨dD8, FD8⟩ := aD8.fn
  obtain ⟨dD9, FD9⟩ := aD9.fn
  obtain ⟨dD10, FD10⟩ := aD10.fn
  obtain ⟨dD11, FD11⟩ := aD11.fn
  obtain ⟨dD12, FD12⟩ := aD12.fn
  obtain ⟨dD13, FD13⟩ := aD13.fn
  obtain ⟨dD14, FD14⟩ := aD14.fn
  obtain ⟨dD15, FD15⟩ := aD15.fn
  obtain ⟨dD16, FD16⟩ := aD16.fn
  obtain ⟨dD17, FD17⟩ := aD17.fn
  have bD0 := FD0.binds (ps := ["_law_script", "_law_k"]) fun _ _ _ _ _ _ us hl => match us, hl with | [_, _], _ => rfl
  have bD1 := FD1.binds (ps := ["_law_pool_here", "_law_many"]) fun _ _ _ _ _ _ us hl => match us, hl with | [_, _], _ => rfl
  have bD2 := FD2.binds (ps := ["_law_pool_here", "_law_controls_here"]) fun _ _ _ _ _ _ us hl => match us, hl with | [_, _], _ => rfl
  have bD3 := FD3.binds (ps := ["_law_web", "_law_controls_here"]) fun _ _ _ _ _ _ us hl => match us, hl with | [_, _], _ => rfl
  have bD4 := FD4.binds (ps := ["_law_points", "_law_most"]) fun _ _ _ _ _ _ us hl => match us, hl with | [_, _], _ => rfl
  have bD5 := FD5.binds (ps := ["_law_row", "_law_points"]) fun _ _ _ _ _ _ us hl => match us, hl with | [_, _], _ => rfl
  have bD6 := FD6.binds (ps := ["machine", "control", "pile"]) fun _ _ _ _ _ _ us hl => match us, hl with | [_, _, _], _ => rfl
  have bD7 := FD7.binds (ps := ["machine"]) fun _ _ _ _ _ _ us hl => match us, hl with | [_], _ => rfl
  have bD8 := FD8.binds (ps := ["machine", "control"]) fun _ _ _ _ _ _ us hl => match us, hl with | [_, _], _ => rfl
  have bD9 := FD9.binds (ps := ["_law_web", "_law_mode", "_law_heap"]) fun _ _ _ _ _ _ us hl => match us, hl with | [_, _, _], _ => rfl
  have bD10 := FD10.binds (ps := ["machine", "control"]) fun _ _ _ _ _ _ us hl => match us, hl with | [_, _], _ => rfl
  have bD11 := FD11.binds (ps := ["machine"]) fun _ _ _ _ _ _ us hl => match us, hl with | [_], _ => rfl
  have bD12 := FD12.binds (ps := ["machine"]) fun _ _ _ _ _ _ us hl => match us, hl with | [_], _ => rfl
  have bD13 := FD13.binds (ps := ["_law_web", "_law_mode"]) fun _ _ _ _ _ _ us hl => match us, hl with | [_, _], _ => rfl
  have bD14 := FD14.binds (ps := ["_law_web"]) fun _ _ _ _ _ _ us hl => match us, hl with | [_], _ => rfl
  have bD15 := FD15.binds (ps := ["_law_web"]) fun _ _ _ _ _ _ us hl => match us, hl with | [_], _ => rfl
  have bD16 := FD16.binds (ps := ["machine"]) fun _ _ _ _ _ _ us hl => match us, hl with | [_], _ => rfl
  have bD17 := FD17.binds (ps := ["_law_mode", "_law_heap"]) fun _ _ _ _ _ _ us hl => match us, hl with | [_, _], _ => rfl
  have gD0 := PySem.W.mg_of X G aD0.1
  have gD1 := PySem.W.mg_of X G aD1.1
  have gD2 := PySem.W.mg_of X G aD2.1
  have gD3 := PySem.W.mg_of X G aD3.1
  have gD4 := PySem.W.mg_of X G aD4.1
  have gD5 := PySem.W.mg_of X G aD5.1
  have gD6 := PySem.W.mg_of X G aD6.1
  have gD7 := PySem.W.mg_of X G aD7.1
  have gD8 := PySem.W.mg_of X G aD8.1
  have gD9 := PySem.W.mg_of X G aD9.1
  have gD10 := PySem.W.mg_of X G aD10.1
  have gD11 := PySem.W.mg_of X G aD11.1
  have gD12 := PySem.W.mg_of X G aD12.1
  have gD13 := PySem.W.mg_of X G aD13.1
  have gD14 := PySem.W.mg_of X G aD14.1
  have gD15 := PySem.W.mg_of X G aD15.1
  have gD16 := PySem.W.mg_of X G aD16.1
  have gD17 := PySem.W.mg_of X G aD17.1
  have n_len := PySem.W.mg_none_of X G z0
  have n_abs := PySem.W.mg_none_of X G z1
  have n_int := PySem.W.mg_none_of X G z2
  have n_range := PySem.W.mg_none_of X G z3
  have n_tuple := PySem.W.mg_none_of X G z4
  have n_sorted := PySem.W.mg_none_of X G z5
  have n_any := PySem.W.mg_none_of X G z6
  have n_list := PySem.W.mg_none_of X G z7
  have n_min := PySem.W.mg_none_of X G z8
  have n_dict := PySem.W.mg_none_of X G z9
  have n_set := PySem.W.mg_none_of X G z10
  have n_repr := PySem.W.mg_none_of X G z11
  have n_enumerate := PySem.W.mg_none_of X G z12
  have n_max := PySem.W.mg_none_of X G z13
  obtain ⟨_, od, an, sl, oc, kV, dc, pm, cd, ct, l, c, k⟩ := aZ
  have kb0 : KBinds K dD16 ["machine"] ["machine"] gS1 gS1 := by
    obtain ⟨oc, od, kV, doc, pm, an, cdv, ct, osl, e, lk, hcd⟩ := FD16.ex
    refine ⟨fun s us ws _ hl => ?_, gS1_rel⟩
    obtain ⟨c, rfl, rfl⟩ := gS1_len hl
    subst e
    exact .of_eq rfl
  have kb1 : KBinds K dD10 ["machine", "control"] ["control", "machine"] gR2 gR2 := by
    obtain ⟨oc, od, kV, doc, pm, an, cdv, ct, osl, e, lk, hcd⟩ := FD10.ex
    refine ⟨fun s us ws _ hl => ?_, gR2_rel⟩
    obtain ⟨c, d, rfl, rfl⟩ := gR2_len hl
    subst e
    exact .of_eq rfl
  have kb2 : KBinds K dD6 ["machine", "control", "pile"] ["pile", "control", "machine"] gR3 gR3 := by
    obtain ⟨oc, od, kV, doc, pm, an, cdv, ct, osl, e, lk, hcd⟩ := FD6.ex
    refine ⟨fun s us ws _ hl => ?_, gR3_rel⟩
    obtain ⟨a, b, c, rfl, rfl⟩ := gR3_len hl
    subst e
    exact .of_eq rfl
  refine ⟨_, "law", "law", defArgs s_law, defBody s_law, defScope s_law, .none, kV, dc, pm, cd, ct, oc, an, od, sl, nLaw, rfl, l, c, scLaw, fun s v => .of_eq rfl, fun base _ _ s H a ns hw hr => ?_⟩
  have X0 : Def P w K mg base CX0 22 "_law_pool" ["_law_script", "_law_k"] (spPool K) := ⟨fD0, dD0, ok_pool (k := 21) FD0 n_len n_abs n_int, gD0, FD0.kp, bD0⟩
  have X1 : Def P w K mg base CX0 22 "_law_take" ["_law_pool_here", "_law_many"] spTake := ⟨fD1, dD1, ok_take (k := 21) FD1, gD1, FD1.kp, bD1⟩
  have X2 : Def P w K mg base CX0 21 "_law_take" ["_law_pool_here", "_law_many"] spTake := ⟨fD1, dD1, ok_take (k := 20) FD1, gD1, FD1.kp, bD1⟩
  have X3 : Def P w K mg base CX0 22 "_law_machine" ["_law_pool_here", "_law_controls_here"] (spMake K) := ⟨fD2, dD2, ok_make (k := 20) FD2 X2 n_range n_len n_tuple n_sorted, gD2, FD2.kp, bD2⟩
  have X4 : Def P w K mg base CX0 20 "_law_longer" ["_law_row", "_law_points"] (spLg K) := ⟨fD5, dD5, ok_lg (k := 19) FD5, gD5, FD5.kp, bD5⟩
  have X5 : Def P w K mg base CX0 21 "_law_piles" ["_law_points", "_law_most"] (spPl K) := ⟨fD4, dD4, ok_pl (k := 19) FD4 X4 n_range, gD4, FD4.kp, bD4⟩
  have X6 : Def P w K mg base CX0 20 "edges_ahead" ["machine"] (spAdj K aheadI) := ⟨fD7, dD7, ok_ahead (k := 19) FD7, gD7, FD7.kp, bD7⟩
  have X7 : Def P w K mg base CX0 20 "states_of" ["machine", "control"] (spStOf K) := ⟨fD8, dD8, ok_stof (k := 19) FD8, gD8, FD8.kp, bD8⟩
  have X8 : Def P w K mg base CX0 21 "reads" ["machine", "control", "pile"] (spReads K) := ⟨fD6, dD6, ok_reads (k := 19) FD6 X6 X7 n_any, gD6, FD6.kp, bD6⟩
  have X9 : Def P w K mg base CX0 21 "_law_reads" ["_law_web", "_law_mode", "_law_heap"] (spLr K) := ⟨fD9, dD9, ok_lr (k := 20) FD9, gD9, FD9.kp, bD9⟩
  have X10 : Def P w K mg base CX0 19 "edges_behind" ["machine"] (spAdj K behindI) := ⟨fD12, dD12, ok_behind (k := 18) FD12, gD12, FD12.kp, bD12⟩
  have X11 : Def P w K mg base CX0 20 "far_from_end" ["machine"] (spFar K) := ⟨fD11, dD11, ok_far (k := 18) FD11 X10 n_list n_len, gD11, FD11.kp, bD11⟩
  have X12 : Def P w K mg base CX0 21 "least_pile" ["machine", "control"] (spLp K) := ⟨fD10, dD10, ok_lp (k := 18) FD10 X11 X7 X6 n_list n_min n_tuple, gD10, FD10.kp, bD10⟩
  have X13 : Def P w K mg base CX0 21 "_law_least" ["_law_web", "_law_mode"] (spLs K) := ⟨fD13, dD13, ok_ls (k := 20) FD13 n_range n_min n_dict, gD13, FD13.kp, bD13⟩
  have X14 : Def P w K mg base CX0 20 "_law_live" ["_law_web"] (spLv K) := ⟨fD15, dD15, ok_lv (k := 19) FD15 n_range n_len n_list, gD15, FD15.kp, bD15⟩
  have X15 : Def P w K mg base CX0 21 "_law_controls" ["_law_web"] (spCtOf K) := ⟨fD14, dD14, ok_lc (k := 19) FD14 X14 n_sorted n_set, gD14, FD14.kp, bD14⟩
  let X16 : Def P w K mg base CX0 21 "controls_of" ["machine"] (spCtOf K) := ⟨fD16, dD16, ok_ctof (k := 19) FD16 X11 n_sorted, gD16, FD16.kp, bD16⟩
  have X17 : Def P w K mg base CX0 22 "_law_right" ["_law_web", "_law_controls_here"] (spRt K) := ⟨fD3, dD3, ok_rt (k := 18) FD3 X5 X8 X9 X12 X13 X15 X16 kb0 n_range n_repr, gD3, FD3.kp, bD3⟩
  have X18 : Def P w K mg base CX0 22 "_law_line" ["_law_mode", "_law_heap"] (spLn K) := ⟨fD17, dD17, ok_ln (k := 21) FD17 n_enumerate n_tuple n_len, gD17, FD17.kp, bD17⟩
  have X19 : Def P w K mg base CX0 20 "edges_behind" ["machine"] (spAdj K behindI) := ⟨fD12, dD12, ok_behind (k := 19) FD12, gD12, FD12.kp, bD12⟩
  have X20 : Def P w K mg base CX0 21 "far_from_end" ["machine"] (spFar K) := ⟨fD11, dD11, ok_far (k := 19) FD11 X19 n_list n_len, gD11, FD11.kp, bD11⟩
  have X21 : Def P w K mg base CX0 21 "states_of" ["machine", "control"] (spStOf K) := ⟨fD8, dD8, ok_stof (k := 20) FD8, gD8, FD8.kp, bD8⟩
  have X22 : Def P w K mg base CX0 21 "edges_ahead" ["machine"] (spAdj K aheadI) := ⟨fD7, dD7, ok_ahead (k := 20) FD7, gD7, FD7.kp, bD7⟩
  let X23 : Def P w K mg base CX0 22 "least_pile" ["machine", "control"] (spLp K) := ⟨fD10, dD10, ok_lp (k := 19) FD10 X20 X21 X22 n_list n_min n_tuple, gD10, FD10.kp, bD10⟩
  let X24 : Def P w K mg base CX0 22 "reads" ["machine", "control", "pile"] (spReads K) := ⟨fD6, dD6, ok_reads (k := 20) FD6 X22 X21 n_any, gD6, FD6.kp, bD6⟩
  have X25 : Def P w K mg base CX0 22 "controls_of" ["machine"] (spCtOf K) := ⟨fD16, dD16, ok_ctof (k := 20) FD16 X20 n_sorted, gD16, FD16.kp, bD16⟩
  obtain ⟨t, h1, h2⟩ := law_body (P := P) (w := w) (K := K) (mg := mg) (base := base)
    { dO := X0, dT := X1, dM := X3, dR := X17, dN := X18, dL := X23, dE := X24, dC := X25, kL := kb1, kE := kb2, mlen := n_len, mmax := n_max, mmin := n_min, mran := n_range, mtup := n_tuple } hw.1 hw.2 hr
  exact ⟨t, h1.nox, h2⟩
end MM

set_option maxHeartbeats 0
open PySem PySem.W PyProof.Rows
open_top head_K13 for PySem.Challenge.rw_fewturnsover_k13_what_machines_read

open PySem PySem.W PyProof.Rows
set_option maxHeartbeats 0 in
theorem PySem.Challenge.cw_fewturnsover_k13_what_machines_read_holds : PySem.Challenge.rw_fewturnsover_k13_what_machines_read.Holds := by
  exact head_K13 (by
  k_fill
  refine G2.walk_G (l := PySem.Challenge.rw_fewturnsover_k13_what_machines_read) (n := 63) (k := 22) (x := "_law_script") (fun K H a ns => L2.SqL K H a (ns.map L2.V.int) ∧ ns.length ≤ 63) rfl (by decide) rfl ⟨rfl, by decide, by decide⟩ (fun w h Y => PySem.W.kIn_of Y) ?F (fun _ _ _ _ hl _ hS => ⟨hS, hl⟩)
  case F =>
    intro w mg fa h KX G hmg
    refine' MM.all_mk KX G hmg (EE.at_mk ?a0 ?b0 ?c0 ?d0) (EE.at_mk ?a1 ?b1 ?c1 ?d1) (EE.at_mk ?a2 ?b2 ?c2 ?d2) (EE.at_mk ?a3 ?b3 ?c3 ?d3) (EE.at_mk ?a4 ?b4 ?c4 ?d4) (EE.at_mk ?a5 ?b5 ?c5 ?d5) (EE.at_mk ?a6 ?b6 ?c6 ?d6) (EE.at_mk ?a7 ?b7 ?c7 ?d7) (EE.at_mk ?a8 ?b8 ?c8 ?d8) (EE.at_mk ?a9 ?b9 ?c9 ?d9) (EE.at_mk ?a10 ?b10 ?c10 ?d10) (EE.at_mk ?a11 ?b11 ?c11 ?d11) (EE.at_mk ?a12 ?b12 ?c12 ?d12) (EE.at_mk ?a13 ?b13 ?c13 ?d13) (EE.at_mk ?a14 ?b14 ?c14 ?d14) (EE.at_mk ?a15 ?b15 ?c15 ?d15) (EE.at_mk ?a16 ?b16 ?c16 ?d16) (EE.at_mk ?a17 ?b17 ?c17 ?d17) (EE.at_mk ?a18 ?b18 ?c18 ?d18) ?z0 ?z1 ?z2 ?z3 ?z4 ?z5 ?z6 ?z7 ?z8 ?z9 ?z10 ?z11 ?z12 ?z13
    (case a0 => k_is); (case b0 => k_is); (case c0 => k_is); (case d0 => k_is)
    (case a1 => k_is); (case b1 => k_is); (case c1 => k_is); (case d1 => k_is)
    (case a2 => k_is); (case b2 => k_is); (case c2 => k_is); (case d2 => k_is)
    (case a3 => k_is); (case b3 => k_is); (case c3 => k_is); (case d3 => k_is)
    (case a4 => k_is); (case b4 => k_is); (case c4 => k_is); (case d4 => k_is)
    (case a5 => k_is); (case b5 => k_is); (case c5 => k_is); (case d5 => k_is)
    (case a6 => k_is); (case b6 => k_is); (case c6 => k_is); (case d6 => k_is)
    (case a7 => k_is); (case b7 => k_is); (case c7 => k_is); (case d7 => k_is)
    (case a8 => k_is); (case b8 => k_is); (case c8 => k_is); (case d8 => k_is)
    (case a9 => k_is); (case b9 => k_is); (case c9 => k_is); (case d9 => k_is)
    (case a10 => k_is); (case b10 => k_is); (case c10 => k_is); (case d10 => k_is)
    (case a11 => k_is); (case b11 => k_is); (case c11 => k_is); (case d11 => k_is)
    (case a12 => k_is); (case b12 => k_is); (case c12 => k_is); (case d12 => k_is)
    (case a13 => k_is); (case b13 => k_is); (case c13 => k_is); (case d13 => k_is)
    (case a14 => k_is); (case b14 => k_is); (case c14 => k_is); (case d14 => k_is)
    (case a15 => k_is); (case b15 => k_is); (case c15 => k_is); (case d15 => k_is)
    (case a16 => k_is); (case b16 => k_is); (case c16 => k_is); (case d16 => k_is)
    (case a17 => k_is); (case b17 => k_is); (case c17 => k_is); (case d17 => k_is)
    (case a18 => k_is); (case b18 => k_is); (case c18 => k_is); (case d18 => k_is)
    (case z0 => k_is)
    (case z1 => k_is)
    (case z2 => k_is)
    (case z3 => k_is)
    (case z4 => k_is)
    (case z5 => k_is)
    (case z6 => k_is)
    (case z7 => k_is)
    (case z8 => k_is)
    (case z9 => k_is)
    (case z10 => k_is)
    (case z11 => k_is)
    (case z12 => k_is)
    (case z13 => k_is))
