import PyProof.Rows.All
import Wide.All
import OpenK.AllK
import Wide.FinOn
import HandS.ForMost
import HandS.EndBits
import HandS.Wide
import HandS.IsInst
import PyProof.ReprRoads
import PyProof.ReprBulk
import KE.DataCmp
import KE.SortData
import HandS.SortRule
import HandS.TupSets
import KE.KDictKeyed
import KE.KDictSum
import KE.KDictCopyH
import HandS.TupAny
import HandS.CallLocal
import HandS.SetFor
import HandS.Strs
import KE.GoesEnum
import HandS.Iter
import HandS.Style
import PySem.Challenge.RW_fewturnsover_k12_what_are_machines
set_option Elab.async false
set_option linter.all false
set_option maxRecDepth 100000
set_option maxHeartbeats 4000000
namespace G0
open PySem PySem.Spec PyProof.Rows L2

/-! what repr tells of data of any depth -/
mutual
theorem nodict {K : PySem.W.Frag} {H : Hp} : ∀ (d : PyData) (v : V), Dp K H v d → d.hasDict = false
  | .none, _, _ => by simp [PyData.hasDict]
  | .bool _, _, _ => by simp [PyData.hasDict]
  | .int _, _, _ => by simp [PyData.hasDict]
  | .str _, _, _ => by simp [PyData.hasDict]
  | .list ds, _, h => by
    cases h with
    | lst _ ha => simp only [PyData.hasDict]; exact nodictAll ds _ ha
  | .tuple ds, _, h => by
    cases h with
    | tup _ ha => simp only [PyData.hasDict]; exact nodictAll ds _ ha
  | .dict _, _, h => by cases h
theorem nodictAll {K : PySem.W.Frag} {H : Hp} : ∀ (ds : List PyData) (vs : List V), DpAll K H vs ds → PyData.hasDictAll ds = false
  | [], _, _ => by simp [PyData.hasDictAll]
  | d :: ds, _, h => by
    cases h with
    | cons h1 h2 => simp only [PyData.hasDictAll, nodict d _ h1, nodictAll ds _ h2, Bool.or_self]
end

section
variable {X : Cx}
/-- repr(x) where nothing is being shown around -/
def rRepr (K : PySem.W.Frag) : List V → Hp → VK → Prop := fun xs H Q =>
  ∃ x d, xs = [x] ∧ Dp K H x d ∧ d.showable = true ∧ d.depth ≤ 60 ∧ d.shown.length ≤ sizeLine ∧ Q (.str d.shown) H
theorem call_reprD (gu : X.A.guards = some []) (ro : X.A.units + 64 < cLine) : CallR X (.builtin "repr") (rRepr X.K) := by
  intro pins s σ H xs us Q I rel hyp
  obtain ⟨x, d, rfl, dp, sh, dep, siz, fin⟩ := hyp
  obtain ⟨u, rfl, ru⟩ := vals1 rel
  cases dp with
  | non =>
    cases ru
    rw [PyData.shown_none] at fin
    exact PySem.P.repr_of_none ⟨.str _, H, I.tok _, ⟨_, rfl⟩, fin⟩
  | bl b =>
    cases ru
    rw [PyData.shown_bool] at fin
    exact PySem.P.repr_of_bool ⟨.str _, H, I.tok _, ⟨_, rfl⟩, by cases b <;> exact fin⟩
  | int i =>
    obtain ⟨t, rfl⟩ := ru
    rw [PyData.shown_int] at fin
    exact PySem.P.repr_of_int (by simpa [PyData.showable] using sh) ⟨.str _, H, I.tok _, ⟨_, rfl⟩, fin⟩
  | str z =>
    obtain ⟨t, rfl⟩ := ru
    rw [PyData.shown_str] at fin siz
    exact PySem.P.repr_of_str ⟨.str _, H, I.tok _, ⟨_, rfl⟩, fin⟩ siz
  | lst hs ha =>
    have hd := nodict _ _ (Dp.lst hs ha)
    obtain ⟨as, rd⟩ := Dp.reads I _ _ _ (Dp.lst hs ha) ru
    cases ru
    exact repr_of_reads' rd sh (fun q => absurd (q.symm.trans hd) (by decide)) gu (by omega) (fun _ _ e => e) (fun h' t k keep => ⟨.str _, H, I.kept keep, ⟨_, rfl⟩, fin⟩) siz
  | tup hs ha =>
    have hd := nodict _ _ (Dp.tup hs ha)
    obtain ⟨as, rd⟩ := Dp.reads I _ _ _ (Dp.tup hs ha) ru
    cases ru
    exact repr_of_reads' rd sh (fun q => absurd (q.symm.trans hd) (by decide)) gu (by omega) (fun _ _ e => e) (fun h' t k keep => ⟨.str _, H, I.kept keep, ⟨_, rfl⟩, fin⟩) siz
end
end G0

set_option maxHeartbeats 4000000
namespace G1
open PySem PySem.Spec PyProof.Rows L2

/-- the law's own def, run where nothing is around: its context knows that no repr is under way -/
structure LawDef (P : Program) (w : World) (K : PySem.W.Frag) (mg : Str → Option Value) (k : Nat) (fa : Addr) (x : Str) (want : Hp → Addr → List Int → Prop) : Prop where
  ex : ∃ (fd : FuncData) (nm ql : Str) (pr : Arguments) (bd : List Stmt) (sc : Scope) (dV kV doc pm cdv ct oc : Value) (an od : Option Addr) (osl : Array (Option Value)) (N : List Str),
    fd = PySem.W.fnOf nm ql pr bd sc dV kV doc pm an cdv ct ∧ K.lookup fa = some ⟨oc, od, .func fd, osl⟩ ∧ PySem.W.codeIn K cdv ql = true ∧ FnScope N [x] sc ∧
    (∀ (s : Shared) (u : Value), BindsTo s fd ⟨[u], []⟩ [(x, u)]) ∧
    ∀ base : Heap, K.In base → base.Ns mainGlobals mg → ∀ (s : Shared) (H : Hp) (a : Addr) (ns : List Int), want H a ns →
      Room k (callerA.deeper (envOfC ql sc s.heap.objs.size fa cdv)) →
      ∃ t, PSs (cxOf CX0 P w K mg base N ql sc fa cdv callerA [] s H (fun _ _ _ => False)) bd t ∧ t { nx := fun _ _ => False, rt := fun v _ => v = .bl true } (start N [.ref a]) H

section
variable {P : Program} {w : World} {K : PySem.W.Frag} {mg : Str → Option Value} {k : Nat} {fa : Addr} {x : Str} {want : Hp → Addr → List Int → Prop}
theorem LawDef.run (L : LawDef P w K mg k fa x want) {base : Heap} (hk : K.In base) (hm : base.Ns mainGlobals mg) {s : Shared} {H : Hp} {a : Addr} {ns : List Int} (hw : want H a ns) (ro : Room (k + 1) callerA)
    (e0 : Env0 P w K mg base callerA [] s H) :
    codeAny (model P w) callerA (.call (.ref fa) ⟨[.ref a], []⟩) (CR CX0 [] P w H s (fun v _ => v = .bl true) fun _ _ _ => False) s := by
  obtain ⟨fd, nm, ql, pr, bd, sc, dV, kV, doc, pm, cdv, ct, oc, an, od, osl, N, rfl, at1, cod, S, bnd, bod⟩ := L.ex
  have inS : K.In s.heap := e0.mod.kin.keeps fun b o e => (e0.bs b o e).1
  have noL : s.heap.NoLimit := e0.mod.nolimit.keeps fun b o e => (e0.bs b o e).1
  refine codeAny_call_function ro.depth (inS _ _ at1) rfl S.co S.gen rfl (PySem.W.codeRec_of inS cod) (bnd s (.ref a) _ _ _ _ ?_)
  refine wpAny_newFunctionEnv_cells S.kind (fun ⟨n, v⟩ hy => ?_) fun env he s1 y => ?_
  · have hn : n ∈ [x] := by
      have h1 := List.mem_singleton.mp hy
      rw [(Prod.mk.inj h1).1]
      exact List.mem_singleton.mpr rfl
    rcases S.par n hn with q | q
    · exact Or.inl q
    · exact Or.inr ⟨q, PySem.W.cellsFrom_some _ _ _ (Or.inl q)⟩
  subst he
  refine ⟨noL.keeps y.toInCall.keep, codeAny_func ?_⟩
  obtain ⟨t, pt, tt⟩ := bod base hk hm s H a ns hw (ro.deeper _)
  have I : Inv (cxOf CX0 P w K mg base N ql sc fa cdv callerA [] s H fun _ _ _ => False) [] (start N [.ref a]) H s1 := inv_start S ro.hd e0 rfl (.cons rfl .nil) y
  refine wpAny_mono (pt.run [] s1 _ H _ I tt) (fun fl s2 h2 => ?_) fun e s2 h2 => h2
  cases fl with
  | ret u =>
    obtain ⟨v, σ2, H2, J, rv, q⟩ := h2
    exact ⟨v, H2, J.os, J.bare, J.base, J.hok, rv, q⟩
  | next =>
    obtain ⟨_, _, _, q⟩ := h2
    exact q.elim
  | brk =>
    obtain ⟨_, _, _, q⟩ := h2
    exact q.elim
  | cont =>
    obtain ⟨_, _, _, q⟩ := h2
    exact q.elim
end
end G1

set_option maxHeartbeats 4000000
namespace G2
open PySem PySem.Spec PyProof.Rows L2 G1
section
variable {P : Program} {w : World} {K : PySem.W.Frag} {mg mb : Str → Option Value} {k : Nat} {fa a : Addr} {x : Str} {want : Hp → Addr → List Int → Prop} {S0 : Shared} {vs : List Value} {ns : List Int}
theorem not_in_nil {α : Type} {b : α} {p : Prop} (h : b ∈ ([] : List α)) : p := absurd h List.not_mem_nil
/-- from the run to what a row asks of it -/
theorem told_true {H : Hp} (fz : Only H) (hok : HOk P w H S0.heap) {r : Result} {S1 : Shared} (h : CR CX0 [] P w H S0 (fun v _ => v = .bl true) (fun _ _ _ => False) r S1) :
    r = .ok (.ret (.bool true)) ∧ OldK S0.heap S1.heap ∧ S1.os = S0.os ∧ AllBare S1.gens := by
  match r, h with
  | .error e, h => exact False.elim h
  | .ok .next, h => exact False.elim h
  | .ok .brk, h => exact False.elim h
  | .ok .cont, h => exact False.elim h
  | .ok (.ret u), ⟨v, H1, os, br, un, hk1, ru, vt⟩ =>
    have vt2 : v = .bl true := vt
    rw [vt2] at ru
    have ru2 : u = Value.bool true := ru
    subst ru2
    refine ⟨rfl, OldK.of_keep fun b o at0 => ?_, os, br⟩
    rcases fz b with free | ⟨ob, xs, frozen⟩
    · exact un.keep b o at0 free (fun z => not_in_nil z) (fun z => not_in_nil z)
    · have was := (hok b _ frozen).1
      have is := (hk1 b _ (un.frzs b ob _ frozen)).1
      rw [at0] at was
      cases was
      exact is
/-- the heap without the script -/
theorem bare_base (KX : K.In S0.heap) (gl : S0.heap.Ns mainGlobals mg) (bu : S0.heap.Ns builtinsNs mb) (bb : ∀ z : Str, z ≠ "__name__" → mb z = bootBuiltins z) (nl : S0.heap.NoLimit)
    (ob : S0.heap.get? a = some { cls := .type "list", data := .seq vs.toArray }) {H : Hp} (own : ∀ b, H b ≠ none → b = a) (out : H a ≠ none → K.lookup a = none) : Mod K mg (hidT S0.heap H) := by
  have plain : ∀ {b : Addr} {m : Str → Option Value}, S0.heap.Ns b m → (hidT S0.heap H).Ns b m := by
    rintro b m ⟨o, es, ep, at0, dat, more⟩
    refine ⟨o, es, ep, hidT_get at0 ?_, dat, more⟩
    cases hb : H b with
    | none => rfl
    | some u =>
      have ba : b = a := own b (by rw [hb]; exact Option.some_ne_none u)
      rw [ba, ob] at at0
      cases at0
      exact absurd dat (by intro z; cases z)
  refine ⟨fun b o lk => hidT_get (KX b o lk) ?_, plain gl, ⟨mb, plain bu, bb⟩, ?_⟩
  · cases hb : H b with
    | none => rfl
    | some u =>
      have ne : H b ≠ none := by rw [hb]; exact Option.some_ne_none u
      have ba : b = a := own b ne
      subst ba
      rw [out ne] at lk
      cases lk
  · obtain ⟨mc, n1, n2⟩ := nl
    exact ⟨mc, plain n1, n2⟩
theorem law_at (KX : K.In S0.heap) (gl : S0.heap.Ns mainGlobals mg) (bu : S0.heap.Ns builtinsNs mb) (bb : ∀ z : Str, z ≠ "__name__" → mb z = bootBuiltins z) (nl : S0.heap.NoLimit) (gn : S0.gens = #[])
    (ob : S0.heap.get? a = some { cls := .type "list", data := .seq vs.toArray }) (ia : IntsAre vs ns) (ln : ns.length ≤ sizeLine) (ro : Room (k + 1) callerA) (L : LawDef P w K mg k fa x want)
    (hw : ∀ H : Hp, SqL K H a (ns.map V.int) → want H a ns) :
    codeAny (model P w) callerA (.call (.ref fa) ⟨[.ref a], []⟩) (fun r S1 => r = .ok (.ret (.bool true)) ∧ OldK S0.heap S1.heap ∧ S1.os = S0.os ∧ AllBare S1.gens) S0 := by
  have lenV := ia.length
  have go : ∀ H : Hp, Only H → SqL K H a (ns.map V.int) → HOk P w H S0.heap → (∀ b, H b ≠ none → b = a) → (H a ≠ none → K.lookup a = none) →
      codeAny (model P w) callerA (.call (.ref fa) ⟨[.ref a], []⟩) (fun r S1 => r = .ok (.ret (.bool true)) ∧ OldK S0.heap S1.heap ∧ S1.os = S0.os ∧ AllBare S1.gens) S0 := by
    intro H fz sq hok own out
    have M := bare_base KX gl bu bb nl ob own out
    have e0 : Env0 P w K mg (hidT S0.heap H) callerA [] S0 H :=
      { frames := rfl, mod := M, bs := fun b o e => of_hidT e, bsz := Nat.le_of_eq (hidT_size _ _), funs := trivial, frf := fun b z => not_in_nil (show b ∈ ([] : List Addr) from z), hok := hok, bare := .of_eq gn }
    exact codeAny_mono (L.run M.kin M.glob (hw H sq) ro e0) fun r S1 h => told_true fz hok h
  by_cases hk : K.lookup a = none
  · let o0 : Obj := { cls := .type "list", data := .seq vs.toArray }
    let H0 : Hp := fun b => if b = a then some (.frz o0 (.lst (ns.map V.int))) else none
    have h1 : H0 a = some (.frz o0 (.lst (ns.map V.int))) := if_pos rfl
    have h2 : ∀ b, b ≠ a → H0 b = none := fun b hb => if_neg hb
    refine go H0 (fun b => ?_) (Or.inl (Or.inr ⟨o0, h1⟩)) (fun b u z => ?_) (fun b z => Decidable.byContradiction fun hb => z (h2 b hb)) (fun _ => hk)
    · by_cases hb : b = a
      · subst hb
        exact Or.inr ⟨_, _, h1⟩
      · exact Or.inl (h2 b hb)
    · by_cases hb : b = a
      · subst hb
        rw [h1] at z
        cases z
        exact ⟨ob, by rw [List.length_map]; exact ln, vs, _, vals_ints ia, ob⟩
      · rw [h2 b hb] at z
        cases z
  · obtain ⟨o, lk⟩ := Option.ne_none_iff_exists'.mp hk
    have same := KX a o lk
    rw [ob] at same
    cases same
    refine go (fun _ => none) (fun _ => Or.inl rfl) (Or.inr ⟨_, vs.toArray, _, lk, rfl, rfl, rfl, by rw [List.size_toArray, lenV]; exact ln, by simpa using vals_ints ia⟩) (fun b u z => by cases z) (fun b z => absurd rfl z) (fun z => absurd rfl z)
end
/-- what k_head leaves, from the law's def -/
theorem walk_G {l : PySem.W.OpenLaw} {n k : Nat} {q : Program} {loose : List Str} {XP : (Str → Option Value) → Heap → Prop} {YP : World → Heap → Prop} {d : DefRec} {K : Params → PySem.W.Frag} {x : Str} (want : PySem.W.Frag → Hp → Addr → List Int → Prop)
    (hn : l.most = some n) (hz : n ≤ sizeLine) (nodef : d.params.defaults = []) (ro : Room (k + 1) callerA) (hY : ∀ (w : World) (h : Heap), YP w h → (K w.params).In h)
    (F : ∀ (w : World) (mg : Str → Option Value) (fa : Addr) (h : Heap), (K w.params).In h → h.Ns mainGlobals mg → mg d.name = some (.ref fa) → LawDef l.prog w (K w.params) mg k fa x (want (K w.params)))
    (hw : ∀ (K : PySem.W.Frag) (H : Hp) (a : Addr) (ns : List Int), ns.length ≤ n → (∀ z ∈ ns, Builtin.Int.intBits z ≤ 1048576) → SqL K H a (ns.map V.int) → want K H a ns) :
    PySem.W.WalkO q loose XP YP l.row.toRowW d [] (fun f vs => PySem.call f vs) :=
  Att.attach_callB hn nodef fun w _ _ mg _ fa _ _ _ _ _ _ _ G Y _ _ _ atl ob ia ln bits gn =>
    law_at (hY w _ Y) G.T.g G.T.b G.T.builtins G.T.nolimit gn ob ia (Nat.le_trans ln hz) ro (F w mg fa _ (hY w _ Y) G.T.g atl) fun H sq => hw _ H _ _ ln bits sq
end G2

set_option maxHeartbeats 4000000
namespace G3
open PySem PySem.Spec PyProof.Rows L2
section
variable {X : Cx} {CX : CXT} {k : Nat} {f : Addr} {fd : FuncData} {ps ks : List Str} {sp : Sp} {E : XK} {x : Str} {p pos : Pos} {kws : List Keyword} {tk : TA} {g : List Value → List Value → List Value} {gV : List V → List V → List V}
/-- f(k = v, ..), nothing by place -/
theorem pe_named (F : FnOk X.prog X.w X.K X.mg X.base CX k f fd ps sp) (ro : Room k X.A) (gl : Gl X x) (at0 : X.mg x = some (.ref f)) (kp : PySem.W.keepIn X.K (.ref f) = true) (kb : KBinds X.K fd ps ks g gV) (px : Passes CX X E) (pk : PK X kws tk)
    (h1 : (backToKw pos (keywordEach kws X.env)).all (·.1.isSome) = true := by rfl) (h2 : (backToKw pos (keywordEach kws X.env)).filterMap (·.1) = ks := by rfl) (h3 : (x == ("__debug__" : Str)) = false := by decide)
    (h4 : ((backTo pos (starEach [] X.env)).any (·.1) || (backToKw pos (keywordEach kws X.env)).any (·.1.isNone)) = false := by rfl) :
    PE X (.Call (.Name x p) [] kws pos) (tCallK sp gV E tNil tk) := by
  refine ⟨fun pins s σ H Q I hyp => wpAny_Call_Name_kw (ld_glob I gl at0 ?_ h3)⟩
  refine PySem.W.callWith_KW0 (h₀ := X.base) I.ok.mod.kin kp h1 (thn (pk.run pos pins s σ H _ I hyp) fun ws s2 ⟨zs, H2, I2, rz, q2⟩ => ⟨I2.kIn, ?_⟩) h4
  rw [h2]
  exact run_fnk (us := []) (vs := []) F ro kb px I2 .nil rz q2
end
/-! heaps -/
theorem same_refl {H : Hp} : Same H H := fun _ _ e => e
theorem same_new {H : Hp} {p : Addr} {o : HO} (h : H p = none) : Same H (upd H p o) := fun b x e => by
  rw [upd_ne (ne_of_none e h)]
  exact e
/-- a store at what was not there at first -/
theorem same_put {H H1 : Hp} {p : Addr} {o : HO} (s : Same H H1) (h : H p = none) : Same H (upd H1 p o) := fun b x e => by
  rw [upd_ne (ne_of_none e h)]
  exact s b x e
theorem same_none {H H1 : Hp} {p : Addr} (s : Same H H1) (h : H1 p = none) : H p = none := by
  cases e : H p with
  | none => rfl
  | some o => rw [s _ _ e] at h; cases h
end G3

set_option maxHeartbeats 4000000
namespace G4
open PySem PySem.Spec PyProof.Rows L2
/-! data that is shown and compared: short leaves, no dicts -/
def nice (d : PyData) : Bool := d.showable && (d.canLay0 && d.leavesShort 13)
theorem nice_show {d : PyData} (h : nice d = true) : d.showable = true := (Bool.and_eq_true_iff.mp h).1
theorem nice_lay {d : PyData} (h : nice d = true) : d.canLay0 = true := (Bool.and_eq_true_iff.mp (Bool.and_eq_true_iff.mp h).2).1
theorem nice_short {d : PyData} (h : nice d = true) : d.leavesShort 13 = true := (Bool.and_eq_true_iff.mp (Bool.and_eq_true_iff.mp h).2).2
theorem nice_mk {d : PyData} (a : d.showable = true) (b : d.canLay0 = true) (c : d.leavesShort 13 = true) : nice d = true := by
  unfold nice
  rw [a, b, c]
  rfl
theorem nice_all : ∀ xs : List PyData, (∀ x ∈ xs, nice x = true) → PyData.showableAll xs = true ∧ PyData.canLayAll0 xs = true ∧ PyData.leavesShortAll 13 xs = true
  | [], _ => by simp only [PyData.showableAll, PyData.canLayAll0, PyData.leavesShortAll]; exact ⟨trivial, trivial, trivial⟩
  | x :: xs, h => by
    have hx := h x List.mem_cons_self
    have ih := nice_all xs fun y hy => h y (List.mem_cons_of_mem _ hy)
    simp only [PyData.showableAll, PyData.canLayAll0, PyData.leavesShortAll, nice_show hx, nice_lay hx, nice_short hx, ih.1, ih.2.1, ih.2.2, Bool.and_self]
    exact ⟨trivial, trivial, trivial⟩
theorem nice_list {xs : List PyData} (h : ∀ x ∈ xs, nice x = true) : nice (.list xs) = true := by
  have q := nice_all xs h
  exact nice_mk (by simp only [PyData.showable]; exact q.1) (by simp only [PyData.canLay0]; exact q.2.1) (by simp only [PyData.leavesShort]; exact q.2.2)
theorem nice_tuple {xs : List PyData} (h : ∀ x ∈ xs, nice x = true) : nice (.tuple xs) = true := by
  have q := nice_all xs h
  exact nice_mk (by simp only [PyData.showable]; exact q.1) (by simp only [PyData.canLay0]; exact q.2.1) (by simp only [PyData.leavesShort]; exact q.2.2)
theorem nice_none : nice .none = true := nice_mk (by simp only [PyData.showable]) (by simp only [PyData.canLay0]) (by simp only [PyData.leavesShort])
theorem nice_bool (b : Bool) : nice (.bool b) = true := nice_mk (by simp only [PyData.showable]) (by simp only [PyData.canLay0]) (by simp only [PyData.leavesShort])
theorem int_few : ∀ n : Nat, n < 200 → nice (.int (n - 100)) = true := by decide +kernel
theorem nice_int {i : Int} (h : -100 ≤ i) (h2 : i < 100) : nice (.int i) = true := by
  have q := int_few (i + 100).toNat (by omega)
  have e : (((i + 100).toNat : Nat) : Int) - 100 = i := by omega
  rw [e] at q
  exact q
theorem depth_all {k : Nat} : ∀ xs : List PyData, (∀ x ∈ xs, x.depth ≤ k) → PyData.depthAll xs ≤ k
  | [], _ => by simp only [PyData.depthAll]; exact Nat.zero_le _
  | x :: xs, h => by
    simp only [PyData.depthAll]
    exact Nat.max_le.mpr ⟨h x List.mem_cons_self, depth_all xs fun y hy => h y (List.mem_cons_of_mem _ hy)⟩
theorem depth_list {k : Nat} {xs : List PyData} (h : ∀ x ∈ xs, x.depth ≤ k) : (PyData.list xs).depth ≤ k + 1 := by
  simp only [PyData.depth]
  exact Nat.add_le_add_right (depth_all xs h) 1
theorem depth_tuple {k : Nat} {xs : List PyData} (h : ∀ x ∈ xs, x.depth ≤ k) : (PyData.tuple xs).depth ≤ k + 1 := by
  simp only [PyData.depth]
  exact Nat.add_le_add_right (depth_all xs h) 1
theorem bulk_all {m : Nat} : ∀ xs : List PyData, (∀ x ∈ xs, x.bulk ≤ m) → PyData.bulkAll xs ≤ (m + 1) * xs.length
  | [], _ => by simp only [PyData.bulkAll]; exact Nat.zero_le _
  | x :: xs, h => by
    have h1 := h x List.mem_cons_self
    have ih := bulk_all xs fun y hy => h y (List.mem_cons_of_mem _ hy)
    simp only [PyData.bulkAll, List.length_cons]
    rw [Nat.mul_add]
    omega
theorem bulk_list {m n : Nat} {xs : List PyData} (h : ∀ x ∈ xs, x.bulk ≤ m) (hn : xs.length ≤ n) : (PyData.list xs).bulk ≤ (m + 1) * n := by
  simp only [PyData.bulk]
  exact Nat.le_trans (bulk_all xs h) (Nat.mul_le_mul_left _ hn)
theorem bulk_tuple {m n : Nat} {xs : List PyData} (h : ∀ x ∈ xs, x.bulk ≤ m) (hn : xs.length ≤ n) : (PyData.tuple xs).bulk ≤ (m + 1) * n := by
  simp only [PyData.bulk]
  exact Nat.le_trans (bulk_all xs h) (Nat.mul_le_mul_left _ hn)
theorem nice_fits {d : PyData} (h : nice d = true) (hb : d.bulk ≤ 2 ^ 20) : d.shown.length ≤ sizeLine := PyData.shown_fits_bulk (B := 13) (by decide) (by decide) (nice_short h) hb
theorem nice_shaped {d : PyData} (h : nice d = true) (hd : d.depth ≤ 60) : SeqAt.shaped d = true := by
  unfold SeqAt.shaped
  rw [nice_lay h, decide_eq_true (show d.depth ≤ 64 by omega)]
  rfl
theorem dpAll_map {α : Type} {K : PySem.W.Frag} {H : Hp} {f : α → V} {g : α → PyData} : ∀ xs : List α, (∀ x ∈ xs, Dp K H (f x) (g x)) → DpAll K H (xs.map f) (xs.map g)
  | [], _ => .nil
  | x :: xs, h => .cons (h x List.mem_cons_self) (dpAll_map xs fun y hy => h y (List.mem_cons_of_mem _ hy))
end G4

set_option maxHeartbeats 4000000
namespace N1
open PySem PySem.Spec PyProof.Rows L2 G3
section
variable {X : Cx}
/-- a < b, data of any depth that are alike -/
def rLtDp (K : PySem.W.Frag) : R2 := fun x y H Q => ∃ d e, Dp K H x d ∧ Dp K H y e ∧ PySem.W.alike d e = true ∧ d ≠ .none ∧ d.depth ≤ 60 ∧ Q (.bl (PySem.W.dataLt d e)) H
theorem op_ltDp (hu : X.A.units + 64 < cLine) : OpR X (compareOp .Lt) (rLtDp X.K) := by
  intro pins s σ H x y v u Q I rx ry h
  obtain ⟨d, e, hd, he, al, nn, dep, q⟩ := h
  obtain ⟨as, r1⟩ := Dp.reads I d x v hd rx
  obtain ⟨bs, r2⟩ := Dp.reads I e y u he ry
  exact PySem.W.lt_data r1 r2 al nn (by have := Nat.min_le_left d.depth e.depth; omega) ⟨.bl _, H, I, rfl, q⟩
theorem each_rel : ∀ {bs : List (V × PyData)} {us : List Value}, Vals (bs.map (·.1)) us → PySem.W.EachIs (fun v (b : V × PyData) => RelV b.1 v) us bs
  | [], _, .nil => .nil
  | _ :: _, _, .cons r t => .cons r (each_rel t)
theorem rel_each {us : List Value} {bs : List (V × PyData)} (h : PySem.W.EachIs (fun v (b : V × PyData) => RelV b.1 v) us bs) : Vals (bs.map (·.1)) us := by
  induction h with
  | nil => exact .nil
  | cons r _ ih => exact .cons r ih
theorem each_reads {pins : List (Addr × Obj)} {σ : L2.St} {H : Hp} {s : Shared} (I : Inv X pins σ H s) : ∀ {bs : List (V × PyData)} {us : List Value}, Vals (bs.map (·.1)) us → (∀ b ∈ bs, Dp X.K H b.1 b.2) → PySem.W.EachIs (fun v (b : V × PyData) => ∃ as, Reads s.heap v b.2 as) us bs
  | [], _, .nil, _ => .nil
  | b :: bs, _, .cons r t, h => .cons (Dp.reads I b.2 b.1 _ (h b List.mem_cons_self) r) (each_reads I t fun c hc => h c (List.mem_cons_of_mem _ hc))
/-- sorted(xs), data of any depth that are alike -/
def rSortD (K : PySem.W.Frag) : List V → Hp → VK → Prop := fun vs H Q => ∃ (a : Addr) (bs : List (V × PyData)), vs = [.ref a] ∧ SqL K H a (bs.map (·.1)) ∧ (∀ b ∈ bs, Dp K H b.1 b.2 ∧ b.2.depth ≤ 60) ∧ PySem.W.AllAlike (bs.map (·.2)) ∧ PySem.W.Sortable (bs.map (·.2)) ∧
  ∀ p, H p = none → Q (.ref p) (upd H p (.lst ((bs.mergeSort (PySem.W.dataLe false (·.2))).map (·.1))))
theorem cr_sortedD (hu : X.A.units + 64 < cLine) : CallR X (.builtin "sorted") (rSortD X.K) := by
  intro pins s σ H vs us Q I r h
  obtain ⟨a, bs, rfl, hs, hd, al, so, q⟩ := h
  obtain ⟨its, rv, hl, hz⟩ := I.list hs
  obtain ⟨u, rfl, ru⟩ := vals1 r
  obtain rfl : u = Value.ref a := ru
  rw [List.length_map] at hz
  refine PySem.W.sorted_data (enc := fun b : V × PyData => b.2) hl.isList (each_rel rv) (each_reads I rv fun b hb => (hd b hb).1) al so hz (fun b hb => by have := (hd b hb).2; omega) fun out ho eo => ?_
  obtain ⟨n, hn⟩ := sortedAll_at s.heap its out.toArray
  refine ⟨.ref (s.heap.objs.size + 1), _, I.laid (t' := s.toks) (o := .lst ((bs.mergeSort (PySem.W.dataLe false (·.2))).map (·.1))) (fun b o e => sortedAll_old e) (Nat.le_succ _) ⟨?_, out, n, rel_each eo, hn⟩, rfl, q _ (I.hok.fresh (Nat.le_succ _))⟩
  rw [List.length_map, List.length_mergeSort]
  exact hz
end
end N1

set_option maxHeartbeats 4000000
namespace S1
open PySem PySem.Spec PyProof.Rows L2

/-! keys that may stand in a set -/
mutual
/-- a key of whole numbers and tuples alone -/
def figures : NestedKey → Bool
  | .num _ => true
  | .tup ks => figuresAll ks
  | .none => false
  | .text _ => false
def figuresAll : List NestedKey → Bool
  | [] => true
  | k :: ks => figures k && figuresAll ks
end
section
variable {P : Program} {w : World} {E : Value → Shared → Prop}
theorem loop_false {A : Around} {s : Shared} {f : Value → Sem Bool} {vs : Array Value} {Q : Bool → Shared → Prop} (each : ∀ v ∈ vs.toList, ∀ (Q' : Bool → Shared → Prop), Q' false s → wpAny (model P w) A (f v) Q' E s) (fin : Q false s) :
    wpAny (model P w) A (do
      for y in vs do
        if ← f y then return true
      return false : Sem Bool) Q E s := by
  refine wpAny_bind ?_
  rw [← Array.forIn_toList]
  refine wpAny_forIn_list _ (fun rest r s1 => r.1 = none ∧ s1 = s ∧ ∀ v ∈ rest, v ∈ vs.toList) _ ?_ ?_ _ _ ⟨rfl, rfl, fun v hv => hv⟩
  · rintro v rest r s1 ⟨r0, rfl, inside⟩
    refine wpAny_bind (each v (inside v List.mem_cons_self) _ ?_)
    simp only [Bool.false_eq_true, if_false]
    exact wpAny_pure ⟨rfl, rfl, fun u hu => inside u (List.mem_cons_of_mem _ hu)⟩
  · rintro ⟨r1, r2⟩ s1 ⟨r0, rfl, _⟩
    simp only at r0
    subst r0
    exact wpAny_pure fin
theorem loop_true {A : Around} {s : Shared} {f : Value → Sem Bool} {vs : Array Value} {Q : Bool → Shared → Prop} (each : ∀ v ∈ vs.toList, ∀ (Q' : Bool → Shared → Prop), Q' true s → wpAny (model P w) A (f v) Q' E s) (fin : Q true s) :
    wpAny (model P w) A (do
      for y in vs do
        if !(← f y) then return false
      return true : Sem Bool) Q E s := by
  refine wpAny_bind ?_
  rw [← Array.forIn_toList]
  refine wpAny_forIn_list _ (fun rest r s1 => r.1 = none ∧ s1 = s ∧ ∀ v ∈ rest, v ∈ vs.toList) _ ?_ ?_ _ _ ⟨rfl, rfl, fun v hv => hv⟩
  · rintro v rest r s1 ⟨r0, rfl, inside⟩
    refine wpAny_bind (each v (inside v List.mem_cons_self) _ ?_)
    simp only [Bool.not_true, Bool.false_eq_true, if_false]
    exact wpAny_pure ⟨rfl, rfl, fun u hu => inside u (List.mem_cons_of_mem _ hu)⟩
  · rintro ⟨r1, r2⟩ s1 ⟨r0, rfl, _⟩
    simp only at r0
    subst r0
    exact wpAny_pure fin
mutual
theorem no_class : ∀ (k : NestedKey) (v : Value) (n : Nat) (A : Around) (s : Shared) (Q : Bool → Shared → Prop), NestedIs s.heap k v → figures k = true → k.depth ≤ n → Q false s → wpAny (model P w) A (ofAClassStatement n v) Q E s
  | .num i, v, n, A, s, Q, is, fg, dn, q => by
    have e : ofAClassStatement n v = pure false := by
      cases is <;> (cases n <;> rfl)
    rw [e]
    exact wpAny_pure q
  | .none, _, _, _, _, _, _, fg, _, _ => by simp [figures] at fg
  | .text _, _, _, _, _, _, _, fg, _, _ => by simp [figures] at fg
  | .tup ks, v, 0, A, s, Q, is, fg, dn, q => by simp only [NestedKey.depth] at dn; omega
  | .tup ks, v, n + 1, A, s, Q, is, fg, dn, q => by
    cases is with
    | tup hg hc hd hk =>
      rename_i a o vs m
      simp only [NestedKey.depth] at dn
      simp only [figures] at fg
      unfold ofAClassStatement
      refine wpAny_bind (wpAny_typeOf (⟨o, hg, hc⟩ : s.TypeIs (.ref a) "tuple") ?_)
      dsimp only
      have e : (("tuple" : String) == "tuple") = true := by decide
      simp only [e, if_true, Bool.not_true, Bool.false_eq_true, if_false]
      try refine wpAny_bind (wpAny_pure ?_)
      try simp only [Bool.not_true, Bool.false_eq_true, if_false]
      show wpAny _ _ (seqItems? (.ref a) >>= _) _ _ s
      refine wpAny_bind (wpAny_seqItems hg hd ?_)
      exact loop_false (fun u hu Q' q' => no_classes ks vs.toList n A s hk fg (by omega) u hu Q' q') q
theorem no_classes : ∀ (ks : List NestedKey) (vs : List Value) (n : Nat) (A : Around) (s : Shared), NestedAll s.heap ks vs → figuresAll ks = true → NestedKey.depthAll ks ≤ n → ∀ u ∈ vs, ∀ Q : Bool → Shared → Prop, Q false s → wpAny (model P w) A (ofAClassStatement n u) Q E s
  | [], _, _, _, _, is, _, _, u, hu, _, _ => by cases is; cases hu
  | k :: ks, _, n, A, s, is, fg, dn, u, hu, Q, q => by
    cases is with
    | cons i1 i2 =>
      simp only [figuresAll, Bool.and_eq_true] at fg
      simp only [NestedKey.depthAll] at dn
      rcases List.mem_cons.mp hu with e | hu
      · rw [e]; exact no_class k _ n A s Q i1 fg.1 (by omega) q
      · exact no_classes ks _ n A s i2 fg.2 (by omega) u hu Q q
end
mutual
theorem by_value : ∀ (k : NestedKey) (v : Value) (n : Nat) (A : Around) (s : Shared) (Q : Bool → Shared → Prop), NestedIs s.heap k v → figures k = true → k.depth ≤ n → Q true s → wpAny (model P w) A (hashByValue n v) Q E s
  | .num i, v, n, A, s, Q, is, fg, dn, q => by
    have e : hashByValue n v = pure true := by
      cases is <;> (cases n <;> rfl)
    rw [e]
    exact wpAny_pure q
  | .none, _, _, _, _, _, _, fg, _, _ => by simp [figures] at fg
  | .text _, _, _, _, _, _, _, fg, _, _ => by simp [figures] at fg
  | .tup ks, v, 0, A, s, Q, is, fg, dn, q => by simp only [NestedKey.depth] at dn; omega
  | .tup ks, v, n + 1, A, s, Q, is, fg, dn, q => by
    cases is with
    | tup hg hc hd hk =>
      rename_i a o vs m
      simp only [NestedKey.depth] at dn
      simp only [figures] at fg
      unfold hashByValue
      refine wpAny_bind (wpAny_specialOf (⟨o, hg, hc⟩ : s.TypeIs (.ref a) "tuple") F.slot_tuple_hash.lookup ?_)
      show wpAny _ _ (seqItems? (.ref a) >>= _) _ _ s
      refine wpAny_bind (wpAny_seqItems hg hd ?_)
      exact loop_true (vs := vs) (fun u hu Q' q' => by_values ks vs.toList n A s hk fg (by omega) u hu Q' q') q
theorem by_values : ∀ (ks : List NestedKey) (vs : List Value) (n : Nat) (A : Around) (s : Shared), NestedAll s.heap ks vs → figuresAll ks = true → NestedKey.depthAll ks ≤ n → ∀ u ∈ vs, ∀ Q : Bool → Shared → Prop, Q true s → wpAny (model P w) A (hashByValue n u) Q E s
  | [], _, _, _, _, is, _, _, u, hu, _, _ => by cases is; cases hu
  | k :: ks, _, n, A, s, is, fg, dn, u, hu, Q, q => by
    cases is with
    | cons i1 i2 =>
      simp only [figuresAll, Bool.and_eq_true] at fg
      simp only [NestedKey.depthAll] at dn
      rcases List.mem_cons.mp hu with e | hu
      · rw [e]; exact by_value k _ n A s Q i1 fg.1 (by omega) q
      · exact by_values ks _ n A s i2 fg.2 (by omega) u hu Q q
end
end
/-- the tuple at b is the key k, of figures, not deep -/
structure Fig (h : Heap) (k : NestedKey) (b : Addr) : Prop where
  is : NestedIs h k (.ref b)
  fg : figures k = true
  dp : k.depth ≤ 8
theorem Fig.inj {h : Heap} {k k' : NestedKey} {b : Addr} (x : Fig h k b) (y : Fig h k' b) : k = k' := NestedIs.inj _ _ _ x.is y.is
theorem Fig.on {h h' : Heap} {k : NestedKey} {b : Addr} (x : Fig h k b) (keep : ∀ c o, h.get? c = some o → h'.get? c = some o) : Fig h' k b := ⟨NestedIs.at (fun a o vs n e _ => keep a o e) k _ x.is, x.fg, x.dp⟩
/-- what is done to a set turns no key -/
theorem Fig.off {h h' : Heap} {k : NestedKey} {a b : Addr} {o : Obj} {es : Array (Int × Value)} {ep : Nat} {t : SetTable} (x : Fig h k b) (at0 : h.get? a = some o) (dat : o.data = .set es ep t) (sb : Heap.SameBut a h h') : Fig h' k b := by
  refine ⟨NestedIs.at (fun c oc vs n e ed => ?_) k _ x.is, x.fg, x.dp⟩
  have ne : c ≠ a := fun z => by
    rw [z, at0] at e
    cases e
    rw [dat] at ed
    cases ed
  rw [sb.2 c ne]
  exact e
end S1

set_option maxHeartbeats 4000000
namespace S2
open PySem PySem.Spec PyProof.Rows L2 S1
abbrev Row := Addr × NestedKey
/-- how a row stands in the table -/
abbrev cell (w : World) (p : Row) : Int × Value := (p.2.hash w, .ref p.1)
/-- the step c of the way of a hash -/
abbrev pr (m : Nat) (x : Int) (c : Nat) : SetTable.Probe := nth m (runAt m (SetTable.bits x % (m + 1)) (SetTable.bits x)) c
/-- a set of keys of figures, all of it -/
structure Has (w : World) (h : Heap) (a : Addr) (L : List Row) (es : Array (Int × Value)) (ep : Nat) (t : SetTable) : Prop where
  o : ∃ o, h.get? a = some o ∧ o.ExactSet ∧ o.data = .set es ep t
  cells : es.toList = L.map (cell w)
  tab : TabOk t (L.map fun p => p.2.hash w)
  once : (L.map (·.2)).Nodup
  keys : ∀ p ∈ L, Fig h p.2 p.1
  flat : t.plain = true
  led : w.params.followText "set-order" = true ∨ t.led = true
  spare : L.length * 5 < t.mask * 3
  few : L.length < 64
section
variable {w : World} {h : Heap} {a : Addr} {L : List Row} {es : Array (Int × Value)} {ep : Nat} {t : SetTable}
theorem many (e : es.toList = L.map (cell w)) : es.size = L.length := by
  have q := congrArg List.length e
  simpa using q
theorem fits_of (e1 : t.place.size = es.size) (e2 : t.dummies = #[]) (e3 : es.size ≤ t.mask) : t.fits es.size = true := by
  have q : t.place.size = es.size ∧ t.place.size + 0 ≤ t.mask := ⟨e1, by omega⟩
  unfold SetTable.fits SetTable.fill
  rw [e2, Bool.and_eq_true, beq_iff_eq, decide_eq_true_eq]
  exact q
theorem Has.places (R : Has w h a L es ep t) : t.place.size = L.length := by
  have q := R.tab.sz
  rwa [List.length_map] at q
theorem Has.fits (R : Has w h a L es ep t) : t.fits es.size = true := by
  have q1 := R.places
  have q2 := many R.cells
  have q3 := R.spare
  exact fits_of (by omega) R.tab.dm (by omega)
theorem at_cell (e : es.toList = L.map (cell w)) {i : Nat} {p : Row} (q : L[i]? = some p) : es[i]? = some (cell w p) := by
  rw [← Array.getElem?_toList, e, List.getElem?_map, q, Option.map_some]
theorem no_dummy (m : Nat) (x : Int) : ∀ c, (pr m x c).dummy = none := by
  have step : ∀ (n : Nat) (p : SetTable.Probe), p.dummy = none → (nth m p n).dummy = none := by
    intro n
    induction n with
    | zero => exact fun _ z => z
    | succ n ih =>
      intro p z
      apply ih (adv m p)
      unfold adv
      split
      · exact z
      · exact z
  exact fun c => step c _ rfl
end
section
variable {P : Program} {w : World} {A : Around} {E : Value → Shared → Prop} {s : Shared} {a : Addr} {L : List Row} {es : Array (Int × Value)} {ep : Nat} {t : SetTable}
/-- two such keys are asked whether they are equal -/
theorem eq_figs {x y : Addr} {k k' : NestedKey} {Q : Bool → Shared → Prop} (fx : Fig s.heap k x) (fy : Fig s.heap k' y) (hu : A.units + 8 < cLine) (q : Q (decide (k = k')) s) : wpAny (model P w) A (eqBool (.ref x) (.ref y)) Q E s :=
  (nestedKind P w).eqBool (show A.units + 8 < cLine from hu) ⟨fx.is, fx.dp⟩ ⟨fy.is, fy.dp⟩ q
/-- no search among such keys shows the table -/
theorem unseen {x : Addr} {k : NestedKey} {ys : List Value} {Q : Bool → Shared → Prop} (fx : Fig s.heap k x) (all : ∀ y ∈ ys, ∃ k' c, y = Value.ref c ∧ Fig s.heap k' c) (q : Q false s) : wpAny (model P w) A (searchCouldBeSeen (.ref x) ys) Q E s := by
  unfold searchCouldBeSeen
  refine wpAny_bind ?_
  refine wpAny_forIn_list _ (fun rest r s1 => r.1 = none ∧ s1 = s ∧ ∀ y ∈ rest, y ∈ ys) _ ?_ ?_ _ _ ⟨rfl, rfl, fun y hy => hy⟩
  · rintro y rest r s1 ⟨r0, rfl, sub⟩
    obtain ⟨k', c, rfl, fc⟩ := all y (sub y List.mem_cons_self)
    have sub2 : ∀ z ∈ rest, z ∈ ys := fun z hz => sub z (List.mem_cons_of_mem _ hz)
    dsimp only
    by_cases very : (x == c || (carriedByValue (.ref x) && carriedByValue (.ref c))) = true
    · exact wp_if_pos very (wpAny_pure ⟨rfl, rfl, sub2⟩)
    · refine wp_if_neg very (wpAny_bind ((nestedKind P w).quiet ⟨fx.is, fx.dp⟩ ?_))
      simp only [Bool.not_true, Bool.false_eq_true, if_false]
      refine wpAny_bind ((nestedKind P w).quiet ⟨fc.is, fc.dp⟩ ?_)
      simp only [Bool.not_true, Bool.false_eq_true, if_false]
      refine wpAny_bind (no_class _ _ 8 _ _ _ fx.is fx.fg fx.dp ?_)
      simp only [Bool.false_eq_true, if_false]
      refine wpAny_bind (no_class _ _ 8 _ _ _ fc.is fc.fg fc.dp ?_)
      simp only [Bool.false_eq_true, if_false]
      exact wpAny_pure ⟨rfl, rfl, sub2⟩
  · rintro ⟨r1, r2⟩ s1 ⟨r0, rfl, _⟩
    simp only at r0
    subst r0
    exact wpAny_pure q
/-- the search for a key, from a step of its way on: f turns are enough where no more steps are left to the first free place -/
theorem seek (R : Has w s.heap a L es ep t) {x : Addr} {k : NestedKey} (fx : Fig s.heap k x) (hu : A.units + 8 < cLine) {top : Nat} (short : top < 10 * SetTable.turns t.mask)
    (free : way t.mask (k.hash w) top ∉ t.place.toList) (taken : ∀ c, c < top → way t.mask (k.hash w) c ∈ t.place.toList) {Q : SetFound → Shared → Prop}
    (is : k ∈ L.map (·.2) → Q (.there none) s) (isnt : k ∉ L.map (·.2) → Q (.free (way t.mask (k.hash w) top) false) s) :
    ∀ (f c : Nat) (from_ : Option SetTable.Probe), from_.getD (t.probeStart (k.hash w)) = pr t.mask (k.hash w) c → c ≤ top → top - c < f →
      (∀ (i : Nat) (p : Row), L[i]? = some p → p.2 = k → ∃ d, c ≤ d ∧ d < top ∧ t.place.toList[i]? = some (way t.mask (k.hash w) d)) →
      wpAny (model P w) A (setSearchFrom a (.ref x) (k.hash w) true f from_) Q E s := by
  obtain ⟨o, at0, ex, dat⟩ := R.o
  generalize hh : k.hash w = hx at *
  intro f
  induction f with
  | zero => exact fun c from_ _ _ z => absurd z (Nat.not_lt_zero _)
  | succ f ih =>
    intro c from_ e0 le0 lt0 ahead
    rw [setSearchFrom_succ]
    refine wpAny_bind (wpAny_setState_of at0 dat R.fits ?_)
    dsimp only
    refine wp_if_neg (by unfold SetTable.gaveWay; rw [mask_odd R.tab.mok]; decide) ?_
    try refine wpAny_bind (wpAny_pure ?_)
    have onward : ∀ q, nth t.mask (pr t.mask hx c) q = pr t.mask hx (c + q) := fun q => (nth_add t.mask c _ q).symm
    have place : ∀ q, (nth t.mask (pr t.mask hx c) q).j = way t.mask hx (c + q) := fun q => congrArg SetTable.Probe.j (onward q)
    have hashes : ∀ (i : Nat) (p : Row), L[i]? = some p → (es[i]?.map (·.1)).getD 0 = p.2.hash w := fun i p q => by
      rw [at_cell R.cells q]
      rfl
    have back : c + (top - c) = top := by omega
    rw [e0]
    rcases go_spec t R.tab.ris R.tab.dm (fun i => (es[i]?.map (·.1)).getD 0) hx (10 * SetTable.turns t.mask) (top - c) _ (no_dummy t.mask hx c) (by omega)
      (fun q hq => by rw [place]; exact taken (c + q) (by omega)) (by rw [place, back]; exact free) with ⟨q, i, lt1, at1, eq1, none1, found⟩ | ⟨none1, found⟩
    · -- one of the same hash
      rw [place, onward] at found
      rw [place] at at1
      have found2 : t.probe (fun i => (es[i]?.map (·.1)).getD 0) hx (pr t.mask hx c) = some (.candidate (way t.mask hx (c + q)) i (pr t.mask hx (c + (q + 1)))) := found
      rw [found2]
      dsimp only
      have il : i < L.length := by
        have z := (List.getElem?_eq_some_iff.mp at1).1
        rw [Array.length_toList, R.places] at z
        exact z
      obtain ⟨p, hp⟩ : ∃ p, L[i]? = some p := ⟨_, List.getElem?_eq_getElem il⟩
      have mp : p ∈ L := List.mem_of_getElem? hp
      have live : t.slot (way t.mask hx (c + q)) = .live i := slot_live R.tab.ris at1
      have rest : wpAny (model P w) A (searchRest a (.ref x) hx true f es t (way t.mask hx (c + q)) i (pr t.mask hx (c + (q + 1)))) Q E s := by
        unfold searchRest
        rw [at_cell R.cells hp]
        dsimp only
        refine wpAny_bind (wpAny_holding (eq_figs (R.keys p mp) fx hu ?_))
        refine wpAny_bind (wpAny_setState_of at0 dat R.fits ?_)
        dsimp only
        by_cases same : p.2 = k
        · refine wp_if_pos (by simp [same]) (wpAny_pure (is ?_))
          exact List.mem_map.mpr ⟨p, mp, same⟩
        · refine wp_if_neg (by simp [same]) ?_
          try refine wpAny_bind (wpAny_pure ?_)
          rw [sameMem]
          dsimp only
          simp only [if_true, live, at_cell R.cells hp]
          refine wpAny_bind (wpAny_isSame_ref_self (wpAny_bind (wpAny_pure ?_)))
          simp only [if_true]
          refine wp_if_neg (by simp [same]) (ih (c + (q + 1)) _ rfl (by omega) (by omega) fun i2 p2 h2 k2 => ?_)
          obtain ⟨d, d1, d2, d3⟩ := ahead i2 p2 h2 k2
          have other : i2 ≠ i := fun z => by
            rw [z, hp] at h2
            cases h2
            exact same k2
          refine ⟨d, ?_, d2, d3⟩
          rcases Nat.lt_trichotomy d (c + q) with z | z | z
          · have dz : c + (d - c) = d := by omega
            refine absurd ?_ (none1 (d - c) i2 (by omega) (by rw [place, dz]; exact d3))
            rw [hashes i2 p2 h2, k2]
            exact hh
          · rw [z] at d3
            have two := slot_live R.tab.ris d3
            rw [live] at two
            cases two
            exact absurd rfl other
          · omega
      by_cases hl : t.led = true
      · refine wp_if_neg (by simp [hl]) ?_
        try refine wpAny_bind (wpAny_pure ?_)
        exact rest
      · refine wp_if_pos (by simp [hl]) (wpAny_bind (unseen fx (fun y hy => ?_) ?_))
        · obtain ⟨e, me, rfl⟩ := List.mem_map.mp hy
          have me2 : e ∈ es.toList := by
            have z : e ∈ es ∧ e.1 = hx := by simpa using me
            simpa using z.1
          rw [R.cells] at me2
          obtain ⟨p2, mp2, rfl⟩ := List.mem_map.mp me2
          exact ⟨p2.2, p2.1, rfl, R.keys p2 mp2⟩
        · refine wp_if_neg (by decide) ?_
          try refine wpAny_bind (wpAny_pure ?_)
          exact rest
    · rw [place, back] at found
      have found2 : t.probe (fun i => (es[i]?.map (·.1)).getD 0) hx (pr t.mask hx c) = some (.empty (way t.mask hx top) none) := found
      rw [found2]
      dsimp only
      refine wpAny_pure (isnt fun mem => ?_)
      obtain ⟨p, mp, kp⟩ := List.mem_map.mp mem
      obtain ⟨i, hi⟩ := List.getElem?_of_mem mp
      obtain ⟨d, d1, d2, d3⟩ := ahead i p hi kp
      have dz : c + (d - c) = d := by omega
      refine none1 (d - c) i (by omega) (by rw [place, dz]; exact d3) ?_
      rw [hashes i p hi, kp]
      exact hh
/-- the search as adding asks for it -/
theorem seek_all (R : Has w s.heap a L es ep t) {x : Addr} {k : NestedKey} (fx : Fig s.heap k x) (hu : A.units + 8 < cLine) {Q : SetFound → Shared → Prop}
    (is : k ∈ L.map (·.2) → Q (.there none) s)
    (isnt : ∀ top, k ∉ L.map (·.2) → way t.mask (k.hash w) top ∉ t.place.toList → (∀ c, c < top → way t.mask (k.hash w) c ∈ t.place.toList) → Q (.free (way t.mask (k.hash w) top) false) s) :
    wpAny (model P w) A (setSearch a (.ref x) (k.hash w) true) Q E s := by
  have sp := R.spare
  obtain ⟨top, short, free, taken⟩ := R.tab.first (by rw [List.length_map]; omega) (k.hash w)
  have small : 10 * SetTable.turns t.mask < 100000 := by
    unfold SetTable.turns
    rcases R.tab.mok with z | z | z <;> omega
  unfold setSearch
  refine seek R fx hu short free taken is (fun z => isnt top z free taken) 100000 0 none rfl (Nat.zero_le _) (by omega) fun i p hp kp => ?_
  have il : i < t.place.toList.length := by
    rw [Array.length_toList, R.places]
    exact (List.getElem?_eq_some_iff.mp hp).1
  have at1 := List.getElem?_eq_getElem il
  obtain ⟨d, d2, d3⟩ := R.tab.before free (i := i) (h := k.hash w) (by rw [List.getElem?_map, hp, ← kp, Option.map_some]) at1
  exact ⟨d, Nat.zero_le _, d2, by rw [at1, d3]⟩
end
end S2

set_option maxHeartbeats 4000000
namespace S2
open PySem PySem.Spec PyProof.Rows L2 S1
theorem pick_all {α : Type} (l : List α) : (List.range l.length).filterMap (fun i => l[i]?) = l := by
  have upto : ∀ n, n ≤ l.length → (List.range n).filterMap (fun i => l[i]?) = l.take n := by
    intro n
    induction n with
    | zero => exact fun _ => rfl
    | succ n ih =>
      intro le
      rw [List.range_succ, List.filterMap_append, ih (Nat.le_of_lt le), List.take_succ]
      congr 1
  rw [upto _ (Nat.le_refl _), List.take_length]
/-- rows put in another order -/
theorem reorder {α : Type} (L : List α) (f : α → Int × Value) (es : Array (Int × Value)) (order : Array Nat) (e : es.toList = L.map f) (pm : order.toList.Perm (List.range L.length)) :
    ∃ M : List α, (order.filterMap (es[·]?)).toList = M.map f ∧ M.Perm L ∧ (M.map fun p => (f p).1) = order.toList.map fun i => (es.map (·.1)).getD i 0 := by
  have at_ : ∀ i, es[i]? = (L[i]?).map f := fun i => by rw [← Array.getElem?_toList, e, List.getElem?_map]
  have pick : ∀ l : List Nat, (∀ i ∈ l, i < L.length) → l.filterMap (fun i => es[i]?) = (l.filterMap (fun i => L[i]?)).map f ∧ ((l.filterMap (fun i => L[i]?)).map fun p => (f p).1) = l.map fun i => (es.map (·.1)).getD i 0 := by
    intro l
    induction l with
    | nil => exact fun _ => ⟨rfl, rfl⟩
    | cons i l ih =>
      intro sub
      have lt := sub i List.mem_cons_self
      obtain ⟨q1, q2⟩ := ih fun j hj => sub j (List.mem_cons_of_mem _ hj)
      have g : L[i]? = some L[i] := List.getElem?_eq_getElem lt
      have ge : es[i]? = some (f L[i]) := by rw [at_, g, Option.map_some]
      have gd : (es.map (·.1)).getD i 0 = (f L[i]).1 := by
        rw [Array.getD_eq_getD_getElem?, Array.getElem?_map, ge]
        rfl
      refine ⟨?_, ?_⟩
      · rw [List.filterMap_cons_some (f := fun i => es[i]?) ge, List.filterMap_cons_some (f := fun i => L[i]?) g, List.map_cons, q1]
      · rw [List.filterMap_cons_some (f := fun i => L[i]?) g, List.map_cons, List.map_cons, q2, gd]
  obtain ⟨q1, q2⟩ := pick order.toList fun i hi => List.mem_range.mp (pm.mem_iff.mp hi)
  refine ⟨order.toList.filterMap (fun i => L[i]?), ?_, ?_, q2⟩
  · rw [Array.toList_filterMap]
    exact q1
  · have z := pm.filterMap (fun i => L[i]?)
    rwa [pick_all] at z
section
variable {P : Program} {w : World} {A : Around} {E : Value → Shared → Prop} {s : Shared} {a : Addr} {L : List Row} {es : Array (Int × Value)} {ep : Nat} {t : SetTable}
/-- the table laid anew -/
theorem wider {o : Obj} (at0 : s.heap.get? a = some o) (ex : o.ExactSet) (dat : o.data = .set es ep t) (cs : es.toList = L.map (cell w)) (pz : t.place.size = es.size) (dz : t.dummies = #[]) (mz : es.size ≤ t.mask)
    (once : (L.map (·.2)).Nodup) (keys : ∀ p ∈ L, Fig s.heap p.2 p.1) (flat : t.plain = true) (led : w.params.followText "set-order" = true ∨ t.led = true) (few : L.length < 64) {want M : Nat}
    (big : SetTable.sizeAbove want - 1 = M) (mo : MaskOk M) (line : SetTable.sizeAbove want ≤ 128) (spare : L.length * 5 < M * 3) {Q : Unit → Shared → Prop}
    (q : ∀ h1 L1 es1 ep1 t1, Heap.SameBut a s.heap h1 → Has w h1 a L1 es1 ep1 t1 → L1.Perm L → Q () { s with heap := h1 }) : wpAny (model P w) A (setRelay a want) Q E s := by
  have len := many cs
  obtain ⟨t1, order, laid, pm, T, em, el, epl, ed⟩ := relaid_ok t (hs := es.map (·.1)) (wanted := want) big mo (by rw [Array.size_map]; omega)
  rw [Array.size_map, len] at pm
  obtain ⟨L1, c1, p1, hs1⟩ := reorder L (cell w) es order cs pm
  have T1 : TabOk t1 (L1.map fun p => p.2.hash w) := by
    have z : (L1.map fun p => p.2.hash w) = order.toList.map fun i => (es.map (·.1)).getD i 0 := hs1
    rw [z]
    exact T
  have len1 : (order.filterMap (es[·]?)).size = es.size := by
    rw [many c1, p1.length_eq, len]
  rw [setRelay_eq]
  refine wpAny_bind (wpAny_setState_of at0 dat (fits_of pz dz mz) ?_)
  dsimp only
  refine wp_if_neg (by rw [sizeLine_eq]; omega) ?_
  try refine wpAny_bind (wpAny_pure ?_)
  rw [laid]
  dsimp only
  refine wpAny_bind ?_
  refine wp_if_neg (by rw [len1]; simp) ?_
  try refine wpAny_bind (wpAny_pure ?_)
  refine wpAny_pure ?_
  dsimp only
  refine wpAny_storeSet_of at0 dat ?_ (by rw [len1, len, sizeLine_eq]; omega)
  have sb : Heap.SameBut a s.heap (s.heap.update a (Obj.putSet (order.filterMap (es[·]?)) t1)) := Heap.SameBut.update ..
  refine q _ L1 _ (ep + 1) t1 sb { o := ⟨_, store_at at0 dat, ⟨ex.1, ex.2.1, ex.2.2⟩, rfl⟩, cells := c1, tab := T1, once := ?_, keys := fun p hp => (keys p (p1.mem_iff.mp hp)).off at0 dat sb, flat := ?_, led := ?_, spare := ?_, few := ?_ } p1
  · exact (p1.map (·.2)).nodup_iff.mpr once
  · rw [epl]; exact flat
  · rw [el]; exact led
  · rw [p1.length_eq, em]; exact spare
  · rw [p1.length_eq]; exact few
/-- a key put in -/
theorem put_in (R : Has w s.heap a L es ep t) {x : Addr} {k : NestedKey} (fx : Fig s.heap k x) (hu : A.units + 8 < cLine) (few : L.length + 1 < 64) {Q : Bool → Shared → Prop}
    (q : ∀ b h1 L1 es1 ep1 t1, Heap.SameBut a s.heap h1 → Has w h1 a L1 es1 ep1 t1 → (k ∈ L.map (·.2) ∧ L1 = L ∨ k ∉ L.map (·.2) ∧ L1.Perm ((x, k) :: L)) → Q b { s with heap := h1 }) :
    wpAny (model P w) A (setAddHashed a (.ref x) (k.hash w)) Q E s := by
  obtain ⟨o, at0, ex, dat⟩ := R.o
  have len := many R.cells
  have sp := R.spare
  unfold setAddHashed
  refine wpAny_holding ?_
  rw [show (100000 : Nat) = 99999 + 1 from rfl, setAddHashedIn_succ]
  refine wpAny_bind (wpAny_setState_of at0 dat R.fits ?_)
  dsimp only
  refine wp_if_neg (by simp [byScan, Value.scannable]) ?_
  try refine wpAny_bind (wpAny_pure ?_)
  refine wpAny_bind (seek_all R fx hu (fun mem => ?_) fun top mem free taken => ?_)
  · exact wpAny_pure (q false s.heap L es ep t (Heap.SameBut.refl a s.heap) R (.inl ⟨mem, rfl⟩))
  · dsimp only
    refine wpAny_bind (wpAny_setState_of at0 dat R.fits ?_)
    dsimp only
    obtain ⟨b1, b2, b3, b4, b5, b6, b7, b8, b9⟩ := R.tab.put free taken
    rw [List.length_map] at b2 b9
    have fl : (t.put (way t.mask (k.hash w) top)).1.plain = true := by rw [b6]; exact R.flat
    have ld : w.params.followText "set-order" = true ∨ (t.put (way t.mask (k.hash w) top)).1.led = true := by rw [b5]; exact R.led
    generalize t.put (way t.mask (k.hash w) top) = put at *
    obtain ⟨t1, n⟩ := put
    dsimp only at b1 b3 b4 b5 b6 b7 b8 b9 fl ld ⊢
    rw [← b1] at b2 b3
    clear b1 b7 b8
    first
      | (refine wpAny_bind ?_; refine wp_if_pos fl ?_; refine by_value _ _ 8 _ _ _ fx.is fx.fg fx.dp ?_)
      | refine wp_if_pos fl (wpAny_bind (by_value _ _ 8 _ _ _ fx.is fx.fg fx.dp ?_))
    simp only [if_true]
    -- the rows with the new one
    obtain ⟨L1, eL⟩ : ∃ L1, L1 = L.take n ++ (x, k) :: L.drop n := ⟨_, rfl⟩
    have pm : L1.Perm ((x, k) :: L) := by
      have z := List.perm_middle (a := (x, k)) (l₁ := L.take n) (l₂ := L.drop n)
      rw [List.take_append_drop] at z
      rw [eL]
      exact z
    have len1 : L1.length = L.length + 1 := pm.length_eq
    have T1 : TabOk t1 (L1.map fun p => p.2.hash w) := by
      rw [eL, List.map_append, List.map_cons, List.map_take, List.map_drop]
      exact b3
    have c1 : (SetTable.insertAt es n (k.hash w, Value.ref x)).toList = L1.map (cell w) := by
      rw [SetTable.toList_insertAt, R.cells, eL, List.map_append, List.map_cons, List.map_take, List.map_drop]
    have once1 : (L1.map (·.2)).Nodup := (pm.map (·.2)).nodup_iff.mpr (List.nodup_cons.mpr ⟨mem, R.once⟩)
    have esz : (SetTable.insertAt es n (k.hash w, Value.ref x)).size = L.length + 1 := (many c1).trans len1
    clear eL b3
    generalize SetTable.insertAt es n (k.hash w, Value.ref x) = es1 at c1 esz ⊢
    refine wpAny_bind (wpAny_storeSet_of at0 dat ?_ (by rw [esz, sizeLine_eq]; omega))
    have sb : Heap.SameBut a s.heap (s.heap.update a (Obj.putSet es1 t1)) := Heap.SameBut.update ..
    have at1 := store_at (es' := es1) (t' := t1) at0 dat
    have keys1 : ∀ p ∈ L1, Fig (s.heap.update a (Obj.putSet es1 t1)) p.2 p.1 := fun p hp => by
      rcases List.mem_cons.mp (pm.mem_iff.mp hp) with z | z
      · rw [z]; exact fx.off at0 dat sb
      · exact (R.keys p z).off at0 dat sb
    generalize s.heap.update a (Obj.putSet es1 t1) = h1 at sb at1 keys1 ⊢
    have pz1 : t1.place.size = L.length + 1 := by
      have z := T1.sz
      rwa [List.length_map, len1] at z
    have full : (t1.tooFull = true) ↔ t1.mask * 3 ≤ (L.length + 1) * 5 := by
      unfold SetTable.tooFull
      rw [decide_eq_true_eq, b9]
    by_cases over : t1.tooFull = true
    · have ov := full.mp over
      first
        | (refine wpAny_bind ?_; refine wp_if_pos (by simp [over]) ?_)
        | (refine wp_if_pos (by simp [over]) ?_; refine wpAny_bind ?_)
      rw [len]
      have two : (t.mask = 7 ∧ L.length = 4) ∨ (t.mask = 31 ∧ L.length = 18) := by
        rcases R.tab.mok with z | z | z
        · exact .inl ⟨z, by omega⟩
        · exact .inr ⟨z, by omega⟩
        · omega
      have lay : ∀ M, SetTable.sizeAbove (SetTable.grown (L.length + 1)) - 1 = M → MaskOk M → SetTable.sizeAbove (SetTable.grown (L.length + 1)) ≤ 128 → (L.length + 1) * 5 < M * 3 →
          wpAny (model P w) A (setRelay a (SetTable.grown (L.length + 1))) (fun _ s1 => wpAny (model P w) A (pure true) Q E s1) E { s with heap := h1 } := fun M z1 z2 z3 z4 => by
        refine wider (s := { s with heap := h1 }) at1 ⟨ex.1, ex.2.1, ex.2.2⟩ rfl c1 (by omega) T1.dm (by omega) once1 keys1 fl ld (by omega) z1 z2 z3 (by rw [len1]; exact z4) ?_
        exact fun h2 L2 es2 ep2 t2 sb2 R2 pm2 => wpAny_pure (q true h2 L2 es2 ep2 t2 (sb.trans sb2) R2 (.inr ⟨mem, pm2.trans pm⟩))
      rcases two with ⟨_, z⟩ | ⟨_, z⟩
      · exact lay 31 (by rw [z, size_20]) (.inr (.inl rfl)) (by rw [z, size_20]; decide) (by omega)
      · exact lay 127 (by rw [z, size_76]) (.inr (.inr rfl)) (by rw [z, size_76]; decide) (by omega)
    · have ov : ¬ t1.mask * 3 ≤ (L.length + 1) * 5 := fun z => over (full.mpr z)
      first
        | refine wp_if_neg (by simp [over]) ?_
        | (refine wpAny_bind ?_; refine wp_if_neg (by simp [over]) ?_; refine wpAny_pure ?_)
      exact wpAny_pure (q true h1 L1 es1 (ep + 1) t1 sb { o := ⟨_, at1, ⟨ex.1, ex.2.1, ex.2.2⟩, rfl⟩, cells := c1, tab := T1, once := once1, keys := keys1, flat := fl, led := ld, spare := by omega, few := by omega } (.inr ⟨mem, pm⟩))
end
end S2

set_option maxHeartbeats 4000000
namespace S2
open PySem PySem.Spec PyProof.Rows L2 S1
/-- a set that was just made -/
abbrev bareSet (w : World) : Obj := { cls := .type "set", dict := none, data := .set #[] 0 (.fresh 0 0 (!w.params.followText "set-order")) }
section
variable {P : Program} {w : World} {A : Around} {E : Value → Shared → Prop} {s : Shared}
/-- how an item is put into the set at S, whatever a word Wd says of the first i ones put in -/
def Puts (P : Program) (w : World) (A : Around) (S n : Nat) (Pv : Nat → Value → Prop) (Wd : Nat → Heap → Prop) : Prop :=
  ∀ (i : Nat) (v : Value) (s : Shared) (E : Value → Shared → Prop) (Q : Bool → Shared → Prop), i < n → Pv i v → Wd i s.heap → (∀ b h1 tk, s.toks ≤ tk → Heap.SameBut S s.heap h1 → Wd (i + 1) h1 → Q b { s with heap := h1, toks := tk }) → wpAny (model P w) A (setAdd S v) Q E s
theorem put_all {I S : Addr} {fp wr : List Addr} {G : Array GenState → Array GenState → Prop} {n : Nat} {Pv : Nat → Value → Prop} {St : Nat → Shared → Prop} {Wd : Nat → Heap → Prop} {R : Result → Shared → Prop}
    (W : WalksS P w A.in1 I fp wr G n Pv St) (apart : S ∉ fp) (stay : ∀ i h h1, Wd i h → (∀ b o, b ∉ wr → h.get? b = some o → h1.get? b = some o) → Wd i h1) (puts : Puts P w A.in1 S n Pv Wd) :
    ∀ (left i : Nat) (s : Shared), n - i = left → i ≤ n → St i s → Wd i s.heap → (∀ s1, Moved (S :: wr) G s s1 → Wd n s1.heap → R (.ok (.ret .none)) s1) →
      codeAny (model P w) A (.builtin "set.update.loop" ⟨[.ref S, .ref I], []⟩) R s := by
  have more : ∀ b ∈ wr, b ∈ S :: wr := fun b m => List.mem_cons_of_mem _ m
  intro left
  induction left with
  | zero =>
    intro i s hz hi st wd fin
    obtain rfl : i = n := by omega
    refine codeAny_builtin F.entry_set_update_loop ?_
    rw [Around.under_plainId F.plain_set_update_loop _]
    show wpAny _ A.in1 (pyNext (.ref I) >>= _) _ _ s
    refine wpAny_bind (W.done s _ _ st fun s1 mv => ?_)
    show wpAny _ A.in1 (ret Value.none) _ _ s1
    exact wpAny_pure (fin s1 (mv.mono more) (stay _ _ _ wd mv.heap))
  | succ left ih =>
    intro i s hz hi st wd fin
    have lt : i < n := by omega
    refine codeAny_builtin F.entry_set_update_loop ?_
    rw [Around.under_plainId F.plain_set_update_loop _]
    show wpAny _ A.in1 (pyNext (.ref I) >>= _) _ _ s
    refine wpAny_bind (W.item i s _ _ lt st fun v s1 pv st1 mv => ?_)
    show wpAny _ A.in1 (holding [v] (setAdd S v) >>= _) _ _ s1
    refine wpAny_bind (wpAny_holding (puts i v s1 _ _ lt pv (stay _ _ _ wd mv.heap) fun b h2 tk le sb wd2 => ?_))
    refine wpAny_pure ⟨plainId_quiet F.plain_set_update_loop _, ih (i + 1) _ (by omega) lt (W.frame _ s1 _ _ st1 le fun c m o e => ?_) wd2 fun s3 mv3 wd3 => fin s3 (Moved.trans W.gtrans ((mv.mono more).then_heap le fun c o m e => ?_) mv3) wd3⟩
    · rw [sb.2 c fun z : c = S => apart (z ▸ m)]
      exact e
    · rw [sb.2 c fun z : c = S => m (z ▸ List.mem_cons_self)]
      exact e
set_option maxRecDepth 100000 in
set_option maxHeartbeats 3200000 in
/-- set(t), t a tuple -/
theorem set_of_tuple {l : Addr} {items : Array Value} {Wd : Nat → Heap → Prop} {Q : Value → Shared → Prop} (calm : A.handled = none) (tl : s.heap.IsTuple l items)
    (wd0 : ∀ h1, (∀ b o, s.heap.get? b = some o → h1.get? b = some o) → h1.get? s.heap.objs.size = some (bareSet w) → Wd 0 h1)
    (stay : ∀ i h h1, Wd i h → (∀ b o, b ∉ [s.heap.objs.size + 1] → h.get? b = some o → h1.get? b = some o) → Wd i h1)
    (puts : Puts P w A.in1.in1.in1 s.heap.objs.size items.size (fun i v => items[i]? = some v) Wd)
    (fin : ∀ (h1 : Heap) (tk : Nat), Wd items.size h1 → (∀ b o, s.heap.get? b = some o → h1.get? b = some o) → Q (.ref s.heap.objs.size) { s with heap := h1, toks := tk }) :
    wpAny (model P w) A (call (.type "set") [.ref l]) Q E s := by
  obtain ⟨cM, tM, m0⟩ := F.called_set.mro
  have m1 := F.called_set.made
  have m2 := F.called_set.sub
  refine wpAny_call (codeAny_of_tree ?_)
  show wpAny _ _ (callAny (.type "set") _) _ _ _
  refine wpAny_pure ⟨Code.quiet_builtin _ (by decide +kernel), codeAny_builtin F.entry_type_call ?_⟩
  rw [Around.under_plain (weight_type_call_type "set" [.ref l] []) rfl]
  have m3 := F.called_set.notType
  have m4 := F.called_set.canCreate
  have m5 := F.typeCall_set_1 (.ref l)
  repeat (any_goals (first | assumption | wp_step))
  refine codeAny_mono (code_set_led1 (.ref l) (E := E) (Q₁ := fun u s1 => u = .ref s.heap.objs.size ∧ s1 = { s with heap := s.heap.push (bareSet w) }) ⟨rfl, rfl⟩) fun r s1 got => ?_
  match r, got with
  | .error _, got => exact got
  | .ok .next, got => exact got.elim
  | .ok .brk, got => exact got.elim
  | .ok .cont, got => exact got.elim
  | .ok (.ret u), ⟨eu, es1⟩ =>
    subst eu
    subst es1
    have new0 : (s.heap.push (bareSet w)).get? s.heap.objs.size = some (bareSet w) := Heap.get?_push_size _ rfl
    have ty0 : Shared.TypeIs { s with heap := s.heap.push (bareSet w) } (.ref s.heap.objs.size) "set" := ⟨_, new0, rfl⟩
    have m6 := F.called_set.init.lookup
    have m7 := F.called_set.init.bind (.ref s.heap.objs.size)
    repeat (any_goals (first | assumption | wp_step))
    refine codeAny_mono (codeAny_call_builtin (R := wants (fun r s2 => r = .none ∧ ∃ h1 tk, s2 = { s with heap := h1, toks := tk } ∧ Wd items.size h1 ∧ (∀ b o, s.heap.get? b = some o → h1.get? b = some o)) E) F.called_set.init.plain F.entry_set_init (check_set_init_1 ty0 ?_)) fun r2 s2 got2 => ?_
    · have old : ∀ b o, s.heap.get? b = some o → (s.heap.push (bareSet w)).get? b = some o := fun b o e => Heap.get?_push_of_some _ e
      have sz1 : (s.heap.push (bareSet w)).objs.size = s.heap.objs.size + 1 := Heap.size_push ..
      obtain ⟨⟨c0, d0, da0, sl0⟩, at0, ec, nl, ed⟩ := tl
      simp only at ec ed
      subst ec
      subst ed
      have lt0 : l < s.heap.objs.size := Heap.lt_size at0
      have at1 := old _ _ at0
      have tl1 : (s.heap.push (bareSet w)).IsTuple l items := ⟨_, at1, rfl, nl, rfl⟩
      have n1 := F.sub_tuple_set
      have n2 := F.sub_tuple_frozenset
      have n3 : (Value.type "tuple" == Value.type "dict") = false := by decide
      unfold Builtin.«set.__init__» noKeywords Builtin.Frozenset.updateFrom
      generalize ePI : pyIter = PI
      wp_walk
      subst ePI
      refine wpAny_pyIter_tuple tl1 (wpAny_bind (wpAny_runValue ?_))
      have ap : s.heap.objs.size ∉ [(s.heap.push (bareSet w)).objs.size, l] := by
        rw [sz1]
        intro m
        rcases List.mem_cons.mp m with z | z
        · omega
        · rw [List.mem_singleton.mp z] at lt0
          exact absurd lt0 (Nat.lt_irrefl _)
      have calm3 : A.in1.in1.in1.handled = none := by simp [calm]
      refine put_all ((Walks.tuple calm3 _ l (by rw [sz1]; exact Nat.ne_of_lt (Nat.lt_succ_of_lt lt0)) items).toS) ap (by rw [sz1]; exact stay) puts (items.size - 0) 0 _ (by omega) (Nat.zero_le _) ⟨⟨_, Heap.get?_push_size _ rfl, rfl, rfl⟩, (tl1.push _)⟩ (wd0 _ (fun b o e => Heap.get?_push_of_some _ (old b o e)) (Heap.get?_push_of_some _ new0)) fun s3 mv wd3 => ?_
      obtain ⟨h3, g3, d3, tk3, os3⟩ := s3
      obtain rfl : g3 = s.gens := mv.gens
      obtain rfl : d3 = s.drawn := mv.drawn
      obtain rfl : os3 = s.os := mv.os
      show wpAny _ _ _ _ _ _
      refine wpAny_pure ?_
      show wpAny _ _ (ret Value.none) _ _ _
      refine wpAny_pure ⟨rfl, h3, tk3, rfl, wd3, fun b o e => mv.heap b o (fun m => ?_) (Heap.get?_push_of_some _ (old b o e))⟩
      have lt := Heap.lt_size e
      rw [sz1] at m
      rcases List.mem_cons.mp m with z | z
      · exact absurd lt (z ▸ Nat.lt_irrefl _)
      · have z2 : b = s.heap.objs.size + 1 := List.mem_singleton.mp z
        rw [z2] at lt
        exact absurd (Nat.lt_of_succ_lt lt) (Nat.lt_irrefl _)
    · match r2, got2 with
      | .error _, got2 => exact got2
      | .ok .next, got2 => exact got2.elim
      | .ok .brk, got2 => exact got2.elim
      | .ok .cont, got2 => exact got2.elim
      | .ok (.ret r3), ⟨e3, h3, tk3, es3, wd3, old3⟩ =>
        subst e3
        subst es3
        repeat (any_goals (first | assumption | wp_step))
        exact fin _ _ wd3 old3
end
end S2

set_option maxHeartbeats 4000000
namespace S2
open PySem PySem.Spec PyProof.Rows L2 S1
/-! keys as data -/
mutual
theorem eqv_key : ∀ k k' : NestedKey, figures k = true → figures k' = true → PyData.eqv k.data k'.data = NestedKey.beq k k'
  | .num a, .num b, _, _ => by simp only [NestedKey.data, PyData.eqv, NestedKey.beq]; by_cases h : a = b <;> simp [h]
  | .num _, .tup _, _, _ => by simp [NestedKey.data, PyData.eqv, NestedKey.beq]
  | .tup _, .num _, _, _ => by simp [NestedKey.data, PyData.eqv, NestedKey.beq]
  | .tup ks, .tup ls, h, h' => by
    simp only [figures] at h h'
    simp only [NestedKey.data, PyData.eqv, NestedKey.beq]
    exact eqv_keys ks ls h h'
  | .none, _, h, _ => by simp [figures] at h
  | .text _, _, h, _ => by simp [figures] at h
  | .num _, .none, _, h => by simp [figures] at h
  | .num _, .text _, _, h => by simp [figures] at h
  | .tup _, .none, _, h => by simp [figures] at h
  | .tup _, .text _, _, h => by simp [figures] at h
theorem eqv_keys : ∀ ks ls : List NestedKey, figuresAll ks = true → figuresAll ls = true → PyData.eqvAll (NestedKey.datas ks) (NestedKey.datas ls) = NestedKey.beqAll ks ls
  | [], [], _, _ => by simp [NestedKey.datas, PyData.eqvAll, NestedKey.beqAll]
  | [], _ :: _, _, _ => by simp [NestedKey.datas, PyData.eqvAll, NestedKey.beqAll]
  | _ :: _, [], _, _ => by simp [NestedKey.datas, PyData.eqvAll, NestedKey.beqAll]
  | k :: ks, l :: ls, h, h' => by
    simp only [figuresAll, Bool.and_eq_true] at h h'
    simp only [NestedKey.datas, PyData.eqvAll, NestedKey.beqAll]
    rw [eqv_key k l h.1 h'.1, eqv_keys ks ls h.2 h'.2]
end
mutual
theorem depth_key : ∀ k : NestedKey, k.data.depth = k.depth
  | .none => by simp [NestedKey.data, PyData.depth, NestedKey.depth]
  | .num _ => by simp [NestedKey.data, PyData.depth, NestedKey.depth]
  | .text _ => by simp [NestedKey.data, PyData.depth, NestedKey.depth]
  | .tup ks => by simp only [NestedKey.data, PyData.depth, NestedKey.depth]; rw [depth_keys ks]
theorem depth_keys : ∀ ks : List NestedKey, PyData.depthAll (NestedKey.datas ks) = NestedKey.depthAll ks
  | [] => by simp [NestedKey.datas, PyData.depthAll, NestedKey.depthAll]
  | k :: ks => by simp only [NestedKey.datas, PyData.depthAll, NestedKey.depthAll]; rw [depth_key k, depth_keys ks]
end
mutual
theorem key_reads {h : Heap} : ∀ (k : NestedKey) (v : Value) (as : List Addr), figures k = true → Reads h v k.data as → NestedIs h k v ∧ as = []
  | .num i, v, as, _, r => by
    simp only [NestedKey.data] at r
    cases r with
    | int _ t => exact ⟨.int i t, rfl⟩
  | .none, _, _, f, _ => by simp [figures] at f
  | .text _, _, _, f, _ => by simp [figures] at f
  | .tup ks, v, as, f, r => by
    simp only [NestedKey.data] at r
    simp only [figures] at f
    cases r with
    | tuple h1 h2 h3 h4 =>
      obtain ⟨n1, n2⟩ := keys_reads ks _ _ f h4
      exact ⟨.tup h1 h2 h3 n1, n2⟩
theorem keys_reads {h : Heap} : ∀ (ks : List NestedKey) (vs : List Value) (as : List Addr), figuresAll ks = true → ReadsAll h vs (NestedKey.datas ks) as → NestedAll h ks vs ∧ as = []
  | [], vs, as, _, r => by
    simp only [NestedKey.datas] at r
    cases r
    exact ⟨.nil, rfl⟩
  | k :: ks, vs, as, f, r => by
    simp only [NestedKey.datas] at r
    simp only [figuresAll, Bool.and_eq_true] at f
    cases r with
    | cons r1 r2 =>
      obtain ⟨n1, rfl⟩ := key_reads k _ _ f.1 r1
      obtain ⟨m1, rfl⟩ := keys_reads ks _ _ f.2 r2
      exact ⟨.cons n1 m1, rfl⟩
end
/-- the order of keys -/
def kLt (k k' : NestedKey) : Bool := PySem.W.dataLt k.data k'.data
theorem kLt_irr (k : NestedKey) : kLt k k = false := (PyProof.Rows.listOrd PyProof.Rows.itemOrd).irrefl _
theorem kLt_tr {a b c : NestedKey} (h : kLt a b = true) (h' : kLt b c = true) : kLt a c = true := (PyProof.Rows.listOrd PyProof.Rows.itemOrd).trans _ _ _ h h'
theorem kLt_as {a b : NestedKey} (h : kLt a b = true) : kLt b a = false := by
  cases e : kLt b a with
  | false => rfl
  | true =>
    have z := kLt_tr h e
    rw [kLt_irr] at z
    cases z
theorem toks_same {x y : PyData} (al : PySem.W.alike x y = true) (e : PySem.W.keyToks x = PySem.W.keyToks y) : PyData.eqv x y = true := by
  cases q : PyData.eqv x y with
  | true => rfl
  | false =>
    have z := (PySem.W.toks_eqv x y al).2 q [] [.inl 0]
    rw [e, List.append_nil] at z
    have z2 := PySem.W.lex_pre (PySem.W.keyToks y) [] [.inl 0]
    have irr : PyProof.Rows.lexLt PyProof.Rows.itemOrd (PySem.W.keyToks y) (PySem.W.keyToks y) = false := (PyProof.Rows.listOrd PyProof.Rows.itemOrd).irrefl _
    rw [List.append_nil, z, irr] at z2
    exact absurd z2 (by simp [PyProof.Rows.lexLt])
theorem kLt_tri {a b : NestedKey} (fa : figures a = true) (fb : figures b = true) (al : PySem.W.alike a.data b.data = true) (h : kLt a b = false) (h' : kLt b a = false) : a = b := by
  have e := (PyProof.Rows.listOrd PyProof.Rows.itemOrd).total _ _ h h'
  have q := toks_same al e
  rw [eqv_key a b fa fb] at q
  exact NestedKey.eq_of_beq a b q
/-- keys that stand in a row that is sorted, each once -/
abbrev Rises (ks : List NestedKey) : Prop := ks.Pairwise (fun a b => kLt a b = true)
theorem rises_once {ks : List NestedKey} (h : Rises ks) : ks.Nodup := h.imp fun {a b} q e => by
  rw [e, kLt_irr] at q
  cases q
theorem rises_one : ∀ {ks ls : List NestedKey}, Rises ks → Rises ls → (∀ k, k ∈ ks ↔ k ∈ ls) → ks = ls
  | [], [], _, _, _ => rfl
  | [], l :: ls, _, _, m => absurd ((m l).mpr List.mem_cons_self) List.not_mem_nil
  | k :: ks, [], _, _, m => absurd ((m k).mp List.mem_cons_self) List.not_mem_nil
  | k :: ks, l :: ls, h, h', m => by
    obtain ⟨h1, h2⟩ := List.pairwise_cons.mp h
    obtain ⟨g1, g2⟩ := List.pairwise_cons.mp h'
    have e : k = l := by
      rcases List.mem_cons.mp ((m k).mp List.mem_cons_self) with z | z
      · exact z
      · rcases List.mem_cons.mp ((m l).mpr List.mem_cons_self) with y | y
        · exact y.symm
        · have q := kLt_tr (h1 l y) (g1 k z)
          rw [kLt_irr] at q
          cases q
    subst e
    have n1 := (List.nodup_cons.mp (rises_once h)).1
    have n2 := (List.nodup_cons.mp (rises_once h')).1
    rw [rises_one h2 g2 fun x => ⟨fun z => ?_, fun z => ?_⟩]
    · rcases List.mem_cons.mp ((m x).mp (List.mem_cons_of_mem _ z)) with y | y
      · rw [y] at z; exact absurd z n1
      · exact y
    · rcases List.mem_cons.mp ((m x).mpr (List.mem_cons_of_mem _ z)) with y | y
      · rw [y] at z; exact absurd z n2
      · exact y
/-- a list that is another one's image, in another order, is the image of one in another order -/
theorem perm_image {α β : Type} (f : α → β) {xs ys : List β} (pm : xs.Perm ys) : ∀ bs : List α, ys = bs.map f → ∃ M : List α, M.Perm bs ∧ xs = M.map f := by
  induction pm with
  | nil =>
    intro bs e
    cases bs with
    | nil => exact ⟨[], .nil, rfl⟩
    | cons b bs => cases e
  | cons x _ ih =>
    intro bs e
    cases bs with
    | nil => cases e
    | cons b bs =>
      rw [List.map_cons] at e
      obtain ⟨e1, e2⟩ := List.cons.inj e
      obtain ⟨M, p, q⟩ := ih bs e2
      exact ⟨b :: M, p.cons b, by rw [List.map_cons, e1, q]⟩
  | swap x y l =>
    intro bs e
    match bs, e with
    | [], e => cases e
    | [b], e => simp at e
    | b :: c :: bs, e =>
      simp only [List.map_cons, List.cons.injEq] at e
      obtain ⟨e1, e2, e3⟩ := e
      exact ⟨c :: b :: bs, .swap _ _ _, by simp only [List.map_cons]; rw [e1, e2, e3]⟩
  | trans _ _ ih1 ih2 =>
    intro bs e
    obtain ⟨M2, p2, q2⟩ := ih2 bs e
    obtain ⟨M1, p1, q1⟩ := ih1 M2 q2
    exact ⟨M1, p1.trans p2, q1⟩
theorem each_refs : ∀ M : List Row, PySem.W.EachIs (fun (v : Value) (b : Row) => v = .ref b.1) (M.map fun p => Value.ref p.1) M
  | [] => .nil
  | _ :: M => .cons rfl (each_refs M)
theorem refs_each {vs : List Value} {M : List Row} (h : PySem.W.EachIs (fun (v : Value) (b : Row) => v = .ref b.1) vs M) : vs = M.map fun p => Value.ref p.1 := by
  induction h with
  | nil => rfl
  | cons r _ ih => rw [List.map_cons, r, ih]
theorem each_figs {h : Heap} {l : Addr} : ∀ M : List Row, (∀ p ∈ M, ∃ as, Reads h (.ref p.1) p.2.data as ∧ as = []) → PySem.W.EachIs (fun (v : Value) (b : Row) => ∃ as, Reads h v b.2.data as ∧ l ∉ as) (M.map fun p => Value.ref p.1) M
  | [], _ => .nil
  | p :: M, k => by
    refine .cons ?_ (each_figs M fun q hq => k q (List.mem_cons_of_mem _ hq))
    obtain ⟨as, r, e⟩ := k p List.mem_cons_self
    exact ⟨as, r, by rw [e]; exact List.not_mem_nil⟩
section
variable {P : Program} {w : World} {A : Around} {E : Value → Shared → Prop} {s : Shared}
/-- sorted of what gives rows, in whatever order -/
theorem sorted_rows {a : Addr} {bs : List Row} {Q : Value → Shared → Prop}
    (coll : ∀ Q1 : List Value → Shared → Prop, (∀ s1 out, (∀ b o, s.heap.get? b = some o → s1.heap.get? b = some o) → s.heap.objs.size ≤ s1.heap.objs.size → s1.gens = s.gens → s1.os = s.os → out.Perm (bs.map fun p => Value.ref p.1) → Q1 out s1) →
      wpAny (model P w) A.in1 (collect (.ref a)) Q1 E s)
    (rd : ∀ p ∈ bs, figures p.2 = true ∧ p.2.depth ≤ 8 ∧ ∃ as, Reads s.heap (.ref p.1) p.2.data as) (al : PySem.W.AllAlike (bs.map fun p => p.2.data)) (so : PySem.W.Sortable (bs.map fun p => p.2.data)) (hu : A.units + 64 < cLine) (hL : bs.length ≤ sizeLine)
    (q : ∀ s1 p (out : Array Value) c (M : List Row), (∀ b o, s.heap.get? b = some o → s1.heap.get? b = some o) → s1.gens = s.gens → s1.os = s.os → s.heap.objs.size ≤ p → s1.heap.get? p = some (seqObj "list" out c) → out.toList = M.map (fun p : Row => Value.ref p.1) → M.Perm bs →
      M.Pairwise (fun x y => kLt y.2 x.2 = false) → Q (.ref p) s1) :
    wpAny (model P w) A (call (.builtin "sorted") [.ref a]) Q E s := by
  refine Calls.call_function_entry kind_sorted plain_sorted entry_sorted (args_sorted1 _) ?_
  unfold Builtin.«sorted»
  refine wpAny_bind (m := checkCount "sorted" 1 1 _) (wpAny_pure ?_)
  refine wpAny_bind (coll _ fun s1 out keep sz g o pm => ?_)
  obtain ⟨M0, pm0, e0⟩ := perm_image _ pm bs rfl
  subst e0
  have len0 : M0.length ≤ sizeLine := by rw [pm0.length_eq]; exact hL
  refine wpAny_bind (wpAny_newList ?_ (by rw [List.length_map]; exact len0))
  have atL : (s1.heap.push (seqObj "list" (M0.map fun p => Value.ref p.1).toArray 0)).get? s1.heap.objs.size = some (seqObj "list" (M0.map fun p => Value.ref p.1).toArray 0) := Heap.get?_push_size _ rfl
  have keep2 : ∀ b o, s.heap.get? b = some o → (s1.heap.push (seqObj "list" (M0.map fun p => Value.ref p.1).toArray 0)).get? b = some o := fun b o e => Heap.get?_push_of_some _ (keep b o e)
  have rd2 : ∀ p ∈ M0, ∃ as, Reads (s1.heap.push (seqObj "list" (M0.map fun p => Value.ref p.1).toArray 0)) (.ref p.1) p.2.data as ∧ as = [] := fun p hp => by
    obtain ⟨f, _, as, r⟩ := rd p (pm0.mem_iff.mp hp)
    exact ⟨as, PyProof.Rows.Reads.keeps keep2 r, (key_reads _ _ _ f r).2⟩
  have sub : ∀ d, d ∈ M0.map (fun p => p.2.data) → d ∈ bs.map (fun p => p.2.data) := fun d hd => (pm0.map _).mem_iff.mp hd
  refine wpAny_bind (wpAny_holding (PySem.W.list_sort_data (enc := fun p : Row => p.2.data) (s := { s1 with heap := s1.heap.push (seqObj "list" (M0.map fun p => Value.ref p.1).toArray 0) }) atL (each_refs M0) (each_figs M0 rd2) (fun d hd d' hd' => al d (sub d hd) d' (sub d' hd')) ?so len0 (fun p hp => ?dep) fun out len1 each1 => ?_))
  case so =>
    rcases so with z | z
    · exact .inl fun d hd => z d (sub d hd)
    · exact .inr fun d hd => z d (sub d hd)
  case dep =>
    have z := (rd p (pm0.mem_iff.mp hp)).2.1
    have y : p.2.data.depth = p.2.depth := depth_key p.2
    have u : A.in1.units = A.units + 1 := rfl
    rw [u, y]
    omega
  obtain ⟨c, atc⟩ := sortedHeap_at (vs := M0.map fun p => Value.ref p.1) (out := out.toArray) atL
  refine wpAny_pure ⟨_, rfl, q _ s1.heap.objs.size out.toArray c (M0.mergeSort (PySem.W.dataLe false fun p : Row => p.2.data)) (fun b o e => ?_) g o sz atc (refs_each each1) ((List.mergeSort_perm _ _).trans pm0) ?_⟩
  · have z := keep b o e
    have lt := Heap.lt_size z
    show (sortedHeap (s1.heap.push (seqObj "list" (M0.map fun p => Value.ref p.1).toArray 0)) s1.heap.objs.size (M0.map fun p => Value.ref p.1) out.toArray).get? b = some o
    rw [sortedHeap_old (Nat.ne_of_lt lt) (by rw [size_push']; exact Nat.lt_succ_of_lt lt)]
    exact Heap.get?_push_of_some _ z
  · refine (PySem.W.sort_pairwise (PySem.W.sortLe_total _ false _) M0).imp fun {x y} h => ?_
    have h2 : (!kLt y.2 x.2) = true := h
    rwa [Bool.not_eq_true'] at h2
end
end S2

set_option maxHeartbeats 4000000
namespace S2
open PySem PySem.Spec PyProof.Rows L2 S1 G3
/-- the rows of which a word speaks: tuples that read as keys of figures -/
def Rows (K : PySem.W.Frag) (H : Hp) (bs : List Row) : Prop := ∀ p ∈ bs, Dp K H (.ref p.1) p.2.data ∧ figures p.2 = true ∧ p.2.depth ≤ 8
section
variable {X : Cx} {pins : List (Addr × Obj)} {σ : L2.St} {H : Hp} {s : Shared}
theorem rows_rd (I : Inv X pins σ H s) {bs : List Row} (h : Rows X.K H bs) : ∀ p ∈ bs, figures p.2 = true ∧ p.2.depth ≤ 8 ∧ ∃ as, Reads s.heap (.ref p.1) p.2.data as := fun p hp => by
  obtain ⟨d, f, n⟩ := h p hp
  exact ⟨f, n, Dp.reads I _ _ _ d rfl⟩
theorem rows_fig (I : Inv X pins σ H s) {bs : List Row} (h : Rows X.K H bs) : ∀ p ∈ bs, Fig s.heap p.2 p.1 := fun p hp => by
  obtain ⟨f, n, as, r⟩ := rows_rd I h p hp
  exact ⟨(key_reads _ _ _ f r).1, f, n⟩
end
/-- the set at a, the keys' own tuples aside -/
def Stands (w : World) (a : Addr) (L : List Row) (h : Heap) : Prop :=
  ∃ (es : Array (Int × Value)) (ep : Nat) (t : SetTable), (∃ o, h.get? a = some o ∧ o.ExactSet ∧ o.data = .set es ep t) ∧ es.toList = L.map (cell w) ∧ TabOk t (L.map fun p => p.2.hash w) ∧ (L.map (·.2)).Nodup ∧ t.plain = true ∧
    (w.params.followText "set-order" = true ∨ t.led = true) ∧ L.length * 5 < t.mask * 3 ∧ L.length < 64
def setO (w : World) (a : Addr) (L : List Row) : HO := .ext (Stands w a L)
theorem setO_ok {P : Program} {w : World} {H : Hp} {h : Heap} {a : Addr} {L : List Row} {es : Array (Int × Value)} {ep : Nat} {t : SetTable} (R : Has w h a L es ep t) : ObjOk P w H h a (setO w a L) := by
  obtain ⟨o, e, r⟩ := R.o
  refine ⟨⟨es, ep, t, ⟨o, e, r⟩, R.cells, R.tab, R.once, R.flat, R.led, R.spare, R.few⟩, ⟨o, e⟩, ?_⟩
  rintro h1 h2 ⟨es1, ep1, t1, ⟨o1, e1, r1⟩, more⟩ k
  exact ⟨es1, ep1, t1, ⟨o1, k o1 e1, r1⟩, more⟩
theorem has_of {w : World} {h : Heap} {a : Addr} {L : List Row} (st : Stands w a L h) (k : ∀ p ∈ L, Fig h p.2 p.1) : ∃ es ep t, Has w h a L es ep t := by
  obtain ⟨es, ep, t, x1, x2, x3, x4, x5, x6, x7, x8⟩ := st
  exact ⟨es, ep, t, ⟨x1, x2, x3, x4, k, x5, x6, x7, x8⟩⟩
theorem has_bare {w : World} {h : Heap} {a : Addr} (e : h.get? a = some (bareSet w)) : Has w h a [] #[] 0 (.fresh 0 0 (!w.params.followText "set-order")) where
  o := ⟨_, e, ⟨rfl, rfl, rfl⟩, rfl⟩
  cells := rfl
  tab := ⟨List.Pairwise.nil, rfl, rfl, .inl rfl, fun x z => (nomatch z), fun i h j z => by simp at z⟩
  once := List.nodup_nil
  keys := fun p z => (nomatch z)
  flat := rfl
  led := by
    show _ ∨ (!w.params.followText "set-order") = true
    cases w.params.followText "set-order"
    · exact .inr rfl
    · exact .inl rfl
  spare := by show 0 * 5 < 7 * 3; decide
  few := by show 0 < 64; decide
/-- behind i items of bs: a set of these, and what stood ahead of it stands -/
def Upto (w : World) (h0 : Heap) (bs : List Row) (S : Addr) (i : Nat) (h : Heap) : Prop := (∀ b o, h0.get? b = some o → h.get? b = some o) ∧ ∃ L, Stands w S L h ∧ (∀ p ∈ L, p ∈ bs.take i) ∧ (∀ p ∈ bs.take i, p.2 ∈ L.map (·.2)) ∧ L.length ≤ i
theorem stands_at {w : World} {S : Addr} {L : List Row} {h h1 : Heap} (st : Stands w S L h) (k : ∀ o, h.get? S = some o → h1.get? S = some o) : Stands w S L h1 := by
  obtain ⟨es, ep, t, ⟨o, e, r⟩, more⟩ := st
  exact ⟨es, ep, t, ⟨o, k o e, r⟩, more⟩
theorem stands_of {w : World} {S : Addr} {L : List Row} {h : Heap} {es : Array (Int × Value)} {ep : Nat} {t : SetTable} (R : Has w h S L es ep t) : Stands w S L h := ⟨es, ep, t, R.o, R.cells, R.tab, R.once, R.flat, R.led, R.spare, R.few⟩
theorem upto_puts {P : Program} {w : World} {A : Around} {h0 : Heap} {bs : List Row} {S : Addr} {items : Array Value} (figs : ∀ p ∈ bs, Fig h0 p.2 p.1) (gone : h0.get? S = none) (it : items.toList = bs.map fun p => Value.ref p.1) (few : bs.length < 64) (hu : A.units + 8 < cLine) :
    Puts P w A S items.size (fun i v => items[i]? = some v) (Upto w h0 bs S) := by
  intro i v s E Q lt pv ⟨old, L, st, sub, all, len⟩ fin
  have sz : items.size = bs.length := by
    have z := congrArg List.length it
    simpa using z
  have lt2 : i < bs.length := by omega
  obtain ⟨p, hp⟩ : ∃ p, bs[i]? = some p := ⟨_, List.getElem?_eq_getElem lt2⟩
  have ev : v = .ref p.1 := by
    have z : items.toList[i]? = some v := by rw [Array.getElem?_toList]; exact pv
    rw [it, List.getElem?_map, hp] at z
    exact (Option.some.inj z).symm
  subst ev
  have fp := (figs p (List.mem_of_getElem? hp)).on old
  obtain ⟨es, ep, t, R⟩ := has_of st fun q hq => (figs q (List.mem_of_mem_take (sub q hq))).on old
  have tk : bs.take (i + 1) = bs.take i ++ [p] := by rw [List.take_succ, hp]; rfl
  unfold setAdd
  refine wpAny_holding (wpAny_bind ((nestedKind P w).pyHash (show A.units + 8 < cLine from hu) ⟨fp.is, fp.dp⟩ ?_))
  refine put_in (s := { s with toks := s.toks + p.2.draws }) R fp hu (by omega) fun b h1 L1 es1 ep1 t1 sb R1 how => ?_
  refine fin b h1 (s.toks + p.2.draws) (Nat.le_add_right _ _) sb ⟨fun c o e => ?_, L1, stands_of R1, ?_⟩
  · rw [sb.2 c fun z => by rw [z, gone] at e; cases e]
    exact old c o e
  · rw [tk]
    rcases how with ⟨m, rfl⟩ | ⟨m, pm⟩
    · refine ⟨fun q hq => List.mem_append_left _ (sub q hq), fun q hq => ?_, by omega⟩
      rcases List.mem_append.mp hq with z | z
      · exact all q z
      · rw [List.mem_singleton.mp z]; exact m
    · refine ⟨fun q hq => ?_, fun q hq => ?_, by rw [pm.length_eq, List.length_cons]; omega⟩
      · rcases List.mem_cons.mp (pm.mem_iff.mp hq) with z | z
        · rw [z]; exact List.mem_append_right _ (List.mem_singleton.mpr rfl)
        · exact List.mem_append_left _ (sub q z)
      · rw [(pm.map (·.2)).mem_iff, List.map_cons]
        rcases List.mem_append.mp hq with z | z
        · exact List.mem_cons_of_mem _ (all q z)
        · rw [List.mem_singleton.mp z]; exact List.mem_cons_self
theorem refs_vals : ∀ {bs : List Row} {us : List Value}, Vals (bs.map fun p => V.ref p.1) us → us = bs.map fun p => Value.ref p.1
  | [], _, .nil => rfl
  | p :: bs, _, .cons r t => by
    cases r
    rw [refs_vals t]
    rfl
theorem vals_refs : ∀ bs : List Row, Vals (bs.map fun p => V.ref p.1) (bs.map fun p => Value.ref p.1)
  | [] => .nil
  | _ :: bs => .cons rfl (vals_refs bs)
section
variable {X : Cx}
/-- set(t), t a tuple of such tuples -/
def rSetK (K : PySem.W.Frag) (w : World) : List V → Hp → VK → Prop := fun vs H Q => ∃ (t : Addr) (bs : List Row), vs = [.ref t] ∧ SqT K H t (bs.map fun p => V.ref p.1) ∧ Rows K H bs ∧ bs.length < 64 ∧
  ∀ a L, H a = none → (∀ p ∈ L, p ∈ bs) → (∀ p ∈ bs, p.2 ∈ L.map (·.2)) → Q (.ref a) (upd H a (setO w a L))
theorem cr_setK (calm : X.calm = true) (hu : X.A.units + 64 < cLine) : CallR X (.type "set") (rSetK X.K X.w) := by
  intro pins s σ H vs us Q I r ⟨t, bs, e, ht, rw0, few, q⟩
  subst e
  rw [Vals.ref1 r]
  obtain ⟨its, rv, ⟨o, at0, oc, n, od⟩, hz⟩ := I.tuple ht
  have it : its.toArray.toList = bs.map fun p => Value.ref p.1 := by simpa using refs_vals rv
  have it2 : (its.toArray).size = bs.length := by
    have z := congrArg List.length it
    simpa using z
  have figs := rows_fig I rw0
  have gone : ∀ b, s.heap.objs.size ≤ b → s.heap.get? b = none := fun b le => by
    cases e : s.heap.get? b with
    | none => rfl
    | some o => exact absurd (Nat.lt_of_lt_of_le (Heap.lt_size e) le) (Nat.lt_irrefl _)
  refine set_of_tuple (Wd := Upto X.w s.heap bs s.heap.objs.size) (I.ok.hd calm) ⟨o, at0, oc, n, od⟩ (fun h1 old new => ⟨old, [], stands_of (has_bare new), fun _ z => (nomatch z), fun p z => by simp at z, Nat.le_refl _⟩) ?stay (upto_puts figs (gone _ (Nat.le_refl _)) it few ?ro) fun h1 tk wd old => ?_
  case ro =>
    show X.A.units + 3 + 8 < cLine
    omega
  case stay =>
    rintro i h h1 ⟨old, L, st, more⟩ k
    refine ⟨fun b o e => k b o (fun m => ?_) (old b o e), L, stands_at st fun o e => k _ o (fun m => ?_) e, more⟩
    · rw [List.mem_singleton.mp m, gone _ (Nat.le_succ _)] at e
      cases e
    · exact absurd (List.mem_singleton.mp m) (Nat.ne_of_lt (Nat.lt_succ_self _))
  obtain ⟨_, L, st, a1, a2, a3⟩ := wd
  obtain ⟨es, ep, t1, R⟩ := has_of st fun q hq => (figs q (List.mem_of_mem_take (a1 q hq))).on old
  refine ⟨.ref s.heap.objs.size, _, I.laid (t' := tk) old (Nat.le_refl _) (setO_ok R), rfl, q _ L (I.hok.fresh (Nat.le_refl _)) (fun p hp => List.mem_of_mem_take (a1 p hp)) fun p hp => a2 p (by rw [it2, List.take_length]; exact hp)⟩
/-- a new list of sorted rows, laid behind a call that keeps all -/
theorem laid_rows {pins : List (Addr × Obj)} {σ : L2.St} {H : Hp} {s s1 : Shared} {p : Addr} {out : Array Value} {c : Nat} {M : List Row} {Q : VK} (I : Inv X pins σ H s) (keep : ∀ b o, s.heap.get? b = some o → s1.heap.get? b = some o) (g : s1.gens = s.gens) (os : s1.os = s.os)
    (sz : s.heap.objs.size ≤ p) (at1 : s1.heap.get? p = some (seqObj "list" out c)) (eo : out.toList = M.map fun p => Value.ref p.1) (hL : M.length ≤ sizeLine) (q : H p = none → Q (.ref p) (upd H p (.lst (M.map fun p => V.ref p.1)))) :
    ∃ v H1, Inv X pins σ H1 s1 ∧ RelV v (.ref p) ∧ Q v H1 := by
  have fr : H p = none := I.hok.fresh sz
  have rv : Vals (M.map fun p => V.ref p.1) out.toList := by rw [eo]; exact vals_refs M
  refine ⟨.ref p, upd H p (.lst (M.map fun p => V.ref p.1)), ?_, rfl, q fr⟩
  exact I.call' (ch := []) os (Un.laid keep sz fr) (I.hok.laid keep sz ⟨by rw [List.length_map]; exact hL, out.toList, c, rv, at1⟩) (by rw [g]; exact I.bare) (fun _ z => nomatch z)
/-- sorted(s) of such a set -/
def rSortK (K : PySem.W.Frag) (w : World) : List V → Hp → VK → Prop := fun vs H Q => ∃ (a : Addr) (L : List Row), vs = [.ref a] ∧ H a = some (setO w a L) ∧ Rows K H L ∧ PySem.W.AllAlike (L.map fun p => p.2.data) ∧ PySem.W.Sortable (L.map fun p => p.2.data) ∧
  ∀ (p : Addr) (M : List Row), H p = none → M.Perm L → Rises (M.map (·.2)) → Q (.ref p) (upd H p (.lst (M.map fun p => V.ref p.1)))
theorem rises_sorted {L M : List Row} (once : (L.map (·.2)).Nodup) (fg : ∀ p ∈ L, figures p.2 = true) (al : PySem.W.AllAlike (L.map fun p => p.2.data)) (pm : M.Perm L) (le : M.Pairwise (fun x y => kLt y.2 x.2 = false)) : Rises (M.map (·.2)) := by
  have onceM : (M.map (·.2)).Nodup := (pm.map (·.2)).nodup_iff.mpr once
  have both := (List.pairwise_map.mp onceM).and le
  refine List.pairwise_map.mpr (both.imp_of_mem fun {x y} hx hy h => ?_)
  cases e : kLt x.2 y.2 with
  | true => rfl
  | false =>
    have mx := pm.mem_iff.mp hx
    have my := pm.mem_iff.mp hy
    exact absurd (kLt_tri (fg x mx) (fg y my) (al _ (List.mem_map.mpr ⟨x, mx, rfl⟩) _ (List.mem_map.mpr ⟨y, my, rfl⟩)) e h.2) h.1
theorem cr_sortK (calm : X.calm = true) (hu : X.A.units + 64 < cLine) : CallR X (.builtin "sorted") (rSortK X.K X.w) := by
  intro pins s σ H vs us Q I r ⟨a, L, e, ha, rw0, al, so, q⟩
  subst e
  rw [Vals.ref1 r]
  have figs := rows_fig I rw0
  obtain ⟨es, ep, t, R⟩ := has_of ((I.hok a _ ha).1 : Stands X.w a L s.heap) figs
  obtain ⟨o, at0, ex, dat⟩ := R.o
  have line : L.length ≤ sizeLine := by have z := R.few; rw [sizeLine_eq]; omega
  have ev : es.toList.map (·.2) = L.map fun p => Value.ref p.1 := by
    rw [R.cells, List.map_map]
    rfl
  refine sorted_rows (bs := L) (fun Q1 q1 => collect_set (A := X.A.in1) (I.ok.hd calm) ⟨o, at0, ex.1, dat⟩ R.fits (by unfold scanBound; have z := R.few; have y := many R.cells; omega) R.tab.ris R.led fun s1 out k sz g os pm => q1 s1 out k sz g os (by rw [← ev]; exact pm)) (rows_rd I rw0) al so hu line ?_
  intro s1 p out c M keep g os sz at1 eo pm le
  exact laid_rows I keep g os sz at1 eo (by rw [pm.length_eq]; exact line) fun fr => q p M fr pm (rises_sorted R.once (fun p hp => (rw0 p hp).2.1) al pm le)
end
end S2

set_option maxHeartbeats 4000000
namespace M0
open PySem PySem.Spec PyProof.Rows L2 G3 G4
/-! what a value reads as, from one heap to another -/
theorem same_tup {K : PySem.W.Frag} {H H' : Hp} {a : Addr} {xs : List V} (e : Same H H') (h : SqT K H a xs) : SqT K H' a xs := by
  rcases h with (h | ⟨o, h⟩) | h
  · exact .inl (.inl (e _ _ h))
  · exact .inl (.inr ⟨o, e _ _ h⟩)
  · exact .inr h
mutual
theorem dp_same {K : PySem.W.Frag} {H H' : Hp} (e : Same H H') : ∀ (d : PyData) (v : V), Dp K H v d → Dp K H' v d
  | .none, _, h => by cases h; exact .non
  | .bool _, _, h => by cases h; exact .bl _
  | .int _, _, h => by cases h; exact .int _
  | .str _, _, h => by cases h; exact .str _
  | .list ds, _, h => by
    cases h with
    | lst hs ha => exact .lst (e.seq hs) (dpAll_same e ds _ ha)
  | .tuple ds, _, h => by
    cases h with
    | tup hs ha => exact .tup (same_tup e hs) (dpAll_same e ds _ ha)
  | .dict _, _, h => by cases h
theorem dpAll_same {K : PySem.W.Frag} {H H' : Hp} (e : Same H H') : ∀ (ds : List PyData) (vs : List V), DpAll K H vs ds → DpAll K H' vs ds
  | [], _, h => by cases h; exact .nil
  | d :: ds, _, h => by
    cases h with
    | cons h1 h2 => exact .cons (dp_same e d _ h1) (dpAll_same e ds _ h2)
end
theorem dpAll_len {K : PySem.W.Frag} {H : Hp} : ∀ {vs : List V} {ds : List PyData}, DpAll K H vs ds → vs.length = ds.length
  | _, _, .nil => rfl
  | _, _, .cons _ t => congrArg (· + 1) (dpAll_len t)
theorem dpAll_get {K : PySem.W.Frag} {H : Hp} : ∀ {vs : List V} {ds : List PyData} {i : Nat} {v : V}, DpAll K H vs ds → vs[i]? = some v → ∃ d, ds[i]? = some d ∧ Dp K H v d
  | _, _, _, _, .nil, e => by simp at e
  | _, _, 0, _, .cons h _, e => by
    simp only [List.getElem?_cons_zero, Option.some.injEq] at e
    subst e
    exact ⟨_, rfl, h⟩
  | _, _, i + 1, _, .cons _ t, e => by
    simp only [List.getElem?_cons_succ] at e
    obtain ⟨d, h1, h2⟩ := dpAll_get t e
    exact ⟨d, h1, h2⟩
theorem dpAll_getD {K : PySem.W.Frag} {H : Hp} : ∀ {vs : List V} {ds : List PyData} {i : Nat} {d : PyData}, DpAll K H vs ds → ds[i]? = some d → ∃ v, vs[i]? = some v ∧ Dp K H v d
  | _, _, _, _, .nil, e => by simp at e
  | _, _, 0, _, .cons h _, e => by
    simp only [List.getElem?_cons_zero, Option.some.injEq] at e
    subst e
    exact ⟨_, rfl, h⟩
  | _, _, i + 1, _, .cons _ t, e => by
    simp only [List.getElem?_cons_succ] at e
    obtain ⟨d, h1, h2⟩ := dpAll_getD t e
    exact ⟨d, h1, h2⟩
theorem dpAll_app {K : PySem.W.Frag} {H : Hp} : ∀ {vs ws : List V} {ds es : List PyData}, DpAll K H vs ds → DpAll K H ws es → DpAll K H (vs ++ ws) (ds ++ es)
  | _, _, _, _, .nil, h => h
  | _, _, _, _, .cons h t, g => .cons h (dpAll_app t g)
theorem dpAll_take {K : PySem.W.Frag} {H : Hp} : ∀ {vs : List V} {ds : List PyData} (n : Nat), DpAll K H vs ds → DpAll K H (vs.take n) (ds.take n)
  | _, _, 0, _ => by simp only [List.take_zero]; exact .nil
  | _, _, _ + 1, .nil => by simp only [List.take_nil]; exact .nil
  | _, _, n + 1, .cons h t => by simp only [List.take_succ_cons]; exact .cons h (dpAll_take n t)
theorem dpAll_drop {K : PySem.W.Frag} {H : Hp} : ∀ {vs : List V} {ds : List PyData} (n : Nat), DpAll K H vs ds → DpAll K H (vs.drop n) (ds.drop n)
  | _, _, 0, h => h
  | _, _, _ + 1, .nil => by simp only [List.drop_nil]; exact .nil
  | _, _, n + 1, .cons _ t => by simp only [List.drop_succ_cons]; exact dpAll_drop n t
theorem dpAll_rev {K : PySem.W.Frag} {H : Hp} : ∀ {vs : List V} {ds : List PyData}, DpAll K H vs ds → DpAll K H vs.reverse ds.reverse
  | _, _, .nil => .nil
  | _, _, .cons h t => by
    rw [List.reverse_cons, List.reverse_cons]
    exact dpAll_app (dpAll_rev t) (.cons h .nil)
theorem dpAll_set {K : PySem.W.Frag} {H : Hp} {v : V} {d : PyData} (hv : Dp K H v d) : ∀ {vs : List V} {ds : List PyData} (n : Nat), DpAll K H vs ds → DpAll K H (vs.set n v) (ds.set n d)
  | _, _, _, .nil => by simp only [List.set_nil]; exact .nil
  | _, _, 0, .cons h t => by simp only [List.set_cons_zero]; exact .cons hv t
  | _, _, n + 1, .cons h t => by simp only [List.set_cons_succ]; exact .cons h (dpAll_set hv n t)
/-! which class a value is of -/
def tyName : PyData → String
  | .none => "NoneType"
  | .bool _ => "bool"
  | .int _ => "int"
  | .str _ => "str"
  | .list _ => "list"
  | .tuple _ => "tuple"
  | .dict _ => "dict"
theorem dp_ty {K : PySem.W.Frag} {H : Hp} {v : V} {d : PyData} (h : Dp K H v d) : TyX K H v (.type (tyName d)) := by
  cases h with
  | non => exact .base .non
  | bl b => exact .base (.bl b)
  | int i => exact .base (.int i)
  | str x => exact .base (.str x)
  | lst hs _ =>
    rcases hs with (h | ⟨o, h⟩) | ⟨o, _, _, h, c, _⟩
    · exact .base (.lst h)
    · exact .base (.frz h)
    · exact .kList h c
  | tup hs _ =>
    rcases hs with (h | ⟨o, h⟩) | ⟨o, _, _, h, c, _⟩
    · exact .base (.tup h)
    · exact .fTuple h
    · exact .kTuple h c
def isInt : PyData → Bool
  | .bool _ => true
  | .int _ => true
  | _ => false
def isBool : PyData → Bool
  | .bool _ => true
  | _ => false
def isTup : PyData → Bool
  | .tuple _ => true
  | _ => false
theorem kit_int (K : PySem.W.Frag) {v : V} {H : Hp} {d : PyData} (h : Dp K H v d) : PySem.W.kitOne K (.type (tyName d)) (.type "int") = some (isInt d) := by
  cases h <;> kernel_rfl
theorem kit_bool (K : PySem.W.Frag) {v : V} {H : Hp} {d : PyData} (h : Dp K H v d) : PySem.W.kitOne K (.type (tyName d)) (.type "bool") = some (isBool d) := by
  cases h <;> kernel_rfl
theorem kit_tup (K : PySem.W.Frag) {v : V} {H : Hp} {d : PyData} (h : Dp K H v d) : PySem.W.kitOne K (.type (tyName d)) (.type "tuple") = some (isTup d) := by
  cases h <;> kernel_rfl
/-! sizes -/
theorem bulk_mem {d : PyData} : ∀ {ds : List PyData}, d ∈ ds → d.bulk ≤ PyData.bulkAll ds
  | _ :: ds, h => by
    simp only [PyData.bulkAll]
    rcases List.mem_cons.mp h with e | h
    · subst e; omega
    · have := bulk_mem h; omega
theorem bulk_len : ∀ ds : List PyData, ds.length ≤ PyData.bulkAll ds
  | [] => Nat.zero_le _
  | d :: ds => by
    have := bulk_len ds
    simp only [PyData.bulkAll, List.length_cons]
    omega
/-! what stands beside the pool -/
def off (p : Addr) (H : Hp) : Hp := fun b => if b = p then none else H b
theorem off_upd {p : Addr} {H : Hp} {o : HO} : off p (upd H p o) = off p H := by
  funext b
  unfold off
  by_cases e : b = p
  · rw [if_pos e, if_pos e]
  · rw [if_neg e, if_neg e, upd_ne e]
theorem off_sub {p : Addr} {H : Hp} : Same (off p H) H := fun b o e => by
  unfold off at e
  by_cases z : b = p
  · rw [if_pos z] at e; cases e
  · rw [if_neg z] at e; exact e
theorem off_ne {p b : Addr} {H : Hp} (z : b ≠ p) : off p H b = H b := if_neg z
theorem off_mono {p : Addr} {H H' : Hp} (e : Same H H') : Same (off p H) (off p H') := fun b o h => by
  by_cases z : b = p
  · unfold off at h; rw [if_pos z] at h; cases h
  · rw [off_ne z] at h ⊢; exact e b o h
theorem off_new {p : Addr} {H : Hp} {o : HO} (h : H p = none) : Same H (off p (upd H p o)) := fun b x e => by
  have z : b ≠ p := ne_of_none e h
  rw [off_ne z, upd_ne z]
  exact e
end M0

set_option maxHeartbeats 4000000
namespace K12
open PySem PySem.Spec PyProof.Rows L2 G3 G4 M0
def topS (i : Nat) : Stmt := PySem.Challenge.pw_fewturnsover_k12_what_are_machines.main.body.getD i (.Pass ⟨0, 0, 0, 0⟩)
abbrev sWhole : Stmt := topS 1
abbrev sTuple : Stmt := topS 3
abbrev sRising : Stmt := topS 4
abbrev sNought : Stmt := topS 6
abbrev sCtl : Stmt := topS 7
abbrev sEdge : Stmt := topS 8
abbrev sRise : Stmt := topS 9
abbrev sMach : Stmt := topS 10
abbrev sTake : Stmt := topS 12
abbrev sPool : Stmt := topS 13
abbrev sMake : Stmt := topS 14
abbrev sLWhole : Stmt := topS 15
abbrev sLWholes : Stmt := topS 16
abbrev sPart : Stmt := topS 17
abbrev sDue : Stmt := topS 18
abbrev sBent : Stmt := topS 19
abbrev sLaw : Stmt := topS 20
theorem scWhole : FnScope ["thing"] ["thing"] (defScope sWhole) := ⟨rfl, rfl, rfl, by decide +kernel, rfl, by decide +kernel, by decide +kernel⟩
theorem scTuple : FnScope ["thing", "fewest", "most"] ["thing", "fewest", "most"] (defScope sTuple) := ⟨rfl, rfl, rfl, by decide +kernel, rfl, by decide +kernel, by decide +kernel⟩
theorem scNought : FnScope ["thing"] ["thing"] (defScope sNought) := ⟨rfl, rfl, rfl, by decide +kernel, rfl, by decide +kernel, by decide +kernel⟩
/-- what may be asked about -/
structure Fit (d : PyData) : Prop where
  nc : nice d = true
  dep : d.depth ≤ 20
  blk : d.bulk ≤ 100000
def mWhole : PyData → Bool
  | .int _ => true
  | _ => false
def mNought : PyData → Bool
  | .int i => decide (0 ≤ i)
  | _ => false
/-- is_tuple(d, n, n) -/
def aTup (n : Nat) : PyData → Bool
  | .tuple ds => decide (ds.length = n)
  | _ => false
section
variable {P : Program} {w : World} {K : PySem.W.Frag} {mg : Str → Option Value} {base : Heap}
/-- asked of anything, a truth is told and nothing is changed -/
def spAsk (K : PySem.W.Frag) (m : PyData → Bool) : Sp := fun vs H Q _ => ∃ (x : V) (d : PyData), vs = [x] ∧ Dp K H x d ∧ Fit d ∧ ∀ H', Same H H' → Q (.bl (m d)) H'
def spTuple (K : PySem.W.Frag) : Sp := fun vs H Q _ => ∃ (x : V) (d : PyData) (n : Nat), vs = [x, .int n, .int n] ∧ Dp K H x d ∧ Fit d ∧ Q (.bl (aTup n d)) H
theorem ask_len {m : PyData → Bool} : ∀ vs H Q E, spAsk K m vs H Q E → vs.length = 1 := fun vs H Q E h => by
  obtain ⟨x, d, rfl, _⟩ := h
  rfl
theorem ok_whole {f : Addr} {fd : FuncData} {k : Nat} (F : Fun K "is_whole" "is_whole" sWhole f fd) (mi : mg "isinstance" = none) (mn : mg "int" = none) (mb : mg "bool" = none) : FnOk P w K mg base CX0 (k + 1) f fd ["thing"] (spAsk K mWhole) := by
  refine F.ok scWhole ask_len (fun cdv A outer s H vs Q E hr h => ?_)
  obtain ⟨x, d, rfl, hd, ft, q⟩ := h
  have nd := scWhole.nd
  refine ⟨_, pss_one (ps_ret (pe_and (pe_callB call_isi (by rfl) mi PyProof.Rows.boot_isinstance (pa_cons (pv 0) (pa_cons (pe_bltn (by rfl) mn (u := .type "int") (by decide +kernel) (show RelV (.ty "int") (.type "int") from rfl)) pa_nil)))
    (pe_one (pe_not (pe_callB call_isi (by rfl) mi PyProof.Rows.boot_isinstance (pa_cons (pv 0) (pa_cons (pe_bltn (by rfl) mb (u := .type "bool") (by decide +kernel) (show RelV (.ty "bool") (.type "bool") from rfl)) pa_nil))))))), ?_⟩
  refine ⟨_, rfl, _, _, _, _, _, rfl, .ty "int", dp_ty hd, kit_int K hd, _, rfl, ite2 (fun e => ?_) (fun e => ?_)⟩
  · refine ⟨_, rfl, _, _, _, _, _, rfl, .ty "bool", dp_ty hd, kit_bool K hd, _, rfl, ?_⟩
    have z := q H (Same.refl H)
    cases hd with
    | bl b => exact z
    | int i => exact z
    | _ => exact Bool.noConfusion (show false = true from e)
  · have z := q H (Same.refl H)
    cases hd with
    | bl b => exact absurd rfl e
    | int i => exact absurd rfl e
    | _ => exact z
theorem ok_tuple {f : Addr} {fd : FuncData} {k : Nat} (F : Fun K "is_tuple" "is_tuple" sTuple f fd) (mi : mg "isinstance" = none) (mt : mg "tuple" = none) (ml : mg "len" = none) : FnOk P w K mg base CX0 (k + 1) f fd ["thing", "fewest", "most"] (spTuple K) := by
  refine F.ok scTuple (fun vs H Q E h => ?_) (fun cdv A outer s H vs Q E hr h => ?_)
  · obtain ⟨x, d, n, rfl, _⟩ := h
    rfl
  obtain ⟨x, d, n, rfl, hd, ft, q⟩ := h
  have nd := scTuple.nd
  refine ⟨_, pss_one (ps_ret (pe_and (pe_callB call_isi (by rfl) mi PyProof.Rows.boot_isinstance (pa_cons (pv 0) (pa_cons (pe_bltn (by rfl) mt (u := .type "tuple") (by decide +kernel) (show RelV (.ty "tuple") (.type "tuple") from rfl)) pa_nil)))
    (pe_one (pe_chain op_le op_le (pv 1) (pe_callB call_len_seq (by rfl) ml PySem.boot_len (pa_cons (pv 0) pa_nil)) (pv 2))))), ?_⟩
  refine ⟨_, rfl, _, _, _, _, _, rfl, .ty "tuple", dp_ty hd, kit_tup K hd, _, rfl, ite2 (fun e => ?_) (fun e => ?_)⟩
  · cases hd with
    | @tup a xs ds hs ha =>
      have hl := dpAll_len ha
      refine ⟨_, rfl, _, rfl, a, _, rfl, .inr hs, _, _, rfl, rfl, _, rfl, ite2 (fun e1 => ?_) (fun e1 => ?_)⟩
      · refine ⟨_, rfl, _, _, rfl, rfl, ?_⟩
        have e2 : decide ((xs.length : Int) ≤ (n : Int)) = decide (ds.length = n) := by
          have := of_decide_eq_true e1
          rw [decide_eq_decide]
          omega
        show Q (.bl (decide ((xs.length : Int) ≤ (n : Int)))) H
        rw [e2]
        exact q
      · have e2 : decide (ds.length = n) = false := by
          rw [decide_eq_false_iff_not]
          intro z
          exact e1 (decide_eq_true (by omega))
        have q2 : Q (.bl (decide (ds.length = n))) H := q
        rw [e2] at q2
        exact q2
    | _ => exact Bool.noConfusion (show false = true from e)
  · cases hd with
    | tup hs ha => exact absurd rfl e
    | _ => exact q
theorem ok_nought {f fW : Addr} {fd dW : FuncData} {k : Nat} (F : Fun K "is_from_nought" "is_from_nought" sNought f fd) (G : FnOk P w K mg base CX0 (k + 1) fW dW ["thing"] (spAsk K mWhole)) (gW : mg "is_whole" = some (.ref fW)) (kW : PySem.W.keepIn K (.ref fW) = true) (bW : Binds K dW ["thing"] []) :
    FnOk P w K mg base CX0 (k + 1 + 1) f fd ["thing"] (spAsk K mNought) := by
  refine F.ok scNought ask_len (fun cdv A outer s H vs Q E hr h => ?_)
  obtain ⟨x, d, rfl, hd, ft, q⟩ := h
  have nd := scNought.nd
  refine ⟨_, pss_one (ps_ret (pe_and (pe_call G hr (by rfl) gW kW bW .nil pass0 (pa_cons (pv 0) pa_nil)) (pe_one (pe_cmpR op_ge (pv 0) pe_int (nomark _))))), ?_⟩
  refine ⟨_, rfl, x, d, rfl, hd, ft, fun H1 s1 => ⟨_, rfl, ite2 (fun e => ?_) (fun e => ?_)⟩⟩
  · have z := q H1 s1
    cases hd with
    | int i => exact ⟨_, rfl, i, 0, rfl, rfl, z⟩
    | _ => exact Bool.noConfusion (show false = true from e)
  · have z := q H1 s1
    cases hd with
    | int i => exact absurd rfl e
    | _ => exact z
end
end K12

set_option maxHeartbeats 4000000
namespace K12
open PySem PySem.Spec PyProof.Rows L2 G3 G4 M0 N1
theorem scRising : FnScope ["things", "at"] ["things"] (defScope sRising) := ⟨rfl, rfl, rfl, by decide +kernel, rfl, by decide +kernel, by decide +kernel⟩
theorem scCtl : FnScope ["thing", "number"] ["thing"] (defScope sCtl) := ⟨rfl, rfl, rfl, by decide +kernel, rfl, by decide +kernel, by decide +kernel⟩
theorem scEdge : FnScope ["thing", "number"] ["thing"] (defScope sEdge) := ⟨rfl, rfl, rfl, by decide +kernel, rfl, by decide +kernel, by decide +kernel⟩
theorem scRise : FnScope ["thing", "check", "item"] ["thing", "check"] (defScope sRise) := ⟨rfl, rfl, rfl, by decide +kernel, rfl, by decide +kernel, by decide +kernel⟩
theorem scMach : FnScope ["thing", "begins", "edges", "ends"] ["thing"] (defScope sMach) := ⟨rfl, rfl, rfl, by decide +kernel, rfl, by decide +kernel, by decide +kernel⟩
/-! parts of what may be asked about -/
theorem nice_in {d : PyData} : ∀ {ds : List PyData}, PyData.showableAll ds = true → PyData.canLayAll0 ds = true → PyData.leavesShortAll 13 ds = true → d ∈ ds → nice d = true
  | x :: ds, h1, h2, h3, m => by
    simp only [PyData.showableAll, Bool.and_eq_true] at h1
    simp only [PyData.canLayAll0, Bool.and_eq_true] at h2
    simp only [PyData.leavesShortAll, Bool.and_eq_true] at h3
    rcases List.mem_cons.mp m with e | m
    · rw [e]; exact nice_mk h1.1 h2.1 h3.1
    · exact nice_in h1.2 h2.2 h3.2 m
theorem depth_in {d : PyData} : ∀ {ds : List PyData}, d ∈ ds → d.depth ≤ PyData.depthAll ds
  | x :: ds, m => by
    simp only [PyData.depthAll]
    rcases List.mem_cons.mp m with e | m
    · rw [e]; exact Nat.le_max_left _ _
    · exact Nat.le_trans (depth_in m) (Nat.le_max_right _ _)
theorem Fit.mem {ds : List PyData} {d : PyData} (h : Fit (.tuple ds)) (m : d ∈ ds) : Fit d := by
  refine ⟨?_, ?_, ?_⟩
  · have h1 := nice_show h.nc
    have h2 := nice_lay h.nc
    have h3 := nice_short h.nc
    simp only [PyData.showable] at h1
    simp only [PyData.canLay0] at h2
    simp only [PyData.leavesShort] at h3
    exact nice_in h1 h2 h3 m
  · have h1 := h.dep
    simp only [PyData.depth] at h1
    have := depth_in m
    omega
  · have h1 := h.blk
    simp only [PyData.bulk] at h1
    have := bulk_mem m
    omega
theorem Fit.len {ds : List PyData} (h : Fit (.tuple ds)) : ds.length ≤ 100000 := by
  have h1 := h.blk
  simp only [PyData.bulk] at h1
  have := bulk_len ds
  omega
theorem small_line {n : Nat} (h : n ≤ 100000) : n < sizeLine := Nat.lt_of_le_of_lt h (by decide)
/-- [e(x) for x in t], e a truth of each -/
theorem lc_ask {K : PySem.W.Frag} {a : Addr} {xs : List V} {ds : List PyData} {m : PyData → Bool} {g : TG} {te : TE} {vs : List Nat} {σ : L2.St} {H1 : Hp} {D : Addr} {Qd : Hp → Prop}
    (hx : SqT K H1 a xs) (hd : DpAll K H1 xs ds) (len : ds.length ≤ 100000) (nD : H1 D = none)
    (turn : ∀ x d H (R : V → Hp → Prop), d ∈ ds → Dp K H x d → (∀ H', Same H H' → R (.bl (m d)) H') → g x (wipe σ vs) H fun σ2 H2 => wipe σ2 vs = wipe σ vs ∧ te σ2 H2 R)
    (fin : ∀ H', Same H1 H' → H' D = some (.lst ((ds.map m).map V.bl)) → Qd H') :
    ∃ W : Nat → Nat → Hp → Prop, (∃ m, W 0 m (upd H1 D (.lst []))) ∧ ∀ i m H, W i m H →
      ((Itt K a).stop i H ∧ Qd H) ∨ ((Itt K a).go i H ∧ ∃ Nx : Hp → Prop, (∀ H', Nx H' → ∃ m', m' < m ∧ W (i + 1) m' H') ∧ ∀ x H', (Itt K a).yld i H x H' → g x (wipe σ vs) H' fun σ2 H2 => wipe σ2 vs = wipe σ vs ∧ tYes σ2 H2 fun b H3 =>
        if b = true then te σ2 H3 fun y H4 => ∃ acc, H4 D = some (.lst acc) ∧ acc.length < sizeLine ∧ Nx (upd H4 D (.lst (acc ++ [y]))) else Nx H3) := by
  have hl := dpAll_len hd
  refine lc_tup (xs := xs) (fun i H => Same H1 H ∧ H D = some (.lst (((ds.take i).map m).map V.bl))) ⟨same_new nD, upd_same⟩ (fun i H _ h => same_tup h.1 hx) (fun i x H e h => ?_) (fun H h => fin H h.1 ?_)
  · obtain ⟨d, ed, hxd⟩ := dpAll_get hd e
    have hlt : i < ds.length := (List.getElem?_eq_some_iff.mp ed).1
    have t := turn x d H (fun y H4 => ∃ acc, H4 D = some (.lst acc) ∧ acc.length < sizeLine ∧ (Same H1 (upd H4 D (.lst (acc ++ [y]))) ∧ (upd H4 D (.lst (acc ++ [y]))) D = some (.lst (((ds.take (i + 1)).map m).map V.bl)))) (List.mem_of_getElem? ed) (dp_same h.1 _ _ hxd) (fun H' s => ?_)
    · dsimp only [tYes]
      simp only [if_true]
      exact t
    · refine ⟨_, s _ _ h.2, ?_, same_put (h.1.trans s) nD, ?_⟩
      · rw [List.length_map, List.length_map, List.length_take]
        exact small_line (by omega)
      · rw [upd_same, List.take_succ, ed]
        simp
  · have e : ds.take xs.length = ds := List.take_of_length_le (by omega)
    rw [e] at h
    exact h.2
/-- each one and the next -/
def adj (ds : List PyData) : List Bool := List.zipWith PySem.W.dataLt ds ds.tail
def rising (ds : List PyData) : Bool := (adj ds).all id
theorem adj_len (ds : List PyData) : (adj ds).length = ds.length - 1 := by
  unfold adj
  rw [List.length_zipWith, List.length_tail]
  omega
theorem adj_get {ds : List PyData} {i : Nat} {x y : PyData} (h1 : ds[i]? = some x) (h2 : ds[i + 1]? = some y) : (adj ds)[i]? = some (PySem.W.dataLt x y) := by
  unfold adj
  rw [List.getElem?_zipWith, h1, List.getElem?_tail, h2]
def mCtl : PyData → Bool
  | .tuple [.tuple cs, s] => cs.all mWhole && mNought s
  | _ => false
def mEdge : PyData → Bool
  | .tuple [a, .tuple [p, q], b] => [a, p, q, b].all mNought
  | _ => false
def mRise (m : PyData → Bool) : PyData → Bool
  | .tuple ds => ds.all m && rising ds
  | _ => false
def mMachine : PyData → Bool
  | .tuple [b, e, n] => mRise mCtl b && (mRise mEdge e && mRise mNought n)
  | _ => false
section
variable {P : Program} {w : World} {K : PySem.W.Frag} {mg : Str → Option Value} {base : Heap}
def spRising (K : PySem.W.Frag) : Sp := fun vs H Q _ => ∃ (a : Addr) (xs : List V) (ds : List PyData), vs = [.ref a] ∧ SqT K H a xs ∧ DpAll K H xs ds ∧ Fit (.tuple ds) ∧ PySem.W.AllAlike ds ∧ (∀ d ∈ ds, d ≠ .none) ∧ ∀ H', Same H H' → Q (.bl (rising ds)) H'
theorem ok_rising {f : Addr} {fd : FuncData} {k : Nat} (F : Fun K "is_rising" "is_rising" sRising f fd) (ma : mg "all" = none) (mr : mg "range" = none) (ml : mg "len" = none) : FnOk P w K mg base CX0 (k + 1) f fd ["things"] (spRising K) := by
  refine F.ok scRising (fun vs H Q E h => ?_) (fun cdv A outer s H vs Q E hr h => ?_)
  · obtain ⟨a, xs, ds, rfl, _⟩ := h
    rfl
  obtain ⟨a, xs, ds, rfl, hx, hd, ft, al, nn, q⟩ := h
  have nd := scRising.nd
  refine ⟨_, pss_one (ps_ret (pe_callB (cr_all rfl) (by rfl) ma PyProof.Rows.boot_all (pa_cons
    (pe_lc (own := [("at", 1)]) (g := gName 1) (tt := tYes) (by rfl) nd (pi_range2 (by rfl) mr (pa_cons pe_int (pa_cons (pe_callB call_len_seq (by rfl) ml PySem.boot_len (pa_cons (pv 0) pa_nil)) pa_nil)))
      (blkOk_by (N := ["things", "at"]) (sc := defScope sRising) (by decide +kernel)) (fun _ _ _ _ _ => pg_name (i := 1) nd rfl (.inl rfl)) (fun _ _ _ _ _ => pts_nil)
      (fun _ _ _ _ _ => pe_cmpR (r := rLtDp K) (op_ltDp hr.units) (pe_ix (r := rIxT K) ix_tup (pv 0) (pe_op op_sub (pv 1) pe_int) (fun _ _ => rfl)) (pe_ix (r := rIxT K) ix_tup (pv 0) (pv 1) (fun _ _ => rfl)) (nomark _))) pa_nil))), ?_⟩
  have hl := dpAll_len hd
  have hn := ft.len
  have hz : xs.length < 2 ^ 62 := by omega
  refine ⟨_, rfl, a, _, rfl, .inr hx, 1, xs.length, rfl, ⟨by decide, by decide, by omega, by omega⟩, fun D nD => ?_⟩
  have n0 : ((xs.length : Int) - 1).toNat = ds.length - 1 := by omega
  rw [n0]
  refine lc_range (lo := 1) (n := ds.length - 1) (fun i H' => Same H H' ∧ H' D = some (.lst (((adj ds).take i).map V.bl))) ⟨same_new nD, upd_same⟩ (fun i H' hi h => ?_) (fun H' h => ?_)
  · obtain ⟨x, hx0⟩ : ∃ x, ds[i]? = some x := ⟨_, List.getElem?_eq_getElem (by omega)⟩
    obtain ⟨y, hy0⟩ : ∃ y, ds[i + 1]? = some y := ⟨_, List.getElem?_eq_getElem (by omega)⟩
    obtain ⟨u, hu, ux⟩ := dpAll_getD hd hx0
    obtain ⟨v, hv, vy⟩ := dpAll_getD hd hy0
    have mx := List.mem_of_getElem? hx0
    have my := List.mem_of_getElem? hy0
    have hxs := same_tup h.1 hx
    refine ⟨rfl, ?_⟩
    dsimp only [tYes]
    refine iteT ⟨_, rfl, _, rfl, _, _, rfl, rfl, a, xs, _, u, rfl, rfl, hxs, ?_, _, rfl, _, rfl, a, xs, _, v, rfl, rfl, hxs, ?_, x, y, dp_same h.1 _ _ ux, dp_same h.1 _ _ vy, al _ mx _ my, nn _ mx, ?_, _, h.2, ?_, same_put h.1 nD, ?_⟩
    · have e : (1 : Int) + (i : Int) - 1 = (i : Nat) := by omega
      rw [e]
      exact atI_nat hu
    · have e : (1 : Int) + (i : Int) = ((i + 1 : Nat) : Int) := by omega
      rw [e]
      exact atI_nat hv
    · exact Nat.le_trans (ft.mem mx).dep (by decide)
    · rw [List.length_map, List.length_take, adj_len]
      exact small_line (by omega)
    · rw [upd_same, List.take_succ, adj_get hx0 hy0]
      simp
  · have e : (adj ds).take (ds.length - 1) = adj ds := List.take_of_length_le (by rw [adj_len]; exact Nat.le_refl _)
    rw [e] at h
    exact ⟨D, adj ds, rfl, SqL.of h.2, q H' h.1⟩
end
end K12

set_option maxHeartbeats 4000000
namespace K12
open PySem PySem.Spec PyProof.Rows L2 G3 G4 M0 N1
theorem two_of {α : Type} {xs : List α} (h : xs.length = 2) : ∃ a b, xs = [a, b] := by
  match xs, h with
  | [a, b], _ => exact ⟨a, b, rfl⟩
theorem three_of {α : Type} {xs : List α} (h : xs.length = 3) : ∃ a b c, xs = [a, b, c] := by
  match xs, h with
  | [a, b, c], _ => exact ⟨a, b, c, rfl⟩
theorem dp1 {K : PySem.W.Frag} {H : Hp} {vs : List V} {d : PyData} {ds : List PyData} (h : DpAll K H vs (d :: ds)) : ∃ v us, vs = v :: us ∧ Dp K H v d ∧ DpAll K H us ds := by
  cases h with
  | cons h1 h2 => exact ⟨_, _, rfl, h1, h2⟩
theorem dp0 {K : PySem.W.Frag} {H : Hp} {vs : List V} (h : DpAll K H vs []) : vs = [] := by
  cases h
  rfl
theorem ctl_not {d : PyData} (h : ∀ ds, d = .tuple ds → ds.length ≠ 2) : mCtl d = false := by
  unfold mCtl
  split
  · exact absurd rfl (h _ rfl)
  · rfl
theorem edge_not {d : PyData} (h : ∀ ds, d = .tuple ds → ds.length ≠ 3) : mEdge d = false := by
  unfold mEdge
  split
  · exact absurd rfl (h _ rfl)
  · rfl
theorem mach_not {d : PyData} (h : ∀ ds, d = .tuple ds → ds.length ≠ 3) : mMachine d = false := by
  unfold mMachine
  split
  · exact absurd rfl (h _ rfl)
  · rfl
theorem ctl_not2 {x s : PyData} (h : isTup x = false) : mCtl (.tuple [x, s]) = false := by
  unfold mCtl
  split
  · rename_i e
    cases e
    cases h
  · rfl
theorem edge_not2 {a x b : PyData} (h : ∀ ds, x = .tuple ds → ds.length ≠ 2) : mEdge (.tuple [a, x, b]) = false := by
  unfold mEdge
  split
  · rename_i e
    cases e
    exact absurd rfl (h _ rfl)
  · rfl
theorem aTup_not {n : Nat} {d : PyData} (h : (!(aTup n d)) = true) : ∀ ds, d = .tuple ds → ds.length ≠ n := by
  rintro ds rfl e
  have h2 : (!(decide (ds.length = n))) = true := h
  rw [decide_eq_true e] at h2
  cases h2
theorem aTup_yes {K : PySem.W.Frag} {H : Hp} {n : Nat} {d : PyData} {v : V} (hd : Dp K H v d) (h : aTup n d = true) : ∃ a xs ds, v = .ref a ∧ d = .tuple ds ∧ SqT K H a xs ∧ DpAll K H xs ds ∧ ds.length = n := by
  cases hd with
  | tup hs ha => exact ⟨_, _, _, rfl, rfl, hs, ha, of_decide_eq_true h⟩
  | _ => exact Bool.noConfusion (show false = true from h)
theorem isTup_yes {K : PySem.W.Frag} {H : Hp} {d : PyData} {v : V} (hd : Dp K H v d) (h : isTup d = true) : ∃ a xs ds, v = .ref a ∧ d = .tuple ds ∧ SqT K H a xs ∧ DpAll K H xs ds := by
  cases hd with
  | tup hs ha => exact ⟨_, _, _, rfl, rfl, hs, ha⟩
  | _ => exact Bool.noConfusion (show false = true from h)
theorem all_map {ds : List PyData} {m : PyData → Bool} : (ds.map m).all id = ds.all m := by
  rw [List.all_map]
  rfl
/-- a def that is asked, with what a caller needs of it -/
structure Def (P : Program) (w : World) (K : PySem.W.Frag) (mg : Str → Option Value) (base : Heap) (k : Nat) (x : Str) (ps : List Str) (sp : Sp) where
  f : Addr
  d : FuncData
  ok : FnOk P w K mg base CX0 k f d ps sp
  g : mg x = some (.ref f)
  kp : PySem.W.keepIn K (.ref f) = true
  b : Binds K d ps []
section
variable {P : Program} {w : World} {K : PySem.W.Frag} {mg : Str → Option Value} {base : Heap}
theorem ok_ctl {f : Addr} {fd : FuncData} {k : Nat} (F : Fun K "is_control_with_state" "is_control_with_state" sCtl f fd) (T : Def P w K mg base (k + 2) "is_tuple" ["thing", "fewest", "most"] (spTuple K)) (W : Def P w K mg base (k + 2) "is_whole" ["thing"] (spAsk K mWhole)) (N : Def P w K mg base (k + 2) "is_from_nought" ["thing"] (spAsk K mNought))
    (mi : mg "isinstance" = none) (mt : mg "tuple" = none) (ma : mg "all" = none) : FnOk P w K mg base CX0 (k + 2 + 1) f fd ["thing"] (spAsk K mCtl) := by
  refine F.ok scCtl ask_len (fun cdv A outer s H vs Q E hr h => ?_)
  obtain ⟨x, d, rfl, hd, ft, q⟩ := h
  have nd := scCtl.nd
  refine ⟨_, pss_cons (ps_if (PW.pt (pw_or (pt_not (pt_val (pe_call T.ok hr (by rfl) T.g T.kp T.b .nil pass0 (pa_cons (pv 0) (pa_cons pe_int (pa_cons pe_int pa_nil))))))
      (pw_or1 (pt_not (pt_val (pe_callB call_isi (by rfl) mi PyProof.Rows.boot_isinstance (pa_cons (pe_ix ix_tup (pv 0) pe_int (fun _ _ => rfl)) (pa_cons (pe_bltn (by rfl) mt (u := .type "tuple") (by decide +kernel) (show RelV (.ty "tuple") (.type "tuple") from rfl)) pa_nil))))))))
      (pss_one (ps_ret pe_bl)) pss_nil)
    (pss_one (ps_ret (pe_and (pe_callB (cr_all rfl) (by rfl) ma PyProof.Rows.boot_all (pa_cons
      (pe_lc (own := [("number", 1)]) (g := gName 1) (tt := tYes) (by rfl) nd (pi_tup (pe_ix ix_tup (pv 0) pe_int (fun _ _ => rfl)))
        (blkOk_by (N := ["thing", "number"]) (sc := defScope sCtl) (by decide +kernel)) (fun _ _ _ _ _ => pg_name (i := 1) nd rfl (.inl rfl)) (fun _ _ _ _ _ => pts_nil)
        (fun _ _ _ _ _ => pe_call W.ok hr (by rfl) W.g W.kp W.b .nil pass0 (pa_cons (pv 1) pa_nil))) pa_nil))
      (pe_one (pe_call N.ok hr (by rfl) N.g N.kp N.b .nil pass0 (pa_cons (pe_ix ix_tup (pv 0) pe_int (fun _ _ => rfl)) pa_nil)))))), ?_⟩
  refine ⟨_, rfl, x, d, 2, rfl, hd, ft, _, rfl, ?_⟩
  refine ite2 (fun e => ?_) (fun e => ?_)
  · refine iteT ?_
    have z := q H (Same.refl H)
    rw [ctl_not (aTup_not e)] at z
    exact z
  have e' : aTup 2 d = true := by
    cases z : aTup 2 d with
    | true => rfl
    | false => exact absurd (show (!(aTup 2 d)) = true by rw [z]; rfl) e
  obtain ⟨a, xs, ds, rfl, rfl, hs, ha, hl⟩ := aTup_yes hd e'
  obtain ⟨d0, d1, rfl⟩ := two_of hl
  obtain ⟨v0, us, rfl, h0, ha1⟩ := dp1 ha
  obtain ⟨v1, us, rfl, h1, ha2⟩ := dp1 ha1
  cases dp0 ha2
  have f0 : Fit d0 := ft.mem List.mem_cons_self
  have f1 : Fit d1 := ft.mem (List.mem_cons_of_mem _ List.mem_cons_self)
  refine ⟨_, rfl, a, _, 0, v0, rfl, rfl, hs, atI_nat (j := 0) rfl, _, _, _, _, _, rfl, .ty "tuple", dp_ty h0, kit_tup K h0, _, rfl, ?_⟩
  refine ite2 (fun e2 => ?_) (fun e2 => ?_)
  · have z := q H (Same.refl H)
    rw [ctl_not2 (by simpa using e2)] at z
    exact z
  have e3 : isTup d0 = true := by simpa using e2
  obtain ⟨a0, ys, cs, rfl, rfl, hs0, hc⟩ := isTup_yes h0 e3
  refine ⟨_, rfl, a, _, 0, _, rfl, rfl, hs, atI_nat (j := 0) rfl, a0, rfl, ⟨_, hs0⟩, fun D nD => ?_⟩
  refine lc_ask (m := mWhole) (xs := ys) hs0 hc f0.len nD (fun x d H2 R md hd2 fin => ⟨rfl, _, rfl, x, d, rfl, hd2, f0.mem md, fin⟩) (fun H2 s2 hD => ?_)
  refine ⟨D, _, rfl, SqL.of hD, _, rfl, ?_⟩
  rw [all_map]
  have em : mCtl (.tuple [.tuple cs, d1]) = (cs.all mWhole && mNought d1) := rfl
  refine ite2 (fun e4 => ?_) (fun e4 => ?_)
  · refine ⟨_, rfl, a, _, 1, _, rfl, rfl, same_tup s2 hs, atI_nat (j := 1) rfl, v1, d1, rfl, dp_same s2 _ _ h1, f1, fun H3 s3 => ?_⟩
    have z := q H3 (s2.trans s3)
    rw [em, e4, Bool.true_and] at z
    exact z
  · have z := q H2 s2
    rw [em, Bool.eq_false_iff.mpr e4, Bool.false_and] at z
    exact z
end
end K12

set_option maxHeartbeats 4000000
namespace K12
open PySem PySem.Spec PyProof.Rows L2 G3 G4 M0 N1
theorem noT {d : PyData} {n : Nat} (e : ¬ (!(aTup n d)) = true) : aTup n d = true := by
  cases z : aTup n d with
  | true => rfl
  | false => exact absurd (show (!(aTup n d)) = true by rw [z]; rfl) e
section
variable {P : Program} {w : World} {K : PySem.W.Frag} {mg : Str → Option Value} {base : Heap}
theorem ok_edge {f : Addr} {fd : FuncData} {k : Nat} (F : Fun K "is_edge" "is_edge" sEdge f fd) (T : Def P w K mg base (k + 2) "is_tuple" ["thing", "fewest", "most"] (spTuple K)) (N : Def P w K mg base (k + 2) "is_from_nought" ["thing"] (spAsk K mNought))
    (ma : mg "all" = none) : FnOk P w K mg base CX0 (k + 2 + 1) f fd ["thing"] (spAsk K mEdge) := by
  refine F.ok scEdge ask_len (fun cdv A outer s H vs Q E hr h => ?_)
  obtain ⟨x, d, rfl, hd, ft, q⟩ := h
  have nd := scEdge.nd
  refine ⟨_, pss_cons (ps_if (PW.pt (pw_or (pt_not (pt_val (pe_call T.ok hr (by rfl) T.g T.kp T.b .nil pass0 (pa_cons (pv 0) (pa_cons pe_int (pa_cons pe_int pa_nil))))))
      (pw_or1 (pt_not (pt_val (pe_call T.ok hr (by rfl) T.g T.kp T.b .nil pass0 (pa_cons (pe_ix ix_tup (pv 0) pe_int (fun _ _ => rfl)) (pa_cons pe_int (pa_cons pe_int pa_nil)))))))))
      (pss_one (ps_ret pe_bl)) pss_nil)
    (pss_one (ps_ret (pe_callB (cr_all rfl) (by rfl) ma PyProof.Rows.boot_all (pa_cons
      (pe_lc (own := [("number", 1)]) (g := gName 1) (tt := tYes) (by rfl) nd (pi_tup (pe_op op_catA (pe_op op_catA (pe_tup (pa_cons (pe_ix ix_tup (pv 0) pe_int (fun _ _ => rfl)) pa_nil)) (pe_ix ix_tup (pv 0) pe_int (fun _ _ => rfl))) (pe_tup (pa_cons (pe_ix ix_tup (pv 0) pe_int (fun _ _ => rfl)) pa_nil))))
        (blkOk_by (N := ["thing", "number"]) (sc := defScope sEdge) (by decide +kernel)) (fun _ _ _ _ _ => pg_name (i := 1) nd rfl (.inl rfl)) (fun _ _ _ _ _ => pts_nil)
        (fun _ _ _ _ _ => pe_call N.ok hr (by rfl) N.g N.kp N.b .nil pass0 (pa_cons (pv 1) pa_nil))) pa_nil)))), ?_⟩
  refine ⟨_, rfl, x, d, 3, rfl, hd, ft, _, rfl, ?_⟩
  refine ite2 (fun e => ?_) (fun e => ?_)
  · refine iteT ?_
    have z := q H (Same.refl H)
    rw [edge_not (aTup_not e)] at z
    exact z
  obtain ⟨a, xs, ds, rfl, rfl, hs, ha, hl⟩ := aTup_yes hd (noT e)
  obtain ⟨d0, d1, d2, rfl⟩ := three_of hl
  obtain ⟨v0, us, rfl, h0, ha1⟩ := dp1 ha
  obtain ⟨v1, us, rfl, h1, ha2⟩ := dp1 ha1
  obtain ⟨v2, us, rfl, h2, ha3⟩ := dp1 ha2
  cases dp0 ha3
  have f0 : Fit d0 := ft.mem List.mem_cons_self
  have f1 : Fit d1 := ft.mem (List.mem_cons_of_mem _ List.mem_cons_self)
  have f2 : Fit d2 := ft.mem (List.mem_cons_of_mem _ (List.mem_cons_of_mem _ List.mem_cons_self))
  refine ⟨_, rfl, a, _, 1, v1, rfl, rfl, hs, atI_nat (j := 1) rfl, v1, d1, 2, rfl, h1, f1, _, rfl, ?_⟩
  refine ite2 (fun e2 => ?_) (fun e2 => ?_)
  · have z := q H (Same.refl H)
    rw [edge_not2 (aTup_not e2)] at z
    exact z
  obtain ⟨a1, ys, cs, rfl, rfl, hs1, hc, hl1⟩ := aTup_yes h1 (noT e2)
  obtain ⟨p0, p1, rfl⟩ := two_of hl1
  obtain ⟨w0, us, rfl, g0, hc1⟩ := dp1 hc
  obtain ⟨w1, us, rfl, g1, hc2⟩ := dp1 hc1
  cases dp0 hc2
  refine ⟨_, rfl, a, _, 0, _, rfl, rfl, hs, atI_nat (j := 0) rfl, (by show 1 ≤ sizeLine; decide), fun t1 n1 => ?_⟩
  have s1 : Same H (upd H t1 (.tup [v0])) := same_new n1
  have k1 : (upd H t1 (.tup [v0])) t1 = some (.tup [v0]) := upd_same
  generalize upd H t1 (.tup [v0]) = H1 at s1 k1 ⊢
  refine ⟨_, rfl, a, _, 1, _, rfl, rfl, same_tup s1 hs, atI_nat (j := 1) rfl, t1, a1, [v0], [w0, w1], rfl, rfl, SqT.of k1, same_tup s1 hs1, (by show 3 ≤ sizeLine; decide), (fun z => by cases z), (fun _ z => by cases z), fun _ _ t2 n2 => ?_⟩
  have s2 : Same H1 (upd H1 t2 (.tup ([v0] ++ [w0, w1]))) := same_new n2
  have k2 : (upd H1 t2 (.tup ([v0] ++ [w0, w1]))) t2 = some (.tup [v0, w0, w1]) := upd_same
  generalize upd H1 t2 (.tup ([v0] ++ [w0, w1])) = H2 at s2 k2 ⊢
  refine ⟨_, rfl, a, _, 2, _, rfl, rfl, same_tup s2 (same_tup s1 hs), atI_nat (j := 2) rfl, (by show 1 ≤ sizeLine; decide), fun t3 n3 => ?_⟩
  have s3 : Same H2 (upd H2 t3 (.tup [v2])) := same_new n3
  have k3 : (upd H2 t3 (.tup [v2])) t3 = some (.tup [v2]) := upd_same
  generalize upd H2 t3 (.tup [v2]) = H3 at s3 k3 ⊢
  refine ⟨t2, t3, [v0, w0, w1], [v2], rfl, rfl, SqT.of (s3 _ _ k2), SqT.of k3, (by show 4 ≤ sizeLine; decide), (fun z => by cases z), (fun _ z => by cases z), fun _ _ t4 n4 => ?_⟩
  have s4 : Same H3 (upd H3 t4 (.tup ([v0, w0, w1] ++ [v2]))) := same_new n4
  have k4 : (upd H3 t4 (.tup ([v0, w0, w1] ++ [v2]))) t4 = some (.tup [v0, w0, w1, v2]) := upd_same
  generalize upd H3 t4 (.tup ([v0, w0, w1] ++ [v2])) = H4 at s4 k4 ⊢
  have s : Same H H4 := s1.trans (s2.trans (s3.trans s4))
  refine ⟨t4, rfl, ⟨_, SqT.of k4⟩, fun D nD => ?_⟩
  have hds : DpAll K H4 [v0, w0, w1, v2] [d0, p0, p1, d2] := dpAll_same s _ _ (.cons h0 (.cons g0 (.cons g1 (.cons h2 .nil))))
  refine lc_ask (m := mNought) (xs := [v0, w0, w1, v2]) (SqT.of k4) hds (by show 4 ≤ 100000; decide) nD (fun x d H2 R md hd2 fin => ⟨rfl, _, rfl, x, d, rfl, hd2, ?_, fin⟩) (fun H5 s5 hD => ?_)
  · rcases List.mem_cons.mp md with rfl | md
    · exact f0
    rcases List.mem_cons.mp md with rfl | md
    · exact f1.mem List.mem_cons_self
    rcases List.mem_cons.mp md with rfl | md
    · exact f1.mem (List.mem_cons_of_mem _ List.mem_cons_self)
    rw [List.mem_singleton.mp md]
    exact f2
  · refine ⟨D, _, rfl, SqL.of hD, ?_⟩
    rw [all_map]
    exact q H5 (s.trans s5)
/-- are_rising(thing, check) -/
def spRise (P : Program) (w : World) (K : PySem.W.Frag) (mg : Str → Option Value) (base : Heap) (k : Nat) : Sp := fun vs H Q _ => ∃ (x : V) (f : Addr) (m : PyData → Bool) (d : PyData), vs = [x, .ref f] ∧ Held P w K mg base k f (spAsk K m) ∧ Dp K H x d ∧ Fit d ∧
  (∀ ds, d = .tuple ds → ds.all m = true → PySem.W.AllAlike ds ∧ ∀ d ∈ ds, d ≠ .none) ∧ ∀ H', Same H H' → Q (.bl (mRise m d)) H'
theorem ok_rise {f : Addr} {fd : FuncData} {k : Nat} (F : Fun K "are_rising" "are_rising" sRise f fd) (R : Def P w K mg base (k + 1) "is_rising" ["things"] (spRising K)) (mi : mg "isinstance" = none) (mt : mg "tuple" = none) (ma : mg "all" = none) :
    FnOk P w K mg base CX0 (k + 1 + 1) f fd ["thing", "check"] (spRise P w K mg base (k + 1)) := by
  refine F.ok scRise (fun vs H Q E h => ?_) (fun cdv A outer s H vs Q E hr h => ?_)
  · obtain ⟨x, f, m, d, rfl, _⟩ := h
    rfl
  obtain ⟨x, g, m, d, rfl, hh, hd, ft, al, q⟩ := h
  have nd := scRise.nd
  refine ⟨_, pss_one (ps_ret (pe_and (pe_callB call_isi (by rfl) mi PyProof.Rows.boot_isinstance (pa_cons (pv 0) (pa_cons (pe_bltn (by rfl) mt (u := .type "tuple") (by decide +kernel) (show RelV (.ty "tuple") (.type "tuple") from rfl)) pa_nil)))
    (pe_and (pe_callB (cr_all rfl) (by rfl) ma PyProof.Rows.boot_all (pa_cons
      (pe_lc (own := [("item", 2)]) (g := gName 2) (tt := tYes) (by rfl) nd (pi_tup (pv 0))
        (blkOk_by (N := ["thing", "check", "item"]) (sc := defScope sRise) (by decide +kernel)) (fun _ _ _ _ _ => pg_name (i := 2) nd rfl (.inl rfl)) (fun _ _ _ _ _ => pts_nil)
        (fun _ _ _ _ _ => pe_callA (i := 1) (S := fun b => if b = g then some (spAsk K m) else none) (fun b sp e => by
          by_cases z : b = g
          · rw [if_pos z] at e; cases e; rw [z]; exact hh
          · rw [if_neg z] at e; cases e) hr rfl (by first | exact .inl rfl | exact .inr (.inl rfl) | exact .inr (.inr rfl)) (pa_cons (pv 2) pa_nil))) pa_nil))
    (pe_one (pe_call R.ok hr (by rfl) R.g R.kp R.b .nil pass0 (pa_cons (pv 0) pa_nil)))))), ?_⟩
  refine ⟨_, rfl, _, _, _, _, _, rfl, .ty "tuple", dp_ty hd, kit_tup K hd, _, rfl, ite2 (fun e => ?_) (fun e => ?_)⟩
  · obtain ⟨a, xs, ds, rfl, rfl, hs, ha⟩ := isTup_yes hd e
    refine ⟨_, rfl, a, rfl, ⟨_, hs⟩, fun D nD => ?_⟩
    refine lc_ask (m := m) (xs := xs) hs ha ft.len nD (fun x d H2 R md hd2 fin => ⟨rfl, g, _, rfl, if_pos rfl, _, rfl, x, d, rfl, hd2, ft.mem md, fin⟩) (fun H2 s2 hD => ?_)
    refine ⟨D, _, rfl, SqL.of hD, _, rfl, ?_⟩
    rw [all_map]
    have em : mRise m (.tuple ds) = (ds.all m && rising ds) := rfl
    refine ite2 (fun e4 => ?_) (fun e4 => ?_)
    · obtain ⟨a1, a2⟩ := al ds rfl e4
      refine ⟨_, rfl, a, xs, ds, rfl, same_tup s2 hs, dpAll_same s2 _ _ ha, ft, a1, a2, fun H3 s3 => ?_⟩
      have z := q H3 (s2.trans s3)
      rw [em, e4, Bool.true_and] at z
      exact z
    · have z := q H2 s2
      rw [em, Bool.eq_false_iff.mpr e4, Bool.false_and] at z
      exact z
  · have z := q H (Same.refl H)
    cases hd with
    | tup hs ha => exact absurd rfl e
    | _ => exact z
end
end K12

set_option maxHeartbeats 4000000
namespace K12
open PySem PySem.Spec PyProof.Rows L2 G3 G4 M0 N1
theorem whole_int {d : PyData} (h : mWhole d = true) : ∃ i, d = .int i := by
  cases d with
  | int i => exact ⟨i, rfl⟩
  | _ => exact Bool.noConfusion (show false = true from h)
theorem nought_int {d : PyData} (h : mNought d = true) : ∃ i, d = .int i ∧ 0 ≤ i := by
  cases d with
  | int i => exact ⟨i, rfl, of_decide_eq_true h⟩
  | _ => exact Bool.noConfusion (show false = true from h)
theorem wholes_ints : ∀ {cs : List PyData}, cs.all mWhole = true → ∃ is : List Int, cs = is.map PyData.int
  | [], _ => ⟨[], rfl⟩
  | c :: cs, h => by
    rw [List.all_cons, Bool.and_eq_true] at h
    obtain ⟨i, rfl⟩ := whole_int h.1
    obtain ⟨is, rfl⟩ := wholes_ints h.2
    exact ⟨i :: is, rfl⟩
theorem ctl_form {d : PyData} (h : mCtl d = true) : ∃ (is : List Int) (n : Int), d = .tuple [.tuple (is.map PyData.int), .int n] ∧ 0 ≤ n := by
  unfold mCtl at h
  split at h
  · rw [Bool.and_eq_true] at h
    obtain ⟨is, rfl⟩ := wholes_ints h.1
    obtain ⟨n, rfl, hn⟩ := nought_int h.2
    exact ⟨is, n, rfl, hn⟩
  · cases h
theorem edge_form {d : PyData} (h : mEdge d = true) : ∃ a p q b : Int, d = .tuple [.int a, .tuple [.int p, .int q], .int b] := by
  unfold mEdge at h
  split at h
  · simp only [List.all_cons, List.all_nil, Bool.and_eq_true] at h
    obtain ⟨h1, h2, h3, h4, _⟩ := h
    obtain ⟨a, rfl, _⟩ := nought_int h1
    obtain ⟨p, rfl, _⟩ := nought_int h2
    obtain ⟨q, rfl, _⟩ := nought_int h3
    obtain ⟨b, rfl, _⟩ := nought_int h4
    exact ⟨a, p, q, b, rfl⟩
  · cases h
theorem alike_ints : ∀ is js : List Int, PySem.W.alikeAll (is.map PyData.int) (js.map PyData.int) = true
  | [], _ => by simp [PySem.W.alikeAll]
  | _ :: _, [] => by simp [PySem.W.alikeAll]
  | i :: is, j :: js => by
    simp only [List.map_cons, PySem.W.alikeAll, PySem.W.alike, Bool.true_and]
    exact alike_ints is js
theorem alike_ctl {ds : List PyData} (h : ds.all mCtl = true) : PySem.W.AllAlike ds ∧ ∀ d ∈ ds, d ≠ .none := by
  rw [List.all_eq_true] at h
  refine ⟨fun d hd d' hd' => ?_, fun d hd e => ?_⟩
  · obtain ⟨is, n, rfl, _⟩ := ctl_form (h d hd)
    obtain ⟨js, m, rfl, _⟩ := ctl_form (h d' hd')
    simp only [PySem.W.alike, PySem.W.alikeAll, alike_ints, Bool.and_true]
  · have z := h d hd
    rw [e] at z
    cases z
theorem alike_edge {ds : List PyData} (h : ds.all mEdge = true) : PySem.W.AllAlike ds ∧ ∀ d ∈ ds, d ≠ .none := by
  rw [List.all_eq_true] at h
  refine ⟨fun d hd d' hd' => ?_, fun d hd e => ?_⟩
  · obtain ⟨a, p, q, b, rfl⟩ := edge_form (h d hd)
    obtain ⟨a', p', q', b', rfl⟩ := edge_form (h d' hd')
    simp only [PySem.W.alike, PySem.W.alikeAll, Bool.and_true]
  · have z := h d hd
    rw [e] at z
    cases z
theorem alike_nought {ds : List PyData} (h : ds.all mNought = true) : PySem.W.AllAlike ds ∧ ∀ d ∈ ds, d ≠ .none := by
  rw [List.all_eq_true] at h
  refine ⟨fun d hd d' hd' => ?_, fun d hd e => ?_⟩
  · obtain ⟨a, rfl, _⟩ := nought_int (h d hd)
    obtain ⟨b, rfl, _⟩ := nought_int (h d' hd')
    simp only [PySem.W.alike]
  · have z := h d hd
    rw [e] at z
    cases z
section
variable {P : Program} {w : World} {K : PySem.W.Frag} {mg : Str → Option Value} {base : Heap}
theorem Def.held {k : Nat} {x : Str} {ps : List Str} {sp : Sp} (D : Def P w K mg base k x ps sp) : Held P w K mg base k D.f sp := ⟨D.d, ps, D.ok, D.kp, D.b⟩
theorem ok_mach {f : Addr} {fd : FuncData} {k : Nat} (F : Fun K "is_machine" "is_machine" sMach f fd) (T : Def P w K mg base (k + 4) "is_tuple" ["thing", "fewest", "most"] (spTuple K)) (R : Def P w K mg base (k + 4) "are_rising" ["thing", "check"] (spRise P w K mg base (k + 3)))
    (C : Def P w K mg base (k + 3) "is_control_with_state" ["thing"] (spAsk K mCtl)) (E' : Def P w K mg base (k + 3) "is_edge" ["thing"] (spAsk K mEdge)) (N : Def P w K mg base (k + 3) "is_from_nought" ["thing"] (spAsk K mNought)) :
    FnOk P w K mg base CX0 (k + 4 + 1) f fd ["thing"] (spAsk K mMachine) := by
  refine F.ok scMach ask_len (fun cdv A outer s H vs Q E hr h => ?_)
  obtain ⟨x, d, rfl, hd, ft, q⟩ := h
  have nd := scMach.nd
  refine ⟨_, pss_cons (ps_if (pt_not (pt_val (pe_call T.ok hr (by rfl) T.g T.kp T.b .nil pass0 (pa_cons (pv 0) (pa_cons pe_int (pa_cons pe_int pa_nil))))))
      (pss_one (ps_ret pe_bl)) pss_nil)
    (pss_cons (ps_asg (pv 0) (pg_tup (by rfl) (pgs_cons (pg_name (i := 1) nd rfl (.inl rfl)) (pgs_cons (pg_name (i := 2) nd rfl (.inl rfl)) (pgs_cons (pg_name (i := 3) nd rfl (.inl rfl)) pgs_nil)))))
    (pss_one (ps_ret (pe_and (pe_call R.ok hr (by rfl) R.g R.kp R.b .nil pass0 (pa_cons (pv 1) (pa_cons (pe_glob (by rfl) C.g (show RelV (.ref C.f) (.ref C.f) from rfl)) pa_nil)))
      (pe_and (pe_call R.ok hr (by rfl) R.g R.kp R.b .nil pass0 (pa_cons (pv 2) (pa_cons (pe_glob (by rfl) E'.g (show RelV (.ref E'.f) (.ref E'.f) from rfl)) pa_nil)))
      (pe_one (pe_call R.ok hr (by rfl) R.g R.kp R.b .nil pass0 (pa_cons (pv 3) (pa_cons (pe_glob (by rfl) N.g (show RelV (.ref N.f) (.ref N.f) from rfl)) pa_nil))))))))), ?_⟩
  refine ⟨_, rfl, x, d, 3, rfl, hd, ft, _, rfl, ?_⟩
  refine ite2 (fun e => ?_) (fun e => ?_)
  · have z := q H (Same.refl H)
    rw [mach_not (aTup_not e)] at z
    exact z
  obtain ⟨a, xs, ds, rfl, rfl, hs, ha, hl⟩ := aTup_yes hd (noT e)
  obtain ⟨d0, d1, d2, rfl⟩ := three_of hl
  obtain ⟨v0, us, rfl, h0, ha1⟩ := dp1 ha
  obtain ⟨v1, us, rfl, h1, ha2⟩ := dp1 ha1
  obtain ⟨v2, us, rfl, h2, ha3⟩ := dp1 ha2
  cases dp0 ha3
  have f0 : Fit d0 := ft.mem List.mem_cons_self
  have f1 : Fit d1 := ft.mem (List.mem_cons_of_mem _ List.mem_cons_self)
  have f2 : Fit d2 := ft.mem (List.mem_cons_of_mem _ (List.mem_cons_of_mem _ List.mem_cons_self))
  have em : mMachine (.tuple [d0, d1, d2]) = (mRise mCtl d0 && (mRise mEdge d1 && mRise mNought d2)) := rfl
  refine ⟨_, rfl, a, _, rfl, hs, rfl, v0, _, rfl, v1, _, rfl, v2, _, rfl, rfl, ?_⟩
  refine ⟨_, rfl, v0, C.f, mCtl, d0, rfl, C.held, h0, f0, fun ds e1 e2 => alike_ctl e2, fun H1 s1 => ⟨_, rfl, ite2 (fun e1 => ?_) (fun e1 => ?_)⟩⟩
  · refine ⟨_, rfl, v1, E'.f, mEdge, d1, rfl, E'.held, dp_same s1 _ _ h1, f1, fun ds e1 e2 => alike_edge e2, fun H2 s2 => ⟨_, rfl, ite2 (fun e2 => ?_) (fun e2 => ?_)⟩⟩
    · refine ⟨_, rfl, v2, N.f, mNought, d2, rfl, N.held, dp_same (s1.trans s2) _ _ h2, f2, fun ds e1 e2 => alike_nought e2, fun H3 s3 => ?_⟩
      have z := q H3 (s1.trans (s2.trans s3))
      rw [em, e1, e2, Bool.true_and, Bool.true_and] at z
      exact z
    · have z := q H2 (s1.trans s2)
      rw [em, Bool.eq_false_iff.mpr e2, Bool.false_and, Bool.and_false] at z
      exact z
  · have z := q H1 s1
    rw [em, Bool.eq_false_iff.mpr e1, Bool.false_and] at z
    exact z
end
end K12

set_option maxHeartbeats 4000000
namespace K12
open PySem PySem.Spec PyProof.Rows L2 G3 G4 M0 N1
theorem scLWhole : FnScope ["_law_item", "_law_low"] ["_law_item", "_law_low"] (defScope sLWhole) := ⟨rfl, rfl, rfl, by decide +kernel, rfl, by decide +kernel, by decide +kernel⟩
theorem scLWholes : FnScope ["_law_item", "_law_low", "_law_one"] ["_law_item", "_law_low"] (defScope sLWholes) := ⟨rfl, rfl, rfl, by decide +kernel, rfl, by decide +kernel, by decide +kernel⟩
theorem scPart : FnScope ["_law_kind", "_law_one"] ["_law_kind", "_law_one"] (defScope sPart) := ⟨rfl, rfl, rfl, by decide +kernel, rfl, by decide +kernel, by decide +kernel⟩
/-- from nought on, or any -/
def mLow (b : Bool) (d : PyData) : Bool := if b then mNought d else mWhole d
def lowV (b : Bool) : V := if b then .int 0 else .non
def mWholes (b : Bool) : PyData → Bool
  | .tuple ds => ds.all (mLow b)
  | _ => false
/-- [x for x in t if not m(x)] -/
theorem lc_sift {K : PySem.W.Frag} {a : Addr} {xs : List V} {ds : List PyData} {m : PyData → Bool} {g : TG} {tt : TT} {te : TE} {vs : List Nat} {σ : L2.St} {H1 : Hp} {D : Addr} {Qd : Hp → Prop}
    (hx : SqT K H1 a xs) (hd : DpAll K H1 xs ds) (len : ds.length ≤ 100000) (nD : H1 D = none)
    (turn : ∀ x d H (R : L2.St → Bool → Hp → Prop), d ∈ ds → Dp K H x d → (∀ σ2 H', Same H H' → (∀ Q' : VK, Q' x H' → te σ2 H' Q') → R σ2 (!m d) H') → g x (wipe σ vs) H fun σ2 H2 => wipe σ2 vs = wipe σ vs ∧ tt σ2 H2 (R σ2))
    (fin : ∀ H' ys, Same H1 H' → H' D = some (.lst ys) → DpAll K H1 ys (ds.filter fun d => !m d) → Qd H') :
    ∃ W : Nat → Nat → Hp → Prop, (∃ m, W 0 m (upd H1 D (.lst []))) ∧ ∀ i m H, W i m H →
      ((Itt K a).stop i H ∧ Qd H) ∨ ((Itt K a).go i H ∧ ∃ Nx : Hp → Prop, (∀ H', Nx H' → ∃ m', m' < m ∧ W (i + 1) m' H') ∧ ∀ x H', (Itt K a).yld i H x H' → g x (wipe σ vs) H' fun σ2 H2 => wipe σ2 vs = wipe σ vs ∧ tt σ2 H2 fun b H3 =>
        if b = true then te σ2 H3 fun y H4 => ∃ acc, H4 D = some (.lst acc) ∧ acc.length < sizeLine ∧ Nx (upd H4 D (.lst (acc ++ [y]))) else Nx H3) := by
  have hl := dpAll_len hd
  refine lc_tup (xs := xs) (fun i H => Same H1 H ∧ ∃ ys, H D = some (.lst ys) ∧ DpAll K H1 ys ((ds.take i).filter fun d => !m d)) ⟨same_new nD, [], upd_same, .nil⟩ (fun i H _ h => same_tup h.1 hx) (fun i x H e h => ?_) (fun H h => ?_)
  · obtain ⟨d, ed, hxd⟩ := dpAll_get hd e
    obtain ⟨sm, ys, hD, hy⟩ := h
    have hlt : i < ds.length := (List.getElem?_eq_some_iff.mp ed).1
    have tk : ds.take (i + 1) = ds.take i ++ [d] := by rw [List.take_succ, ed]; rfl
    refine turn x d H (fun σ2 b H3 => if b = true then te σ2 H3 fun y H4 => ∃ acc, H4 D = some (.lst acc) ∧ acc.length < sizeLine ∧ (Same H1 (upd H4 D (.lst (acc ++ [y]))) ∧ ∃ ys, (upd H4 D (.lst (acc ++ [y]))) D = some (.lst ys) ∧ DpAll K H1 ys ((ds.take (i + 1)).filter fun d => !m d))
      else Same H1 H3 ∧ ∃ ys, H3 D = some (.lst ys) ∧ DpAll K H1 ys ((ds.take (i + 1)).filter fun d => !m d)) (List.mem_of_getElem? ed) (dp_same sm _ _ hxd) (fun σ2 H' s t => ?_)
    refine ite2 (fun e1 => ?_) (fun e1 => ?_)
    · refine t _ ⟨ys, s _ _ hD, ?_, same_put (sm.trans s) nD, ys ++ [x], upd_same, ?_⟩
      · have := dpAll_len hy
        have z := List.length_filter_le (fun d => !m d) (ds.take i)
        rw [List.length_take] at z
        exact small_line (by omega)
      · rw [tk, List.filter_append]
        have ef : [d].filter (fun d => !m d) = [d] := by
          rw [List.filter_cons_of_pos (p := fun d => !m d) e1]
          rfl
        rw [ef]
        exact dpAll_app hy (.cons hxd .nil)
    · refine ⟨sm.trans s, ys, s _ _ hD, ?_⟩
      rw [tk, List.filter_append]
      have ef : [d].filter (fun d => !m d) = [] := by
        rw [List.filter_cons_of_neg (p := fun d => !m d) e1]
        rfl
      rw [ef, List.append_nil]
      exact hy
  · obtain ⟨sm, ys, hD, hy⟩ := h
    have e : ds.take xs.length = ds := List.take_of_length_le (by omega)
    rw [e] at hy
    exact fin H ys sm hD hy
theorem sift_all {ds : List PyData} {m : PyData → Bool} : PyData.eqv (.list (ds.filter fun d => !m d)) (.list []) = ds.all m := by
  rw [Bool.eq_iff_iff]
  constructor
  · intro h
    rw [List.all_eq_true]
    intro d hd
    cases e : m d with
    | true => rfl
    | false =>
      exfalso
      have mem : d ∈ ds.filter fun d => !m d := List.mem_filter.mpr ⟨hd, by rw [e]; rfl⟩
      cases z : ds.filter fun d => !m d with
      | nil => rw [z] at mem; cases mem
      | cons x r => rw [z] at h; simp [PyData.eqv, PyData.eqvAll] at h
  · intro h
    rw [List.all_eq_true] at h
    have e : ds.filter (fun d => !m d) = [] := by
      rw [List.filter_eq_nil_iff]
      intro d hd
      rw [h d hd]
      decide
    rw [e]
    simp [PyData.eqv, PyData.eqvAll]
theorem Fit.shaped_sift {ds : List PyData} (h : Fit (.tuple ds)) (m : PyData → Bool) : SeqAt.shaped (.list (ds.filter m)) = true := by
  refine nice_shaped (nice_list fun x hx => (h.mem (List.mem_filter.mp hx).1).nc) ?_
  refine Nat.le_trans (depth_list (k := 20) fun x hx => (h.mem (List.mem_filter.mp hx).1).dep) (by decide)
theorem nil_shaped : SeqAt.shaped (.list []) = true := nice_shaped (nice_list fun _ z => (nomatch z)) (by simp [PyData.depth, PyData.depthAll])
section
variable {P : Program} {w : World} {K : PySem.W.Frag} {mg : Str → Option Value} {base : Heap}
def spLow (K : PySem.W.Frag) (m : Bool → PyData → Bool) : Sp := fun vs H Q _ => ∃ (x : V) (d : PyData) (b : Bool), vs = [x, lowV b] ∧ Dp K H x d ∧ Fit d ∧ ∀ H', Same H H' → Q (.bl (m b d)) H'
theorem ok_lwhole {f : Addr} {fd : FuncData} {k : Nat} (F : Fun K "_law_whole" "_law_whole" sLWhole f fd) (mi : mg "isinstance" = none) (mn : mg "int" = none) (mb : mg "bool" = none) : FnOk P w K mg base CX0 (k + 1) f fd ["_law_item", "_law_low"] (spLow K mLow) := by
  refine F.ok scLWhole (fun vs H Q E h => ?_) (fun cdv A outer s H vs Q E hr h => ?_)
  · obtain ⟨x, d, b, rfl, _⟩ := h
    rfl
  obtain ⟨x, d, b, rfl, hd, ft, q⟩ := h
  have nd := scLWhole.nd
  refine ⟨_, pss_one (ps_ret (pe_and (pe_callB call_isi (by rfl) mi PyProof.Rows.boot_isinstance (pa_cons (pv 0) (pa_cons (pe_bltn (by rfl) mn (u := .type "int") (by decide +kernel) (show RelV (.ty "int") (.type "int") from rfl)) pa_nil)))
    (pe_and (pe_not (pe_callB call_isi (by rfl) mi PyProof.Rows.boot_isinstance (pa_cons (pv 0) (pa_cons (pe_bltn (by rfl) mb (u := .type "bool") (by decide +kernel) (show RelV (.ty "bool") (.type "bool") from rfl)) pa_nil))))
    (pe_one (pe_or (pe_cmpR op_isN (pv 1) pe_non (nomark _)) (pe_one (pe_cmpR op_ge (pv 0) (pv 1) (nomark _)))))))), ?_⟩
  have z := q H (Same.refl H)
  refine ⟨_, rfl, _, _, _, _, _, rfl, .ty "int", dp_ty hd, kit_int K hd, _, rfl, ite2 (fun e => ?_) (fun e => ?_)⟩
  · refine ⟨_, rfl, _, _, _, _, _, rfl, .ty "bool", dp_ty hd, kit_bool K hd, _, rfl, _, rfl, ?_⟩
    cases hd with
    | bl c => cases b <;> exact iteF z
    | int i =>
      refine iteT ⟨_, rfl, rfl, _, rfl, ?_⟩
      cases b with
      | false => exact iteT z
      | true => exact iteF ⟨_, rfl, _, rfl, i, 0, rfl, rfl, z⟩
    | _ => exact Bool.noConfusion (show false = true from e)
  · cases hd with
    | bl b => exact absurd rfl e
    | int i => exact absurd rfl e
    | _ => cases b <;> exact z
theorem ok_lwholes {f : Addr} {fd : FuncData} {k : Nat} (F : Fun K "_law_are_wholes" "_law_are_wholes" sLWholes f fd) (L : Def P w K mg base (k + 1) "_law_whole" ["_law_item", "_law_low"] (spLow K mLow)) (mi : mg "isinstance" = none) (mt : mg "tuple" = none) : FnOk P w K mg base CX0 (k + 1 + 1) f fd ["_law_item", "_law_low"] (spLow K mWholes) := by
  refine F.ok scLWholes (fun vs H Q E h => ?_) (fun cdv A outer s H vs Q E hr h => ?_)
  · obtain ⟨x, d, b, rfl, _⟩ := h
    rfl
  obtain ⟨x, d, b, rfl, hd, ft, q⟩ := h
  have nd := scLWholes.nd
  refine ⟨_, pss_one (ps_ret (pe_and (pe_callB call_isi (by rfl) mi PyProof.Rows.boot_isinstance (pa_cons (pv 0) (pa_cons (pe_bltn (by rfl) mt (u := .type "tuple") (by decide +kernel) (show RelV (.ty "tuple") (.type "tuple") from rfl)) pa_nil)))
    (pe_one (pe_cmpR (op_eqD hr.units) (pe_lc (own := [("_law_one", 2)]) (g := gName 2) (by rfl) nd (pi_tup (pv 0))
        (blkOk_by (N := ["_law_item", "_law_low", "_law_one"]) (sc := defScope sLWholes) (by decide +kernel)) (fun _ _ _ _ _ => pg_name (i := 2) nd rfl (.inl rfl)) (fun _ _ _ _ _ => pts_one (pt_not (pt_val (pe_call L.ok hr (by rfl) L.g L.kp L.b .nil pass0 (pa_cons (pv 2) (pa_cons (pv 1) pa_nil))))))
        (fun _ _ _ _ _ => pv 2)) (pe_lst pa_nil) (nomark _))))), ?_⟩
  refine ⟨_, rfl, _, _, _, _, _, rfl, .ty "tuple", dp_ty hd, kit_tup K hd, _, rfl, ite2 (fun e => ?_) (fun e => ?_)⟩
  · obtain ⟨a, xs, ds, rfl, rfl, hs, ha⟩ := isTup_yes hd e
    refine ⟨_, rfl, a, rfl, ⟨_, hs⟩, fun D nD => ?_⟩
    refine lc_sift (m := mLow b) (xs := xs) hs ha ft.len nD (fun x d H2 R md hd2 fin => ⟨rfl, _, rfl, _, rfl, x, d, b, rfl, hd2, ft.mem md, fun H3 s3 => ⟨_, rfl, fin _ H3 s3 fun Q' h => ⟨_, rfl, h⟩⟩⟩) (fun H2 ys s2 hD hy => ?_)
    refine ⟨Nat.zero_le _, fun e0 n0 => ?_⟩
    have s3 : Same H2 (upd H2 e0 (.lst [])) := same_new n0
    refine ⟨_, _, .lst (SqL.of (s3 _ _ hD)) (dpAll_same (s2.trans s3) _ _ hy), .lst (SqL.of upd_same) .nil, ft.shaped_sift _, nil_shaped, ?_⟩
    rw [sift_all]
    exact q _ (s2.trans s3)
  · have z := q H (Same.refl H)
    cases hd with
    | tup hs ha => exact absurd rfl e
    | _ => exact z
end
end K12

set_option maxHeartbeats 4000000
namespace K12
open PySem PySem.Spec PyProof.Rows L2 G3 G4 M0 N1
def mKind : Nat → PyData → Bool
  | 0 => mCtl
  | 1 => mEdge
  | _ => mNought
theorem edge_three {a x b : PyData} : mEdge (.tuple [a, x, b]) = (mNought b && (mNought a && (mWholes true x && aTup 2 x))) := by
  cases x with
  | tuple cs =>
    by_cases h : cs.length = 2
    · obtain ⟨p, q, rfl⟩ := two_of h
      show [a, p, q, b].all mNought = (mNought b && (mNought a && ([p, q].all (mLow true) && aTup 2 (.tuple [p, q]))))
      simp only [List.all_cons, List.all_nil, Bool.and_true, aTup, List.length_cons, List.length_nil, mLow, if_true]
      cases mNought a <;> cases mNought p <;> cases mNought q <;> cases mNought b <;> rfl
    · rw [edge_not2 (by rintro ds e; cases e; exact h)]
      have e : aTup 2 (.tuple cs) = false := decide_eq_false h
      rw [e, Bool.and_false, Bool.and_false, Bool.and_false]
  | _ =>
    rw [edge_not2 (by rintro ds e; cases e)]
    show false = (mNought b && (mNought a && (false && false)))
    rw [Bool.and_false, Bool.and_false, Bool.and_false]
theorem ctl_two {x b : PyData} : mCtl (.tuple [x, b]) = (mNought b && mWholes false x) := by
  cases x with
  | tuple cs =>
    show (cs.all mWhole && mNought b) = (mNought b && cs.all (mLow false))
    have e : mLow false = mWhole := by funext d; rfl
    rw [e, Bool.and_comm]
  | _ =>
    rw [ctl_not2 rfl]
    show false = (mNought b && false)
    rw [Bool.and_false]
section
variable {P : Program} {w : World} {K : PySem.W.Frag} {mg : Str → Option Value} {base : Heap}
def spPart (K : PySem.W.Frag) : Sp := fun vs H Q _ => ∃ (k : Nat) (x : V) (d : PyData), vs = [.int k, x] ∧ k < 3 ∧ Dp K H x d ∧ Fit d ∧ ∀ H', Same H H' → Q (.bl (mKind k d)) H'
theorem low_t (b : Bool) (d : PyData) : (if b then mNought d else mWhole d) = mLow b d := rfl
theorem ok_part {f : Addr} {fd : FuncData} {k : Nat} (F : Fun K "_law_is_part" "_law_is_part" sPart f fd) (L : Def P w K mg base (k + 2) "_law_whole" ["_law_item", "_law_low"] (spLow K mLow)) (M : Def P w K mg base (k + 2) "_law_are_wholes" ["_law_item", "_law_low"] (spLow K mWholes))
    (mi : mg "isinstance" = none) (mt : mg "tuple" = none) (ml : mg "len" = none) : FnOk P w K mg base CX0 (k + 2 + 1) f fd ["_law_kind", "_law_one"] (spPart K) := by
  refine F.ok scPart (fun vs H Q E h => ?_) (fun cdv A outer s H vs Q E hr h => ?_)
  · obtain ⟨k, x, d, rfl, _⟩ := h
    rfl
  obtain ⟨k, x, d, rfl, hk, hd, ft, q⟩ := h
  have nd := scPart.nd
  refine ⟨_, pss_cons (ps_if (pt_cmpR op_eq (pv 0) pe_int (nomark _)) (pss_one (ps_ret (pe_call L.ok hr (by rfl) L.g L.kp L.b .nil pass0 (pa_cons (pv 1) (pa_cons pe_int pa_nil))))) pss_nil)
    (pss_cons (ps_if (PW.pt (pw_or (pt_not (pt_val (pe_callB call_isi (by rfl) mi PyProof.Rows.boot_isinstance (pa_cons (pv 1) (pa_cons (pe_bltn (by rfl) mt (u := .type "tuple") (by decide +kernel) (show RelV (.ty "tuple") (.type "tuple") from rfl)) pa_nil)))))
        (pw_or (pt_cmpR op_ne (pe_callB call_len_seq (by rfl) ml PySem.boot_len (pa_cons (pv 1) pa_nil)) (pe_op op_add pe_int (pv 0)) (nomark _))
        (pw_or1 (pt_not (pt_val (pe_call L.ok hr (by rfl) L.g L.kp L.b .nil pass0 (pa_cons (pe_ix ix_tup (pv 1) (pe_un un_neg pe_int) (fun _ _ => rfl)) (pa_cons pe_int pa_nil)))))))))
      (pss_one (ps_ret pe_bl)) pss_nil)
    (pss_cons (ps_if (pt_cmpR op_eq (pv 0) pe_int (nomark _)) (pss_one (ps_ret (pe_call M.ok hr (by rfl) M.g M.kp M.b .nil pass0 (pa_cons (pe_ix ix_tup (pv 1) pe_int (fun _ _ => rfl)) (pa_cons pe_non pa_nil))))) pss_nil)
    (pss_one (ps_ret (pe_and (pe_call L.ok hr (by rfl) L.g L.kp L.b .nil pass0 (pa_cons (pe_ix ix_tup (pv 1) pe_int (fun _ _ => rfl)) (pa_cons pe_int pa_nil)))
      (pe_and (pe_call M.ok hr (by rfl) M.g M.kp M.b .nil pass0 (pa_cons (pe_ix ix_tup (pv 1) pe_int (fun _ _ => rfl)) (pa_cons pe_int pa_nil)))
      (pe_one (pe_cmpR op_eq (pe_callB call_len_seq (by rfl) ml PySem.boot_len (pa_cons (pe_ix ix_tup (pv 1) pe_int (fun _ _ => rfl)) pa_nil)) pe_int (nomark _))))))))), ?_⟩
  refine ⟨_, rfl, rfl, _, rfl, ite2 (fun e => ?_) (fun e => ?_)⟩
  · have ek : k = 2 := by
      have z := V.int.inj (of_decide_eq_true e)
      omega
    subst ek
    exact ⟨_, rfl, x, d, true, rfl, hd, ft, q⟩
  have k01 : k = 0 ∨ k = 1 := by
    have : k ≠ 2 := fun z => e (by subst z; rfl)
    omega
  have no : (∀ ds, d = .tuple ds → ds.length ≠ 2 + k) → mKind k d = false := fun h => by
    rcases k01 with rfl | rfl
    · exact ctl_not h
    · exact edge_not h
  refine ⟨_, rfl, _, _, _, _, _, rfl, .ty "tuple", dp_ty hd, kit_tup K hd, _, rfl, ?_⟩
  refine ite2 (fun e1 => iteT ?_) (fun e1 => ?_)
  · have z := q H (Same.refl H)
    rw [no (by rintro ds rfl; cases e1)] at z
    exact z
  have e1' : isTup d = true := by simpa using e1
  obtain ⟨a, xs, ds, rfl, rfl, hs, ha⟩ := isTup_yes hd e1'
  have hl := dpAll_len ha
  refine ⟨_, rfl, a, _, rfl, .inr hs, _, rfl, _, _, rfl, rfl, rfl, _, rfl, ?_⟩
  refine ite2 (fun e2 => iteT ?_) (fun e2 => ?_)
  · have z := q H (Same.refl H)
    rw [no (by
      rintro ds' e3 e4
      cases e3
      have e5 : (xs.length : Int) = 2 + (k : Int) := by omega
      rw [e5, decide_eq_true rfl] at e2
      cases e2)] at z
    exact z
  have e2' : ds.length = 2 + k := by
    have z : decide (V.int (xs.length : Int) = V.int (2 + (k : Int))) = true := by simpa using e2
    have z2 := V.int.inj (of_decide_eq_true z)
    omega
  rcases k01 with rfl | rfl
  · obtain ⟨d0, d1, rfl⟩ := two_of e2'
    obtain ⟨v0, us, rfl, h0, ha1⟩ := dp1 ha
    obtain ⟨v1, us, rfl, h1, ha2⟩ := dp1 ha1
    cases dp0 ha2
    have f0 : Fit d0 := ft.mem List.mem_cons_self
    have f1 : Fit d1 := ft.mem (List.mem_cons_of_mem _ List.mem_cons_self)
    refine ⟨_, rfl, 1, rfl, a, _, -1, v1, rfl, rfl, hs, rfl, v1, d1, true, rfl, h1, f1, fun H1 s1 => ⟨_, rfl, ?_⟩⟩
    refine ite2 (fun e3 => ?_) (fun e3 => ?_)
    · have z := q H1 s1
      have e4 : mNought d1 = false := by
        have z : (!mNought d1) = true := e3
        simpa using z
      rw [show mKind 0 (.tuple [d0, d1]) = _ from ctl_two, e4, Bool.false_and] at z
      exact z
    have e4 : mNought d1 = true := by
      have z : ¬ (!mNought d1) = true := e3
      simpa using z
    refine ⟨_, rfl, rfl, _, rfl, iteT ?_⟩
    refine ⟨_, rfl, a, _, 0, v0, rfl, rfl, same_tup s1 hs, rfl, v0, d0, false, rfl, dp_same s1 _ _ h0, f0, fun H2 s2 => ?_⟩
    have z := q H2 (s1.trans s2)
    rw [show mKind 0 (.tuple [d0, d1]) = _ from ctl_two, e4, Bool.true_and] at z
    exact z
  · obtain ⟨d0, d1, d2, rfl⟩ := three_of e2'
    obtain ⟨v0, us, rfl, h0, ha1⟩ := dp1 ha
    obtain ⟨v1, us, rfl, h1, ha2⟩ := dp1 ha1
    obtain ⟨v2, us, rfl, h2, ha3⟩ := dp1 ha2
    cases dp0 ha3
    have f0 : Fit d0 := ft.mem List.mem_cons_self
    have f1 : Fit d1 := ft.mem (List.mem_cons_of_mem _ List.mem_cons_self)
    have f2 : Fit d2 := ft.mem (List.mem_cons_of_mem _ (List.mem_cons_of_mem _ List.mem_cons_self))
    have em : mKind 1 (.tuple [d0, d1, d2]) = (mNought d2 && (mNought d0 && (mWholes true d1 && aTup 2 d1))) := edge_three
    refine ⟨_, rfl, 1, rfl, a, _, -1, v2, rfl, rfl, hs, rfl, v2, d2, true, rfl, h2, f2, fun H1 s1 => ⟨_, rfl, ?_⟩⟩
    refine ite2 (fun e3 => ?_) (fun e3 => ?_)
    · have z := q H1 s1
      have e4 : mNought d2 = false := by
        have z : (!mNought d2) = true := e3
        simpa using z
      rw [em, e4, Bool.false_and] at z
      exact z
    have e4 : mNought d2 = true := by
      have z : ¬ (!mNought d2) = true := e3
      simpa using z
    rw [e4, Bool.true_and] at em
    refine ⟨_, rfl, rfl, _, rfl, iteF ?_⟩
    refine ⟨_, rfl, a, _, 0, v0, rfl, rfl, same_tup s1 hs, rfl, v0, d0, true, rfl, dp_same s1 _ _ h0, f0, fun H2 s2 => ⟨_, rfl, ?_⟩⟩
    refine ite2 (fun e5 => ?_) (fun e5 => ?_)
    · have e5' : mNought d0 = true := e5
      rw [e5', Bool.true_and] at em
      refine ⟨_, rfl, a, _, 1, v1, rfl, rfl, same_tup (s1.trans s2) hs, rfl, v1, d1, true, rfl, dp_same (s1.trans s2) _ _ h1, f1, fun H3 s3 => ⟨_, rfl, ?_⟩⟩
      have s := s1.trans (s2.trans s3)
      refine ite2 (fun e6 => ?_) (fun e6 => ?_)
      · rw [e6, Bool.true_and] at em
        obtain ⟨a1, ys, cs, rfl, rfl, hs1, hc⟩ := isTup_yes h1 (by
          cases h1 with
          | tup _ _ => rfl
          | _ => exact e6)
        have hl1 := dpAll_len hc
        refine ⟨_, rfl, a, _, 1, _, rfl, rfl, same_tup s hs, rfl, a1, _, rfl, .inr (same_tup s hs1), rfl, ?_⟩
        have z := q H3 s
        rw [em] at z
        have e7 : decide (V.int (ys.length : Int) = V.int 2) = aTup 2 (.tuple cs) := by
          show _ = decide (cs.length = 2)
          rw [decide_eq_decide]
          constructor
          · intro y
            have := V.int.inj y
            omega
          · intro y
            rw [hl1, y]
            rfl
        show Q (.bl (decide (V.int (ys.length : Int) = V.int 2))) H3
        rw [e7]
        exact z
      · have z := q H3 s
        rw [em, Bool.eq_false_iff.mpr e6, Bool.false_and] at z
        exact z
    · have z := q H2 (s1.trans s2)
      have e5' : mNought d0 = false := Bool.eq_false_iff.mpr e5
      rw [em, e5', Bool.false_and] at z
      exact z
end
end K12

set_option maxHeartbeats 4000000
namespace S2
open PySem PySem.Spec PyProof.Rows L2 S1 G3
section
variable {X : Cx}
/-- set(t), t a tuple of ints -/
def rSetI (K : PySem.W.Frag) (w : World) : List V → Hp → VK → Prop := fun vs H Q => ∃ (t : Addr) (ns : List Int), vs = [.ref t] ∧ SqT K H t (ns.map V.int) ∧ ns.length < 60 ∧
  ∀ a c, H a = none → c ≤ ns.length → Q (.ref a) (upd H a (SetO w a (fun j => decide (j ∈ ns)) c))
theorem cr_setI (calm : X.calm = true) : CallR X (.type "set") (rSetI X.K X.w) := by
  intro pins s σ H vs us Q I r ⟨t, ns, e, ht, few, q⟩
  subst e
  rw [Vals.ref1 r]
  obtain ⟨its, rv, ⟨o, at0, oc, n, od⟩, hz⟩ := I.tuple ht
  refine call_set_tupI ns (I.ok.hd calm) ⟨o, at0, oc, n, od⟩ (by simpa using ints_of_vals rv) (by unfold scanBound; omega) fun h1 tk c R le old => ?_
  exact ⟨.ref s.heap.objs.size, _, I.laid (t' := tk) old (Nat.le_refl _) (setO_new R), rfl, q _ c (I.hok.fresh (Nat.le_refl _)) le⟩
def rSet2 (K : PySem.W.Frag) (w : World) : List V → Hp → VK → Prop := fun vs H Q => rSetK K w vs H Q ∨ rSetI K w vs H Q
theorem cr_set2 (calm : X.calm = true) (hu : X.A.units + 64 < cLine) : CallR X (.type "set") (rSet2 X.K X.w) := by
  intro pins s σ H vs us Q I r h
  rcases h with h | h
  · exact cr_setK calm hu pins s σ H vs us Q I r h
  · exact cr_setI calm pins s σ H vs us Q I r h
def rSort2 (K : PySem.W.Frag) (w : World) : List V → Hp → VK → Prop := fun vs H Q => rSortK K w vs H Q ∨ rSortedSet w vs H Q
theorem cr_sort2 (calm : X.calm = true) (hu : X.A.units + 64 < cLine) : CallR X (.builtin "sorted") (rSort2 X.K X.w) := by
  intro pins s σ H vs us Q I r h
  rcases h with h | h
  · exact cr_sortK calm hu pins s σ H vs us Q I r h
  · exact cr_sortedSet calm pins s σ H vs us Q I r h
end
end S2

set_option maxHeartbeats 4000000
namespace K12
open PySem PySem.Spec PyProof.Rows L2 G3 G4 M0 N1 S1 S2
/-! keys and the rows that they are -/
theorem datas_map : ∀ ks : List NestedKey, NestedKey.datas ks = ks.map NestedKey.data
  | [] => by simp [NestedKey.datas]
  | k :: ks => by simp [NestedKey.datas, datas_map ks]
theorem datas_nums : ∀ is : List Int, NestedKey.datas (is.map NestedKey.num) = is.map PyData.int
  | [] => by simp [NestedKey.datas]
  | i :: is => by simp [NestedKey.datas, NestedKey.data, datas_nums is]
theorem fig_nums : ∀ is : List Int, figuresAll (is.map NestedKey.num) = true
  | [] => by simp [figuresAll]
  | i :: is => by simp [figuresAll, figures, fig_nums is]
theorem dep_nums : ∀ is : List Int, NestedKey.depthAll (is.map NestedKey.num) = 0
  | [] => by simp [NestedKey.depthAll]
  | i :: is => by simp [NestedKey.depthAll, NestedKey.depth, dep_nums is]
theorem fig_all : ∀ {ks : List NestedKey}, (∀ k ∈ ks, figures k = true) → figuresAll ks = true
  | [], _ => by simp [figuresAll]
  | k :: ks, h => by
    simp only [figuresAll, Bool.and_eq_true]
    exact ⟨h k List.mem_cons_self, fig_all fun x hx => h x (List.mem_cons_of_mem _ hx)⟩
/-- the key of a control with a state -/
def kCtl (is : List Int) (n : Int) : NestedKey := .tup [.tup (is.map NestedKey.num), .num n]
/-- the key of an edge -/
def kEdge (a p q b : Int) : NestedKey := .tup [.num a, .tup [.num p, .num q], .num b]
theorem kCtl_data (is : List Int) (n : Int) : (kCtl is n).data = .tuple [.tuple (is.map PyData.int), .int n] := by
  simp only [kCtl, NestedKey.data, NestedKey.datas, datas_nums]
theorem kEdge_data (a p q b : Int) : (kEdge a p q b).data = .tuple [.int a, .tuple [.int p, .int q], .int b] := by
  simp only [kEdge, NestedKey.data, NestedKey.datas]
theorem kCtl_fig (is : List Int) (n : Int) : figures (kCtl is n) = true := by
  simp only [kCtl, figures, figuresAll, fig_nums, Bool.and_self]
theorem kEdge_fig (a p q b : Int) : figures (kEdge a p q b) = true := by
  simp only [kEdge, figures, figuresAll, Bool.and_self]
theorem kCtl_dep (is : List Int) (n : Int) : (kCtl is n).depth ≤ 8 := by
  simp [kCtl, NestedKey.depth, NestedKey.depthAll, dep_nums]
theorem kEdge_dep (a p q b : Int) : (kEdge a p q b).depth ≤ 8 := by
  simp [kEdge, NestedKey.depth, NestedKey.depthAll]
/-- data that is a key -/
def Keyed (d : PyData) : Prop := ∃ k : NestedKey, k.data = d ∧ figures k = true ∧ k.depth ≤ 8 ∧ ∃ x r, d = .tuple (x :: r)
theorem ctl_keyed {d : PyData} (h : mCtl d = true) : Keyed d := by
  obtain ⟨is, n, rfl, _⟩ := ctl_form h
  exact ⟨kCtl is n, kCtl_data is n, kCtl_fig is n, kCtl_dep is n, _, _, rfl⟩
theorem edge_keyed {d : PyData} (h : mEdge d = true) : Keyed d := by
  obtain ⟨a, p, q, b, rfl⟩ := edge_form h
  exact ⟨kEdge a p q b, kEdge_data a p q b, kEdge_fig a p q b, kEdge_dep a p q b, _, _, rfl⟩
theorem rows_of {K : PySem.W.Frag} {H : Hp} : ∀ {xs : List V} {ds : List PyData}, DpAll K H xs ds → (∀ d ∈ ds, Keyed d) → ∃ bs : List S2.Row, xs = bs.map (fun p => V.ref p.1) ∧ ds = bs.map (fun p => p.2.data) ∧ Rows K H bs
  | _, _, .nil, _ => ⟨[], rfl, rfl, fun _ z => (nomatch z)⟩
  | _, _, .cons (v := v) (d := d) hd t, h => by
    obtain ⟨bs, e1, e2, hr⟩ := rows_of t fun d' m => h d' (List.mem_cons_of_mem _ m)
    obtain ⟨k, ek, fk, dk, x, r, ed⟩ := h d List.mem_cons_self
    obtain ⟨a, rfl⟩ : ∃ a, v = .ref a := by
      rw [ed] at hd
      cases hd with
      | tup hs ha => exact ⟨_, rfl⟩
    refine ⟨(a, k) :: bs, by rw [e1]; rfl, by rw [e2, ← ek]; rfl, fun p hp => ?_⟩
    rcases List.mem_cons.mp hp with rfl | hp
    · exact ⟨by rw [ek]; exact hd, fk, dk⟩
    · exact hr p hp
/-! rising, and sorted with each once -/
theorem rises_iff : ∀ ks : List NestedKey, rising (ks.map NestedKey.data) = true ↔ Rises ks
  | [] => ⟨fun _ => List.Pairwise.nil, fun _ => rfl⟩
  | [k] => ⟨fun _ => List.pairwise_singleton _ _, fun _ => rfl⟩
  | k :: l :: ks => by
    have ih := rises_iff (l :: ks)
    have e : rising ((k :: l :: ks).map NestedKey.data) = (kLt k l && rising ((l :: ks).map NestedKey.data)) := by
      show (adj _).all id = _
      unfold adj rising adj
      simp only [List.map_cons, List.tail_cons, List.zipWith_cons_cons, List.all_cons, id]
      rfl
    rw [e, Bool.and_eq_true, ih]
    constructor
    · rintro ⟨h1, h2⟩
      refine List.pairwise_cons.mpr ⟨fun x hx => ?_, h2⟩
      rcases List.mem_cons.mp hx with rfl | hx
      · exact h1
      · exact kLt_tr h1 ((List.pairwise_cons.mp h2).1 x hx)
    · intro h
      obtain ⟨h1, h2⟩ := List.pairwise_cons.mp h
      exact ⟨h1 l List.mem_cons_self, h2⟩
theorem due_eq {ks ms : List NestedKey} (fk : ∀ k ∈ ks, figures k = true) (rm : Rises ms) (same : ∀ k, k ∈ ks ↔ k ∈ ms) : PyData.eqv (.list (ks.map NestedKey.data)) (.list (ms.map NestedKey.data)) = rising (ks.map NestedKey.data) := by
  have fm : ∀ k ∈ ms, figures k = true := fun k hk => fk k ((same k).mpr hk)
  have e : PyData.eqv (.list (ks.map NestedKey.data)) (.list (ms.map NestedKey.data)) = NestedKey.beqAll ks ms := by
    rw [← datas_map, ← datas_map]
    simp only [PyData.eqv]
    exact eqv_keys ks ms (fig_all fk) (fig_all fm)
  rw [e, Bool.eq_iff_iff, rises_iff]
  constructor
  · intro h
    rw [NestedKey.eq_of_beqAll _ _ h]
    exact rm
  · intro h
    rw [rises_one h rm same]
    exact NestedKey.beqAll_self _
theorem kLt_num {a b : Int} (h : a < b) : kLt (.num a) (.num b) = true := by
  unfold kLt PySem.W.dataLt
  simp only [NestedKey.data, PySem.W.keyToks]
  rw [PyProof.Rows.lex_true]
  exact .inl (decide_eq_true h)
theorem rises_nums {ns : List Int} (h : ns.Pairwise (· < ·)) : Rises (ns.map NestedKey.num) := List.pairwise_map.mpr (h.imp fun q => kLt_num q)
theorem nums_data (ns : List Int) : (ns.map NestedKey.num).map NestedKey.data = ns.map PyData.int := by
  rw [← datas_map, datas_nums]
theorem due_ints {ns ms : List Int} (rm : ms.Pairwise (· < ·)) (same : ∀ k, k ∈ ms ↔ k ∈ ns) : PyData.eqv (.list (ns.map PyData.int)) (.list (ms.map PyData.int)) = rising (ns.map PyData.int) := by
  have z := due_eq (ks := ns.map NestedKey.num) (ms := ms.map NestedKey.num) (fun k hk => by obtain ⟨i, _, rfl⟩ := List.mem_map.mp hk; simp [figures]) (rises_nums rm) (fun k => by
    rw [List.mem_map, List.mem_map]
    constructor
    · rintro ⟨i, hi, rfl⟩
      exact ⟨i, (same i).mpr hi, rfl⟩
    · rintro ⟨i, hi, rfl⟩
      exact ⟨i, (same i).mp hi, rfl⟩)
  rwa [nums_data, nums_data] at z
end K12

set_option maxHeartbeats 4000000
namespace EN
open PySem PySem.Spec PyProof.Rows L2 G3 M0
/-- enumerate(v) made -/
theorem new1 {v : Value} {o : Obj} {H : Heap → Prop} (B : Begins v o H) :
    Meets (Builtin.«enumerate.__new__» ⟨[.type "enumerate", v], []⟩) (fun _ R s => H s.heap ∧
      R (.ok (.ret (.ref (s.heap.push o).objs.size))) { s with heap := (s.heap.push o).push { cls := .type "enumerate", data := .fields #[.none, .bool false, .ref s.heap.objs.size, rawInt 0, .none, .none] } }) :=
  .of_wp fun prog w A R s h => by
    obtain ⟨hp, g, d, tk, os⟩ := s
    obtain ⟨h1, h⟩ := h
    have z1 := sub_enumerate
    have z2 : ∀ {A' : Around} {E : Value → Shared → Prop} {Q : Value → Shared → Prop}, Q (.ref hp.objs.size) ⟨hp.push o, g, d, tk, os⟩ → wpAny (model prog w) A' (pyIter v) Q E ⟨hp, g, d, tk, os⟩ := fun q => B.iter prog w _ _ ⟨hp, g, d, tk, os⟩ _ h1 q
    wp_walk using z2
    refine wpAny_stack_any fun st => wpAny_pure ?_
    split
    · rename_i c _ _ _ _ _
      cases (c == Value.type "enumerate") <;> (wp_walk using z2; exact ⟨_, rfl, h⟩)
    · wp_walk using z2
      exact ⟨_, rfl, h⟩
section
variable {prog : Program} {w : World} {A : Around} {E : Value → Shared → Prop} {s : Shared}
theorem begun1 {v : Value} {o : Obj} {H : Heap → Prop} {Q : Value → Shared → Prop} (B : Begins v o H) (h1 : H s.heap)
    (h : ∀ h', IsEnum h' (s.heap.objs.size + 1) s.heap.objs.size 0 .none → h'.get? s.heap.objs.size = some o → (∀ b o, s.heap.get? b = some o → h'.get? b = some o) → Q (.ref (s.heap.objs.size + 1)) { s with heap := h' }) :
    wpAny (model prog w) A (call (.type "enumerate") [v]) Q E s := by
  refine callType_new F.called_enumerate (by decide) (F.typeCall_enumerate_1 _) (F.newCall_enumerate_1 _) (fun obj => F.args_object_init_2 obj _) F.entry_enumerate_new (new1 B) ⟨h1, ?_⟩
  have hz : (s.heap.push o).objs.size = s.heap.objs.size + 1 := Heap.size_push ..
  show _ ∧ _
  rw [hz]
  have he : IsEnum ((s.heap.push o).push { cls := .type "enumerate", data := .fields #[.none, .bool false, .ref s.heap.objs.size, rawInt 0, .none, .none] }) (s.heap.objs.size + 1) s.heap.objs.size 0 .none := by
    have z := Heap.get?_push_size (s.heap.push o) (o := { cls := .type "enumerate", data := .fields #[.none, .bool false, .ref s.heap.objs.size, rawInt 0, .none, .none] }) rfl
    rw [hz] at z
    exact z
  exact ⟨⟨_, he, rfl⟩, h _ he (Heap.get?_push_of_some _ (Heap.get?_push_size _ B.free)) fun b o x => Heap.get?_push_of_some _ (Heap.get?_push_of_some _ x)⟩
end
/-- the tuple at a, each item in a new pair -/
def Iet (K : PySem.W.Frag) (a : Addr) : It :=
  ⟨fun i H => ∃ (xs : List V) (x : V), SqT K H a xs ∧ xs[i]? = some x, fun i H v H' => ∃ T x, v = .ref T ∧ H T = none ∧ H' = upd H T (.tup [.int (i : Nat), x]) ∧ ∀ xs, SqT K H a xs → xs[i]? = some x, fun i H => ∃ xs : List V, SqT K H a xs ∧ xs.length = i⟩
theorem apart {h : Heap} {a b : Addr} {o o' : Obj} {x y : String} (h1 : h.get? a = some o) (c1 : o.cls = .type x) (h2 : h.get? b = some o') (c2 : o'.cls = .type y) (ne : x ≠ y) : a ≠ b := fun e => by
  subst e
  rw [h1] at h2
  cases h2
  rw [c1] at c2
  cases c2
  exact ne rfl
theorem turn_enumT {P : Program} {w : World} {K : PySem.W.Frag} {elts : List Expr} {kk : Nat} {tpos : Pos} (a e it : Addr) :
    Turn P w K (.Tuple elts kk tpos) (Iet K a) [e, it] e (fun i h => (∃ old, IsEnum h e it ((i : Nat) : Int) old) ∧ h.IsTupleIter it a i ∧ e ≠ it) where
  mem := by simp
  obj := fun i h st b hb => by
    obtain ⟨⟨old, he⟩, ⟨o, ho, hc, hd⟩, _⟩ := st
    have e' : b = e ∨ b = it := by simpa using hb
    rcases e' with z | z
    · rw [z]; exact ⟨_, he, fun v q => nomatch q⟩
    · rw [z]; exact ⟨o, ho, fun v q => by rw [hd] at q; cases q⟩
  keep := fun i h h' st k => let ⟨⟨old, he⟩, hi, hne⟩ := st; ⟨⟨old, k e (by simp) _ he⟩, hi.at fun o q => k it (by simp) o q, hne⟩
  item := by
    intro X hP hw hK hc i pins s σ H E I hf st hg
    subst hP hw hK
    obtain ⟨⟨old, he⟩, hit, hne⟩ := st
    obtain ⟨xs, x, hq, hx⟩ := hg
    obtain ⟨its, rv, p, hz⟩ := I.tuple hq
    obtain ⟨u, hu, ru⟩ := rv.get hx
    have hel : e < s.heap.objs.size := Heap.lt_size he
    have hil : it < s.heap.objs.size := by obtain ⟨_, q, _⟩ := hit; exact Heap.lt_size q
    have ai : a ≠ it := by
      obtain ⟨o1, p1, p2, _⟩ := p
      obtain ⟨o2, q1, q2, _⟩ := hit
      exact apart p1 p2 q1 q2 (by decide)
    have ae : e ∉ [it, a] := by
      obtain ⟨o1, p1, p2, _⟩ := p
      have z : e ≠ a := apart he rfl p1 p2 (by decide)
      intro m
      rcases List.mem_cons.mp m with y | y
      · exact hne y
      · exact z (List.mem_singleton.mp y)
    have lt : i < its.toArray.size := by
      have := (List.getElem?_eq_some_iff.mp hu).1
      simpa using this
    refine wpAny_pyNext_enum_itemD (Draws.tuple (A := X.A.in1) (by have z := I.ok.hd hc; simpa using z) it a ai its.toArray) he ⟨hit, p⟩ lt hne ae fun u2 h' tk pu ho st' hT hsz hk => ?_
    have eu : u2 = u := by
      have z : its[i]? = some u2 := by simpa using pu
      rw [hu] at z
      exact (Option.some.inj z).symm
    subst eu
    refine ⟨_, rfl, wpAny_letOwnedTupleGo_enum (s := { s with heap := h', toks := tk + 1 }) ho fun h'' he' sb => ?_⟩
    have hT2 : h''.get? s.heap.objs.size = some { cls := .type "tuple", data := .seq #[.int i tk, u2] } := (sb.2 _ (Nat.ne_of_gt hel)).trans hT
    have new : ObjOk X.prog X.w (upd H s.heap.objs.size (.tup [.int (i : Nat), x])) h'' s.heap.objs.size (.tup [.int (i : Nat), x]) :=
      ⟨by show 2 ≤ sizeLine; decide, [.int i tk, u2], .cons ⟨_, rfl⟩ (.cons ru .nil), ⟨_, hT2, rfl, _, rfl⟩⟩
    have I1 : Inv X pins σ (upd H s.heap.objs.size (.tup [.int (i : Nat), x])) { s with heap := h'', toks := tk + 1 } :=
      I.turnedNew (ch := [e, it]) (fun b ob hb q => (sb.2 b (fun z => hb (by simp [z]))).trans (hk b ob (fun z => hb (by simp [z])) (fun z => hb (by simp [z])) q)) hf (Nat.le_refl _) new
    refine ⟨.ref s.heap.objs.size, _, I1, rfl, ⟨_, x, rfl, I.hok.fresh (Nat.le_refl _), rfl, fun ys hy => by rw [I.tuple_inj hy hq]; exact hx⟩, ⟨⟨u2, ?_⟩, st'.1.at fun o q => (sb.2 it (Ne.symm hne)).trans q, hne⟩, fun b hb => ?_⟩
    · have e1 : ((i + 1 : Nat) : Int) = (i : Int) + 1 := by omega
      rw [e1]; exact he'
    · have hb' : b < s.heap.objs.size := by
        have e' : b = e ∨ b = it := by simpa using hb
        rcases e' with z | z
        · rw [z]; exact hel
        · rw [z]; exact hil
      rw [upd_ne (Nat.ne_of_lt hb')]
      exact (hf b hb).1
  done := by
    intro X hP hw hK hc i pins s σ H E I hf st hg
    subst hP hw hK
    obtain ⟨⟨old, he⟩, hit, hne⟩ := st
    obtain ⟨xs, hq, hx⟩ := hg
    obtain ⟨its, rv, p, hz⟩ := I.tuple hq
    obtain ⟨f0, f1, f2, f3, f4, f5⟩ := hf it (by simp)
    have hl := rv.length
    have ai : a ≠ it := by
      obtain ⟨o1, p1, p2, _⟩ := p
      obtain ⟨o2, q1, q2, _⟩ := hit
      exact apart p1 p2 q1 q2 (by decide)
    have ei : its.toArray.size = i := by rw [List.size_toArray]; omega
    refine wpAny_pyNext_enum_endD (Draws.tuple (A := X.A.in1) (by have z := I.ok.hd hc; simpa using z) it a ai its.toArray) he (by rw [ei]; exact ⟨hit, p⟩) fun h' eb => ⟨rfl, I.turned (t' := s.toks) (fun b o hb q => eb b o hb q) f0 f1 f3 f4 f5⟩
  self := fun A i s Q E st h => let ⟨⟨_, he⟩, _⟩ := st; wpAny_pyIter_enum he h
def iEnumT (K : PySem.W.Frag) (ta : TA) : TI := fun σ H R => ta σ H fun vs H1 => ∃ a xs, vs = [.ref a] ∧ SqT K H1 a xs ∧ R (Iet K a) H1
theorem pi_enumT {X : Cx} {e : Expr} {ta : TA} {p pos tpos : Pos} {elts : List Expr} {kk : Nat} (hg : Gl X "enumerate") (hm : X.mg "enumerate" = none) (ha : PA X [e] ta) (hs : starEach [e] X.env = [(false, eval e X.env)] := by rfl) :
    PI X (.Tuple elts kk tpos) (.Call (.Name "enumerate" p) [e] [] pos) (iEnumT X.K ta) := by
  refine ⟨fun pins s σ H R I h => ?_⟩
  refine Call_ (ld_blt I hg hm boot_enumerate (PyProof.Rows.callWith_type1 (thn (ha.run pos pins s σ H _ I h) fun us s1 ⟨vs, H1, I1, r1, q1⟩ => ?_) hs rfl))
  obtain ⟨a, xs, ex, hq, q⟩ := q1
  subst ex
  cases r1 with
  | cons r rr =>
    cases rr
    cases r
    obtain ⟨its, rv, p', hz⟩ := I1.tuple hq
    refine begun1 (begins_tuple a its.toArray) p' fun h' he hit hk => wpAny_pyIter_enum he ?_
    have I2 : Inv X pins σ H1 { s1 with heap := h' } := I1.kept (t' := s1.toks) hk
    refine ⟨s1.heap.objs.size + 1, [s1.heap.objs.size + 1, s1.heap.objs.size], _, _, H1, rfl, I2, turn_enumT a (s1.heap.objs.size + 1) s1.heap.objs.size, ⟨⟨.none, he⟩, ⟨_, hit, rfl, rfl⟩, Nat.succ_ne_self _⟩, fun b hb => ?_, q⟩
    have e' : b = s1.heap.objs.size + 1 ∨ b = s1.heap.objs.size := by simpa using hb
    have hle : s1.heap.objs.size ≤ b := by
      rcases e' with z | z
      · rw [z]; exact Nat.le_add_right _ _
      · rw [z]; exact Nat.le_refl _
    exact I1.fpOk hle (I1.hok.fresh hle)
theorem for_enumT {K : PySem.W.Frag} {a : Addr} {xs : List V} {g : TG} {tb : TS} {D : Ends} {σ : L2.St} {H : Hp} (Pv : Nat → L2.St → Hp → Prop) (h0 : Pv 0 σ H) (hl : ∀ i σ H, Pv i σ H → SqT K H a xs)
    (hs : ∀ (i : Nat) (x : V) (T : Addr) (σ : L2.St) (H : Hp), xs[i]? = some x → Pv i σ H → H T = none → g (.ref T) σ (upd H T (.tup [.int (i : Nat), x])) fun σ2 H2 => tb { D with nx := Pv (i + 1), ct := Pv (i + 1), bk := D.nx } σ2 H2) (hd : ∀ σ H, Pv xs.length σ H → D.nx σ H) :
    ∃ W : Nat → Nat → L2.St → Hp → Prop, (∃ m, W 0 m σ H) ∧ ∀ i m σ H, W i m σ H →
      ((Iet K a).stop i H ∧ D.nx σ H) ∨ ((Iet K a).go i H ∧ ∃ N : L2.St → Hp → Prop, (∀ σ' H', N σ' H' → ∃ m', m' < m ∧ W (i + 1) m' σ' H') ∧ ∀ x H', (Iet K a).yld i H x H' → g x σ H' fun σ2 H2 => tb { D with nx := N, ct := N, bk := D.nx } σ2 H2) := by
  refine ⟨fun i m σ H => m = xs.length - i ∧ i ≤ xs.length ∧ Pv i σ H, ⟨xs.length, rfl, Nat.zero_le _, h0⟩, ?_⟩
  rintro i m σ H ⟨rfl, hi, p⟩
  have q := hl i σ H p
  by_cases hlt : i < xs.length
  · refine .inr ⟨⟨xs, xs[i], q, by simp [hlt]⟩, Pv (i + 1), fun σ' H' p' => ⟨xs.length - (i + 1), by omega, rfl, hlt, p'⟩, fun v H' y => ?_⟩
    obtain ⟨T, x, rfl, hT, rfl, y⟩ := y
    exact hs i x T σ H (y xs q) p hT
  · have e : i = xs.length := by omega
    subst e
    exact .inl ⟨⟨xs, q, rfl⟩, hd σ H p⟩
end EN

set_option maxHeartbeats 8000000
namespace K12
open PySem PySem.Spec PyProof.Rows L2 G3 G4 M0 N1 S1 S2 EN
abbrev nDue : List Str := ["_law_item", "_law_kind", "_law_part", "_law_one"]
theorem scDue : FnScope nDue ["_law_item"] (defScope sDue) := ⟨rfl, rfl, rfl, by decide +kernel, rfl, by decide +kernel, by decide +kernel⟩
/-- no part has too many -/
def slim (d : PyData) : Prop := ∀ ds, d = .tuple ds → ∀ p ∈ ds, ∀ es, p = .tuple es → es.length < 60
theorem mach_yes {ds : List PyData} (hl : ds.length = 3) (h : ∀ j p, j < 3 → ds[j]? = some p → mRise (mKind j) p = true) : mMachine (.tuple ds) = true := by
  obtain ⟨a, b, c, rfl⟩ := three_of hl
  show (mRise mCtl a && (mRise mEdge b && mRise mNought c)) = true
  rw [show mRise mCtl a = true from h 0 a (by decide) rfl, show mRise mEdge b = true from h 1 b (by decide) rfl, show mRise mNought c = true from h 2 c (by decide) rfl]
  rfl
theorem mach_no {ds : List PyData} (hl : ds.length = 3) {j : Nat} {p : PyData} (hp : ds[j]? = some p) (h : mRise (mKind j) p = false) : mMachine (.tuple ds) = false := by
  obtain ⟨a, b, c, rfl⟩ := three_of hl
  show (mRise mCtl a && (mRise mEdge b && mRise mNought c)) = false
  match j, hp, h with
  | 0, hp, h =>
    cases hp
    rw [show mRise mCtl p = false from h]
    rfl
  | 1, hp, h =>
    cases hp
    rw [show mRise mEdge p = false from h]
    cases mRise mCtl a <;> rfl
  | 2, hp, h =>
    cases hp
    rw [show mRise mNought p = false from h]
    cases mRise mCtl a <;> cases mRise mEdge b <;> rfl
  | j + 3, hp, _ => simp at hp
theorem sub_same {L bs : List S2.Row} (h1 : ∀ p ∈ L, p ∈ bs) (h2 : ∀ p ∈ bs, p.2 ∈ L.map (·.2)) (M : List S2.Row) (pm : M.Perm L) : ∀ k, k ∈ bs.map (·.2) ↔ k ∈ M.map (·.2) := fun k => by
  rw [(pm.map (·.2)).mem_iff, List.mem_map]
  constructor
  · rintro ⟨p, hp, rfl⟩
    exact h2 p hp
  · intro hk
    obtain ⟨p, hp, rfl⟩ := List.mem_map.mp hk
    exact ⟨p, h1 p hp, rfl⟩
theorem rows_sub {K : PySem.W.Frag} {H : Hp} {bs L : List S2.Row} (h : Rows K H bs) (s : ∀ p ∈ L, p ∈ bs) : Rows K H L := fun p hp => h p (s p hp)
theorem rows_same {K : PySem.W.Frag} {H H' : Hp} {bs : List S2.Row} (h : Rows K H bs) (e : Same H H') : Rows K H' bs := fun p hp => ⟨dp_same e _ _ (h p hp).1, (h p hp).2⟩
theorem rows_dp {K : PySem.W.Frag} {H : Hp} : ∀ {bs : List S2.Row}, Rows K H bs → DpAll K H (bs.map fun p => V.ref p.1) (bs.map fun p => p.2.data)
  | [], _ => .nil
  | p :: bs, h => .cons (h p List.mem_cons_self).1 (rows_dp fun q hq => h q (List.mem_cons_of_mem _ hq))
theorem list_shaped {ds : List PyData} (h : ∀ d ∈ ds, Fit d) : SeqAt.shaped (.list ds) = true :=
  nice_shaped (nice_list fun x hx => (h x hx).nc) (Nat.le_trans (depth_list (k := 20) fun x hx => (h x hx).dep) (by decide))
theorem ints_of_dp {K : PySem.W.Frag} {H : Hp} : ∀ {us : List V} {es : List PyData}, DpAll K H us es → es.all mNought = true → ∃ ns : List Int, us = ns.map V.int ∧ es = ns.map PyData.int
  | _, _, .nil, _ => ⟨[], rfl, rfl⟩
  | _, _, .cons hd t, h => by
    rw [List.all_cons, Bool.and_eq_true] at h
    obtain ⟨ns, e1, e2⟩ := ints_of_dp t h.2
    obtain ⟨i, e3, _⟩ := nought_int h.1
    subst e3
    cases hd
    exact ⟨i :: ns, by rw [e1]; rfl, by rw [e2]; rfl⟩
theorem fin_ne {K : PySem.W.Frag} {H : Hp} {l p : Addr} {xs ys : List V} {es ms : List PyData} {R : V → Hp → Prop} (h1 : H l = some (.lst xs)) (h2 : DpAll K H xs es) (h3 : H p = some (.lst ys)) (h4 : DpAll K H ys ms) (f1 : ∀ d ∈ es, Fit d) (f2 : ∀ d ∈ ms, Fit d) (e : PyData.eqv (.list es) (.list ms) = rising es)
    (yes : rising es = true → R (.bl false) H) (no : rising es = false → R (.bl true) H) : rNeD K (.ref l) (.ref p) H R := by
  refine ⟨_, _, .lst (SqL.of h1) h2, .lst (SqL.of h3) h4, list_shaped f1, list_shaped f2, ?_⟩
  rw [e]
  cases z : rising es with
  | true => exact yes z
  | false => exact no z
theorem fit_ints {ns ms : List Int} (h : ∀ d ∈ ns.map PyData.int, Fit d) (s : ∀ k, k ∈ ms → k ∈ ns) : ∀ d ∈ ms.map PyData.int, Fit d := fun d hd => by
  obtain ⟨i, hi, rfl⟩ := List.mem_map.mp hd
  exact h _ (List.mem_map.mpr ⟨i, s i hi, rfl⟩)
theorem dp_ints {K : PySem.W.Frag} {H : Hp} : ∀ ns : List Int, DpAll K H (ns.map V.int) (ns.map PyData.int)
  | [] => .nil
  | i :: ns => .cons (.int i) (dp_ints ns)
section
variable {P : Program} {w : World} {K : PySem.W.Frag} {mg : Str → Option Value} {base : Heap}
def spDue (K : PySem.W.Frag) : Sp := fun vs H Q _ => ∃ (x : V) (d : PyData), vs = [x] ∧ Dp K H x d ∧ Fit d ∧ slim d ∧ ∀ H', Same H H' → Q (.bl (mMachine d)) H'
theorem ok_due {f : Addr} {fd : FuncData} {k : Nat} (F : Fun K "_law_due" "_law_due" sDue f fd) (L : Def P w K mg base (k + 3) "_law_is_part" ["_law_kind", "_law_one"] (spPart K))
    (mi : mg "isinstance" = none) (mt : mg "tuple" = none) (ml : mg "len" = none) (me : mg "enumerate" = none) (mli : mg "list" = none) (mso : mg "sorted" = none) (mse : mg "set" = none) : FnOk P w K mg base CX0 (k + 3 + 1) f fd ["_law_item"] (spDue K) := by
  refine F.ok scDue (fun vs H Q E h => ?_) (fun cdv A outer s H vs Q E hr h => ?_)
  · obtain ⟨x, d, rfl, _⟩ := h
    rfl
  obtain ⟨x, d, rfl, hd, ft, sl, q⟩ := h
  have nd := scDue.nd
  refine ⟨_, pss_cons (ps_if (PW.pt (pw_or (pt_not (pt_val (pe_callB call_isi (by rfl) mi PyProof.Rows.boot_isinstance (pa_cons (pv 0) (pa_cons (pe_bltn (by rfl) mt (u := .type "tuple") (by decide +kernel) (show RelV (.ty "tuple") (.type "tuple") from rfl)) pa_nil)))))
      (pw_or1 (pt_cmpR op_ne (pe_callB call_len_seq (by rfl) ml PySem.boot_len (pa_cons (pv 0) pa_nil)) pe_int (nomark _)))))
      (pss_one (ps_ret pe_bl)) pss_nil)
    (pss_cons (ps_for PassesOwn.never rfl (pi_enumT (by rfl) me (pa_cons (pv 0) pa_nil)) (pg_tup rfl (pgs_cons (pg_name (i := 1) nd rfl (.inr rfl)) (pgs_cons (pg_name (i := 2) nd rfl (.inl rfl)) pgs_nil)))
      (pss_cons (ps_if (PW.pt (pw_or (pt_not (pt_val (pe_callB call_isi (by rfl) mi PyProof.Rows.boot_isinstance (pa_cons (pv 2) (pa_cons (pe_bltn (by rfl) mt (u := .type "tuple") (by decide +kernel) (show RelV (.ty "tuple") (.type "tuple") from rfl)) pa_nil)))))
          (pw_or1 (pt_cmpR (op_neD hr.units) (pe_lc (own := [("_law_one", 3)]) (g := gName 3) (by rfl) nd (pi_tup (pv 2))
            (blkOk_by (N := nDue) (sc := defScope sDue) (by decide +kernel)) (fun _ _ _ _ _ => pg_name (i := 3) nd rfl (.inl rfl)) (fun _ _ _ _ _ => pts_one (pt_not (pt_val (pe_call L.ok hr (by rfl) L.g L.kp L.b .nil pass0 (pa_cons (pv 1) (pa_cons (pv 3) pa_nil))))))
            (fun _ _ _ _ _ => pv 3)) (pe_lst pa_nil) (nomark _)))))
          (pss_one (ps_ret pe_bl)) pss_nil)
      (pss_one (ps_if (pt_cmpR (op_neD hr.units) (pe_callTy call_list_of (by rfl) mli (by decide +kernel) (pa_cons (pv 2) pa_nil))
          (pe_callB (cr_sort2 rfl hr.units) (by rfl) mso (by decide +kernel) (pa_cons (pe_callTy (cr_set2 rfl hr.units) (by rfl) mse (by decide +kernel) (pa_cons (pv 2) pa_nil)) pa_nil)) (nomark _))
          (pss_one (ps_ret pe_bl)) pss_nil))))
    (pss_one (ps_ret pe_bl))), ?_⟩
  refine ⟨_, rfl, _, _, _, _, _, rfl, .ty "tuple", dp_ty hd, kit_tup K hd, _, rfl, ?_⟩
  refine ite2 (fun e1 => iteT ?_) (fun e1 => ?_)
  · have z := q H (Same.refl H)
    rw [mach_not (by rintro ds rfl; cases e1)] at z
    exact z
  have e1' : isTup d = true := by simpa using e1
  obtain ⟨a, xs, ds, rfl, rfl, hs, ha⟩ := isTup_yes hd e1'
  have hl := dpAll_len ha
  refine ⟨_, rfl, a, _, rfl, .inr hs, rfl, _, rfl, ?_⟩
  refine ite2 (fun e2 => ?_) (fun e2 => ?_)
  · have z := q H (Same.refl H)
    rw [mach_not (by
      rintro ds' e3 e4
      cases e3
      have e5 : (xs.length : Int) = 3 := by omega
      rw [e5, decide_eq_true rfl] at e2
      cases e2)] at z
    exact z
  have e2' : ds.length = 3 := by
    have z : decide (V.int (xs.length : Int) = V.int 3) = true := by simpa using e2
    have z2 := V.int.inj (of_decide_eq_true z)
    omega
  refine ⟨_, rfl, a, xs, rfl, hs, for_enumT (xs := xs) (fun i σ H3 => ∃ y1 y2 y3, σ = [some (.ref a), y1, y2, y3] ∧ Same H H3 ∧ ∀ j p, j < i → ds[j]? = some p → mRise (mKind j) p = true)
    ⟨none, none, none, rfl, Same.refl H, fun j p hj => absurd hj (Nat.not_lt_zero j)⟩ (fun i σ H3 h => ?_) (fun i x T σ H3 hx h nT => ?_) (fun σ H3 h => ?_)⟩
  · obtain ⟨_, _, _, _, sm, _⟩ := h
    exact same_tup sm hs
  · obtain ⟨y1, y2, y3, rfl, sm, ih⟩ := h
    obtain ⟨p, hp, hxp⟩ := dpAll_get ha hx
    have hi3 : i < 3 := by
      have := (List.getElem?_eq_some_iff.mp hp).1
      omega
    have fp : Fit p := ft.mem (List.mem_of_getElem? hp)
    have sT : Same H (upd H3 T (.tup [.int (i : Nat), x])) := sm.trans (same_new nT)
    have hT : (upd H3 T (.tup [.int (i : Nat), x])) T = some (.tup [.int (i : Nat), x]) := upd_same
    generalize upd H3 T (.tup [.int (i : Nat), x]) = H4 at sT hT ⊢
    have bad : mRise (mKind i) p = false → ∀ H', Same H H' → Q (.bl false) H' := fun e H' s => by
      have z := q H' s
      rw [mach_no e2' hp e] at z
      exact z
    refine ⟨T, _, rfl, SqT.of hT, rfl, _, _, rfl, _, _, rfl, rfl, ?_⟩
    have hd4 := dp_same sT _ _ hxp
    refine ⟨_, rfl, _, _, _, _, _, rfl, .ty "tuple", dp_ty hd4, kit_tup K hd4, _, rfl, ?_⟩
    refine ite2 (fun e3 => iteT ?_) (fun e3 => ?_)
    · refine bad ?_ H4 sT
      cases hxp with
      | tup _ _ => cases e3
      | _ => rfl
    have e3' : isTup p = true := by simpa using e3
    obtain ⟨b, us, es, rfl, rfl, hsb, hb⟩ := isTup_yes hd4 e3'
    have em : mRise (mKind i) (.tuple es) = (es.all (mKind i) && rising es) := rfl
    refine ⟨_, rfl, b, rfl, ⟨_, hsb⟩, fun D nD => ?_⟩
    refine lc_sift (m := mKind i) (xs := us) hsb hb fp.len nD (fun x d H2 R md hd2 fin => ⟨rfl, _, rfl, _, rfl, i, x, d, rfl, hi3, hd2, fp.mem md, fun H5 s5 => ⟨_, rfl, fin _ H5 s5 fun Q' h => ⟨_, rfl, h⟩⟩⟩) (fun H5 ys s5 hD hy => ?_)
    refine ⟨Nat.zero_le _, fun e0 n0 => ?_⟩
    have s6 : Same H5 (upd H5 e0 (.lst [])) := same_new n0
    refine ⟨_, _, .lst (SqL.of (s6 _ _ hD)) (dpAll_same (s5.trans s6) _ _ hy), .lst (SqL.of upd_same) .nil, fp.shaped_sift _, nil_shaped, _, rfl, ?_⟩
    rw [sift_all]
    have s7 : Same H4 (upd H5 e0 (.lst [])) := s5.trans s6
    generalize upd H5 e0 (.lst []) = H6 at s7 ⊢
    clear s6 s5 hD hy n0 nD
    refine ite2 (fun e4 => ?_) (fun e4 => ?_)
    · refine bad ?_ H6 (sT.trans s7)
      rw [em]
      have z : es.all (mKind i) = false := by simpa using e4
      rw [z, Bool.false_and]
    have e4' : es.all (mKind i) = true := by simpa using e4
    rw [e4', Bool.true_and] at em
    have len : es.length < 60 := sl ds rfl _ (List.mem_of_getElem? hp) es rfl
    have hlb := dpAll_len hb
    -- list(part)
    refine ⟨_, rfl, b, us, rfl, .inr (same_tup s7 hsb), fun l nl => ?_⟩
    have s8 : Same H6 (upd H6 l (.lst us)) := same_new nl
    have hl8 : (upd H6 l (.lst us)) l = some (.lst us) := upd_same
    generalize upd H6 l (.lst us) = H8 at s8 hl8 ⊢
    have s48 : Same H4 H8 := s7.trans s8
    have hb8 := dpAll_same s48 _ _ hb
    have hsb8 := same_tup s48 hsb
    have fe : ∀ d ∈ es, Fit d := fun d hd => fp.mem hd
    have good : ∀ H9, Same H H9 → rising es = true → ∃ y1' y2' y3', (([some (V.ref a), y1, y2, y3].set 1 (some (V.int i))).set 2 (some (V.ref b))) = [some (.ref a), y1', y2', y3'] ∧ Same H H9 ∧ ∀ j p, j < i + 1 → ds[j]? = some p → mRise (mKind j) p = true := fun H9 s9 e5 => by
      refine ⟨_, _, _, rfl, s9, fun j p' hj hp' => ?_⟩
      rcases Nat.lt_or_ge j i with z | z
      · exact ih j p' z hp'
      · have ej : j = i := by omega
        subst ej
        rw [hp] at hp'
        cases hp'
        rw [em]
        exact e5
    by_cases hi2 : i = 2
    · subst hi2
      obtain ⟨ns, rfl, rfl⟩ := ints_of_dp hb8 e4'
      rw [List.length_map] at len
      refine ⟨_, rfl, .inr ⟨b, ns, rfl, hsb8, len, fun sa c nsa hc => .inr ⟨sa, _, c, rfl, upd_same, by omega, fun ms p pw mem ln np => ?_⟩⟩⟩
      have s9 : Same H8 (upd (upd H8 sa (SetO w sa (fun j => decide (j ∈ ns)) c)) p (.lst (ms.map V.int))) := (same_new nsa).trans (same_new np)
      have hp9 : (upd (upd H8 sa (SetO w sa (fun j => decide (j ∈ ns)) c)) p (.lst (ms.map V.int))) p = some (.lst (ms.map V.int)) := upd_same
      have mem2 : ∀ k, k ∈ ms ↔ k ∈ ns := fun k => by rw [mem k]; exact decide_eq_true_iff
      have sA : Same H _ := sT.trans (s48.trans s9)
      refine fin_ne (s9 _ _ hl8) (dp_ints ns) hp9 (dp_ints ms) fe (fit_ints fe fun k hk => (mem2 k).mp hk) (due_ints pw mem2) (fun e5 => ⟨_, rfl, iteF (good _ sA e5)⟩) (fun e5 => ⟨_, rfl, iteT (bad (by rw [em]; exact e5) _ sA)⟩)
    · have key : ∀ d ∈ es, Keyed d := fun d hd => by
        have z := List.all_eq_true.mp e4' d hd
        have hi : i = 0 ∨ i = 1 := by omega
        rcases hi with rfl | rfl
        · exact ctl_keyed z
        · exact edge_keyed z
      have al : PySem.W.AllAlike es := by
        have hi : i = 0 ∨ i = 1 := by omega
        rcases hi with rfl | rfl
        · exact (alike_ctl e4').1
        · exact (alike_edge e4').1
      obtain ⟨bs, rfl, rfl, hr8⟩ := rows_of hb8 key
      rw [List.length_map] at len
      refine ⟨_, rfl, .inl ⟨b, bs, rfl, hsb8, hr8, by omega, fun sa L nsa h1 h2 => .inl ⟨sa, L, rfl, upd_same, rows_sub (rows_same hr8 (same_new nsa)) h1, ?_, ?_, fun p M np pm rm => ?_⟩⟩⟩
      · intro d hd d' hd'
        obtain ⟨x1, m1, rfl⟩ := List.mem_map.mp hd
        obtain ⟨x2, m2, rfl⟩ := List.mem_map.mp hd'
        exact al _ (List.mem_map.mpr ⟨x1, h1 x1 m1, rfl⟩) _ (List.mem_map.mpr ⟨x2, h1 x2 m2, rfl⟩)
      · refine .inl fun d hd => ?_
        obtain ⟨x1, m1, rfl⟩ := List.mem_map.mp hd
        obtain ⟨_, _, _, _, x, r, e⟩ := key _ (List.mem_map.mpr ⟨x1, h1 x1 m1, rfl⟩)
        exact ⟨x, r, e⟩
      · have s9 : Same H8 (upd (upd H8 sa (setO w sa L)) p (.lst (M.map fun p => V.ref p.1))) := (same_new nsa).trans (same_new np)
        have hp9 : (upd (upd H8 sa (setO w sa L)) p (.lst (M.map fun p => V.ref p.1))) p = some (.lst (M.map fun p => V.ref p.1)) := upd_same
        have sA : Same H _ := sT.trans (s48.trans s9)
        have hM : ∀ x ∈ M, x ∈ bs := fun x hx => h1 x (pm.mem_iff.mp hx)
        have ee : PyData.eqv (.list (bs.map fun p => p.2.data)) (.list (M.map fun p => p.2.data)) = rising (bs.map fun p => p.2.data) := by
          have z := due_eq (ks := bs.map (·.2)) (ms := M.map (·.2)) (fun k hk => by obtain ⟨x, hx, rfl⟩ := List.mem_map.mp hk; exact (hr8 x hx).2.1) rm (sub_same h1 h2 M pm)
          rwa [List.map_map, List.map_map] at z
        refine fin_ne (s9 _ _ hl8) (dpAll_same s9 _ _ hb8) hp9 (rows_dp (rows_sub (rows_same hr8 s9) hM)) fe (fun d hd => ?_) ee (fun e5 => ⟨_, rfl, iteF (good _ sA e5)⟩) (fun e5 => ⟨_, rfl, iteT (bad (by rw [em]; exact e5) _ sA)⟩)
        obtain ⟨x, hx, rfl⟩ := List.mem_map.mp hd
        exact fe _ (List.mem_map.mpr ⟨x, hM x hx, rfl⟩)
  · obtain ⟨y1, y2, y3, rfl, sm, ih⟩ := h
    have z := q H3 sm
    rw [mach_yes e2' fun j p hj hp => ih j p (by omega) hp] at z
    exact z
end
end K12

set_option maxHeartbeats 4000000
namespace S2
open PySem PySem.Spec PyProof.Rows L2 S1 G3
/-! dicts whose keys are such tuples, all values True -/
abbrev ent (P : Program) (w : World) (p : Row) : DictEntry := entryOfKey (nestedKind P w) (p.2, p.1, Value.bool true)
/-- rows as entries -/
abbrev ents (L : List Row) : List (NestedKey × Addr × Value) := L.map fun p => (p.2, p.1, Value.bool true)
def DStands (P : Program) (w : World) (d : Addr) (L : List Row) (h : Heap) : Prop :=
  (d == sysModules) = false ∧ ∃ (o : Obj) (es : Array DictEntry) (ep : Nat), h.get? d = some o ∧ o.ExactDict ∧ o.data = .dict es ep ∧ es.toList = L.map (ent P w) ∧ (L.map (·.2)).Nodup
def dicO (P : Program) (w : World) (d : Addr) (L : List Row) : HO := .ext (DStands P w d L)
section
variable {P : Program} {w : World} {h : Heap} {d : Addr} {L : List Row}
theorem dicO_ok {H : Hp} (R : DStands P w d L h) : ObjOk P w H h d (dicO P w d L) := by
  obtain ⟨ns, o, es, ep, e, r⟩ := R
  refine ⟨⟨ns, o, es, ep, e, r⟩, ⟨o, e⟩, ?_⟩
  rintro h1 h2 ⟨n1, o1, es1, ep1, e1, r1⟩ k
  exact ⟨n1, o1, es1, ep1, k o1 e1, r1⟩
theorem dic_of (R : DStands P w d L h) (k : ∀ p ∈ L, Fig h p.2 p.1) : h.DictOfH (nestedKind P w) d (ents L) := by
  obtain ⟨_, o, es, ep, e, ex, da, en, nd⟩ := R
  refine ⟨o, es, ep, e, ex, da, ?_, ?_, ?_⟩
  · rw [en, List.map_map]
    rfl
  · intro x hx
    obtain ⟨p, hp, rfl⟩ := List.mem_map.mp hx
    exact ⟨(k p hp).is, (k p hp).dp⟩
  · rw [List.map_map]
    exact nd
theorem of_dic (ns : (d == sysModules) = false) (R : h.DictOfH (nestedKind P w) d (ents L)) : DStands P w d L h := by
  obtain ⟨o, es, ep, e, ex, da, en, _, nd⟩ := R
  refine ⟨ns, o, es, ep, e, ex, da, ?_, ?_⟩
  · rw [en, List.map_map]
    rfl
  · rw [List.map_map] at nd
    exact nd
theorem at_none {k : NestedKey} (h : k ∉ L.map (·.2)) : atKey (ents L) k = none := by
  unfold atKey
  rw [Option.map_eq_none_iff, List.find?_eq_none]
  intro x hx e
  obtain ⟨p, hp, rfl⟩ := List.mem_map.mp hx
  exact h (List.mem_map.mpr ⟨p, hp, of_decide_eq_true e⟩)
theorem at_some {k : NestedKey} (h : k ∈ L.map (·.2)) : ∃ p, atKey (ents L) k = some p := by
  cases e : atKey (ents L) k with
  | some p => exact ⟨p, rfl⟩
  | none =>
    exfalso
    unfold atKey at e
    rw [Option.map_eq_none_iff, List.find?_eq_none] at e
    obtain ⟨p, hp, rfl⟩ := List.mem_map.mp h
    exact e (p.2, p.1, Value.bool true) (List.mem_map.mpr ⟨p, hp, rfl⟩) (decide_eq_true rfl)
theorem stored_old {k : NestedKey} {a : Addr} (h : k ∈ L.map (·.2)) : storedH (ents L) k a (.bool true) = ents L := by
  obtain ⟨p, e⟩ := at_some h
  rw [storedH_old e, List.map_map]
  refine List.map_congr_left fun x _ => ?_
  show putAt k (.bool true) (x.2, x.1, Value.bool true) = _
  unfold putAt
  split <;> rfl
theorem stored_new {k : NestedKey} {a : Addr} (h : k ∉ L.map (·.2)) : storedH (ents L) k a (.bool true) = ents (L ++ [(a, k)]) := by
  rw [storedH_new (at_none h)]
  unfold ents
  rw [List.map_append]
  rfl
end
section
variable {X : Cx}
/-- {} -/
def tDNewN (P : Program) (w : World) : TE := fun _ H Q => ∀ p, H p = none → Q (.ref p) (upd H p (dicO P w p []))
theorem pe_dnewN {pos : Pos} : PE X (.Dict [] [] pos) (tDNewN X.prog X.w) := ⟨fun pins s σ H Q I h => by
  refine wpAny_Dict_empty ⟨.ref s.heap.objs.size, _, I.laid (a := s.heap.objs.size) (o := dicO X.prog X.w s.heap.objs.size []) (t' := s.toks) (fun _ _ q => Heap.get?_push_of_some _ q) (Nat.le_refl _) (dicO_ok (of_dic ?_ (Heap.DictOfH.new _))), rfl, h _ (I.hok.fresh (Nat.le_refl _))⟩
  exact beq_eq_false_iff_ne.mpr (Ne.symm (Nat.ne_of_lt I.big))⟩
/-- d[k] = True -/
def rDicN (K : PySem.W.Frag) (P : Program) (w : World) : TSet := fun o i v H Q => ∃ (d a : Addr) (k : NestedKey) (L : List Row), o = .ref d ∧ i = .ref a ∧ v = .bl true ∧ H d = some (dicO P w d L) ∧ Rows K H ((a, k) :: L) ∧ L.length < 1000 ∧
  ∀ L', (k ∈ L.map (·.2) ∧ L' = L ∨ k ∉ L.map (·.2) ∧ L' = L ++ [(a, k)]) → Q (upd H d (dicO P w d L'))
theorem set_dicN (hu : X.A.units + 64 < cLine) : PSet X (rDicN X.K X.prog X.w) := by
  intro pins s σ H o i v ov iv u Q I ro ri rv h
  obtain ⟨d, a, k, L, rfl, rfl, rfl, hd, rows, few, q⟩ := h
  cases ro
  cases ri
  cases rv
  have figs := rows_fig I rows
  have R : DStands X.prog X.w d L s.heap := (I.hok d _ hd).1
  have fa := figs (a, k) List.mem_cons_self
  refine wpAny_setItem_heap (knd := nestedKind X.prog X.w) (k := k) (xs := ents L) (show X.A.in1.units + 8 < cLine from by show X.A.units + 1 + 8 < cLine; omega) ⟨fa.is, fa.dp⟩ (dic_of R fun p hp => figs p (List.mem_cons_of_mem _ hp)) (fun h1 new sb => ?_) (by rw [List.length_map, sizeLine_eq]; omega)
  obtain ⟨L', how, e⟩ : ∃ L', (k ∈ L.map (·.2) ∧ L' = L ∨ k ∉ L.map (·.2) ∧ L' = L ++ [(a, k)]) ∧ storedH (ents L) k a (.bool true) = ents L' := by
    by_cases m : k ∈ L.map (·.2)
    · exact ⟨L, .inl ⟨m, rfl⟩, stored_old m⟩
    · exact ⟨_, .inr ⟨m, rfl⟩, stored_new m⟩
  rw [e] at new
  have R' := of_dic R.1 new
  have he : ∃ u, h1.get? d = some u := by
    obtain ⟨_, o, _, _, ho, _⟩ := R'
    exact ⟨o, ho⟩
  exact ⟨_, I.write (e := d) (t' := s.toks + (nestedKind X.prog X.w).draws k) (by rw [hd]; trivial) (.inl rfl) (fun b u hb hx => (sb.2 b hb).trans hx) he (dicO_ok R'), q L' how⟩
/-- sorted(d) -/
def rSortN (K : PySem.W.Frag) (P : Program) (w : World) : List V → Hp → VK → Prop := fun vs H Q => ∃ (a : Addr) (L : List Row), vs = [.ref a] ∧ H a = some (dicO P w a L) ∧ Rows K H L ∧ L.length < 1000 ∧ PySem.W.AllAlike (L.map fun p => p.2.data) ∧ PySem.W.Sortable (L.map fun p => p.2.data) ∧
  ∀ (p : Addr) (M : List Row), H p = none → M.Perm L → Rises (M.map (·.2)) → Q (.ref p) (upd H p (.lst (M.map fun p => V.ref p.1)))
theorem cr_sortN (calm : X.calm = true) (hu : X.A.units + 64 < cLine) : CallR X (.builtin "sorted") (rSortN X.K X.prog X.w) := by
  intro pins s σ H vs us Q I r ⟨a, L, e, ha, rw0, few, al, so, q⟩
  subst e
  rw [Vals.ref1 r]
  have R : DStands X.prog X.w a L s.heap := (I.hok a _ ha).1
  obtain ⟨ns, o, es, ep, at0, ex, dat, en, once⟩ := R
  have len : es.size = L.length := by
    have z := congrArg List.length en
    simpa using z
  have line : L.length ≤ sizeLine := by rw [sizeLine_eq]; omega
  refine Calls.call_function_entry kind_sorted plain_sorted entry_sorted (args_sorted1 _) ?_
  unfold Builtin.«sorted»
  refine wpAny_bind (m := checkCount "sorted" 1 1 _) (wpAny_pure ?_)
  refine wpAny_bind (PySem.W.kdu_collect (A := X.A.in1) (KdlSrc.rawDict (es := es) (ep := ep) ns) (I.ok.hd calm) ⟨o, at0, ex, dat⟩ (by rw [len]; exact line) fun h1 tk acc keep items => ?_)
  have I1 : Inv X pins σ H { s with heap := h1, toks := tk } := I.kept keep
  have eo : acc.toList = L.map fun p => Value.ref p.1 := by
    apply List.ext_getElem?
    intro j
    by_cases hj : j < L.length
    · have hs : acc.size = L.length := by rw [items.1, len]
      have ga : acc[j]? = some acc[j] := Array.getElem?_eq_getElem (by omega)
      obtain ⟨hi, ev⟩ := items.2 j _ ga
      have ge : es.toList[j]? = some (ent X.prog X.w L[j]) := by rw [en, List.getElem?_map, List.getElem?_eq_getElem hj]; rfl
      have ge2 : es[j] = ent X.prog X.w L[j] := by
        rw [Array.getElem?_toList, Array.getElem?_eq_getElem hi] at ge
        exact Option.some.inj ge
      rw [Array.getElem?_toList, ga, ev, ge2, List.getElem?_map, List.getElem?_eq_getElem hj]
      rfl
    · have hs : acc.toList.length = L.length := by rw [Array.length_toList, items.1, len]
      rw [List.getElem?_eq_none (by omega), List.getElem?_eq_none (by rw [List.length_map]; omega)]
  rw [eo]
  refine wpAny_bind (wpAny_newList ?_ (by rw [List.length_map]; exact line))
  have atL : (h1.push (seqObj "list" (L.map fun p => Value.ref p.1).toArray 0)).get? h1.objs.size = some (seqObj "list" (L.map fun p => Value.ref p.1).toArray 0) := Heap.get?_push_size _ rfl
  have keep2 : ∀ b o, s.heap.get? b = some o → (h1.push (seqObj "list" (L.map fun p => Value.ref p.1).toArray 0)).get? b = some o := fun b o e => Heap.get?_push_of_some _ (keep b o e)
  have rd := rows_rd I rw0
  have rd2 : ∀ p ∈ L, ∃ as, Reads (h1.push (seqObj "list" (L.map fun p => Value.ref p.1).toArray 0)) (.ref p.1) p.2.data as ∧ as = [] := fun p hp => by
    obtain ⟨f, _, as, r⟩ := rd p hp
    exact ⟨as, PyProof.Rows.Reads.keeps keep2 r, (key_reads _ _ _ f r).2⟩
  refine wpAny_bind (wpAny_holding (PySem.W.list_sort_data (enc := fun p : Row => p.2.data) (s := { s with heap := h1.push (seqObj "list" (L.map fun p => Value.ref p.1).toArray 0), toks := tk }) atL (each_refs L) (each_figs L rd2) al so line (fun p hp => ?dep) fun out len1 each1 => ?_))
  case dep =>
    have z := (rd p hp).2.1
    have y : p.2.data.depth = p.2.depth := depth_key p.2
    have u : X.A.in1.units = X.A.units + 1 := rfl
    rw [u, y]
    omega
  obtain ⟨c, atc⟩ := sortedHeap_at (vs := L.map fun p => Value.ref p.1) (out := out.toArray) atL
  obtain ⟨M, eM⟩ : ∃ M, M = L.mergeSort (PySem.W.dataLe false fun p : Row => p.2.data) := ⟨_, rfl⟩
  have pm : M.Perm L := by rw [eM]; exact List.mergeSort_perm _ _
  have le : M.Pairwise (fun x y => kLt y.2 x.2 = false) := by
    rw [eM]
    refine (PySem.W.sort_pairwise (PySem.W.sortLe_total _ false _) L).imp fun {x y} h => ?_
    have h2 : (!kLt y.2 x.2) = true := h
    rwa [Bool.not_eq_true'] at h2
  have eout : out = M.map fun p : Row => Value.ref p.1 := by
    rw [eM]
    exact refs_each each1
  refine wpAny_pure ⟨_, rfl, ?_⟩
  refine laid_rows (s1 := { s with heap := sortedHeap (h1.push (seqObj "list" (L.map fun p => Value.ref p.1).toArray 0)) h1.objs.size (L.map fun p => Value.ref p.1) out.toArray, toks := tk }) (out := out.toArray) (M := M) I1 (fun b o e => ?_) rfl rfl (Nat.le_refl _) atc (by simpa using eout) (by rw [pm.length_eq]; exact line) fun fr => q _ M fr pm (rises_sorted once (fun p hp => (rw0 p hp).2.1) al pm le)
  have lt := Heap.lt_size e
  show (sortedHeap (h1.push (seqObj "list" (L.map fun p => Value.ref p.1).toArray 0)) h1.objs.size (L.map fun p => Value.ref p.1) out.toArray).get? b = some o
  rw [sortedHeap_old (Nat.ne_of_lt lt) (by rw [size_push']; exact Nat.lt_succ_of_lt lt)]
  exact Heap.get?_push_of_some _ e
end
end S2

set_option maxHeartbeats 4000000
namespace K12
open PySem PySem.Spec PyProof.Rows L2 G3 G4 M0
theorem scPool : FnScope ["_law_script", "_law_k", "_law_cell", "_law_mixed"] ["_law_script", "_law_k"] (defScope sPool) := ⟨rfl, rfl, rfl, by decide +kernel, rfl, by decide +kernel, by decide +kernel⟩
theorem scTake : FnScope ["_law_pool_here", "_law_many", "_law_found"] ["_law_pool_here", "_law_many"] (defScope sTake) := ⟨rfl, rfl, rfl, by decide +kernel, rfl, by decide +kernel, by decide +kernel⟩
section
variable {P : Program} {w : World} {K : PySem.W.Frag} {mg : Str → Option Value} {base : Heap}

/-- what a pool holds -/
def Pool (H : Hp) (p : Addr) : Prop := ∃ x y : Int, H p = some (.lst [.int x, .int y]) ∧ 0 ≤ x ∧ 0 ≤ y ∧ y < 2147483647
def spTake : Sp := fun vs H Q _ => ∃ (p : Addr) (m : Int), vs = [.ref p, .int m] ∧ Pool H p ∧ 0 < m ∧ m < 1073741824 ∧
  ∀ (x y r : Int), 0 ≤ x → 0 ≤ y → y < 2147483647 → 0 ≤ r → r < m → Q (.int r) (upd H p (.lst [.int x, .int y]))
def spPool (K : PySem.W.Frag) : Sp := fun vs H Q _ => ∃ (a : Addr) (ns : List Int) (k : Nat), vs = [.ref a, .int k] ∧ SqL K H a (ns.map V.int) ∧ k ≤ 1000 ∧
  ∀ (p : Addr) (x y : Int), H p = none → 0 ≤ x → 0 ≤ y → y < 2147483647 → Q (.ref p) (upd H p (.lst [.int x, .int y]))

theorem ok_take {f : Addr} {fd : FuncData} {k : Nat} (F : Fun K "_law_take" "_law_take" sTake f fd) : FnOk P w K mg base CX0 (k + 1) f fd ["_law_pool_here", "_law_many"] spTake := by
  refine F.ok scTake (fun vs H Q E h => ?_) (fun cdv A outer s H vs Q E hr h => ?_)
  · obtain ⟨p, m, rfl, _⟩ := h
    rfl
  · obtain ⟨p, m, rfl, ⟨x, y, hp, hx, hy, hy2⟩, hm, hm2, q⟩ := h
    have nd := scTake.nd
    refine ⟨_, pss_cons (ps_if (pt_cmpR op_gt (pe_ix ix_list (pv 0) pe_int (fun _ _ => rfl)) pe_int (nomark _))
        (pss_cons (ps_set (i := 2) nd rfl (.inl rfl) (pe_op op_mod (pe_ix ix_list (pv 0) pe_int (fun _ _ => rfl)) (pv 1)))
        (pss_cons (ps_asg (pe_op op_fdiv (pe_ix ix_list (pv 0) pe_int (fun _ _ => rfl)) (pv 1)) (pg_sub (pv 0) pe_int set_list))
        (pss_one (ps_ret (pv 2))))) pss_nil)
      (pss_cons (ps_asg (pe_op op_mod (pe_op op_add (pe_op op_mul (pe_ix ix_list (pv 0) pe_int (fun _ _ => rfl)) pe_int) pe_int) pe_int) (pg_sub (pv 0) pe_int set_list))
      (pss_one (ps_ret (pe_op op_mod (pe_op op_fdiv (pe_op op_mod (pe_op op_mul (pe_ix ix_list (pv 0) pe_int (fun _ _ => rfl)) (pe_ix ix_list (pv 0) pe_int (fun _ _ => rfl))) pe_int) pe_int) (pv 1))))), ?_⟩
    have g0 : atI [V.int x, V.int y] 0 = some (V.int x) := atI_nat (j := 0) rfl
    have g1 : atI [V.int x, V.int y] 1 = some (V.int y) := atI_nat (j := 1) rfl
    refine ⟨_, rfl, p, _, 0, _, rfl, rfl, SqL.of hp, g0, x, 0, rfl, rfl, _, rfl, ite2 (fun e => ?_) (fun e => ?_)⟩
    · -- the great cell
      have hd1 : 0 ≤ x / m := Int.ediv_nonneg hx (Int.le_of_lt hm)
      refine ⟨_, rfl, p, _, 0, _, rfl, rfl, SqL.of hp, g0, _, rfl, x, m, rfl, rfl, hm, ?_⟩
      refine ⟨_, rfl, p, _, 0, _, rfl, rfl, SqL.of hp, g0, _, rfl, x, m, rfl, rfl, ⟨hm, hm2⟩, ?_⟩
      refine ⟨_, rfl, p, _, 0, 0, rfl, rfl, hp, rfl, _, rfl, ?_⟩
      exact q _ _ _ hd1 hy hy2 (Int.emod_nonneg x (by omega)) (Int.emod_lt_of_pos x hm)
    · have hz1 : 0 ≤ (y * 48271 + 12345) % 2147483647 := Int.emod_nonneg _ (by decide)
      have hz2 : (y * 48271 + 12345) % 2147483647 < 2147483647 := Int.emod_lt_of_pos _ (by decide)
      refine ⟨_, rfl, p, _, 1, _, rfl, rfl, SqL.of hp, g1, y, 48271, rfl, rfl, .inr ⟨by decide, by decide⟩, _, _, rfl, rfl, _, _, rfl, rfl, (show (0 : Int) < 2147483647 by decide), ?_⟩
      refine ⟨_, rfl, p, _, 1, 1, rfl, rfl, hp, rfl, ?_⟩
      have g2 : atI ([V.int x, V.int y].set 1 (V.int ((y * 48271 + 12345) % 2147483647))) 1 = some (V.int ((y * 48271 + 12345) % 2147483647)) := atI_nat (j := 1) rfl
      refine ⟨_, rfl, p, _, 1, _, rfl, rfl, SqL.of upd_same, g2, _, rfl, p, _, 1, _, rfl, rfl, SqL.of upd_same, g2, _, _, rfl, rfl, .inl ⟨by omega, by omega⟩, ?_⟩
      refine ⟨_, _, rfl, rfl, (show (0 : Int) < 2147483629 by decide), _, _, rfl, rfl, ⟨by decide, by decide⟩, _, rfl, _, m, rfl, rfl, hm, ?_⟩
      exact q _ _ _ hx hz1 hz2 (Int.emod_nonneg _ (by omega)) (Int.emod_lt_of_pos _ hm)

theorem ok_pool {f : Addr} {fd : FuncData} {k : Nat} (F : Fun K "_law_pool" "_law_pool" sPool f fd) (ml : mg "len" = none) (ma : mg "abs" = none) (mi : mg "int" = none) : FnOk P w K mg base CX0 (k + 1) f fd ["_law_script", "_law_k"] (spPool K) := by
  refine F.ok scPool (fun vs H Q E h => ?_) (fun cdv A outer s H vs Q E hr h => ?_)
  · obtain ⟨a, ns, k, rfl, _⟩ := h
    rfl
  · obtain ⟨a, ns, k, rfl, hS, hk, q⟩ := h
    have nd := scPool.nd
    refine ⟨_, pss_cons (ps_set (i := 2) nd rfl (.inl rfl) pe_int)
      (pss_cons (ps_if (pt_cmpR op_lt (pv 1) (pe_callB call_len_seq (by rfl) ml PySem.boot_len (pa_cons (pv 0) pa_nil)) (nomark _))
        (pss_one (ps_set (i := 2) nd rfl (.inl rfl) (pe_callB call_abs (by rfl) ma (by decide +kernel) (pa_cons (pe_ix ix_list (pv 0) (pv 1) (fun _ _ => rfl)) pa_nil)))) pss_nil)
      (pss_cons (ps_set (i := 3) nd rfl (.inl rfl) (pe_op op_mod (pe_op op_mul (pe_op op_add (pe_op op_add (pe_op op_add (pe_op op_mod (pv 2) pe_int) (pe_op op_mul (pe_op op_mul pe_int (pv 1)) (pv 1))) (pe_op op_mul pe_int (pv 1))) pe_int) pe_int) pe_int))
      (pss_one (ps_ret (pe_lst (pa_cons (pe_op op_mul (pv 2) (pe_callTy call_int1 (by rfl) mi (by decide +kernel) (pa_cons (pe_cmpR op_ge (pv 2) (pe_op op_pow pe_int pe_int) (nomark _)) pa_nil)))
        (pa_cons (pe_op op_mod (pe_op op_mul (pv 3) (pv 3)) pe_int) pa_nil))))))), ?_⟩
    -- what follows once the cell is known
    have rest : ∀ c : Int, 0 ≤ c → (tSeq (tAsg (tOp (rI (fun _ j => 0 < j) fun i j => .int (i % j)) (tOp (rI CMul fun i j => .int (i * j)) (tOp (rI0 fun i j => .int (i + j)) (tOp (rI0 fun i j => .int (i + j)) (tOp (rI0 fun i j => .int (i + j)) (tOp (rI (fun _ j => 0 < j) fun i j => .int (i % j)) (tVar 2) (tC (.int 2147483629))) (tOp (rI CMul fun i j => .int (i * j)) (tOp (rI CMul fun i j => .int (i * j)) (tC (.int 7919)) (tVar 1)) (tVar 1))) (tOp (rI CMul fun i j => .int (i * j)) (tC (.int 31)) (tVar 1))) (tC (.int 17))) (tC (.int 48271))) (tC (.int 2147483647))) (gName 3))
        (tRet (tLst (tCons (tOp (rI CMul fun i j => .int (i * j)) (tVar 2) (tCB (fun xs H Q => (∃ i, xs = [.int i] ∧ Q (.int i) H) ∨ ∃ k, xs = [.bl k] ∧ Q (.int (if k then 1 else 0)) H) (tCons (tOp (rI0 fun i j => .bl (decide (j ≤ i))) (tVar 2) (tOp (rI CPow fun i j => .int (i ^ j.toNat)) (tC (.int 10)) (tC (.int 18)))) tNil)))
          (tCons (tOp (rI (fun _ j => 0 < j) fun i j => .int (i % j)) (tOp (rI CMul fun i j => .int (i * j)) (tVar 3) (tVar 3)) (tC (.int 2147483629))) tNil)))))
        { nx := fun _ H' => Q .non H', rt := Q } [some (.ref a), some (.int k), some (.int c), none] H := by
      intro c hc
      refine ⟨_, rfl, c, _, rfl, rfl, (show (0 : Int) < 2147483629 by decide), _, rfl, _, _, rfl, rfl, .inl ⟨by decide, by decide⟩, _, rfl, _, _, rfl, rfl, .inr ⟨by omega, by omega⟩, _, _, rfl, rfl, _, rfl, _, _, rfl, rfl, .inl ⟨by decide, by decide⟩, _, _, rfl, rfl, _, _, rfl, rfl, _, _, rfl, rfl, .inr ⟨by decide, by decide⟩, _, _, rfl, rfl, (show (0 : Int) < 2147483647 by decide), ?_⟩
      have hz1 : 0 ≤ (c % 2147483629 + 7919 * (k : Int) * k + 31 * k + 17) * 48271 % 2147483647 := Int.emod_nonneg _ (by decide)
      have hz2 : (c % 2147483629 + 7919 * (k : Int) * k + 31 * k + 17) * 48271 % 2147483647 < 2147483647 := Int.emod_lt_of_pos _ (by decide)
      refine ⟨_, rfl, _, rfl, _, _, rfl, rfl, ⟨by decide, by decide, by decide⟩, c, _, rfl, rfl, .inr ⟨_, rfl, ?_⟩⟩
      have key : ∀ b : Bool, 0 ≤ c * (if b then 1 else 0) := fun b => by cases b <;> simp [hc]
      have sm : ∀ b : Bool, (-(2 ^ 64) : Int) < (if b then 1 else 0) ∧ ((if b then 1 else 0) : Int) < 2 ^ 64 := fun b => by cases b <;> decide
      refine ⟨c, _, rfl, rfl, .inr (sm _), _, rfl, _, rfl, _, _, rfl, rfl, .inl ⟨Int.lt_of_lt_of_le (by decide) hz1, Int.lt_trans hz2 (by decide)⟩, _, _, rfl, rfl, (show (0 : Int) < 2147483629 by decide), by show 2 ≤ sizeLine; decide, fun p np => ?_⟩
      exact q p _ _ np (key _) (Int.emod_nonneg _ (by decide)) (Int.lt_trans (Int.emod_lt_of_pos _ (by decide)) (by decide))
    refine ⟨_, rfl, _, rfl, a, _, rfl, .inl hS, _, _, rfl, rfl, _, rfl, ite2 (fun e => ?_) (fun e => ?_)⟩
    · have hk2 : k < ns.length := by
        have := of_decide_eq_true e
        rw [List.length_map] at this
        omega
      have g : (ns.map V.int)[k]? = some (.int ns[k]) := by
        rw [List.getElem?_map, List.getElem?_eq_getElem hk2]
        rfl
      refine ⟨_, rfl, _, rfl, a, _, k, _, rfl, rfl, hS, atI_nat g, ns[k], rfl, ?_⟩
      refine rest _ ?_
      split <;> omega
    · exact rest 0 (by decide)
end
end K12

set_option maxHeartbeats 8000000
namespace K12
open PySem PySem.Spec PyProof.Rows L2 G3 G4 M0 N1 S1 S2
abbrev nMake : List Str := ["_law_pool_here", "_law_controls", "_law_many", "_law_points", "_law_edges", "_law_turn", "_law_begins", "_law_ends"]
theorem scMake : FnScope nMake ["_law_pool_here", "_law_controls"] (defScope sMake) := ⟨rfl, rfl, rfl, by decide +kernel, rfl, by decide +kernel, by decide +kernel⟩
/-! what stands beside the pool and a dict -/
def off2 (p d : Addr) (H : Hp) : Hp := fun b => if b = p ∨ b = d then none else H b
section
variable {p d b t : Addr} {H H' : Hp} {o : HO}
theorem off2_ne (h1 : b ≠ p) (h2 : b ≠ d) : off2 p d H b = H b := if_neg fun z => z.elim h1 h2
theorem off2_p : off2 p d (upd H p o) = off2 p d H := by
  funext b
  by_cases e : b = p
  · unfold off2; rw [if_pos (.inl e), if_pos (.inl e)]
  · unfold off2; rw [upd_ne e]
theorem off2_d : off2 p d (upd H d o) = off2 p d H := by
  funext b
  by_cases e : b = d
  · unfold off2; rw [if_pos (.inr e), if_pos (.inr e)]
  · unfold off2; rw [upd_ne e]
theorem off2_some {x : HO} (h : off2 p d H b = some x) : b ≠ p ∧ b ≠ d ∧ H b = some x := by
  by_cases z : b = p ∨ b = d
  · unfold off2 at h; rw [if_pos z] at h; cases h
  · unfold off2 at h; rw [if_neg z] at h
    exact ⟨fun e => z (.inl e), fun e => z (.inr e), h⟩
theorem off2_mono (e : Same H H') : Same (off2 p d H) (off2 p d H') := fun b x h => by
  obtain ⟨h1, h2, h3⟩ := off2_some h
  rw [off2_ne h1 h2]
  exact e b x h3
theorem off2_sub : Same (off2 p d H) (M0.off p H) := fun b x h => by
  obtain ⟨h1, _, h3⟩ := off2_some h
  rw [off_ne h1]
  exact h3
theorem off2_all : Same (off2 p d H) H := fun b x h => (off2_some h).2.2
theorem off2_start (n : H d = none) : Same (M0.off p H) (off2 p d (upd H d o)) := fun b x h => by
  by_cases z : b = p
  · unfold M0.off at h; rw [if_pos z] at h; cases h
  · rw [off_ne z] at h
    have z2 : b ≠ d := ne_of_none h n
    rw [off2_ne z z2, upd_ne z2]
    exact h
end
/-! tuples of ints to choose from -/
abbrev Tp := Addr × List Int
def Menu (K : PySem.W.Frag) (H : Hp) (l : Addr) (cs : List Tp) (R : List Int → Prop) : Prop := SqL K H l (cs.map fun x => V.ref x.1) ∧ ∀ x ∈ cs, SqT K H x.1 (x.2.map V.int) ∧ R x.2
theorem Menu.same {K : PySem.W.Frag} {H H' : Hp} {l : Addr} {cs : List Tp} {R : List Int → Prop} (h : Menu K H l cs R) (e : Same H H') : Menu K H' l cs R := ⟨e.seq h.1, fun x hx => ⟨same_tup e (h.2 x hx).1, (h.2 x hx).2⟩⟩
theorem Menu.at {K : PySem.W.Frag} {H : Hp} {l : Addr} {cs : List Tp} {R : List Int → Prop} (h : Menu K H l cs R) {r : Int} (h0 : 0 ≤ r) (h1 : r < cs.length) : ∃ x ∈ cs, atI (cs.map fun x => V.ref x.1) r = some (.ref x.1) := by
  obtain ⟨j, rfl⟩ : ∃ j : Nat, r = (j : Int) := ⟨r.toNat, by omega⟩
  have hl : j < cs.length := by omega
  refine ⟨cs[j], List.getElem_mem hl, ?_⟩
  exact atI_nat (by rw [List.getElem?_map, List.getElem?_eq_getElem hl]; rfl)
/-! small parts -/
structure Tiny (d : PyData) : Prop where
  nc : nice d = true
  dep : d.depth ≤ 4
  blk : d.bulk ≤ 200
theorem tiny_int {i : Int} (h : -100 ≤ i) (h2 : i < 100) : nice (.int i) = true ∧ (PyData.int i).depth ≤ 0 ∧ (PyData.int i).bulk ≤ 1 := ⟨nice_int h h2, by simp [PyData.depth], by simp [PyData.bulk]⟩
/-- a small tuple of small ints -/
def ctlOk (is : List Int) : Prop := is.length ≤ 2 ∧ ∀ i ∈ is, -100 ≤ i ∧ i < 100
theorem tiny_is {is : List Int} (h : ctlOk is) : nice (.tuple (is.map PyData.int)) = true ∧ (PyData.tuple (is.map PyData.int)).depth ≤ 1 ∧ (PyData.tuple (is.map PyData.int)).bulk ≤ 4 := by
  have f : ∀ x ∈ is.map PyData.int, nice x = true ∧ x.depth ≤ 0 ∧ x.bulk ≤ 1 := fun x hx => by
    obtain ⟨i, hi, rfl⟩ := List.mem_map.mp hx
    exact tiny_int (h.2 i hi).1 (h.2 i hi).2
  refine ⟨nice_tuple fun x hx => (f x hx).1, depth_tuple fun x hx => (f x hx).2.1, ?_⟩
  exact Nat.le_trans (bulk_tuple (m := 1) (n := 2) (fun x hx => (f x hx).2.2) (by rw [List.length_map]; exact h.1)) (by decide)
theorem tiny_ctl {is : List Int} {n : Int} (h : ctlOk is) (h0 : 0 ≤ n) (h1 : n < 100) : Tiny (.tuple [.tuple (is.map PyData.int), .int n]) := by
  have f : ∀ x ∈ [PyData.tuple (is.map PyData.int), .int n], nice x = true ∧ x.depth ≤ 1 ∧ x.bulk ≤ 4 := fun x hx => by
    rcases List.mem_cons.mp hx with rfl | hx
    · exact tiny_is h
    · rw [List.mem_singleton.mp hx]
      have z := tiny_int (i := n) (by omega) h1
      exact ⟨z.1, by omega, by omega⟩
  refine ⟨nice_tuple fun x hx => (f x hx).1, Nat.le_trans (depth_tuple (k := 1) fun x hx => (f x hx).2.1) (by decide), ?_⟩
  exact Nat.le_trans (bulk_tuple (m := 4) (n := 2) (fun x hx => (f x hx).2.2) (Nat.le_refl _)) (by decide)
theorem tiny_edge {a p q b : Int} (h : ∀ i ∈ [a, p, q, b], 0 ≤ i ∧ i < 100) : Tiny (.tuple [.int a, .tuple [.int p, .int q], .int b]) := by
  have z : ∀ i ∈ [a, p, q, b], nice (.int i) = true ∧ (PyData.int i).depth ≤ 0 ∧ (PyData.int i).bulk ≤ 1 := fun i hi => tiny_int (by have := (h i hi).1; omega) (h i hi).2
  have f : ∀ x ∈ [PyData.int a, .tuple [.int p, .int q], .int b], nice x = true ∧ x.depth ≤ 1 ∧ x.bulk ≤ 4 := fun x hx => by
    rcases List.mem_cons.mp hx with rfl | hx
    · have y := z a (by simp)
      exact ⟨y.1, by omega, by omega⟩
    rcases List.mem_cons.mp hx with rfl | hx
    · exact tiny_is (is := [p, q]) ⟨Nat.le_refl _, fun i hi => by
        have y := h i (by
          rcases List.mem_cons.mp hi with rfl | hi
          · simp
          · rw [List.mem_singleton.mp hi]; simp)
        exact ⟨by omega, y.2⟩⟩
    · rw [List.mem_singleton.mp hx]
      have y := z b (by simp)
      exact ⟨y.1, by omega, by omega⟩
  refine ⟨nice_tuple fun x hx => (f x hx).1, Nat.le_trans (depth_tuple (k := 1) fun x hx => (f x hx).2.1) (by decide), ?_⟩
  exact Nat.le_trans (bulk_tuple (m := 4) (n := 3) (fun x hx => (f x hx).2.2) (Nat.le_refl _)) (by decide)
/-! rows of the dicts -/
def ERow (r : S2.Row) : Prop := ∃ a p q b : Int, r.2 = kEdge a p q b ∧ ∀ i ∈ [a, p, q, b], 0 ≤ i ∧ i < 100
def BRow (r : S2.Row) : Prop := ∃ (is : List Int) (n : Int), r.2 = kCtl is n ∧ ctlOk is ∧ 0 ≤ n ∧ n < 100
structure InvD (P : Program) (w : World) (K : PySem.W.Frag) (B : Hp) (p d : Addr) (R : S2.Row → Prop) (n : Nat) (H : Hp) : Prop where
  sm : Same B (off2 p d H)
  pl : Pool H p
  ne : d ≠ p
  has : ∃ L, H d = some (dicO P w d L) ∧ Rows K (off2 p d H) L ∧ (∀ r ∈ L, R r) ∧ L.length ≤ n
section
variable {P : Program} {w : World} {K : PySem.W.Frag} {B H : Hp} {p d t : Addr} {R : S2.Row → Prop} {n : Nat}
theorem InvD.take (h : InvD P w K B p d R n H) {x y : Int} (hx : 0 ≤ x) (hy : 0 ≤ y) (hy2 : y < 2147483647) : InvD P w K B p d R n (upd H p (.lst [.int x, .int y])) := by
  obtain ⟨L, h1, h2, h3⟩ := h.has
  refine ⟨by rw [off2_p]; exact h.sm, ⟨x, y, upd_same, hx, hy, hy2⟩, h.ne, L, by rw [upd_ne h.ne]; exact h1, by rw [off2_p]; exact h2, h3⟩
theorem InvD.new (h : InvD P w K B p d R n H) {o : HO} (nt : H t = none) : InvD P w K B p d R n (upd H t o) := by
  obtain ⟨L, h1, h2, h3⟩ := h.has
  obtain ⟨x, y, q1, q2⟩ := h.pl
  have s : Same H (upd H t o) := same_new nt
  exact ⟨h.sm.trans (off2_mono s), ⟨x, y, s _ _ q1, q2⟩, h.ne, L, s _ _ h1, rows_same h2 (off2_mono s), h3⟩
theorem InvD.start (pl : Pool H p) (nd : H d = none) : InvD P w K (M0.off p H) p d R 0 (upd H d (dicO P w d [])) := by
  obtain ⟨x, y, q1, q2⟩ := pl
  have ne : d ≠ p := fun e => by rw [e, q1] at nd; cases nd
  exact ⟨off2_start nd, ⟨x, y, by rw [upd_ne ne.symm]; exact q1, q2⟩, ne, [], upd_same, fun _ z => (nomatch z), fun _ z => (nomatch z), Nat.le_refl _⟩
/-- d[k] = True, the key a new tuple at t -/
theorem InvD.put (h : InvD P w K B p d R n H) {k : NestedKey} (hn : n < 900) (ht : Dp K (off2 p d H) (.ref t) k.data) (fk : figures k = true) (dk : k.depth ≤ 8) (hr : R (t, k)) {Q : Hp → Prop} (q : ∀ H', InvD P w K B p d R (n + 1) H' → Q H') :
    rDicN K P w (.ref d) (.ref t) (.bl true) H Q := by
  obtain ⟨L, h1, h2, h3, h4⟩ := h.has
  refine ⟨d, t, k, L, rfl, rfl, rfl, h1, ?_, by omega, fun L' how => q _ ?_⟩
  · intro r hr
    rcases List.mem_cons.mp hr with rfl | hr
    · exact ⟨dp_same off2_all _ _ ht, fk, dk⟩
    · exact rows_same h2 off2_all r hr
  · obtain ⟨x, y, q1, q2⟩ := h.pl
    refine ⟨by rw [off2_d]; exact h.sm, ⟨x, y, by rw [upd_ne h.ne.symm]; exact q1, q2⟩, h.ne, L', upd_same, ?_⟩
    rw [off2_d]
    rcases how with ⟨_, rfl⟩ | ⟨_, rfl⟩
    · exact ⟨h2, h3, by omega⟩
    · refine ⟨fun r hr' => ?_, fun r hr' => ?_, by rw [List.length_append]; simp; omega⟩
      · rcases List.mem_append.mp hr' with z | z
        · exact h2 r z
        · rw [List.mem_singleton.mp z]; exact ⟨ht, fk, dk⟩
      · rcases List.mem_append.mp hr' with z | z
        · exact h3 r z
        · rw [List.mem_singleton.mp z]; exact hr
end
/-! the ends' dict -/
structure EndD (kvs : List (L2.Key × V)) (n : Nat) : Prop where
  ex : ∃ ks : List Int, kvs.map (·.1) = ks.map Sum.inl ∧ ks.Nodup ∧ (∀ k ∈ ks, 0 ≤ k ∧ k < 100) ∧ ks.length ≤ n
theorem EndD.put {kvs : List (L2.Key × V)} {n : Nat} (h : EndD kvs n) {k : Int} {v : V} (h0 : 0 ≤ k) (h1 : k < 100) : EndD (putK kvs (Sum.inl k) v) (n + 1) := by
  obtain ⟨ks, e, nd, b, l⟩ := h.ex
  by_cases m : (kvs.any fun kv => decide (kv.1 = (Sum.inl k : L2.Key))) = true
  · refine ⟨ks, ?_, nd, b, by omega⟩
    unfold putK
    rw [if_pos m, List.map_map, ← e]
    refine List.map_congr_left fun x _ => ?_
    show (if x.1 = Sum.inl k then (x.1, v) else x).1 = x.1
    split <;> rfl
  · have nk : k ∉ ks := fun z => m (by
      rw [List.any_eq_true]
      have z2 : (Sum.inl k : L2.Key) ∈ kvs.map (·.1) := by rw [e]; exact List.mem_map.mpr ⟨k, z, rfl⟩
      obtain ⟨x, hx, ex⟩ := List.mem_map.mp z2
      exact ⟨x, hx, decide_eq_true ex⟩)
    refine ⟨ks ++ [k], ?_, ?_, fun j hj => ?_, by rw [List.length_append]; simp; omega⟩
    · unfold putK
      rw [if_neg m, List.map_append, List.map_append, e]
      rfl
    · rw [List.nodup_append]
      refine ⟨nd, List.nodup_cons.mpr ⟨List.not_mem_nil, List.nodup_nil⟩, fun x hx y hy => ?_⟩
      rw [List.mem_singleton.mp hy]
      exact fun z => nk (z ▸ hx)
    · rcases List.mem_append.mp hj with z | z
      · exact b j z
      · rw [List.mem_singleton.mp z]; exact ⟨h0, h1⟩
end K12

set_option maxHeartbeats 8000000
namespace K12
open PySem PySem.Spec PyProof.Rows L2 G3 G4 M0 N1 S1 S2
structure MachD (d : PyData) : Prop where
  ok : mMachine d = true
  parts : ∃ bs es ns, d = .tuple [.tuple bs, .tuple es, .tuple ns] ∧ (∀ x ∈ bs, Tiny x) ∧ (∀ x ∈ es, Tiny x) ∧ (∀ x ∈ ns, Tiny x) ∧ bs.length ≤ 20 ∧ es.length ≤ 20 ∧ ns.length ≤ 20
def ptOk (is : List Int) : Prop := ∃ a b : Int, is = [a, b] ∧ ∀ i ∈ [a, b], 0 ≤ i ∧ i < 100
def spMake (K : PySem.W.Frag) : Sp := fun vs H Q _ => ∃ (p c : Addr) (cs : List Tp), vs = [.ref p, .ref c] ∧ Pool H p ∧ Menu K (M0.off p H) c cs ctlOk ∧ cs.length = 4 ∧
  ∀ H' v d, Same (M0.off p H) (M0.off p H') → Pool H' p → Dp K (M0.off p H') v d → MachD d → Q v H'
theorem pool_new {H : Hp} {p t : Addr} {o : HO} (pl : Pool H p) (nt : H t = none) : Pool (upd H t o) p := by
  obtain ⟨x, y, h, r⟩ := pl
  exact ⟨x, y, same_new nt _ _ h, r⟩
theorem pool_ne {H : Hp} {p t : Addr} (pl : Pool H p) (nt : H t = none) : t ≠ p := fun e => by
  obtain ⟨x, y, h, _⟩ := pl
  rw [e, h] at nt
  cases nt
theorem dp_nums {K : PySem.W.Frag} {H : Hp} {a : Addr} {is : List Int} (h : SqT K H a (is.map V.int)) : Dp K H (.ref a) (.tuple (is.map PyData.int)) := .tup h (dp_ints is)
theorem edge_rows {L : List S2.Row} (h : ∀ r ∈ L, ERow r) : (L.map fun r => r.2.data).all mEdge = true ∧ (∀ x ∈ L.map (fun r => r.2.data), Tiny x) ∧ PySem.W.Sortable (L.map fun r => r.2.data) := by
  have f : ∀ x ∈ L.map (fun r => r.2.data), mEdge x = true ∧ Tiny x ∧ ∃ y r, x = .tuple (y :: r) := fun x hx => by
    obtain ⟨r, hr, rfl⟩ := List.mem_map.mp hx
    obtain ⟨a, p, q, b, e, bd⟩ := h r hr
    rw [e, kEdge_data]
    refine ⟨?_, tiny_edge bd, _, _, rfl⟩
    show [PyData.int a, .int p, .int q, .int b].all mNought = true
    simp only [List.all_cons, List.all_nil, mNought, Bool.and_true, Bool.and_eq_true, decide_eq_true_eq]
    exact ⟨(bd a (by simp)).1, (bd p (by simp)).1, (bd q (by simp)).1, (bd b (by simp)).1⟩
  exact ⟨List.all_eq_true.mpr fun x hx => (f x hx).1, fun x hx => (f x hx).2.1, .inl fun x hx => (f x hx).2.2⟩
theorem ctl_rows {L : List S2.Row} (h : ∀ r ∈ L, BRow r) : (L.map fun r => r.2.data).all mCtl = true ∧ (∀ x ∈ L.map (fun r => r.2.data), Tiny x) ∧ PySem.W.Sortable (L.map fun r => r.2.data) := by
  have f : ∀ x ∈ L.map (fun r => r.2.data), mCtl x = true ∧ Tiny x ∧ ∃ y r, x = .tuple (y :: r) := fun x hx => by
    obtain ⟨r, hr, rfl⟩ := List.mem_map.mp hx
    obtain ⟨is, n, e, ok, h0, h1⟩ := h r hr
    rw [e, kCtl_data]
    refine ⟨?_, tiny_ctl ok h0 h1, _, _, rfl⟩
    show ((is.map PyData.int).all mWhole && decide (0 ≤ n)) = true
    rw [Bool.and_eq_true, decide_eq_true_eq]
    refine ⟨List.all_eq_true.mpr fun x hx => ?_, h0⟩
    obtain ⟨i, _, rfl⟩ := List.mem_map.mp hx
    rfl
  exact ⟨List.all_eq_true.mpr fun x hx => (f x hx).1, fun x hx => (f x hx).2.1, .inl fun x hx => (f x hx).2.2⟩
theorem rows_rise {M : List S2.Row} (h : Rises (M.map (·.2))) : rising (M.map fun r => r.2.data) = true := by
  have z := (rises_iff (M.map (·.2))).mpr h
  rwa [List.map_map] at z
theorem tiny_num {i : Int} (h : 0 ≤ i) (h2 : i < 100) : Tiny (.int i) := by
  have z := tiny_int (i := i) (by omega) h2
  exact ⟨z.1, by omega, by omega⟩
theorem ends_rise {ks ys : List Int} (nd : ks.Nodup) (b : ∀ k ∈ ks, 0 ≤ k ∧ k < 100) (pm : ys.Perm ks) (pw : ys.Pairwise (· ≤ ·)) : mRise mNought (.tuple (ys.map PyData.int)) = true ∧ ∀ x ∈ ys.map PyData.int, Tiny x := by
  have ndy : ys.Nodup := pm.nodup_iff.mpr nd
  have lt : ys.Pairwise (· < ·) := (pw.and ndy).imp fun {a b} h => by have h1 := h.1; have h2 := h.2; omega
  refine ⟨?_, fun x hx => ?_⟩
  · show ((ys.map PyData.int).all mNought && rising (ys.map PyData.int)) = true
    rw [Bool.and_eq_true]
    refine ⟨List.all_eq_true.mpr fun x hx => ?_, ?_⟩
    · obtain ⟨i, hi, rfl⟩ := List.mem_map.mp hx
      exact decide_eq_true (b i (pm.mem_iff.mp hi)).1
    · have z := (rises_iff (ys.map NestedKey.num)).mpr (rises_nums lt)
      rwa [nums_data] at z
  · obtain ⟨i, hi, rfl⟩ := List.mem_map.mp hx
    exact tiny_num (b i (pm.mem_iff.mp hi)).1 (b i (pm.mem_iff.mp hi)).2
section
variable {P : Program} {w : World} {K : PySem.W.Frag} {mg : Str → Option Value} {base : Heap}
theorem ok_make {f : Addr} {fd : FuncData} {k : Nat} (F : Fun K "_law_machine" "_law_machine" sMake f fd) (T : Def P w K mg base (k + 1) "_law_take" ["_law_pool_here", "_law_many"] spTake) (mr : mg "range" = none) (ml : mg "len" = none) (mt : mg "tuple" = none) (mso : mg "sorted" = none) :
    FnOk P w K mg base CX0 (k + 1 + 1) f fd ["_law_pool_here", "_law_controls"] (spMake K) := by
  refine F.ok scMake (fun vs H Q E h => ?_) (fun cdv A outer s H vs Q E hr h => ?_)
  · obtain ⟨p, c, cs, rfl, _⟩ := h
    rfl
  obtain ⟨p, c, cs, rfl, pl, mc, lc, q⟩ := h
  have nd := scMake.nd
  have hu := hu_of hr
  refine ⟨_, pss_cons (ps_set (i := 2) nd rfl (.inl rfl) (pe_op op_add pe_int (pe_call T.ok hr (by rfl) T.g T.kp T.b .nil pass0 (pa_cons (pv 0) (pa_cons pe_int pa_nil)))))
    (pss_cons (ps_set (i := 3) nd rfl (.inl rfl) (pe_lst (pa_cons (pe_tup (pa_cons pe_int (pa_cons pe_int pa_nil))) (pa_cons (pe_tup (pa_cons pe_int (pa_cons pe_int pa_nil))) (pa_cons (pe_tup (pa_cons pe_int (pa_cons pe_int pa_nil))) pa_nil)))))
    (pss_cons (ps_set (i := 4) nd rfl (.inl rfl) pe_dnewN)
    (pss_cons (ps_for PassesOwn.never rfl (pi_range1 (by rfl) mr (pa_cons (pe_call T.ok hr (by rfl) T.g T.kp T.b .nil pass0 (pa_cons (pv 0) (pa_cons pe_int pa_nil))) pa_nil)) (pg_name (i := 5) nd rfl (.inl rfl))
      (pss_one (ps_asg pe_bl (pg_sub (pv 4) (pe_tup (pa_cons (pe_call T.ok hr (by rfl) T.g T.kp T.b .nil pass0 (pa_cons (pv 0) (pa_cons (pv 2) pa_nil)))
        (pa_cons (pe_ix ix_list (pv 3) (pe_call T.ok hr (by rfl) T.g T.kp T.b .nil pass0 (pa_cons (pv 0) (pa_cons pe_int pa_nil))) (fun _ _ => rfl))
        (pa_cons (pe_call T.ok hr (by rfl) T.g T.kp T.b .nil pass0 (pa_cons (pv 0) (pa_cons (pv 2) pa_nil))) pa_nil)))) (set_dicN hr.units)))))
    (pss_cons (ps_set (i := 6) nd rfl (.inl rfl) pe_dnewN)
    (pss_cons (ps_for PassesOwn.never rfl (pi_range1 (by rfl) mr (pa_cons (pe_call T.ok hr (by rfl) T.g T.kp T.b .nil pass0 (pa_cons (pv 0) (pa_cons pe_int pa_nil))) pa_nil)) (pg_name (i := 5) nd rfl (.inl rfl))
      (pss_one (ps_asg pe_bl (pg_sub (pv 6) (pe_tup (pa_cons (pe_ix ix_list (pv 1) (pe_call T.ok hr (by rfl) T.g T.kp T.b .nil pass0 (pa_cons (pv 0) (pa_cons (pe_callB call_len_seq (by rfl) ml PySem.boot_len (pa_cons (pv 1) pa_nil)) pa_nil))) (fun _ _ => rfl))
        (pa_cons (pe_call T.ok hr (by rfl) T.g T.kp T.b .nil pass0 (pa_cons (pv 0) (pa_cons (pv 2) pa_nil))) pa_nil))) (set_dicN hr.units)))))
    (pss_cons (ps_set (i := 7) nd rfl (.inl rfl) pe_dnewK)
    (pss_cons (ps_for PassesOwn.never rfl (pi_range1 (by rfl) mr (pa_cons (pe_op op_add pe_int (pe_call T.ok hr (by rfl) T.g T.kp T.b .nil pass0 (pa_cons (pv 0) (pa_cons pe_int pa_nil)))) pa_nil)) (pg_name (i := 5) nd rfl (.inl rfl))
      (pss_one (ps_dput hu (pv 7) (pe_call T.ok hr (by rfl) T.g T.kp T.b .nil pass0 (pa_cons (pv 0) (pa_cons (pv 2) pa_nil))) pe_bl rfl)))
    (pss_one (ps_ret (pe_tup (pa_cons (pe_callTy call_tuple_of (by rfl) mt (by decide +kernel) (pa_cons (pe_callB (cr_sortN rfl hr.units) (by rfl) mso (by decide +kernel) (pa_cons (pv 6) pa_nil)) pa_nil))
      (pa_cons (pe_callTy call_tuple_of (by rfl) mt (by decide +kernel) (pa_cons (pe_callB (cr_sortN rfl hr.units) (by rfl) mso (by decide +kernel) (pa_cons (pv 4) pa_nil)) pa_nil))
      (pa_cons (pe_callTy call_tuple_of (by rfl) mt (by decide +kernel) (pa_cons (pe_callB (call_sortedDI rfl) (by rfl) mso (by decide +kernel) (pa_cons (pv 7) pa_nil)) pa_nil)) pa_nil))))))))))))), ?_⟩
  have sz2 : 2 ≤ sizeLine := by decide
  have sz3 : 3 ≤ sizeLine := by decide
  -- many = 1 + take(5)
  refine ⟨_, rfl, p, 5, rfl, pl, by decide, by decide, fun x1 y1 r1 hx1 hy1 hz1 h01 h11 => ?_⟩
  refine ⟨1, r1, rfl, rfl, ?_⟩
  have hm0 : 0 < 1 + r1 := by omega
  have hm1 : 1 + r1 ≤ 5 := by omega
  have hm2 : 1 + r1 < 1073741824 := by omega
  have pl1 : Pool (upd H p (.lst [.int x1, .int y1])) p := ⟨x1, y1, upd_same, hx1, hy1, hz1⟩
  have o1 : M0.off p (upd H p (.lst [.int x1, .int y1])) = M0.off p H := off_upd
  generalize upd H p (.lst [.int x1, .int y1]) = H1 at pl1 o1 ⊢
  -- points
  refine ⟨sz2, fun t1 n1 => ⟨sz2, fun t2 n2 => ⟨sz2, fun t3 n3 => ⟨sz3, fun lp n4 => ?_⟩⟩⟩⟩
  have s1 : Same H1 (upd H1 t1 (.tup [.int 0, .int 0])) := same_new n1
  have s2 := same_new (o := .tup [.int 0, .int 1]) n2
  have s3 := same_new (o := .tup [.int 1, .int 0]) n3
  have s4 := same_new (o := .lst [.ref t1, .ref t2, .ref t3]) n4
  have e1 : p ≠ t1 := (pool_ne pl1 n1).symm
  have pl2 := pool_new (o := .tup [.int 0, .int 0]) pl1 n1
  have e2 : p ≠ t2 := (pool_ne pl2 n2).symm
  have pl3 := pool_new (o := .tup [.int 0, .int 1]) pl2 n2
  have e3 : p ≠ t3 := (pool_ne pl3 n3).symm
  have pl4 := pool_new (o := .tup [.int 1, .int 0]) pl3 n3
  have e4 : p ≠ lp := (pool_ne pl4 n4).symm
  have pl5 := pool_new (o := .lst [.ref t1, .ref t2, .ref t3]) pl4 n4
  have sA : Same H1 _ := s1.trans (s2.trans (s3.trans s4))
  have mp : Menu K (M0.off p (upd (upd (upd (upd H1 t1 (.tup [.int 0, .int 0])) t2 (.tup [.int 0, .int 1])) t3 (.tup [.int 1, .int 0])) lp (.lst [.ref t1, .ref t2, .ref t3]))) lp [(t1, [0, 0]), (t2, [0, 1]), (t3, [1, 0])] ptOk := by
    refine ⟨SqL.of (by rw [off_ne e4.symm]; exact upd_same), fun x hx => ?_⟩
    rcases List.mem_cons.mp hx with rfl | hx
    · exact ⟨SqT.of (by rw [off_ne e1.symm]; exact s4 _ _ (s3 _ _ (s2 _ _ upd_same))), 0, 0, rfl, by decide⟩
    rcases List.mem_cons.mp hx with rfl | hx
    · exact ⟨SqT.of (by rw [off_ne e2.symm]; exact s4 _ _ (s3 _ _ upd_same)), 0, 1, rfl, by decide⟩
    rw [List.mem_singleton.mp hx]
    exact ⟨SqT.of (by rw [off_ne e3.symm]; exact s4 _ _ upd_same), 1, 0, rfl, by decide⟩
  generalize upd (upd (upd (upd H1 t1 (.tup [.int 0, .int 0])) t2 (.tup [.int 0, .int 1])) t3 (.tup [.int 1, .int 0])) lp (.lst [.ref t1, .ref t2, .ref t3]) = H2 at sA mp pl5 ⊢
  have sB : Same (M0.off p H) (M0.off p H2) := by rw [← o1]; exact off_mono sA
  clear n1 n2 n3 n4 s1 s2 s3 s4 e1 e2 e3 e4 pl2 pl3 pl4 sA
  -- edges = {}
  intro dE nE
  have I0 : InvD P w K (M0.off p H2) p dE ERow 0 (upd H2 dE (dicO P w dE [])) := InvD.start pl5 nE
  refine ⟨_, rfl, p, 10, rfl, I0.pl, by decide, by decide, fun x2 y2 r2 hx2 hy2 hz2 h02 h12 => ?_⟩
  have I1 := I0.take hx2 hy2 hz2
  refine ⟨r2, rfl, by omega, by omega, ?_⟩
  refine for_range (n := r2.toNat) (fun i σ H5 => ∃ y5, σ = [some (.ref p), some (.ref c), some (.int (1 + r1)), some (.ref lp), some (.ref dE), y5, none, none] ∧ InvD P w K (M0.off p H2) p dE ERow i H5)
    ⟨none, rfl, I1⟩ (fun i σ H5 hi hP => ?_) (fun σ H5 hP => ?_)
  · obtain ⟨y5, rfl, J⟩ := hP
    refine ⟨_, rfl, ?_⟩
    refine ⟨_, rfl, _, rfl, p, 1 + r1, rfl, J.pl, hm0, hm2, fun x3 y3 r3 hx3 hy3 hz3 h03 h13 => ?_⟩
    have J1 := J.take hx3 hy3 hz3
    generalize upd H5 p (.lst [.int x3, .int y3]) = H6 at J1 ⊢
    refine ⟨_, rfl, _, rfl, p, 3, rfl, J1.pl, by decide, by decide, fun x4 y4 r4 hx4 hy4 hz4 h04 h14 => ?_⟩
    have J2 := J1.take hx4 hy4 hz4
    generalize upd H6 p (.lst [.int x4, .int y4]) = H7 at J2 ⊢
    have mp7 := mp.same (J2.sm.trans off2_all)
    obtain ⟨pt, hpt, apt⟩ := mp7.at h04 (show r4 < ((3 : Nat) : Int) from h14)
    refine ⟨lp, _, r4, .ref pt.1, rfl, rfl, mp7.1, apt, ?_⟩
    refine ⟨_, rfl, _, rfl, p, 1 + r1, rfl, J2.pl, hm0, hm2, fun x6 y6 r6 hx6 hy6 hz6 h06 h16 => ?_⟩
    have J3 := J2.take hx6 hy6 hz6
    generalize upd H7 p (.lst [.int x6, .int y6]) = H8 at J3 ⊢
    refine ⟨sz3, fun t nt => ?_⟩
    have mp8 := mp.same J3.sm
    obtain ⟨a1, a2, ea, ba⟩ := (mp8.2 pt hpt).2
    have hpt8 : SqT K (off2 p dE H8) pt.1 ([a1, a2].map V.int) := by rw [← ea]; exact (mp8.2 pt hpt).1
    have sN : Same (off2 p dE H8) (off2 p dE (upd H8 t (.tup [.int r3, .ref pt.1, .int r6]))) := off2_mono (same_new nt)
    have J4 := J3.new (o := .tup [.int r3, .ref pt.1, .int r6]) nt
    have tp : t ≠ p := pool_ne J3.pl nt
    have td : t ≠ dE := fun e => by
      obtain ⟨L, h1, _⟩ := J3.has
      rw [e, h1] at nt
      cases nt
    have ht : Dp K (off2 p dE (upd H8 t (.tup [.int r3, .ref pt.1, .int r6]))) (.ref t) (kEdge r3 a1 a2 r6).data := by
      rw [kEdge_data]
      exact .tup (SqT.of (by rw [off2_ne tp td]; exact upd_same)) (.cons (.int _) (.cons (dp_nums (is := [a1, a2]) (same_tup sN hpt8)) (.cons (.int _) .nil)))
    refine J4.put (by omega) ht (kEdge_fig _ _ _ _) (kEdge_dep _ _ _ _) ⟨r3, a1, a2, r6, rfl, ?_⟩ (fun H9 J5 => ⟨_, rfl, J5⟩)
    intro z hz
    rcases List.mem_cons.mp hz with rfl | hz
    · omega
    rcases List.mem_cons.mp hz with rfl | hz
    · exact ba _ (by simp)
    rcases List.mem_cons.mp hz with rfl | hz
    · exact ba _ (by simp)
    rw [List.mem_singleton.mp hz]
    omega
  obtain ⟨y5, rfl, J⟩ := hP
  have sC : Same (M0.off p H) (M0.off p H5) := sB.trans (J.sm.trans off2_sub)
  obtain ⟨LE, hE, rE, kE, lE⟩ := J.has
  have plJ := J.pl
  have jE : (M0.off p H5) dE = some (dicO P w dE LE) := by rw [off_ne J.ne]; exact hE
  have rE5 : Rows K (M0.off p H5) LE := rows_same rE off2_sub
  have lE2 : LE.length ≤ 10 := by omega
  clear lE hE rE J sB mp I1 I0 nE
  -- begins = {}
  intro dB nB
  have I2 : InvD P w K (M0.off p H5) p dB BRow 0 (upd H5 dB (dicO P w dB [])) := InvD.start plJ nB
  refine ⟨_, rfl, p, 5, rfl, I2.pl, by decide, by decide, fun x7 y7 r7 hx7 hy7 hz7 h07 h17 => ?_⟩
  have I3 := I2.take hx7 hy7 hz7
  refine ⟨r7, rfl, by omega, by omega, ?_⟩
  refine for_range (n := r7.toNat) (fun i σ H6 => ∃ y5, σ = [some (.ref p), some (.ref c), some (.int (1 + r1)), some (.ref lp), some (.ref dE), y5, some (.ref dB), none] ∧ InvD P w K (M0.off p H5) p dB BRow i H6)
    ⟨y5, rfl, I3⟩ (fun i σ H6 hi hP => ?_) (fun σ H6 hP => ?_)
  · obtain ⟨y6, rfl, J⟩ := hP
    have mc6 := mc.same (sC.trans (J.sm.trans off2_all))
    have hl4 : ((cs.map fun x => V.ref x.1).length : Int) = 4 := by rw [List.length_map, lc]; rfl
    refine ⟨_, rfl, _, rfl, _, rfl, _, rfl, c, _, rfl, .inl mc6.1, p, _, rfl, J.pl, by omega, by omega, fun x8 y8 r8 hx8 hy8 hz8 h08 h18 => ?_⟩
    have J1 := J.take hx8 hy8 hz8
    generalize upd H6 p (.lst [.int x8, .int y8]) = H7 at J1 ⊢
    have mc7 := mc.same (sC.trans (J1.sm.trans off2_all))
    obtain ⟨ct, hct, act⟩ := mc7.at h08 (show r8 < (cs.length : Int) by rw [List.length_map] at h18; exact h18)
    refine ⟨c, _, r8, .ref ct.1, rfl, rfl, mc7.1, act, ?_⟩
    refine ⟨_, rfl, _, rfl, p, 1 + r1, rfl, J1.pl, hm0, hm2, fun x9 y9 r9 hx9 hy9 hz9 h09 h19 => ?_⟩
    have J3 := J1.take hx9 hy9 hz9
    generalize upd H7 p (.lst [.int x9, .int y9]) = H8 at J3 ⊢
    refine ⟨sz2, fun t nt => ?_⟩
    have mc8 := mc.same (sC.trans J3.sm)
    have hct8 := mc8.2 ct hct
    have sN : Same (off2 p dB H8) (off2 p dB (upd H8 t (.tup [.ref ct.1, .int r9]))) := off2_mono (same_new nt)
    have J4 := J3.new (o := .tup [.ref ct.1, .int r9]) nt
    have tp : t ≠ p := pool_ne J3.pl nt
    have td : t ≠ dB := fun e => by
      obtain ⟨L, h1, _⟩ := J3.has
      rw [e, h1] at nt
      cases nt
    have ht : Dp K (off2 p dB (upd H8 t (.tup [.ref ct.1, .int r9]))) (.ref t) (kCtl ct.2 r9).data := by
      rw [kCtl_data]
      exact .tup (SqT.of (by rw [off2_ne tp td]; exact upd_same)) (.cons (dp_nums (same_tup sN hct8.1)) (.cons (.int _) .nil))
    exact J4.put (by omega) ht (kCtl_fig _ _) (kCtl_dep _ _) ⟨ct.2, r9, rfl, hct8.2, h09, by omega⟩ (fun H9 J5 => ⟨_, rfl, J5⟩)
  obtain ⟨y6, rfl, J⟩ := hP
  have sD : Same (M0.off p H5) (M0.off p H6) := J.sm.trans off2_sub
  obtain ⟨LB, hB, rB, kB, lB⟩ := J.has
  have plK := J.pl
  have jB : (M0.off p H6) dB = some (dicO P w dB LB) := by rw [off_ne J.ne]; exact hB
  have rB6 : Rows K (M0.off p H6) LB := rows_same rB off2_sub
  have jE6 := sD _ _ jE
  have rE6 := rows_same rE5 sD
  have lB2 : LB.length ≤ 10 := by omega
  have sE := sC.trans sD
  clear lB hB rB J sC sD mc I2 I3 nB jE rE5
  -- ends = {}
  intro dN nN
  have eN : dN ≠ p := pool_ne plK nN
  have pl7 := pool_new (o := .dK []) plK nN
  refine ⟨_, rfl, p, 2, rfl, pl7, by decide, by decide, fun x7 y7 r8 hx8 hy8 hz8 h08 h18 => ⟨1, r8, rfl, rfl, ?_⟩⟩
  refine ⟨1 + r8, rfl, by omega, by omega, ?_⟩
  refine for_range (n := (1 + r8).toNat) (fun i σ H7 => ∃ y5, σ = [some (.ref p), some (.ref c), some (.int (1 + r1)), some (.ref lp), some (.ref dE), y5, some (.ref dB), some (.ref dN)] ∧ Same (M0.off p H6) (off2 p dN H7) ∧ Pool H7 p ∧ ∃ kvs, H7 dN = some (.dK kvs) ∧ EndD kvs i)
    ⟨y6, rfl, ?_, ⟨x7, y7, upd_same, hx8, hy8, hz8⟩, [], ?_, ⟨[], rfl, List.nodup_nil, fun _ z => (nomatch z), Nat.le_refl _⟩⟩ (fun i σ H7 hi hP => ?_) (fun σ H7 hP => ?_)
  · rw [off2_p]
    exact off2_start nN
  · rw [upd_ne eN]
    exact upd_same
  · obtain ⟨y8, rfl, sm, pl8, kvs, hk, ek⟩ := hP
    refine ⟨_, rfl, _, rfl, _, rfl, p, 1 + r1, rfl, pl8, hm0, hm2, fun x9 y9 r9 hx9 hy9 hz9 h09 h19 => ?_⟩
    have hk2 : (upd H7 p (.lst [.int x9, .int y9])) dN = some (.dK kvs) := by rw [upd_ne eN]; exact hk
    have few : kvs.length < sizeLine := by
      obtain ⟨ks, e, _, _, l⟩ := ek.ex
      have z := congrArg List.length e
      rw [List.length_map, List.length_map] at z
      exact small_line (by omega)
    refine ⟨dN, _, rfl, DPut.k (k := Sum.inl r9) hk2 few, ?_⟩
    refine ⟨_, rfl, ?_, ⟨x9, y9, by rw [upd_ne eN.symm]; exact upd_same, hx9, hy9, hz9⟩, _, upd_same, ek.put h09 (by omega)⟩
    rw [off2_d, off2_p]
    exact sm
  obtain ⟨y8, rfl, sm, pl8, kvs, hk, ek⟩ := hP
  obtain ⟨ks, eks, ndk, bk, lk⟩ := ek.ex
  have sF : Same (M0.off p H6) (M0.off p H7) := sm.trans off2_sub
  have sG : Same (M0.off p H) (M0.off p H7) := sE.trans sF
  have jB7 := sF _ _ jB
  have jE7 := sF _ _ jE6
  have rB7 := rows_same rB6 sF
  have rE7 := rows_same rE6 sF
  obtain ⟨fB1, fB2, fB3⟩ := ctl_rows kB
  obtain ⟨fE1, fE2, fE3⟩ := edge_rows kE
  -- tuple(sorted(begins))
  refine ⟨_, rfl, dB, LB, rfl, off_sub _ _ jB7, rows_same rB7 off_sub, by omega, (alike_ctl fB1).1, fB3, fun q1 MB' nq1 pmB rmB => ⟨q1, _, rfl, .inl ⟨SqL.of upd_same, fun tb ntb => ?_⟩⟩⟩
  have sH1 : Same H7 (upd (upd H7 q1 (.lst (MB'.map fun p => V.ref p.1))) tb (.tup (MB'.map fun p => V.ref p.1))) := (same_new nq1).trans (same_new ntb)
  have hb1 : (upd (upd H7 q1 (.lst (MB'.map fun p => V.ref p.1))) tb (.tup (MB'.map fun p => V.ref p.1))) tb = some (.tup (MB'.map fun p => V.ref p.1)) := upd_same
  generalize upd (upd H7 q1 (.lst (MB'.map fun p => V.ref p.1))) tb (.tup (MB'.map fun p => V.ref p.1)) = H8 at sH1 hb1 ⊢
  refine ⟨_, rfl, dE, LE, rfl, sH1 _ _ (off_sub _ _ jE7), rows_same rE7 (off_sub.trans sH1), by omega, (alike_edge fE1).1, fE3, fun q2 ME nq2 pmE rmE => ⟨q2, _, rfl, .inl ⟨SqL.of upd_same, fun te nte => ?_⟩⟩⟩
  have sH2 : Same H8 (upd (upd H8 q2 (.lst (ME.map fun p => V.ref p.1))) te (.tup (ME.map fun p => V.ref p.1))) := (same_new nq2).trans (same_new nte)
  have he1 : (upd (upd H8 q2 (.lst (ME.map fun p => V.ref p.1))) te (.tup (ME.map fun p => V.ref p.1))) te = some (.tup (ME.map fun p => V.ref p.1)) := upd_same
  generalize upd (upd H8 q2 (.lst (ME.map fun p => V.ref p.1))) te (.tup (ME.map fun p => V.ref p.1)) = H9 at sH2 he1 ⊢
  refine ⟨_, rfl, dN, kvs, ks, rfl, .inl (sH2 _ _ (sH1 _ _ hk)), eks, by omega, fun ys q3 pmN pwN nq3 => ⟨q3, _, rfl, .inl ⟨SqL.of upd_same, fun tn ntn => ?_⟩⟩⟩
  have sH3 : Same H9 (upd (upd H9 q3 (.lst (ys.map V.int))) tn (.tup (ys.map V.int))) := (same_new nq3).trans (same_new ntn)
  have hn1 : (upd (upd H9 q3 (.lst (ys.map V.int))) tn (.tup (ys.map V.int))) tn = some (.tup (ys.map V.int)) := upd_same
  generalize upd (upd H9 q3 (.lst (ys.map V.int))) tn (.tup (ys.map V.int)) = H10 at sH3 hn1 ⊢
  refine ⟨sz3, fun t nt => ?_⟩
  have sH4 : Same H10 (upd H10 t (.tup [.ref tb, .ref te, .ref tn])) := same_new nt
  have sAll : Same H7 (upd H10 t (.tup [.ref tb, .ref te, .ref tn])) := sH1.trans (sH2.trans (sH3.trans sH4))
  have ht1 : (upd H10 t (.tup [.ref tb, .ref te, .ref tn])) t = some (.tup [.ref tb, .ref te, .ref tn]) := upd_same
  have hb2 := sH4 _ _ (sH3 _ _ (sH2 _ _ hb1))
  have he2 := sH4 _ _ (sH3 _ _ he1)
  have hn2 := sH4 _ _ hn1
  have plE : Pool (upd H10 t (.tup [.ref tb, .ref te, .ref tn])) p := by
    obtain ⟨x, y, h1, h2⟩ := pl8
    exact ⟨x, y, sAll _ _ h1, h2⟩
  generalize upd H10 t (.tup [.ref tb, .ref te, .ref tn]) = H11 at sAll ht1 hb2 he2 hn2 plE ⊢
  have isTup : ∀ {a : Addr} {xs : List V}, H11 a = some (.tup xs) → (M0.off p H11) a = some (.tup xs) := fun {a xs} h => by
    have z : a ≠ p := fun e => by
      obtain ⟨x, y, h1, _⟩ := plE
      rw [e, h1] at h
      cases h
    rw [off_ne z]
    exact h
  have sO : Same (M0.off p H7) (M0.off p H11) := off_mono sAll
  have hMB : ∀ r ∈ MB', r ∈ LB := fun r hr => pmB.mem_iff.mp hr
  have hME : ∀ r ∈ ME, r ∈ LE := fun r hr => pmE.mem_iff.mp hr
  obtain ⟨gB1, gB2, _⟩ := ctl_rows (L := MB') fun r hr => kB r (hMB r hr)
  obtain ⟨gE1, gE2, _⟩ := edge_rows (L := ME) fun r hr => kE r (hME r hr)
  obtain ⟨gN1, gN2⟩ := ends_rise ndk bk pmN pwN
  refine q H11 (.ref t) (.tuple [.tuple (MB'.map fun r => r.2.data), .tuple (ME.map fun r => r.2.data), .tuple (ys.map PyData.int)]) (sG.trans sO) plE ?_ ⟨?_, _, _, _, rfl, gB2, gE2, gN2, ?_, ?_, ?_⟩
  · exact .tup (SqT.of (isTup ht1)) (.cons (.tup (SqT.of (isTup hb2)) (rows_dp (rows_sub (rows_same rB7 sO) hMB))) (.cons (.tup (SqT.of (isTup he2)) (rows_dp (rows_sub (rows_same rE7 sO) hME))) (.cons (.tup (SqT.of (isTup hn2)) (dp_ints ys)) .nil)))
  · show (((MB'.map fun r => r.2.data).all mCtl && rising (MB'.map fun r => r.2.data)) && (((ME.map fun r => r.2.data).all mEdge && rising (ME.map fun r => r.2.data)) && mRise mNought (.tuple (ys.map PyData.int)))) = true
    rw [gB1, gE1, gN1, rows_rise rmB, rows_rise rmE]
    rfl
  · rw [List.length_map, pmB.length_eq]; omega
  · rw [List.length_map, pmE.length_eq]; omega
  · rw [List.length_map, pmN.length_eq]; omega
end
end K12

set_option maxHeartbeats 4000000
namespace RT
open PySem PySem.Spec PyProof.Rows L2 HT
theorem fm_congr {α β : Type} {f g : α → Option β} : ∀ l : List α, (∀ x ∈ l, f x = g x) → l.filterMap f = l.filterMap g
  | [], _ => rfl
  | x :: l, h => by
    rw [List.filterMap_cons, List.filterMap_cons, h x List.mem_cons_self, fm_congr l fun y hy => h y (List.mem_cons_of_mem _ hy)]
section
variable {prog : Program} {w : World} {A : Around} {E : Value → Shared → Prop} {s : Shared}
theorem places_back (n : Nat) : Builtin.Slice.slicePlaces ((n : Int) - 1) (-1) (-1) = n := by
  unfold Builtin.Slice.slicePlaces
  have h1 : ¬ ((-1 : Int) > 0) := by decide
  simp only [h1, if_false]
  by_cases h : (n : Int) - 1 > -1
  · simp only [h, if_true]
    rw [show (-(-1) : Int) = 1 by decide, Int.ediv_one]
    omega
  · simp only [h, if_false]
    omega
theorem applied_back {sl : Addr} {u : Tok} {n : Nat} {Q : Int × Int × Nat → Shared → Prop} (hs : s.heap.IsSliceOf sl .none .none (.int (-1) u)) (h : Q ((n : Int) - 1, -1, n) s) : wpAny (model prog w) A (Builtin.Slice.sliceApplied (.ref sl) (pure (n : Int))) Q E s := by
  obtain ⟨os, hos, hcs, hds⟩ := id hs
  unfold Builtin.Slice.sliceApplied Builtin.Slice.sliceFields
  refine wpAny_bind (wpAny_bind (wpAny_field hos hds (x := .none) rfl (wpAny_bind (wpAny_field hos hds (x := .none) rfl (wpAny_bind (wpAny_field hos hds (x := .int (-1) u) rfl (wpAny_pure ?_)))))))
  refine wpAny_bind (slicePart_int ?_)
  show wpAny _ _ (if ((-1 : Int) == 0) = true then _ else _) _ _ s
  rw [if_neg (by decide)]
  refine wpAny_bind (slicePart_none (wpAny_bind (slicePart_none (wpAny_bind (wpAny_pure ?_)))))
  show wpAny _ _ (pure ((n : Int) - 1, (-1 : Int), Builtin.Slice.slicePlaces ((n : Int) - 1) (-1) (-1))) _ _ s
  rw [places_back]
  exact wpAny_pure h
theorem pick_back (xs : Array Value) : ((List.range xs.size).filterMap fun (m : Nat) => xs[((xs.size : Int) - 1 + (m : Int) * (-1)).toNat]?).toArray = xs.toList.reverse.toArray := by
  congr 1
  have z := PySem.W.krv_all xs
  have e : (List.range xs.size).filterMap (fun (m : Nat) => xs[((xs.size : Int) - 1 + (m : Int) * (-1)).toNat]?) = ((List.range xs.size).map (fun k => xs.size - 1 - k)).filterMap (xs[·]?) := by
    rw [List.filterMap_map]
    refine fm_congr _ fun m hm => ?_
    have hm2 := List.mem_range.mp hm
    have : ((xs.size : Int) - 1 + (m : Int) * (-1)).toNat = xs.size - 1 - m := by omega
    rw [this]
    rfl
  rw [e, PySem.W.krv_range, List.filterMap_reverse, z]
theorem item_back {t sl : Addr} {u : Tok} {items : Array Value} {Q : Value → Shared → Prop} (ht : IsTup s.heap t items) (hs : s.heap.IsSliceOf sl .none .none (.int (-1) u)) (hsz : items.size ≤ sizeLine)
    (h : Q (.ref s.heap.objs.size) { s with heap := s.heap.push { cls := .type "tuple", data := .seq items.toList.reverse.toArray } }) : wpAny (model prog w) A (getItem (.ref t) (.ref sl)) Q E s := by
  have fits : sizeOk (.seq items.toList.reverse.toArray) := by
    show items.toList.reverse.toArray.size ≤ sizeLine
    rw [List.size_toArray, List.length_reverse, Array.length_toList]
    exact hsz
  obtain ⟨os, hos, hcs, hds⟩ := id hs
  have hTs : s.TypeIs (.ref sl) "slice" := ⟨os, hos, hcs⟩
  unfold getItem
  try with_reducible refine wpAny_holding ?_
  first | refine wpAny_bind (wpAny_pure ?_) | skip
  refine wpAny_bind (wpAny_sequenceKey ht.typeIs (by decide) ?_)
  refine wpAny_bind (wpAny_callSpecial?_slot (name := Str.ofString "__getitem__") ht.typeIs PyProof.Rows.slot_tuple_getitem (wpAny_call_entry PyProof.Rows.slot_tuple_getitem ht.typeIs entry_tuple_getitem ?_ (args_tuple_getitem _ _)))
  show wpAny _ _ (Builtin.Tuple.tupleItemsOf (.ref t) >>= _) _ _ s
  refine wpAny_bind (tupleItemsOf_ ht ?_)
  refine wpAny_bind (wpAny_typeOf hTs ?_)
  rw [if_pos (by decide)]
  refine wpAny_bind (applied_back hs ?_)
  have no : ¬ ((((items.size : Int) - 1) == 0 && (-1 : Int) == 1 && items.size == items.size) = true) := by
    intro q
    rw [Bool.and_eq_true, Bool.and_eq_true] at q
    exact absurd q.1.2 (by decide)
  show wpAny _ _ (if (((items.size : Int) - 1) == 0 && (-1 : Int) == 1 && items.size == items.size) = true then _ else _) _ _ s
  rw [if_neg no, pick_back]
  first
    | exact wpAny_bind (m := Builtin.Tuple.tupleExact _) (wpAny_newObj_type (wpAny_pure ⟨_, rfl, wpAny_pure h⟩) fits)
    | exact wpAny_bind (m := Builtin.Tuple.tupleExact _) (wpAny_newObj_type (wpAny_bind (wpAny_pure (wpAny_pure ⟨_, rfl, wpAny_pure h⟩))) fits)
    | exact wpAny_bind (wpAny_bind (m := Builtin.Tuple.tupleExact _) (wpAny_newObj_type (wpAny_pure (wpAny_pure ⟨_, rfl, wpAny_pure h⟩)) fits))
    | exact wpAny_bind (wpAny_bind (m := Builtin.Tuple.tupleExact _) (wpAny_newObj_type (wpAny_pure ⟨_, rfl, wpAny_pure h⟩) fits))
end
section
variable {X : Cx}
/-- t[::-1], t a tuple -/
def tRevT (K : PySem.W.Frag) (te : TE) : TE := fun σ H Q => te σ H fun x H1 => ∃ a xs, x = .ref a ∧ SqT K H1 a xs ∧ ∀ p, H1 p = none → Q (.ref p) (upd H1 p (.tup xs.reverse))
theorem pe_revT {e : Expr} {te : TE} {k : Nat} {p1 p2 p3 pos : Pos} (he : PE X e te) : PE X (.Subscript e (.Slice none none (some (.UnaryOp .USub (.Constant (.int 1) k p1) p2)) p3) pos) (tRevT X.K te) := by
  refine ⟨fun pins s σ H Q I h => ?_⟩
  refine Subscript_ (thn (he.run pins s σ H _ I h) fun v s1 ⟨x, H1, I1, r1, q1⟩ => ?_)
  obtain ⟨a, xs, ex, hx, q⟩ := q1
  subst ex
  cases r1
  have st : PO X (some (.UnaryOp .USub (.Constant (.int 1) k p1) p2)) (tPart (tUn (rU fun i => .int (-i)) (tC (.int 1)))) := po_some (pe_un un_neg pe_int)
  refine wpAny_Slice (thn (po_none.run pins s1 σ H1 (fun o H2 => o = none ∧ H2 = H1) I1 ⟨rfl, rfl⟩) fun vl s2 ⟨l, H2, I2, pl, el, e2⟩ => ?_)
  subst el e2
  cases pl
  refine thn (po_none.run pins s2 σ H2 (fun o H3 => o = none ∧ H3 = H2) I2 ⟨rfl, rfl⟩) fun vu s3 ⟨u, H3, I3, pu, eu, e3⟩ => ?_
  subst eu e3
  cases pu
  refine thn (st.run pins s3 σ H3 (fun o H4 => o = some (-1) ∧ H4 = H3) I3 ⟨1, rfl, -1, rfl, rfl, rfl⟩) fun vs s4 ⟨o, H4, I4, ps, eo, e4⟩ => ?_
  subst eo e4
  cases ps with
  | int i tk =>
  have I5 : Inv X pins σ H4 { s4 with heap := s4.heap.push { cls := .type "slice", data := .fields #[.none, .none, .int (-1) tk] } } := I4.kept (t' := s4.toks) fun b ob q => Heap.get?_push_of_some _ q
  obtain ⟨its, r, ht, hz⟩ := I5.tuple hx
  have hlen := r.length
  show wpAny (model X.prog X.w) X.A (subscriptTail e (.Slice none none (some (.UnaryOp .USub (.Constant (.int 1) k p1) p2)) p3) (.ref a) (.ref s4.heap.objs.size)) (EP X pins σ Q) X.xe { s4 with heap := s4.heap.push { cls := .type "slice", data := .fields #[.none, .none, .int (-1) tk] } }
  refine tail_any (ops := [.ref a, .ref s4.heap.objs.size]) ht.typeIs (PyProof.Rows.slot_tuple_getitem.lookup) ?_ (by with_unfolding_all rfl)
  refine item_back ht (Heap.IsSliceOf.new _ .none .none (.int (-1) tk)) (by rw [List.size_toArray]; omega) ?_
  refine ⟨.ref _, _, I5.laid (t' := s4.toks) (o := .tup xs.reverse) (fun b ob q => Heap.get?_push_of_some _ q) (Nat.le_refl _) ?_, rfl, q _ (I5.hok.fresh (Nat.le_refl _))⟩
  exact ⟨by rw [List.length_reverse]; exact hz, its.reverse, r.reverse, ⟨_, Heap.get?_push_size _ rfl, rfl, _, rfl⟩⟩
end
end RT

set_option maxHeartbeats 8000000
namespace K12
open PySem PySem.Spec PyProof.Rows L2 G3 G4 M0 N1 S1 S2
abbrev nBent : List Str := ["_law_pool_here", "_law_machine_here", "_law_at", "_law_part", "_law_odd", "_law_one", "_law_way"]
theorem scBent : FnScope nBent ["_law_pool_here", "_law_machine_here"] (defScope sBent) := ⟨rfl, rfl, rfl, by decide +kernel, rfl, by decide +kernel, by decide +kernel⟩
/-! the pool and one list that is changed -/
structure InvB (B : Hp) (p l : Addr) (us : List V) (H : Hp) : Prop where
  sm : Same B (off2 p l H)
  pl : Pool H p
  ne : l ≠ p
  hl : H l = some (.lst us)
section
variable {K : PySem.W.Frag} {B H : Hp} {p l t a b : Addr} {us xs ys : List V} {o : HO} {ds : List PyData}
theorem InvB.start (pl : Pool H p) (nl : H l = none) : InvB (M0.off p H) p l us (upd H l (.lst us)) := by
  obtain ⟨x, y, q1, q2⟩ := pl
  have ne : l ≠ p := fun e => by rw [e, q1] at nl; cases nl
  exact ⟨off2_start nl, ⟨x, y, by rw [upd_ne ne.symm]; exact q1, q2⟩, ne, upd_same⟩
theorem InvB.take (I : InvB B p l us H) {x y : Int} (hx : 0 ≤ x) (hy : 0 ≤ y) (hz : y < 2147483647) : InvB B p l us (upd H p (.lst [.int x, .int y])) :=
  ⟨by rw [off2_p]; exact I.sm, ⟨x, y, upd_same, hx, hy, hz⟩, I.ne, by rw [upd_ne I.ne]; exact I.hl⟩
theorem InvB.new (I : InvB B p l us H) (nt : H t = none) : InvB B p l us (upd H t o) := by
  obtain ⟨x, y, q1, q2⟩ := I.pl
  have s : Same H (upd H t o) := same_new nt
  exact ⟨I.sm.trans (off2_mono s), ⟨x, y, s _ _ q1, q2⟩, I.ne, s _ _ I.hl⟩
theorem InvB.put (I : InvB B p l us H) : InvB B p l xs (upd H l (.lst xs)) := by
  obtain ⟨x, y, q1, q2⟩ := I.pl
  exact ⟨by rw [off2_d]; exact I.sm, ⟨x, y, by rw [upd_ne I.ne.symm]; exact q1, q2⟩, I.ne, upd_same⟩
theorem InvB.base (I : InvB B p l us H) : InvB (off2 p l H) p l us H := ⟨Same.refl _, I.pl, I.ne, I.hl⟩
theorem InvB.fresh (I : InvB B p l us H) (nt : H t = none) : t ≠ p ∧ t ≠ l := by
  refine ⟨fun e => ?_, fun e => ?_⟩
  · obtain ⟨x, y, q1, _⟩ := I.pl
    rw [e, q1] at nt
    cases nt
  · rw [e, I.hl] at nt
    cases nt
theorem InvB.at (I : InvB B p l us H) (nt : H t = none) : (off2 p l (upd H t o)) t = some o := by
  obtain ⟨h1, h2⟩ := I.fresh nt
  rw [off2_ne h1 h2]
  exact upd_same
theorem InvB.tupD (I : InvB B p l us H) (nt : H t = none) (h : DpAll K (off2 p l H) xs ds) : Dp K (off2 p l (upd H t (.tup xs))) (.ref t) (.tuple ds) :=
  .tup (SqT.of (I.at nt)) (dpAll_same (off2_mono (same_new nt)) _ _ h)
theorem InvB.lstD (I : InvB B p l us H) (nt : H t = none) (h : DpAll K (off2 p l H) xs ds) : Dp K (off2 p l (upd H t (.lst xs))) (.ref t) (.list ds) :=
  .lst (SqL.of (I.at nt)) (dpAll_same (off2_mono (same_new nt)) _ _ h)
theorem mono2 (nt : H t = none) : Same (off2 p l H) (off2 p l (upd H t o)) := off2_mono (same_new nt)
/-- a + b -/
theorem InvB.cat (I : InvB B p l us H) (ha : SqT K (off2 p l H) a xs) (hb : SqT K (off2 p l H) b ys) (len : xs.length + ys.length ≤ 100000) {Q : VK}
    (q : ∀ H' r, InvB B p l us H' → Same (off2 p l H) (off2 p l H') → SqT K (off2 p l H') r (xs ++ ys) → Q (.ref r) H') : rCatA K (.ref a) (.ref b) H Q := by
  refine ⟨a, b, xs, ys, rfl, rfl, same_tup off2_all ha, same_tup off2_all hb, Nat.le_of_lt (small_line len), fun e => ?_, fun _ e => ?_, fun _ _ t nt => ?_⟩
  · refine q H b I (Same.refl _) ?_
    rw [e]
    exact hb
  · refine q H a I (Same.refl _) ?_
    rw [e, List.append_nil]
    exact ha
  · exact q _ t (I.new nt) (mono2 nt) (SqT.of (I.at nt))
theorem cut_whole {lo hi : Option Int} (h : HT.sIx xs.length 0 lo = 0 ∧ HT.sIx xs.length xs.length hi = xs.length) : cutV xs lo hi = xs := by
  unfold cutV
  rw [h.1, h.2, List.drop_zero, Nat.sub_zero, List.take_length]
/-- a[lo:hi] -/
theorem InvB.cut (I : InvB B p l us H) (ha : SqT K (off2 p l H) a xs) {lo hi : Option Int} {Q : VK}
    (q : ∀ H' r, InvB B p l us H' → Same (off2 p l H) (off2 p l H') → SqT K (off2 p l H') r (cutV xs lo hi) → Q (.ref r) H') : rSlA K (.ref a) lo hi H Q := by
  refine ⟨a, xs, rfl, same_tup off2_all ha, fun e => ?_, fun _ t nt => ?_⟩
  · refine q H a I (Same.refl _) ?_
    rw [cut_whole e]
    exact ha
  · exact q _ t (I.new nt) (mono2 nt) (SqT.of (I.at nt))
end
theorem cut_take {xs : List V} (j : Nat) : cutV xs none (some (j : Int)) = xs.take j := by
  unfold cutV
  rw [HT.sIx_none, HT.sIx_nat, List.drop_zero, Nat.sub_zero, List.take_eq_take_iff]
  omega
theorem cut_drop {xs : List V} (j : Nat) : cutV xs (some (j : Int)) none = xs.drop j := by
  unfold cutV
  rw [HT.sIx_none, HT.sIx_nat]
  by_cases h : j ≤ xs.length
  · rw [Nat.min_eq_left h, List.take_of_length_le (by rw [List.length_drop]; omega)]
  · have e : min j xs.length = xs.length := by omega
    rw [e, List.drop_length, List.take_nil, List.drop_eq_nil_of_le (by omega)]
/-! what may be a part -/
structure Comp (d : PyData) : Prop where
  nc : nice d = true
  dep : d.depth ≤ 6
  blk : d.bulk ≤ 20000
  few : ∀ es, d = .tuple es → es.length < 60
theorem comp_tuple {es : List PyData} (h : ∀ x ∈ es, Tiny x) (len : es.length < 60) : Comp (.tuple es) := by
  refine ⟨nice_tuple fun x hx => (h x hx).nc, Nat.le_trans (depth_tuple (k := 4) fun x hx => (h x hx).dep) (by decide), ?_, ?_⟩
  · exact Nat.le_trans (bulk_tuple (m := 200) (n := 60) (fun x hx => (h x hx).blk) (by omega)) (by decide)
  · rintro es' e
    cases e
    exact len
theorem comp_list {es : List PyData} (h : ∀ x ∈ es, Tiny x) (len : es.length < 60) : Comp (.list es) := by
  refine ⟨nice_list fun x hx => (h x hx).nc, Nat.le_trans (depth_list (k := 4) fun x hx => (h x hx).dep) (by decide), ?_, ?_⟩
  · exact Nat.le_trans (bulk_list (m := 200) (n := 60) (fun x hx => (h x hx).blk) (by omega)) (by decide)
  · rintro es' e
    cases e
theorem fit_of_comps {xs : List PyData} (h : ∀ x ∈ xs, Comp x) (len : xs.length ≤ 4) : Fit (.tuple xs) ∧ slim (.tuple xs) := by
  refine ⟨⟨nice_tuple fun x hx => (h x hx).nc, Nat.le_trans (depth_tuple (k := 6) fun x hx => (h x hx).dep) (by decide), ?_⟩, ?_⟩
  · exact Nat.le_trans (bulk_tuple (m := 20000) (n := 4) (fun x hx => (h x hx).blk) len) (by decide)
  · rintro ds e x hx
    cases e
    exact (h x hx).few
theorem fit_of_list {xs : List PyData} (h : ∀ x ∈ xs, Comp x) (len : xs.length ≤ 4) : Fit (.list xs) ∧ slim (.list xs) := by
  refine ⟨⟨nice_list fun x hx => (h x hx).nc, Nat.le_trans (depth_list (k := 6) fun x hx => (h x hx).dep) (by decide), ?_⟩, ?_⟩
  · exact Nat.le_trans (bulk_list (m := 20000) (n := 4) (fun x hx => (h x hx).blk) len) (by decide)
  · rintro ds e
    cases e
/-! odd things -/
def oddD : List PyData := [.none, .int 5, .int (-1), .bool true, .str "a", .tuple [], .list [], .tuple [.tuple [.int 1], .int 0], .tuple [.tuple [.int (-1), .int 2], .int 0], .tuple [.tuple [.int 1], .int (-1)], .tuple [.tuple [.bool true], .int 0], .tuple [.int 0, .tuple [.int 0, .int 0], .int 1],
  .tuple [.int 0, .tuple [.int 0, .int (-1)], .int 1], .tuple [.int 0, .tuple [.int 0], .int 1], .tuple [.int 0, .list [.int 0, .int 0], .int 1], .tuple [.int 0, .tuple [.int 0, .int 0]], .tuple [.bool true, .tuple [.int 0, .int 0], .int 1], .tuple [.list [.int 1], .int 0], .tuple [.tuple [], .int 3]]
def tlen : PyData → Nat
  | .tuple es => es.length
  | _ => 0
def oddOk (d : PyData) : Bool := nice d && (decide (d.depth ≤ 4) && (decide (d.bulk ≤ 200) && (decide (tlen d < 60) && (match d with | .tuple ds => ds.all fun x => decide (tlen x < 60) | _ => true))))
theorem odd_all : oddD.all oddOk = true := by decide +kernel
structure Odd (d : PyData) : Prop where
  tiny : Tiny d
  comp : Comp d
  fit : Fit d
  slm : slim d
theorem odd_of {d : PyData} (h : d ∈ oddD) : Odd d := by
  have z := List.all_eq_true.mp odd_all d h
  unfold oddOk at z
  simp only [Bool.and_eq_true, decide_eq_true_eq] at z
  obtain ⟨z1, z2, z3, z4, z5⟩ := z
  refine ⟨⟨z1, z2, z3⟩, ⟨z1, by omega, by omega, ?_⟩, ⟨z1, by omega, by omega⟩, ?_⟩
  · rintro es rfl
    exact z4
  · rintro ds rfl x hx es rfl
    have y := List.all_eq_true.mp z5 _ hx
    exact of_decide_eq_true y
def spBent (K : PySem.W.Frag) : Sp := fun vs H Q _ => ∃ (p m : Addr) (d : PyData), vs = [.ref p, .ref m] ∧ Pool H p ∧ Dp K (M0.off p H) (.ref m) d ∧ MachD d ∧
  ∀ H' v e, Same (M0.off p H) (M0.off p H') → Pool H' p → Dp K (M0.off p H') v e → Fit e → slim e → Q v H'
theorem eqv_nil (es : List PyData) : PyData.eqv (.list es) (.list []) = es.isEmpty := by
  cases es <;> simp [PyData.eqv, PyData.eqvAll]
theorem tiny_nil_shaped {es : List PyData} (h : ∀ x ∈ es, Tiny x) : SeqAt.shaped (.list es) = true :=
  nice_shaped (nice_list fun x hx => (h x hx).nc) (Nat.le_trans (depth_list (k := 4) fun x hx => (h x hx).dep) (by decide))
theorem ixN_at {n : Nat} {r : Int} (h0 : 0 ≤ r) (h1 : r < n) : ixN n r = some r.toNat := by
  unfold ixN
  rw [if_pos h0, if_pos h1]
theorem set_tiny {es : List PyData} {d : PyData} {j : Nat} (h : ∀ x ∈ es, Tiny x) (hd : Tiny d) : ∀ x ∈ es.set j d, Tiny x := fun x hx => by
  rcases List.mem_or_eq_of_mem_set hx with z | z
  · exact h x z
  · rw [z]; exact hd
end K12

set_option maxHeartbeats 16000000
namespace K12
open PySem PySem.Spec PyProof.Rows L2 G3 G4 M0 N1 S1 S2
/-- three parts, small -/
def Parts (ds : List PyData) : Prop := ds.length = 3 ∧ (∀ j, j < 3 → ∃ es, ds[j]? = some (.tuple es) ∧ (∀ x ∈ es, Tiny x) ∧ es.length ≤ 20) ∧ ∀ x ∈ ds, Comp x
theorem parts_of {d : PyData} (h : MachD d) : ∃ ds, d = .tuple ds ∧ Parts ds := by
  obtain ⟨bs, es, ns, rfl, h1, h2, h3, l1, l2, l3⟩ := h.parts
  refine ⟨_, rfl, rfl, fun j hj => ?_, fun x hx => ?_⟩
  · have z : j = 0 ∨ j = 1 ∨ j = 2 := by omega
    rcases z with rfl | rfl | rfl
    · exact ⟨bs, rfl, h1, l1⟩
    · exact ⟨es, rfl, h2, l2⟩
    · exact ⟨ns, rfl, h3, l3⟩
  · rcases List.mem_cons.mp hx with rfl | hx
    · exact comp_tuple h1 (by omega)
    rcases List.mem_cons.mp hx with rfl | hx
    · exact comp_tuple h2 (by omega)
    rw [List.mem_singleton.mp hx]
    exact comp_tuple h3 (by omega)
theorem part_at {K : PySem.W.Frag} {H : Hp} {vs : List V} {ds : List PyData} {j : Nat} (hv : DpAll K H vs ds) (hP : Parts ds) (hj : j < 3) :
    ∃ (vj : V) (ej : List PyData), (vs[j]? = some vj ∧ ∃ (a : Addr) (us : List V), vj = .ref a ∧ SqT K H a us ∧ DpAll K H us ej) ∧ ds[j]? = some (.tuple ej) ∧ (∀ x ∈ ej, Tiny x) ∧ ej.length ≤ 20 := by
  obtain ⟨es, e1, e2, e3⟩ := hP.2.1 j hj
  obtain ⟨v, h1, h2⟩ := dpAll_getD hv e1
  cases h2 with
  | tup hs ha => exact ⟨_, es, ⟨h1, _, _, rfl, hs, ha⟩, e1, e2, e3⟩
theorem comps_of {ds : List PyData} {d : PyData} {j : Nat} (h : ∀ x ∈ ds, Comp x) (hd : Comp d) : ∀ x ∈ ds.take j ++ [d] ++ ds.drop (j + 1), Comp x := fun x hx => by
  rcases List.mem_append.mp hx with z | z
  · rcases List.mem_append.mp z with y | y
    · exact h x (List.mem_of_mem_take y)
    · rw [List.mem_singleton.mp y]; exact hd
  · exact h x (List.mem_of_mem_drop z)
/-- the last one, as a list -/
def cutD (es : List PyData) : List PyData := (es.drop (HT.sIx es.length 0 (some (-1)))).take (HT.sIx es.length es.length none - HT.sIx es.length 0 (some (-1)))
theorem cutD_mem {es : List PyData} {x : PyData} (h : x ∈ cutD es) : x ∈ es := List.mem_of_mem_drop (List.mem_of_mem_take h)
theorem cutD_len (es : List PyData) : (cutD es).length ≤ es.length := by
  unfold cutD
  rw [List.length_take, List.length_drop]
  omega
theorem cut_dp {K : PySem.W.Frag} {H : Hp} {us : List V} {es : List PyData} (h : DpAll K H us es) : DpAll K H (cutV us (some (-1)) none) (cutD es) := by
  have e := dpAll_len h
  unfold cutV cutD
  rw [e]
  exact dpAll_take _ (dpAll_drop _ h)
section
variable {P : Program} {w : World} {K : PySem.W.Frag} {mg : Str → Option Value} {base : Heap}
theorem ok_bent {f : Addr} {fd : FuncData} {k : Nat} (F : Fun K "_law_bent" "_law_bent" sBent f fd) (T : Def P w K mg base (k + 1) "_law_take" ["_law_pool_here", "_law_many"] spTake) (ml : mg "len" = none) (mli : mg "list" = none) (mt : mg "tuple" = none) :
    FnOk P w K mg base CX0 (k + 1 + 1) f fd ["_law_pool_here", "_law_machine_here"] (spBent K) := by
  refine F.ok scBent (fun vs H Q E h => ?_) (fun cdv A outer s H vs Q E hr h => ?_)
  · obtain ⟨p, m, d, rfl, _⟩ := h
    rfl
  obtain ⟨p, m, d, rfl, pl, hd, hM, q⟩ := h
  obtain ⟨ds, rfl, hP⟩ := parts_of hM
  obtain ⟨vs, hm, hv⟩ : ∃ vs, SqT K (M0.off p H) m vs ∧ DpAll K (M0.off p H) vs ds := by
    cases hd with
    | tup hs ha => exact ⟨_, hs, ha⟩
  have nd := scBent.nd
  refine ⟨_, (pss_cons (ps_set (i := 2) nd rfl (.inl rfl) (pe_call T.ok hr (by rfl) T.g T.kp T.b .nil pass0 (pa_cons (pv 0) (pa_cons pe_int pa_nil))))
      (pss_cons (ps_set (i := 3) nd rfl (.inl rfl) (pe_callTy call_list_of (by rfl) mli (by decide +kernel) (pa_cons (pe_ix ix_tup (pv 1) (pv 2) (fun _ _ => rfl)) pa_nil)))
      (pss_cons (ps_set (i := 4) nd rfl (.inl rfl) (pe_lst (pa_cons pe_non (pa_cons pe_int (pa_cons (pe_un un_neg pe_int) (pa_cons pe_bl (pa_cons pe_str (pa_cons (pe_tup pa_nil) (pa_cons (pe_lst pa_nil) (pa_cons (pe_tup (pa_cons (pe_tup (pa_cons pe_int pa_nil)) (pa_cons pe_int pa_nil))) (pa_cons (pe_tup (pa_cons (pe_tup (pa_cons (pe_un un_neg pe_int) (pa_cons pe_int pa_nil))) (pa_cons pe_int pa_nil))) (pa_cons (pe_tup (pa_cons (pe_tup (pa_cons pe_int pa_nil)) (pa_cons (pe_un un_neg pe_int) pa_nil))) (pa_cons (pe_tup (pa_cons (pe_tup (pa_cons pe_bl pa_nil)) (pa_cons pe_int pa_nil))) (pa_cons (pe_tup (pa_cons pe_int (pa_cons (pe_tup (pa_cons pe_int (pa_cons pe_int pa_nil))) (pa_cons pe_int pa_nil)))) pa_nil))))))))))))))
      (pss_cons (ps_set (i := 4) nd rfl (.inl rfl) (pe_op op_cat (pv 4) (pe_lst (pa_cons (pe_tup (pa_cons pe_int (pa_cons (pe_tup (pa_cons pe_int (pa_cons (pe_un un_neg pe_int) pa_nil))) (pa_cons pe_int pa_nil)))) (pa_cons (pe_tup (pa_cons pe_int (pa_cons (pe_tup (pa_cons pe_int pa_nil)) (pa_cons pe_int pa_nil)))) (pa_cons (pe_tup (pa_cons pe_int (pa_cons (pe_lst (pa_cons pe_int (pa_cons pe_int pa_nil))) (pa_cons pe_int pa_nil)))) (pa_cons (pe_tup (pa_cons pe_int (pa_cons (pe_tup (pa_cons pe_int (pa_cons pe_int pa_nil))) pa_nil))) (pa_cons (pe_tup (pa_cons pe_bl (pa_cons (pe_tup (pa_cons pe_int (pa_cons pe_int pa_nil))) (pa_cons pe_int pa_nil)))) (pa_cons (pe_tup (pa_cons (pe_lst (pa_cons pe_int pa_nil)) (pa_cons pe_int pa_nil))) (pa_cons (pe_tup (pa_cons (pe_tup pa_nil) (pa_cons pe_int pa_nil))) pa_nil))))))))))
      (pss_cons (ps_set (i := 5) nd rfl (.inl rfl) (pe_ix ix_list (pv 4) (pe_call T.ok hr (by rfl) T.g T.kp T.b .nil pass0 (pa_cons (pv 0) (pa_cons (pe_callB call_len_seq (by rfl) ml PySem.boot_len (pa_cons (pv 4) pa_nil)) pa_nil))) (fun _ _ => rfl)))
      (pss_cons (ps_set (i := 6) nd rfl (.inl rfl) (pe_call T.ok hr (by rfl) T.g T.kp T.b .nil pass0 (pa_cons (pv 0) (pa_cons pe_int pa_nil))))
      (pss_cons (ps_if (pt_cmpR op_eq (pv 6) pe_int (nomark _)) (pss_one (ps_expr (pe_bm PySem.F.plainAttrs_list PySem.F.slot_list_append PySem.F.type_list_append mt_append (pv 3) (pa_cons (pv 5) pa_nil)))) (pss_one (ps_if (PW.pt (pw_and (pt_cmpR op_eq (pv 6) pe_int (nomark _)) (pw_and1 (pt_cmpR (op_neD hr.units) (pv 3) (pe_lst pa_nil) (nomark _))))) (pss_one (ps_asg (pv 5) (pg_sub (pv 3) (pe_call T.ok hr (by rfl) T.g T.kp T.b .nil pass0 (pa_cons (pv 0) (pa_cons (pe_callB call_len_seq (by rfl) ml PySem.boot_len (pa_cons (pv 3) pa_nil)) pa_nil))) set_list))) (pss_one (ps_if (pt_cmpR op_eq (pv 6) pe_int (nomark _)) (pss_one (ps_expr (pe_bm0 PySem.F.plainAttrs_list PySem.F.slot_list_reverse PySem.F.type_list_reverse mt_reverse (pv 3)))) (pss_one (ps_if (pt_cmpR op_eq (pv 6) pe_int (nomark _)) (pss_one (ps_set (i := 3) nd rfl (.inl rfl) (pe_op op_cat (pv 3) (pe_slice sl_list (pv 3) (po_some (pe_un un_neg pe_int)) po_none)))) (pss_one (ps_if (pt_cmpR op_eq (pv 6) pe_int (nomark _)) (pss_one (ps_ret (pe_ix ix_list (pe_lst (pa_cons (pe_slice sl_tupA (pv 1) po_none (po_some pe_int)) (pa_cons (pe_op op_catA (pv 1) (pe_tup (pa_cons (pe_tup pa_nil) pa_nil))) (pa_cons (pe_callTy call_list_of (by rfl) mli (by decide +kernel) (pa_cons (pv 1) pa_nil)) (pa_cons (RT.pe_revT (pv 1)) (pa_cons (pv 5) pa_nil)))))) (pe_call T.ok hr (by rfl) T.g T.kp T.b .nil pass0 (pa_cons (pv 0) (pa_cons pe_int pa_nil))) (fun _ _ => rfl)))) (pss_one (ps_ret (pe_op op_catA (pe_op op_catA (pe_slice sl_tupA (pv 1) po_none (po_some (pv 2))) (pe_tup (pa_cons (pe_ix ix_list (pe_lst (pa_cons (pv 3) (pa_cons pe_non (pa_cons pe_str (pa_cons (pv 5) pa_nil))))) (pe_call T.ok hr (by rfl) T.g T.kp T.b .nil pass0 (pa_cons (pv 0) (pa_cons pe_int pa_nil))) (fun _ _ => rfl)) pa_nil))) (pe_slice sl_tupA (pv 1) (po_some (pe_op op_add (pv 2) pe_int)) po_none))))))))))))) (pss_one (ps_ret (pe_op op_catA (pe_op op_catA (pe_slice sl_tupA (pv 1) po_none (po_some (pv 2))) (pe_tup (pa_cons (pe_callTy call_tuple_of (by rfl) mt (by decide +kernel) (pa_cons (pv 3) pa_nil)) pa_nil))) (pe_slice sl_tupA (pv 1) (po_some (pe_op op_add (pv 2) pe_int)) po_none))))))))))), ?_⟩
  refine ⟨_, rfl, p, 3, rfl, pl, by decide, by decide, fun x1 y1 r1 hx1 hy1 hz1 h01 h11 => ?_⟩
  have pl1 : Pool (upd H p (.lst [.int x1, .int y1])) p := ⟨x1, y1, upd_same, hx1, hy1, hz1⟩
  have o1 : M0.off p (upd H p (.lst [.int x1, .int y1])) = M0.off p H := off_upd
  generalize upd H p (.lst [.int x1, .int y1]) = H1 at pl1 o1 ⊢
  obtain ⟨j, rfl⟩ : ∃ j : Nat, r1 = (j : Int) := ⟨r1.toNat, by omega⟩
  have hj : j < 3 := by omega
  rw [← o1] at hm hv q
  obtain ⟨vj, ej, gv, gd, tj, lj⟩ := part_at hv hP hj
  obtain ⟨pj, us, rfl, hpj, hus⟩ := gv.2
  refine ⟨_, rfl, _, rfl, m, vs, (j : Int), .ref pj, rfl, rfl, same_tup off_sub hm, atI_nat gv.1, pj, us, rfl, .inr (same_tup off_sub hpj), fun l nl => ?_⟩
  have J : InvB (M0.off p H1) p l us (upd H1 l (.lst us)) := InvB.start pl1 nl
  have S : Same (M0.off p H1) (off2 p l (upd H1 l (.lst us))) := J.sm
  generalize upd H1 l (.lst us) = H2 at J S ⊢
  have A : DpAll K (off2 p l H2) [] [] := .nil
  have A := dpAll_app A (DpAll.cons (v := V.non) .non .nil)
  have A := dpAll_app A (DpAll.cons (v := V.int (5)) (.int _) .nil)
  refine ⟨1, rfl, ?_⟩
  have A := dpAll_app A (DpAll.cons (v := V.int (-1)) (.int _) .nil)
  have A := dpAll_app A (DpAll.cons (v := V.bl true) (.bl true) .nil)
  have A := dpAll_app A (DpAll.cons (v := V.str "a") (.str _) .nil)
  refine ⟨by show 0 ≤ sizeLine; decide, fun t0 n0 => ?_⟩
  have D0 := J.tupD (K := K) (xs := []) n0 .nil
  have A := dpAll_same (mono2 (p := p) (l := l) (o := .tup []) n0) _ _ A
  have S := S.trans (mono2 (p := p) (l := l) (o := .tup []) n0)
  have J := J.new (o := .tup []) n0
  generalize upd _ t0 (.tup []) = G0 at J D0 A S ⊢
  have A := dpAll_app A (DpAll.cons (v := V.ref t0) D0 .nil)
  refine ⟨by show 0 ≤ sizeLine; decide, fun t1 n1 => ?_⟩
  have D1 := J.lstD (K := K) (xs := []) n1 .nil
  have A := dpAll_same (mono2 (p := p) (l := l) (o := .lst []) n1) _ _ A
  have S := S.trans (mono2 (p := p) (l := l) (o := .lst []) n1)
  have J := J.new (o := .lst []) n1
  generalize upd _ t1 (.lst []) = G1 at J D1 A S ⊢
  have A := dpAll_app A (DpAll.cons (v := V.ref t1) D1 .nil)
  refine ⟨by show 1 ≤ sizeLine; decide, fun t2 n2 => ?_⟩
  have D2 := J.tupD (K := K) (xs := [V.int (1)]) n2 (.cons (.int _) .nil)
  have A := dpAll_same (mono2 (p := p) (l := l) (o := .tup [V.int (1)]) n2) _ _ A
  have S := S.trans (mono2 (p := p) (l := l) (o := .tup [V.int (1)]) n2)
  have J := J.new (o := .tup [V.int (1)]) n2
  generalize upd _ t2 (.tup [V.int (1)]) = G2 at J D2 A S ⊢
  refine ⟨by show 2 ≤ sizeLine; decide, fun t3 n3 => ?_⟩
  have D3 := J.tupD (K := K) (xs := [V.ref t2, V.int (0)]) n3 (.cons D2 (.cons (.int _) .nil))
  have A := dpAll_same (mono2 (p := p) (l := l) (o := .tup [V.ref t2, V.int (0)]) n3) _ _ A
  have S := S.trans (mono2 (p := p) (l := l) (o := .tup [V.ref t2, V.int (0)]) n3)
  have J := J.new (o := .tup [V.ref t2, V.int (0)]) n3
  generalize upd _ t3 (.tup [V.ref t2, V.int (0)]) = G3 at J D3 A S ⊢
  have A := dpAll_app A (DpAll.cons (v := V.ref t3) D3 .nil)
  refine ⟨1, rfl, ?_⟩
  refine ⟨by show 2 ≤ sizeLine; decide, fun t4 n4 => ?_⟩
  have D4 := J.tupD (K := K) (xs := [V.int (-1), V.int (2)]) n4 (.cons (.int _) (.cons (.int _) .nil))
  have A := dpAll_same (mono2 (p := p) (l := l) (o := .tup [V.int (-1), V.int (2)]) n4) _ _ A
  have S := S.trans (mono2 (p := p) (l := l) (o := .tup [V.int (-1), V.int (2)]) n4)
  have J := J.new (o := .tup [V.int (-1), V.int (2)]) n4
  generalize upd _ t4 (.tup [V.int (-1), V.int (2)]) = G4 at J D4 A S ⊢
  refine ⟨by show 2 ≤ sizeLine; decide, fun t5 n5 => ?_⟩
  have D5 := J.tupD (K := K) (xs := [V.ref t4, V.int (0)]) n5 (.cons D4 (.cons (.int _) .nil))
  have A := dpAll_same (mono2 (p := p) (l := l) (o := .tup [V.ref t4, V.int (0)]) n5) _ _ A
  have S := S.trans (mono2 (p := p) (l := l) (o := .tup [V.ref t4, V.int (0)]) n5)
  have J := J.new (o := .tup [V.ref t4, V.int (0)]) n5
  generalize upd _ t5 (.tup [V.ref t4, V.int (0)]) = G5 at J D5 A S ⊢
  have A := dpAll_app A (DpAll.cons (v := V.ref t5) D5 .nil)
  refine ⟨by show 1 ≤ sizeLine; decide, fun t6 n6 => ?_⟩
  have D6 := J.tupD (K := K) (xs := [V.int (1)]) n6 (.cons (.int _) .nil)
  have A := dpAll_same (mono2 (p := p) (l := l) (o := .tup [V.int (1)]) n6) _ _ A
  have S := S.trans (mono2 (p := p) (l := l) (o := .tup [V.int (1)]) n6)
  have J := J.new (o := .tup [V.int (1)]) n6
  generalize upd _ t6 (.tup [V.int (1)]) = G6 at J D6 A S ⊢
  refine ⟨1, rfl, ?_⟩
  refine ⟨by show 2 ≤ sizeLine; decide, fun t7 n7 => ?_⟩
  have D7 := J.tupD (K := K) (xs := [V.ref t6, V.int (-1)]) n7 (.cons D6 (.cons (.int _) .nil))
  have A := dpAll_same (mono2 (p := p) (l := l) (o := .tup [V.ref t6, V.int (-1)]) n7) _ _ A
  have S := S.trans (mono2 (p := p) (l := l) (o := .tup [V.ref t6, V.int (-1)]) n7)
  have J := J.new (o := .tup [V.ref t6, V.int (-1)]) n7
  generalize upd _ t7 (.tup [V.ref t6, V.int (-1)]) = G7 at J D7 A S ⊢
  have A := dpAll_app A (DpAll.cons (v := V.ref t7) D7 .nil)
  refine ⟨by show 1 ≤ sizeLine; decide, fun t8 n8 => ?_⟩
  have D8 := J.tupD (K := K) (xs := [V.bl true]) n8 (.cons (.bl true) .nil)
  have A := dpAll_same (mono2 (p := p) (l := l) (o := .tup [V.bl true]) n8) _ _ A
  have S := S.trans (mono2 (p := p) (l := l) (o := .tup [V.bl true]) n8)
  have J := J.new (o := .tup [V.bl true]) n8
  generalize upd _ t8 (.tup [V.bl true]) = G8 at J D8 A S ⊢
  refine ⟨by show 2 ≤ sizeLine; decide, fun t9 n9 => ?_⟩
  have D9 := J.tupD (K := K) (xs := [V.ref t8, V.int (0)]) n9 (.cons D8 (.cons (.int _) .nil))
  have A := dpAll_same (mono2 (p := p) (l := l) (o := .tup [V.ref t8, V.int (0)]) n9) _ _ A
  have S := S.trans (mono2 (p := p) (l := l) (o := .tup [V.ref t8, V.int (0)]) n9)
  have J := J.new (o := .tup [V.ref t8, V.int (0)]) n9
  generalize upd _ t9 (.tup [V.ref t8, V.int (0)]) = G9 at J D9 A S ⊢
  have A := dpAll_app A (DpAll.cons (v := V.ref t9) D9 .nil)
  refine ⟨by show 2 ≤ sizeLine; decide, fun t10 n10 => ?_⟩
  have D10 := J.tupD (K := K) (xs := [V.int (0), V.int (0)]) n10 (.cons (.int _) (.cons (.int _) .nil))
  have A := dpAll_same (mono2 (p := p) (l := l) (o := .tup [V.int (0), V.int (0)]) n10) _ _ A
  have S := S.trans (mono2 (p := p) (l := l) (o := .tup [V.int (0), V.int (0)]) n10)
  have J := J.new (o := .tup [V.int (0), V.int (0)]) n10
  generalize upd _ t10 (.tup [V.int (0), V.int (0)]) = G10 at J D10 A S ⊢
  refine ⟨by show 3 ≤ sizeLine; decide, fun t11 n11 => ?_⟩
  have D11 := J.tupD (K := K) (xs := [V.int (0), V.ref t10, V.int (1)]) n11 (.cons (.int _) (.cons D10 (.cons (.int _) .nil)))
  have A := dpAll_same (mono2 (p := p) (l := l) (o := .tup [V.int (0), V.ref t10, V.int (1)]) n11) _ _ A
  have S := S.trans (mono2 (p := p) (l := l) (o := .tup [V.int (0), V.ref t10, V.int (1)]) n11)
  have J := J.new (o := .tup [V.int (0), V.ref t10, V.int (1)]) n11
  generalize upd _ t11 (.tup [V.int (0), V.ref t10, V.int (1)]) = G11 at J D11 A S ⊢
  have A := dpAll_app A (DpAll.cons (v := V.ref t11) D11 .nil)
  refine ⟨by show 12 ≤ sizeLine; decide, fun l1 nl1 => ?_⟩
  have k1 := J.at (o := .lst [V.non, V.int (5), V.int (-1), V.bl true, V.str "a", V.ref t0, V.ref t1, V.ref t3, V.ref t5, V.ref t7, V.ref t9, V.ref t11]) nl1
  have A := dpAll_same (mono2 (p := p) (l := l) (o := .lst [V.non, V.int (5), V.int (-1), V.bl true, V.str "a", V.ref t0, V.ref t1, V.ref t3, V.ref t5, V.ref t7, V.ref t9, V.ref t11]) nl1) _ _ A
  have S := S.trans (mono2 (p := p) (l := l) (o := .lst [V.non, V.int (5), V.int (-1), V.bl true, V.str "a", V.ref t0, V.ref t1, V.ref t3, V.ref t5, V.ref t7, V.ref t9, V.ref t11]) nl1)
  have J := J.new (o := .lst [V.non, V.int (5), V.int (-1), V.bl true, V.str "a", V.ref t0, V.ref t1, V.ref t3, V.ref t5, V.ref t7, V.ref t9, V.ref t11]) nl1
  generalize upd _ l1 (.lst [V.non, V.int (5), V.int (-1), V.bl true, V.str "a", V.ref t0, V.ref t1, V.ref t3, V.ref t5, V.ref t7, V.ref t9, V.ref t11]) = H3 at J A S k1 ⊢
  have A1 := A
  have S1 : Same (off2 p l H3) (off2 p l H3) := Same.refl _
  have S0 := S
  clear S
  have S := S1
  have A : DpAll K (off2 p l H3) [] [] := .nil
  refine ⟨_, rfl, ?_⟩
  refine ⟨1, rfl, ?_⟩
  refine ⟨by show 2 ≤ sizeLine; decide, fun t12 n12 => ?_⟩
  have D12 := J.tupD (K := K) (xs := [V.int (0), V.int (-1)]) n12 (.cons (.int _) (.cons (.int _) .nil))
  have A := dpAll_same (mono2 (p := p) (l := l) (o := .tup [V.int (0), V.int (-1)]) n12) _ _ A
  have S := S.trans (mono2 (p := p) (l := l) (o := .tup [V.int (0), V.int (-1)]) n12)
  have J := J.new (o := .tup [V.int (0), V.int (-1)]) n12
  generalize upd _ t12 (.tup [V.int (0), V.int (-1)]) = G12 at J D12 A S ⊢
  refine ⟨by show 3 ≤ sizeLine; decide, fun t13 n13 => ?_⟩
  have D13 := J.tupD (K := K) (xs := [V.int (0), V.ref t12, V.int (1)]) n13 (.cons (.int _) (.cons D12 (.cons (.int _) .nil)))
  have A := dpAll_same (mono2 (p := p) (l := l) (o := .tup [V.int (0), V.ref t12, V.int (1)]) n13) _ _ A
  have S := S.trans (mono2 (p := p) (l := l) (o := .tup [V.int (0), V.ref t12, V.int (1)]) n13)
  have J := J.new (o := .tup [V.int (0), V.ref t12, V.int (1)]) n13
  generalize upd _ t13 (.tup [V.int (0), V.ref t12, V.int (1)]) = G13 at J D13 A S ⊢
  have A := dpAll_app A (DpAll.cons (v := V.ref t13) D13 .nil)
  refine ⟨by show 1 ≤ sizeLine; decide, fun t14 n14 => ?_⟩
  have D14 := J.tupD (K := K) (xs := [V.int (0)]) n14 (.cons (.int _) .nil)
  have A := dpAll_same (mono2 (p := p) (l := l) (o := .tup [V.int (0)]) n14) _ _ A
  have S := S.trans (mono2 (p := p) (l := l) (o := .tup [V.int (0)]) n14)
  have J := J.new (o := .tup [V.int (0)]) n14
  generalize upd _ t14 (.tup [V.int (0)]) = G14 at J D14 A S ⊢
  refine ⟨by show 3 ≤ sizeLine; decide, fun t15 n15 => ?_⟩
  have D15 := J.tupD (K := K) (xs := [V.int (0), V.ref t14, V.int (1)]) n15 (.cons (.int _) (.cons D14 (.cons (.int _) .nil)))
  have A := dpAll_same (mono2 (p := p) (l := l) (o := .tup [V.int (0), V.ref t14, V.int (1)]) n15) _ _ A
  have S := S.trans (mono2 (p := p) (l := l) (o := .tup [V.int (0), V.ref t14, V.int (1)]) n15)
  have J := J.new (o := .tup [V.int (0), V.ref t14, V.int (1)]) n15
  generalize upd _ t15 (.tup [V.int (0), V.ref t14, V.int (1)]) = G15 at J D15 A S ⊢
  have A := dpAll_app A (DpAll.cons (v := V.ref t15) D15 .nil)
  refine ⟨by show 2 ≤ sizeLine; decide, fun t16 n16 => ?_⟩
  have D16 := J.lstD (K := K) (xs := [V.int (0), V.int (0)]) n16 (.cons (.int _) (.cons (.int _) .nil))
  have A := dpAll_same (mono2 (p := p) (l := l) (o := .lst [V.int (0), V.int (0)]) n16) _ _ A
  have S := S.trans (mono2 (p := p) (l := l) (o := .lst [V.int (0), V.int (0)]) n16)
  have J := J.new (o := .lst [V.int (0), V.int (0)]) n16
  generalize upd _ t16 (.lst [V.int (0), V.int (0)]) = G16 at J D16 A S ⊢
  refine ⟨by show 3 ≤ sizeLine; decide, fun t17 n17 => ?_⟩
  have D17 := J.tupD (K := K) (xs := [V.int (0), V.ref t16, V.int (1)]) n17 (.cons (.int _) (.cons D16 (.cons (.int _) .nil)))
  have A := dpAll_same (mono2 (p := p) (l := l) (o := .tup [V.int (0), V.ref t16, V.int (1)]) n17) _ _ A
  have S := S.trans (mono2 (p := p) (l := l) (o := .tup [V.int (0), V.ref t16, V.int (1)]) n17)
  have J := J.new (o := .tup [V.int (0), V.ref t16, V.int (1)]) n17
  generalize upd _ t17 (.tup [V.int (0), V.ref t16, V.int (1)]) = G17 at J D17 A S ⊢
  have A := dpAll_app A (DpAll.cons (v := V.ref t17) D17 .nil)
  refine ⟨by show 2 ≤ sizeLine; decide, fun t18 n18 => ?_⟩
  have D18 := J.tupD (K := K) (xs := [V.int (0), V.int (0)]) n18 (.cons (.int _) (.cons (.int _) .nil))
  have A := dpAll_same (mono2 (p := p) (l := l) (o := .tup [V.int (0), V.int (0)]) n18) _ _ A
  have S := S.trans (mono2 (p := p) (l := l) (o := .tup [V.int (0), V.int (0)]) n18)
  have J := J.new (o := .tup [V.int (0), V.int (0)]) n18
  generalize upd _ t18 (.tup [V.int (0), V.int (0)]) = G18 at J D18 A S ⊢
  refine ⟨by show 2 ≤ sizeLine; decide, fun t19 n19 => ?_⟩
  have D19 := J.tupD (K := K) (xs := [V.int (0), V.ref t18]) n19 (.cons (.int _) (.cons D18 .nil))
  have A := dpAll_same (mono2 (p := p) (l := l) (o := .tup [V.int (0), V.ref t18]) n19) _ _ A
  have S := S.trans (mono2 (p := p) (l := l) (o := .tup [V.int (0), V.ref t18]) n19)
  have J := J.new (o := .tup [V.int (0), V.ref t18]) n19
  generalize upd _ t19 (.tup [V.int (0), V.ref t18]) = G19 at J D19 A S ⊢
  have A := dpAll_app A (DpAll.cons (v := V.ref t19) D19 .nil)
  refine ⟨by show 2 ≤ sizeLine; decide, fun t20 n20 => ?_⟩
  have D20 := J.tupD (K := K) (xs := [V.int (0), V.int (0)]) n20 (.cons (.int _) (.cons (.int _) .nil))
  have A := dpAll_same (mono2 (p := p) (l := l) (o := .tup [V.int (0), V.int (0)]) n20) _ _ A
  have S := S.trans (mono2 (p := p) (l := l) (o := .tup [V.int (0), V.int (0)]) n20)
  have J := J.new (o := .tup [V.int (0), V.int (0)]) n20
  generalize upd _ t20 (.tup [V.int (0), V.int (0)]) = G20 at J D20 A S ⊢
  refine ⟨by show 3 ≤ sizeLine; decide, fun t21 n21 => ?_⟩
  have D21 := J.tupD (K := K) (xs := [V.bl true, V.ref t20, V.int (1)]) n21 (.cons (.bl true) (.cons D20 (.cons (.int _) .nil)))
  have A := dpAll_same (mono2 (p := p) (l := l) (o := .tup [V.bl true, V.ref t20, V.int (1)]) n21) _ _ A
  have S := S.trans (mono2 (p := p) (l := l) (o := .tup [V.bl true, V.ref t20, V.int (1)]) n21)
  have J := J.new (o := .tup [V.bl true, V.ref t20, V.int (1)]) n21
  generalize upd _ t21 (.tup [V.bl true, V.ref t20, V.int (1)]) = G21 at J D21 A S ⊢
  have A := dpAll_app A (DpAll.cons (v := V.ref t21) D21 .nil)
  refine ⟨by show 1 ≤ sizeLine; decide, fun t22 n22 => ?_⟩
  have D22 := J.lstD (K := K) (xs := [V.int (1)]) n22 (.cons (.int _) .nil)
  have A := dpAll_same (mono2 (p := p) (l := l) (o := .lst [V.int (1)]) n22) _ _ A
  have S := S.trans (mono2 (p := p) (l := l) (o := .lst [V.int (1)]) n22)
  have J := J.new (o := .lst [V.int (1)]) n22
  generalize upd _ t22 (.lst [V.int (1)]) = G22 at J D22 A S ⊢
  refine ⟨by show 2 ≤ sizeLine; decide, fun t23 n23 => ?_⟩
  have D23 := J.tupD (K := K) (xs := [V.ref t22, V.int (0)]) n23 (.cons D22 (.cons (.int _) .nil))
  have A := dpAll_same (mono2 (p := p) (l := l) (o := .tup [V.ref t22, V.int (0)]) n23) _ _ A
  have S := S.trans (mono2 (p := p) (l := l) (o := .tup [V.ref t22, V.int (0)]) n23)
  have J := J.new (o := .tup [V.ref t22, V.int (0)]) n23
  generalize upd _ t23 (.tup [V.ref t22, V.int (0)]) = G23 at J D23 A S ⊢
  have A := dpAll_app A (DpAll.cons (v := V.ref t23) D23 .nil)
  refine ⟨by show 0 ≤ sizeLine; decide, fun t24 n24 => ?_⟩
  have D24 := J.tupD (K := K) (xs := []) n24 .nil
  have A := dpAll_same (mono2 (p := p) (l := l) (o := .tup []) n24) _ _ A
  have S := S.trans (mono2 (p := p) (l := l) (o := .tup []) n24)
  have J := J.new (o := .tup []) n24
  generalize upd _ t24 (.tup []) = G24 at J D24 A S ⊢
  refine ⟨by show 2 ≤ sizeLine; decide, fun t25 n25 => ?_⟩
  have D25 := J.tupD (K := K) (xs := [V.ref t24, V.int (3)]) n25 (.cons D24 (.cons (.int _) .nil))
  have A := dpAll_same (mono2 (p := p) (l := l) (o := .tup [V.ref t24, V.int (3)]) n25) _ _ A
  have S := S.trans (mono2 (p := p) (l := l) (o := .tup [V.ref t24, V.int (3)]) n25)
  have J := J.new (o := .tup [V.ref t24, V.int (3)]) n25
  generalize upd _ t25 (.tup [V.ref t24, V.int (3)]) = G25 at J D25 A S ⊢
  have A := dpAll_app A (DpAll.cons (v := V.ref t25) D25 .nil)
  refine ⟨by show 7 ≤ sizeLine; decide, fun l2 nl2 => ?_⟩
  have k2 := J.at (o := .lst [V.ref t13, V.ref t15, V.ref t17, V.ref t19, V.ref t21, V.ref t23, V.ref t25]) nl2
  have A := dpAll_same (mono2 (p := p) (l := l) (o := .lst [V.ref t13, V.ref t15, V.ref t17, V.ref t19, V.ref t21, V.ref t23, V.ref t25]) nl2) _ _ A
  have S := S.trans (mono2 (p := p) (l := l) (o := .lst [V.ref t13, V.ref t15, V.ref t17, V.ref t19, V.ref t21, V.ref t23, V.ref t25]) nl2)
  have J := J.new (o := .lst [V.ref t13, V.ref t15, V.ref t17, V.ref t19, V.ref t21, V.ref t23, V.ref t25]) nl2
  generalize upd _ l2 (.lst [V.ref t13, V.ref t15, V.ref t17, V.ref t19, V.ref t21, V.ref t23, V.ref t25]) = H4 at J A S k2 ⊢
  have A1 := dpAll_same S _ _ A1
  have k1 := S _ _ k1
  have S0 := S0.trans S
  refine ⟨l1, l2, [V.non, V.int (5), V.int (-1), V.bl true, V.str "a", V.ref t0, V.ref t1, V.ref t3, V.ref t5, V.ref t7, V.ref t9, V.ref t11], [V.ref t13, V.ref t15, V.ref t17, V.ref t19, V.ref t21, V.ref t23, V.ref t25], rfl, rfl, off2_all _ _ k1, off2_all _ _ k2, by show 19 ≤ sizeLine; decide, fun l3 nl3 => ?_⟩
  have A := dpAll_app A1 A
  obtain ⟨ov, eov⟩ : ∃ ov : List V, ov = [V.non, V.int (5), V.int (-1), V.bl true, V.str "a", V.ref t0, V.ref t1, V.ref t3, V.ref t5, V.ref t7, V.ref t9, V.ref t11] ++ [V.ref t13, V.ref t15, V.ref t17, V.ref t19, V.ref t21, V.ref t23, V.ref t25] := ⟨_, rfl⟩
  have olen : ov.length = 19 := by rw [eov]; rfl
  have A : DpAll K (off2 p l H4) ov oddD := by rw [eov]; exact A
  rw [← eov]
  have k3 := J.at (o := .lst ov) nl3
  have A := dpAll_same (mono2 (p := p) (l := l) (o := .lst ov) nl3) _ _ A
  have S0 := S0.trans (mono2 (p := p) (l := l) (o := .lst ov) nl3)
  have J := J.new (o := .lst ov) nl3
  generalize upd H4 l3 (.lst ov) = H5 at J A S0 k3 ⊢
  clear k1 k2 A1 S S1 eov
  refine ⟨_, rfl, _, rfl, _, rfl, l3, _, rfl, .inl (SqL.of (off2_all _ _ k3)), p, _, rfl, J.pl, by omega, by omega, fun x2 y2 r2 hx2 hy2 hz2 h02 h12 => ?_⟩
  have o2 : off2 p l (upd H5 p (.lst [.int x2, .int y2])) = off2 p l H5 := off2_p
  have J := J.take hx2 hy2 hz2
  rw [← o2] at A S0 k3
  generalize upd H5 p (.lst [.int x2, .int y2]) = H6 at J A S0 k3 ⊢
  obtain ⟨i, rfl⟩ : ∃ i : Nat, r2 = (i : Int) := ⟨r2.toNat, by omega⟩
  obtain ⟨ve, hve⟩ : ∃ ve, ov[i]? = some ve := ⟨_, List.getElem?_eq_getElem (by omega)⟩
  obtain ⟨de, hde, hoe⟩ := dpAll_get A hve
  have od := odd_of (List.mem_of_getElem? hde)
  refine ⟨l3, ov, (i : Int), ve, rfl, rfl, SqL.of (off2_all _ _ k3), atI_nat hve, ?_⟩
  refine ⟨_, rfl, p, 6, rfl, J.pl, by decide, by decide, fun x3 y3 r3 hx3 hy3 hz3 h03 h13 => ?_⟩
  have o3 : off2 p l (upd H6 p (.lst [.int x3, .int y3])) = off2 p l H6 := off2_p
  have J := J.take hx3 hy3 hz3
  rw [← o3] at hoe S0
  generalize upd H6 p (.lst [.int x3, .int y3]) = H7 at J hoe S0 ⊢
  have J := J.base
  obtain ⟨B, eB⟩ : ∃ B, B = off2 p l H7 := ⟨_, rfl⟩
  rw [← eB] at J hoe S0
  have hmB := same_tup S0 hm
  have hvB := dpAll_same S0 _ _ hv
  have huB := dpAll_same S0 _ _ hus
  have lv := dpAll_len hv
  have lu := dpAll_len hus
  have lds : ds.length = 3 := hP.1
  clear A k3 hm hv hus hpj eB o2 o3
  have ends : ∀ (H9 : Hp) (r : Addr) (xs : List V) (xd : List PyData) (lx : Addr) (wx : List V), InvB B p lx wx H9 → SqT K (off2 p lx H9) r xs → DpAll K (off2 p lx H9) xs xd → (∀ x ∈ xd, Comp x) → xd.length ≤ 4 → Q (.ref r) H9 := fun H9 r xs xd lx wx J9 hr hx hc hl => by
    have z := fit_of_comps hc hl
    exact q H9 (.ref r) (.tuple xd) (S0.trans (J9.sm.trans off2_sub)) J9.pl (.tup (same_tup off2_sub hr) (dpAll_same off2_sub _ _ hx)) z.1 z.2
  have comps : ∀ x ∈ ds, Comp x := hP.2.2
  refine ⟨_, rfl, rfl, _, rfl, ite2 (fun e0 => ?_) (fun e0 => ?_)⟩
  · refine ⟨_, rfl, .inl ⟨rfl, _, SqL.of J.hl⟩, _, rfl, l, us, ve, rfl, rfl, J.hl, small_line (by omega), ?_⟩
    have J1 := J.put (xs := us ++ [ve])
    refine ⟨_, rfl, _, rfl, (j : Int), rfl, J1.cut (same_tup J1.sm hmB) fun Ha ra Ja sa ka => ?_⟩
    refine ⟨_, rfl, l, (us ++ [ve]), rfl, .inl ⟨SqL.of Ja.hl, fun tp np => ⟨by show 1 ≤ sizeLine; decide, fun tq nq => ?_⟩⟩⟩
    have Db := Ja.tupD (K := K) (xs := (us ++ [ve])) (ds := (ej ++ [de])) np (dpAll_same Ja.sm _ _ (dpAll_app huB (.cons hoe .nil)))
    have sb : Same (off2 p l Ha) (off2 p l (upd Ha tp (.tup (us ++ [ve])))) := mono2 np
    have Jb := Ja.new (o := .tup (us ++ [ve])) np
    have sc : Same (off2 p l (upd Ha tp (.tup (us ++ [ve])))) (off2 p l (upd (upd Ha tp (.tup (us ++ [ve]))) tq (.tup [.ref tp]))) := mono2 nq
    have kc := Jb.at (o := .tup [.ref tp]) nq
    have Jc := Jb.new (o := .tup [.ref tp]) nq
    have Dc := dp_same sc _ _ Db
    refine Jc.cat (same_tup (sb.trans sc) ka) (SqT.of kc) ?_ fun Hd rd Jd sd kd => ?_
    · rw [cut_take, List.length_take]; show min j vs.length + 1 ≤ 100000; omega
    refine ⟨_, rfl, _, rfl, _, _, rfl, rfl, ((j + 1 : Nat) : Int), congrArg V.int (by omega), ?_⟩
    dsimp only [tNoPart]
    refine Jd.cut (same_tup Jd.sm hmB) fun He re Je se ke => ?_
    refine Je.cat (same_tup se kd) ke ?_ fun Hf rf Jf sf kf => ?_
    · rw [cut_take, cut_drop, List.length_append, List.length_take, List.length_drop]; show min j vs.length + 1 + (vs.length - (j + 1)) ≤ 100000; omega
    rw [cut_take, cut_drop] at kf
    have Df := dp_same (sd.trans (se.trans sf)) _ _ Dc
    have vB := dpAll_same Jf.sm _ _ hvB
    exact ends Hf rf _ (ds.take j ++ [.tuple (ej ++ [de])] ++ ds.drop (j + 1)) l _ Jf kf (dpAll_app (dpAll_app (dpAll_take j vB) (.cons Df .nil)) (dpAll_drop (j + 1) vB)) (comps_of comps (comp_tuple (fun x hx => by rcases List.mem_append.mp hx with z | z; exact tj x z; rw [List.mem_singleton.mp z]; exact od.tiny) (by rw [List.length_append]; show ej.length + 1 < 60; omega))) (by rw [List.length_append, List.length_append, List.length_take, List.length_drop]; show min j ds.length + 1 + (ds.length - (j + 1)) ≤ 4; omega)
  refine ⟨_, rfl, rfl, _, rfl, ite2 (fun e1 => ?_) (fun e1 => iteF ?_)⟩
  · refine ⟨_, rfl, Nat.zero_le _, fun z0 nz => ?_⟩
    have Jz := J.new (o := .lst []) nz
    have kz := J.at (o := .lst []) nz
    generalize upd H7 z0 (.lst []) = H8 at Jz kz ⊢
    refine ⟨.list ej, .list [], .lst (SqL.of Jz.hl) (dpAll_same (Jz.sm.trans off2_all) _ _ huB), .lst (SqL.of (off2_all _ _ kz)) .nil, tiny_nil_shaped tj, nil_shaped, _, rfl, ?_⟩
    rw [eqv_nil]
    refine ite2 (fun e5 => ?_) (fun e5 => ?_)
    · have pos : 0 < us.length := by
        cases ej with
        | nil => cases e5
        | cons x r => rw [lu]; exact Nat.succ_pos _
      refine ⟨_, rfl, _, rfl, _, rfl, _, rfl, l, us, rfl, .inl (SqL.of Jz.hl), p, _, rfl, Jz.pl, by omega, by omega, fun x4 y4 r4 hx4 hy4 hz4 h04 h14 => ?_⟩
      have J1 := Jz.take hx4 hy4 hz4
      generalize upd H8 p (.lst [.int x4, .int y4]) = H9 at J1 ⊢
      refine ⟨l, us, r4, r4.toNat, rfl, rfl, J1.hl, ixN_at h04 h14, ?_⟩
      have J2 := J1.put (xs := us.set r4.toNat ve)
      refine ⟨_, rfl, _, rfl, (j : Int), rfl, J2.cut (same_tup J2.sm hmB) fun Ha ra Ja sa ka => ?_⟩
      refine ⟨_, rfl, l, (us.set r4.toNat ve), rfl, .inl ⟨SqL.of Ja.hl, fun tp np => ⟨by show 1 ≤ sizeLine; decide, fun tq nq => ?_⟩⟩⟩
      have Db := Ja.tupD (K := K) (xs := (us.set r4.toNat ve)) (ds := (ej.set r4.toNat de)) np (dpAll_same Ja.sm _ _ (dpAll_set hoe _ huB))
      have sb : Same (off2 p l Ha) (off2 p l (upd Ha tp (.tup (us.set r4.toNat ve)))) := mono2 np
      have Jb := Ja.new (o := .tup (us.set r4.toNat ve)) np
      have sc : Same (off2 p l (upd Ha tp (.tup (us.set r4.toNat ve)))) (off2 p l (upd (upd Ha tp (.tup (us.set r4.toNat ve))) tq (.tup [.ref tp]))) := mono2 nq
      have kc := Jb.at (o := .tup [.ref tp]) nq
      have Jc := Jb.new (o := .tup [.ref tp]) nq
      have Dc := dp_same sc _ _ Db
      refine Jc.cat (same_tup (sb.trans sc) ka) (SqT.of kc) ?_ fun Hd rd Jd sd kd => ?_
      · rw [cut_take, List.length_take]; show min j vs.length + 1 ≤ 100000; omega
      refine ⟨_, rfl, _, rfl, _, _, rfl, rfl, ((j + 1 : Nat) : Int), congrArg V.int (by omega), ?_⟩
      dsimp only [tNoPart]
      refine Jd.cut (same_tup Jd.sm hmB) fun He re Je se ke => ?_
      refine Je.cat (same_tup se kd) ke ?_ fun Hf rf Jf sf kf => ?_
      · rw [cut_take, cut_drop, List.length_append, List.length_take, List.length_drop]; show min j vs.length + 1 + (vs.length - (j + 1)) ≤ 100000; omega
      rw [cut_take, cut_drop] at kf
      have Df := dp_same (sd.trans (se.trans sf)) _ _ Dc
      have vB := dpAll_same Jf.sm _ _ hvB
      exact ends Hf rf _ (ds.take j ++ [.tuple (ej.set r4.toNat de)] ++ ds.drop (j + 1)) l _ Jf kf (dpAll_app (dpAll_app (dpAll_take j vB) (.cons Df .nil)) (dpAll_drop (j + 1) vB)) (comps_of comps (comp_tuple (set_tiny tj od.tiny) (by rw [List.length_set]; omega))) (by rw [List.length_append, List.length_append, List.length_take, List.length_drop]; show min j ds.length + 1 + (ds.length - (j + 1)) ≤ 4; omega)
    refine ⟨_, rfl, rfl, _, rfl, ite2 (fun e2 => ?_) (fun e2 => ?_)⟩
    · refine ⟨_, rfl, .inl ⟨rfl, _, SqL.of Jz.hl⟩, l, us, rfl, rfl, Jz.hl, ?_⟩
      have J2 := Jz.put (xs := us.reverse)
      refine ⟨_, rfl, _, rfl, (j : Int), rfl, J2.cut (same_tup J2.sm hmB) fun Ha ra Ja sa ka => ?_⟩
      refine ⟨_, rfl, l, us.reverse, rfl, .inl ⟨SqL.of Ja.hl, fun tp np => ⟨by show 1 ≤ sizeLine; decide, fun tq nq => ?_⟩⟩⟩
      have Db := Ja.tupD (K := K) (xs := us.reverse) (ds := ej.reverse) np (dpAll_same Ja.sm _ _ (dpAll_rev huB))
      have sb : Same (off2 p l Ha) (off2 p l (upd Ha tp (.tup us.reverse))) := mono2 np
      have Jb := Ja.new (o := .tup us.reverse) np
      have sc : Same (off2 p l (upd Ha tp (.tup us.reverse))) (off2 p l (upd (upd Ha tp (.tup us.reverse)) tq (.tup [.ref tp]))) := mono2 nq
      have kc := Jb.at (o := .tup [.ref tp]) nq
      have Jc := Jb.new (o := .tup [.ref tp]) nq
      have Dc := dp_same sc _ _ Db
      refine Jc.cat (same_tup (sb.trans sc) ka) (SqT.of kc) ?_ fun Hd rd Jd sd kd => ?_
      · rw [cut_take, List.length_take]; show min j vs.length + 1 ≤ 100000; omega
      refine ⟨_, rfl, _, rfl, _, _, rfl, rfl, ((j + 1 : Nat) : Int), congrArg V.int (by omega), ?_⟩
      dsimp only [tNoPart]
      refine Jd.cut (same_tup Jd.sm hmB) fun He re Je se ke => ?_
      refine Je.cat (same_tup se kd) ke ?_ fun Hf rf Jf sf kf => ?_
      · rw [cut_take, cut_drop, List.length_append, List.length_take, List.length_drop]; show min j vs.length + 1 + (vs.length - (j + 1)) ≤ 100000; omega
      rw [cut_take, cut_drop] at kf
      have Df := dp_same (sd.trans (se.trans sf)) _ _ Dc
      have vB := dpAll_same Jf.sm _ _ hvB
      exact ends Hf rf _ (ds.take j ++ [.tuple ej.reverse] ++ ds.drop (j + 1)) l _ Jf kf (dpAll_app (dpAll_app (dpAll_take j vB) (.cons Df .nil)) (dpAll_drop (j + 1) vB)) (comps_of comps (comp_tuple (fun x hx => tj x (List.mem_reverse.mp hx)) (by rw [List.length_reverse]; omega))) (by rw [List.length_append, List.length_append, List.length_take, List.length_drop]; show min j ds.length + 1 + (ds.length - (j + 1)) ≤ 4; omega)
    refine ⟨_, rfl, rfl, _, rfl, ite2 (fun e3 => ?_) (fun e3 => ?_)⟩
    · refine ⟨_, rfl, _, rfl, 1, rfl, -1, rfl, l, us, rfl, SqL.of Jz.hl, fun lb nb => ?_⟩
      have J2 := Jz.new (o := .lst (cutV us (some (-1)) none)) nb
      have kb := Jz.at (o := .lst (cutV us (some (-1)) none)) nb
      refine ⟨l, lb, us, _, rfl, rfl, J2.hl, off2_all _ _ kb, ?_, fun lc nc => ?_⟩
      · have := cutV_length us (some (-1)) none
        exact Nat.le_of_lt (small_line (by omega))
      have J3 : InvB (M0.off p (upd H8 lb (.lst (cutV us (some (-1)) none)))) p lc (us ++ cutV us (some (-1)) none) _ := InvB.start J2.pl nc
      have J4 : InvB B p lc (us ++ cutV us (some (-1)) none) _ := ⟨(J2.sm.trans off2_sub).trans J3.sm, J3.pl, J3.ne, J3.hl⟩
      have cl := cutV_length us (some (-1)) none
      refine ⟨_, rfl, _, rfl, (j : Int), rfl, J4.cut (same_tup J4.sm hmB) fun Ha ra Ja sa ka => ?_⟩
      refine ⟨_, rfl, lc, (us ++ cutV us (some (-1)) none), rfl, .inl ⟨SqL.of Ja.hl, fun tp np => ⟨by show 1 ≤ sizeLine; decide, fun tq nq => ?_⟩⟩⟩
      have Db := Ja.tupD (K := K) (xs := (us ++ cutV us (some (-1)) none)) (ds := (ej ++ cutD ej)) np (dpAll_same Ja.sm _ _ (dpAll_app huB (cut_dp huB)))
      have sb : Same (off2 p lc Ha) (off2 p lc (upd Ha tp (.tup (us ++ cutV us (some (-1)) none)))) := mono2 np
      have Jb := Ja.new (o := .tup (us ++ cutV us (some (-1)) none)) np
      have sc : Same (off2 p lc (upd Ha tp (.tup (us ++ cutV us (some (-1)) none)))) (off2 p lc (upd (upd Ha tp (.tup (us ++ cutV us (some (-1)) none))) tq (.tup [.ref tp]))) := mono2 nq
      have kc := Jb.at (o := .tup [.ref tp]) nq
      have Jc := Jb.new (o := .tup [.ref tp]) nq
      have Dc := dp_same sc _ _ Db
      refine Jc.cat (same_tup (sb.trans sc) ka) (SqT.of kc) ?_ fun Hd rd Jd sd kd => ?_
      · rw [cut_take, List.length_take]; show min j vs.length + 1 ≤ 100000; omega
      refine ⟨_, rfl, _, rfl, _, _, rfl, rfl, ((j + 1 : Nat) : Int), congrArg V.int (by omega), ?_⟩
      dsimp only [tNoPart]
      refine Jd.cut (same_tup Jd.sm hmB) fun He re Je se ke => ?_
      refine Je.cat (same_tup se kd) ke ?_ fun Hf rf Jf sf kf => ?_
      · rw [cut_take, cut_drop, List.length_append, List.length_take, List.length_drop]; show min j vs.length + 1 + (vs.length - (j + 1)) ≤ 100000; omega
      rw [cut_take, cut_drop] at kf
      have Df := dp_same (sd.trans (se.trans sf)) _ _ Dc
      have vB := dpAll_same Jf.sm _ _ hvB
      exact ends Hf rf _ (ds.take j ++ [.tuple (ej ++ cutD ej)] ++ ds.drop (j + 1)) lc _ Jf kf (dpAll_app (dpAll_app (dpAll_take j vB) (.cons Df .nil)) (dpAll_drop (j + 1) vB)) (comps_of comps (comp_tuple (fun x hx => by rcases List.mem_append.mp hx with z | z; exact tj x z; exact tj x (cutD_mem z)) (by rw [List.length_append]; have := cutD_len ej; omega))) (by rw [List.length_append, List.length_append, List.length_take, List.length_drop]; show min j ds.length + 1 + (ds.length - (j + 1)) ≤ 4; omega)
    refine ⟨_, rfl, rfl, _, rfl, ite2 (fun e4 => ?_) (fun e4 => ?_)⟩
    · refine ⟨_, rfl, 2, rfl, Jz.cut (same_tup Jz.sm hmB) fun Ha ra Ja sa ka => ?_⟩
      refine ⟨_, rfl, by show 0 ≤ sizeLine; decide, fun ta na => ⟨by show 1 ≤ sizeLine; decide, fun tb nb => ?_⟩⟩
      have Db := Ja.tupD (K := K) (xs := []) (ds := []) na .nil
      have sb : Same (off2 p l Ha) (off2 p l (upd Ha ta (.tup []))) := mono2 na
      have Jb := Ja.new (o := .tup []) na
      have sc : Same (off2 p l (upd Ha ta (.tup []))) (off2 p l (upd (upd Ha ta (.tup [])) tb (.tup [.ref ta]))) := mono2 nb
      have kc := Jb.at (o := .tup [.ref ta]) nb
      have Jc := Jb.new (o := .tup [.ref ta]) nb
      have Dc := dp_same sc _ _ Db
      refine Jc.cat (same_tup Jc.sm hmB) (SqT.of kc) (by show vs.length + 1 ≤ 100000; omega) fun Hd rd Jd sd kd => ?_
      have Dd := dp_same sd _ _ Dc
      refine ⟨_, rfl, m, vs, rfl, .inr (same_tup off2_all (same_tup Jd.sm hmB)), fun le ne => ?_⟩
      have se : Same (off2 p l Hd) (off2 p l (upd Hd le (.lst vs))) := mono2 ne
      have ke := Jd.at (o := .lst vs) ne
      have Je := Jd.new (o := .lst vs) ne
      refine ⟨_, rfl, m, vs, rfl, same_tup off2_all (same_tup Je.sm hmB), fun tf nf => ?_⟩
      have sf : Same (off2 p l (upd Hd le (.lst vs))) (off2 p l (upd (upd Hd le (.lst vs)) tf (.tup vs.reverse))) := mono2 nf
      have kf := Je.at (o := .tup vs.reverse) nf
      have Jf := Je.new (o := .tup vs.reverse) nf
      refine ⟨_, rfl, by show 5 ≤ sizeLine; decide, fun lg ng => ?_⟩
      have sg : Same (off2 p l (upd (upd Hd le (.lst vs)) tf (.tup vs.reverse))) (off2 p l (upd (upd (upd Hd le (.lst vs)) tf (.tup vs.reverse)) lg (.lst [.ref ra, .ref rd, .ref le, .ref tf, ve]))) := mono2 ng
      have kg := Jf.at (o := .lst [.ref ra, .ref rd, .ref le, .ref tf, ve]) ng
      have Jg := Jf.new (o := .lst [.ref ra, .ref rd, .ref le, .ref tf, ve]) ng
      have ka2 := same_tup (sb.trans (sc.trans (sd.trans (se.trans (sf.trans sg))))) ka
      have kd2 := same_tup (se.trans (sf.trans sg)) kd
      have Dd2 := dp_same (se.trans (sf.trans sg)) _ _ Dd
      have ke2 := (sf.trans sg) _ _ ke
      have kf2 := sg _ _ kf
      generalize upd (upd (upd Hd le (.lst vs)) tf (.tup vs.reverse)) lg (.lst [.ref ra, .ref rd, .ref le, .ref tf, ve]) = Hg at Jg ka2 kd2 Dd2 ke2 kf2 kg ⊢
      refine ⟨_, rfl, p, 5, rfl, Jg.pl, by decide, by decide, fun x4 y4 r4 hx4 hy4 hz4 h04 h14 => ?_⟩
      have og : off2 p l (upd Hg p (.lst [.int x4, .int y4])) = off2 p l Hg := off2_p
      have Jh := Jg.take hx4 hy4 hz4
      rw [← og] at ka2 kd2 Dd2 ke2 kf2 kg
      generalize upd Hg p (.lst [.int x4, .int y4]) = Hh at Jh ka2 kd2 Dd2 ke2 kf2 kg ⊢
      have vB := dpAll_same Jh.sm _ _ hvB
      have hr5 : r4 = 0 ∨ r4 = 1 ∨ r4 = 2 ∨ r4 = 3 ∨ r4 = 4 := by omega
      rcases hr5 with rfl | rfl | rfl | rfl | rfl
      · refine ⟨lg, _, 0, .ref ra, rfl, rfl, SqL.of (off2_all _ _ kg), rfl, ?_⟩
        rw [show (some (2 : Int)) = some ((2 : Nat) : Int) from rfl, cut_take] at ka2
        exact ends Hh ra _ (ds.take 2) l us Jh ka2 (dpAll_take 2 vB) (fun x hx => comps x (List.mem_of_mem_take hx)) (by rw [List.length_take]; omega)
      · refine ⟨lg, _, 1, .ref rd, rfl, rfl, SqL.of (off2_all _ _ kg), rfl, ?_⟩
        refine ends Hh rd _ (ds ++ [.tuple []]) l us Jh kd2 (dpAll_app vB (.cons Dd2 .nil)) (fun x hx => ?_) (by rw [List.length_append]; show ds.length + 1 ≤ 4; omega)
        rcases List.mem_append.mp hx with z | z
        · exact comps x z
        · rw [List.mem_singleton.mp z]; exact comp_tuple (fun _ y => (nomatch y)) (by decide)
      · refine ⟨lg, _, 2, .ref le, rfl, rfl, SqL.of (off2_all _ _ kg), rfl, ?_⟩
        have z := fit_of_list comps (by omega)
        exact q Hh (.ref le) (.list ds) (S0.trans (Jh.sm.trans off2_sub)) Jh.pl (.lst (off2_sub.seq (SqL.of ke2)) (dpAll_same off2_sub _ _ vB)) z.1 z.2
      · refine ⟨lg, _, 3, .ref tf, rfl, rfl, SqL.of (off2_all _ _ kg), rfl, ?_⟩
        exact ends Hh tf _ ds.reverse l us Jh (SqT.of kf2) (dpAll_rev vB) (fun x hx => comps x (List.mem_reverse.mp hx)) (by rw [List.length_reverse]; omega)
      · refine ⟨lg, _, 4, ve, rfl, rfl, SqL.of (off2_all _ _ kg), rfl, ?_⟩
        exact q Hh ve de (S0.trans (Jh.sm.trans off2_sub)) Jh.pl (dp_same (Jh.sm.trans off2_sub) _ _ hoe) od.fit od.slm
    refine ⟨_, rfl, _, rfl, (j : Int), rfl, Jz.cut (same_tup Jz.sm hmB) fun Ha ra Ja sa ka => ?_⟩
    refine ⟨_, rfl, _, rfl, by show 4 ≤ sizeLine; decide, fun lb nb => ?_⟩
    have sb : Same (off2 p l Ha) (off2 p l (upd Ha lb (.lst [.ref l, .non, .str "a", ve]))) := mono2 nb
    have kb := Ja.at (o := .lst [.ref l, .non, .str "a", ve]) nb
    have Jb := Ja.new (o := .lst [.ref l, .non, .str "a", ve]) nb
    generalize upd Ha lb (.lst [.ref l, .non, .str "a", ve]) = Hb at sb kb Jb ⊢
    refine ⟨_, rfl, p, 4, rfl, Jb.pl, by decide, by decide, fun x4 y4 r4 hx4 hy4 hz4 h04 h14 => ?_⟩
    have og : off2 p l (upd Hb p (.lst [.int x4, .int y4])) = off2 p l Hb := off2_p
    have Jc := Jb.take hx4 hy4 hz4
    rw [← og] at sb kb
    generalize upd Hb p (.lst [.int x4, .int y4]) = Hc at sb kb Jc ⊢
    obtain ⟨vx, dx, hvx, hcx, hdx⟩ : ∃ vx dx, atI [V.ref l, V.non, V.str "a", ve] r4 = some vx ∧ Comp dx ∧ ∀ H9, InvB B p l us H9 → Dp K (M0.off p H9) vx dx := by
      have hr4 : r4 = 0 ∨ r4 = 1 ∨ r4 = 2 ∨ r4 = 3 := by omega
      rcases hr4 with rfl | rfl | rfl | rfl
      · exact ⟨_, .list ej, rfl, comp_list tj (by omega), fun H9 J9 => .lst (SqL.of (by rw [off_ne J9.ne]; exact J9.hl)) (dpAll_same (J9.sm.trans off2_sub) _ _ huB)⟩
      · exact ⟨_, .none, rfl, (odd_of (d := .none) (by simp [oddD])).comp, fun _ _ => .non⟩
      · exact ⟨_, .str "a", rfl, (odd_of (d := .str "a") (by simp [oddD])).comp, fun _ _ => .str _⟩
      · exact ⟨_, de, rfl, od.comp, fun H9 J9 => dp_same (J9.sm.trans off2_sub) _ _ hoe⟩
    refine ⟨lb, _, r4, vx, rfl, rfl, SqL.of (off2_all _ _ kb), hvx, ?_⟩
    refine ⟨by show 1 ≤ sizeLine; decide, fun tq nq => ?_⟩
    have sc : Same (off2 p l Hc) (off2 p l (upd Hc tq (.tup [vx]))) := mono2 nq
    have kc := Jc.at (o := .tup [vx]) nq
    have Jd := Jc.new (o := .tup [vx]) nq
    refine Jd.cat (same_tup (sb.trans sc) ka) (SqT.of kc) ?_ fun He re Je se ke => ?_
    · rw [cut_take, List.length_take]; show min j vs.length + 1 ≤ 100000; omega
    refine ⟨_, rfl, _, rfl, _, _, rfl, rfl, ((j + 1 : Nat) : Int), congrArg V.int (by omega), ?_⟩
    dsimp only [tNoPart]
    refine Je.cut (same_tup Je.sm hmB) fun Hf rf Jf sf kf => ?_
    refine Jf.cat (same_tup sf ke) kf ?_ fun Hk rk Jk sk kk => ?_
    · rw [cut_take, cut_drop, List.length_append, List.length_take, List.length_drop]; show min j vs.length + 1 + (vs.length - (j + 1)) ≤ 100000; omega
    rw [cut_take, cut_drop] at kk
    have vB := dpAll_same (Jk.sm.trans off2_sub) _ _ hvB
    have z := fit_of_comps (xs := ds.take j ++ [dx] ++ ds.drop (j + 1)) (comps_of comps hcx) (by rw [List.length_append, List.length_append, List.length_take, List.length_drop]; show min j ds.length + 1 + (ds.length - (j + 1)) ≤ 4; omega)
    exact q Hk (.ref rk) _ (S0.trans (Jk.sm.trans off2_sub)) Jk.pl (.tup (same_tup off2_sub kk) (dpAll_app (dpAll_app (dpAll_take j vB) (.cons (hdx Hk Jk) .nil)) (dpAll_drop (j + 1) vB))) z.1 z.2
  refine ⟨_, rfl, rfl, _, rfl, ite2 (fun e2 => ?_) (fun e2 => ?_)⟩
  · refine ⟨_, rfl, .inl ⟨rfl, _, SqL.of J.hl⟩, l, us, rfl, rfl, J.hl, ?_⟩
    have J2 := J.put (xs := us.reverse)
    refine ⟨_, rfl, _, rfl, (j : Int), rfl, J2.cut (same_tup J2.sm hmB) fun Ha ra Ja sa ka => ?_⟩
    refine ⟨_, rfl, l, us.reverse, rfl, .inl ⟨SqL.of Ja.hl, fun tp np => ⟨by show 1 ≤ sizeLine; decide, fun tq nq => ?_⟩⟩⟩
    have Db := Ja.tupD (K := K) (xs := us.reverse) (ds := ej.reverse) np (dpAll_same Ja.sm _ _ (dpAll_rev huB))
    have sb : Same (off2 p l Ha) (off2 p l (upd Ha tp (.tup us.reverse))) := mono2 np
    have Jb := Ja.new (o := .tup us.reverse) np
    have sc : Same (off2 p l (upd Ha tp (.tup us.reverse))) (off2 p l (upd (upd Ha tp (.tup us.reverse)) tq (.tup [.ref tp]))) := mono2 nq
    have kc := Jb.at (o := .tup [.ref tp]) nq
    have Jc := Jb.new (o := .tup [.ref tp]) nq
    have Dc := dp_same sc _ _ Db
    refine Jc.cat (same_tup (sb.trans sc) ka) (SqT.of kc) ?_ fun Hd rd Jd sd kd => ?_
    · rw [cut_take, List.length_take]; show min j vs.length + 1 ≤ 100000; omega
    refine ⟨_, rfl, _, rfl, _, _, rfl, rfl, ((j + 1 : Nat) : Int), congrArg V.int (by omega), ?_⟩
    dsimp only [tNoPart]
    refine Jd.cut (same_tup Jd.sm hmB) fun He re Je se ke => ?_
    refine Je.cat (same_tup se kd) ke ?_ fun Hf rf Jf sf kf => ?_
    · rw [cut_take, cut_drop, List.length_append, List.length_take, List.length_drop]; show min j vs.length + 1 + (vs.length - (j + 1)) ≤ 100000; omega
    rw [cut_take, cut_drop] at kf
    have Df := dp_same (sd.trans (se.trans sf)) _ _ Dc
    have vB := dpAll_same Jf.sm _ _ hvB
    exact ends Hf rf _ (ds.take j ++ [.tuple ej.reverse] ++ ds.drop (j + 1)) l _ Jf kf (dpAll_app (dpAll_app (dpAll_take j vB) (.cons Df .nil)) (dpAll_drop (j + 1) vB)) (comps_of comps (comp_tuple (fun x hx => tj x (List.mem_reverse.mp hx)) (by rw [List.length_reverse]; omega))) (by rw [List.length_append, List.length_append, List.length_take, List.length_drop]; show min j ds.length + 1 + (ds.length - (j + 1)) ≤ 4; omega)
  refine ⟨_, rfl, rfl, _, rfl, ite2 (fun e3 => ?_) (fun e3 => ?_)⟩
  · refine ⟨_, rfl, _, rfl, 1, rfl, -1, rfl, l, us, rfl, SqL.of J.hl, fun lb nb => ?_⟩
    have J2 := J.new (o := .lst (cutV us (some (-1)) none)) nb
    have kb := J.at (o := .lst (cutV us (some (-1)) none)) nb
    refine ⟨l, lb, us, _, rfl, rfl, J2.hl, off2_all _ _ kb, ?_, fun lc nc => ?_⟩
    · have := cutV_length us (some (-1)) none
      exact Nat.le_of_lt (small_line (by omega))
    have J3 : InvB (M0.off p (upd H7 lb (.lst (cutV us (some (-1)) none)))) p lc (us ++ cutV us (some (-1)) none) _ := InvB.start J2.pl nc
    have J4 : InvB B p lc (us ++ cutV us (some (-1)) none) _ := ⟨(J2.sm.trans off2_sub).trans J3.sm, J3.pl, J3.ne, J3.hl⟩
    have cl := cutV_length us (some (-1)) none
    refine ⟨_, rfl, _, rfl, (j : Int), rfl, J4.cut (same_tup J4.sm hmB) fun Ha ra Ja sa ka => ?_⟩
    refine ⟨_, rfl, lc, (us ++ cutV us (some (-1)) none), rfl, .inl ⟨SqL.of Ja.hl, fun tp np => ⟨by show 1 ≤ sizeLine; decide, fun tq nq => ?_⟩⟩⟩
    have Db := Ja.tupD (K := K) (xs := (us ++ cutV us (some (-1)) none)) (ds := (ej ++ cutD ej)) np (dpAll_same Ja.sm _ _ (dpAll_app huB (cut_dp huB)))
    have sb : Same (off2 p lc Ha) (off2 p lc (upd Ha tp (.tup (us ++ cutV us (some (-1)) none)))) := mono2 np
    have Jb := Ja.new (o := .tup (us ++ cutV us (some (-1)) none)) np
    have sc : Same (off2 p lc (upd Ha tp (.tup (us ++ cutV us (some (-1)) none)))) (off2 p lc (upd (upd Ha tp (.tup (us ++ cutV us (some (-1)) none))) tq (.tup [.ref tp]))) := mono2 nq
    have kc := Jb.at (o := .tup [.ref tp]) nq
    have Jc := Jb.new (o := .tup [.ref tp]) nq
    have Dc := dp_same sc _ _ Db
    refine Jc.cat (same_tup (sb.trans sc) ka) (SqT.of kc) ?_ fun Hd rd Jd sd kd => ?_
    · rw [cut_take, List.length_take]; show min j vs.length + 1 ≤ 100000; omega
    refine ⟨_, rfl, _, rfl, _, _, rfl, rfl, ((j + 1 : Nat) : Int), congrArg V.int (by omega), ?_⟩
    dsimp only [tNoPart]
    refine Jd.cut (same_tup Jd.sm hmB) fun He re Je se ke => ?_
    refine Je.cat (same_tup se kd) ke ?_ fun Hf rf Jf sf kf => ?_
    · rw [cut_take, cut_drop, List.length_append, List.length_take, List.length_drop]; show min j vs.length + 1 + (vs.length - (j + 1)) ≤ 100000; omega
    rw [cut_take, cut_drop] at kf
    have Df := dp_same (sd.trans (se.trans sf)) _ _ Dc
    have vB := dpAll_same Jf.sm _ _ hvB
    exact ends Hf rf _ (ds.take j ++ [.tuple (ej ++ cutD ej)] ++ ds.drop (j + 1)) lc _ Jf kf (dpAll_app (dpAll_app (dpAll_take j vB) (.cons Df .nil)) (dpAll_drop (j + 1) vB)) (comps_of comps (comp_tuple (fun x hx => by rcases List.mem_append.mp hx with z | z; exact tj x z; exact tj x (cutD_mem z)) (by rw [List.length_append]; have := cutD_len ej; omega))) (by rw [List.length_append, List.length_append, List.length_take, List.length_drop]; show min j ds.length + 1 + (ds.length - (j + 1)) ≤ 4; omega)
  refine ⟨_, rfl, rfl, _, rfl, ite2 (fun e4 => ?_) (fun e4 => ?_)⟩
  · refine ⟨_, rfl, 2, rfl, J.cut (same_tup J.sm hmB) fun Ha ra Ja sa ka => ?_⟩
    refine ⟨_, rfl, by show 0 ≤ sizeLine; decide, fun ta na => ⟨by show 1 ≤ sizeLine; decide, fun tb nb => ?_⟩⟩
    have Db := Ja.tupD (K := K) (xs := []) (ds := []) na .nil
    have sb : Same (off2 p l Ha) (off2 p l (upd Ha ta (.tup []))) := mono2 na
    have Jb := Ja.new (o := .tup []) na
    have sc : Same (off2 p l (upd Ha ta (.tup []))) (off2 p l (upd (upd Ha ta (.tup [])) tb (.tup [.ref ta]))) := mono2 nb
    have kc := Jb.at (o := .tup [.ref ta]) nb
    have Jc := Jb.new (o := .tup [.ref ta]) nb
    have Dc := dp_same sc _ _ Db
    refine Jc.cat (same_tup Jc.sm hmB) (SqT.of kc) (by show vs.length + 1 ≤ 100000; omega) fun Hd rd Jd sd kd => ?_
    have Dd := dp_same sd _ _ Dc
    refine ⟨_, rfl, m, vs, rfl, .inr (same_tup off2_all (same_tup Jd.sm hmB)), fun le ne => ?_⟩
    have se : Same (off2 p l Hd) (off2 p l (upd Hd le (.lst vs))) := mono2 ne
    have ke := Jd.at (o := .lst vs) ne
    have Je := Jd.new (o := .lst vs) ne
    refine ⟨_, rfl, m, vs, rfl, same_tup off2_all (same_tup Je.sm hmB), fun tf nf => ?_⟩
    have sf : Same (off2 p l (upd Hd le (.lst vs))) (off2 p l (upd (upd Hd le (.lst vs)) tf (.tup vs.reverse))) := mono2 nf
    have kf := Je.at (o := .tup vs.reverse) nf
    have Jf := Je.new (o := .tup vs.reverse) nf
    refine ⟨_, rfl, by show 5 ≤ sizeLine; decide, fun lg ng => ?_⟩
    have sg : Same (off2 p l (upd (upd Hd le (.lst vs)) tf (.tup vs.reverse))) (off2 p l (upd (upd (upd Hd le (.lst vs)) tf (.tup vs.reverse)) lg (.lst [.ref ra, .ref rd, .ref le, .ref tf, ve]))) := mono2 ng
    have kg := Jf.at (o := .lst [.ref ra, .ref rd, .ref le, .ref tf, ve]) ng
    have Jg := Jf.new (o := .lst [.ref ra, .ref rd, .ref le, .ref tf, ve]) ng
    have ka2 := same_tup (sb.trans (sc.trans (sd.trans (se.trans (sf.trans sg))))) ka
    have kd2 := same_tup (se.trans (sf.trans sg)) kd
    have Dd2 := dp_same (se.trans (sf.trans sg)) _ _ Dd
    have ke2 := (sf.trans sg) _ _ ke
    have kf2 := sg _ _ kf
    generalize upd (upd (upd Hd le (.lst vs)) tf (.tup vs.reverse)) lg (.lst [.ref ra, .ref rd, .ref le, .ref tf, ve]) = Hg at Jg ka2 kd2 Dd2 ke2 kf2 kg ⊢
    refine ⟨_, rfl, p, 5, rfl, Jg.pl, by decide, by decide, fun x4 y4 r4 hx4 hy4 hz4 h04 h14 => ?_⟩
    have og : off2 p l (upd Hg p (.lst [.int x4, .int y4])) = off2 p l Hg := off2_p
    have Jh := Jg.take hx4 hy4 hz4
    rw [← og] at ka2 kd2 Dd2 ke2 kf2 kg
    generalize upd Hg p (.lst [.int x4, .int y4]) = Hh at Jh ka2 kd2 Dd2 ke2 kf2 kg ⊢
    have vB := dpAll_same Jh.sm _ _ hvB
    have hr5 : r4 = 0 ∨ r4 = 1 ∨ r4 = 2 ∨ r4 = 3 ∨ r4 = 4 := by omega
    rcases hr5 with rfl | rfl | rfl | rfl | rfl
    · refine ⟨lg, _, 0, .ref ra, rfl, rfl, SqL.of (off2_all _ _ kg), rfl, ?_⟩
      rw [show (some (2 : Int)) = some ((2 : Nat) : Int) from rfl, cut_take] at ka2
      exact ends Hh ra _ (ds.take 2) l us Jh ka2 (dpAll_take 2 vB) (fun x hx => comps x (List.mem_of_mem_take hx)) (by rw [List.length_take]; omega)
    · refine ⟨lg, _, 1, .ref rd, rfl, rfl, SqL.of (off2_all _ _ kg), rfl, ?_⟩
      refine ends Hh rd _ (ds ++ [.tuple []]) l us Jh kd2 (dpAll_app vB (.cons Dd2 .nil)) (fun x hx => ?_) (by rw [List.length_append]; show ds.length + 1 ≤ 4; omega)
      rcases List.mem_append.mp hx with z | z
      · exact comps x z
      · rw [List.mem_singleton.mp z]; exact comp_tuple (fun _ y => (nomatch y)) (by decide)
    · refine ⟨lg, _, 2, .ref le, rfl, rfl, SqL.of (off2_all _ _ kg), rfl, ?_⟩
      have z := fit_of_list comps (by omega)
      exact q Hh (.ref le) (.list ds) (S0.trans (Jh.sm.trans off2_sub)) Jh.pl (.lst (off2_sub.seq (SqL.of ke2)) (dpAll_same off2_sub _ _ vB)) z.1 z.2
    · refine ⟨lg, _, 3, .ref tf, rfl, rfl, SqL.of (off2_all _ _ kg), rfl, ?_⟩
      exact ends Hh tf _ ds.reverse l us Jh (SqT.of kf2) (dpAll_rev vB) (fun x hx => comps x (List.mem_reverse.mp hx)) (by rw [List.length_reverse]; omega)
    · refine ⟨lg, _, 4, ve, rfl, rfl, SqL.of (off2_all _ _ kg), rfl, ?_⟩
      exact q Hh ve de (S0.trans (Jh.sm.trans off2_sub)) Jh.pl (dp_same (Jh.sm.trans off2_sub) _ _ hoe) od.fit od.slm
  refine ⟨_, rfl, _, rfl, (j : Int), rfl, J.cut (same_tup J.sm hmB) fun Ha ra Ja sa ka => ?_⟩
  refine ⟨_, rfl, _, rfl, by show 4 ≤ sizeLine; decide, fun lb nb => ?_⟩
  have sb : Same (off2 p l Ha) (off2 p l (upd Ha lb (.lst [.ref l, .non, .str "a", ve]))) := mono2 nb
  have kb := Ja.at (o := .lst [.ref l, .non, .str "a", ve]) nb
  have Jb := Ja.new (o := .lst [.ref l, .non, .str "a", ve]) nb
  generalize upd Ha lb (.lst [.ref l, .non, .str "a", ve]) = Hb at sb kb Jb ⊢
  refine ⟨_, rfl, p, 4, rfl, Jb.pl, by decide, by decide, fun x4 y4 r4 hx4 hy4 hz4 h04 h14 => ?_⟩
  have og : off2 p l (upd Hb p (.lst [.int x4, .int y4])) = off2 p l Hb := off2_p
  have Jc := Jb.take hx4 hy4 hz4
  rw [← og] at sb kb
  generalize upd Hb p (.lst [.int x4, .int y4]) = Hc at sb kb Jc ⊢
  obtain ⟨vx, dx, hvx, hcx, hdx⟩ : ∃ vx dx, atI [V.ref l, V.non, V.str "a", ve] r4 = some vx ∧ Comp dx ∧ ∀ H9, InvB B p l us H9 → Dp K (M0.off p H9) vx dx := by
    have hr4 : r4 = 0 ∨ r4 = 1 ∨ r4 = 2 ∨ r4 = 3 := by omega
    rcases hr4 with rfl | rfl | rfl | rfl
    · exact ⟨_, .list ej, rfl, comp_list tj (by omega), fun H9 J9 => .lst (SqL.of (by rw [off_ne J9.ne]; exact J9.hl)) (dpAll_same (J9.sm.trans off2_sub) _ _ huB)⟩
    · exact ⟨_, .none, rfl, (odd_of (d := .none) (by simp [oddD])).comp, fun _ _ => .non⟩
    · exact ⟨_, .str "a", rfl, (odd_of (d := .str "a") (by simp [oddD])).comp, fun _ _ => .str _⟩
    · exact ⟨_, de, rfl, od.comp, fun H9 J9 => dp_same (J9.sm.trans off2_sub) _ _ hoe⟩
  refine ⟨lb, _, r4, vx, rfl, rfl, SqL.of (off2_all _ _ kb), hvx, ?_⟩
  refine ⟨by show 1 ≤ sizeLine; decide, fun tq nq => ?_⟩
  have sc : Same (off2 p l Hc) (off2 p l (upd Hc tq (.tup [vx]))) := mono2 nq
  have kc := Jc.at (o := .tup [vx]) nq
  have Jd := Jc.new (o := .tup [vx]) nq
  refine Jd.cat (same_tup (sb.trans sc) ka) (SqT.of kc) ?_ fun He re Je se ke => ?_
  · rw [cut_take, List.length_take]; show min j vs.length + 1 ≤ 100000; omega
  refine ⟨_, rfl, _, rfl, _, _, rfl, rfl, ((j + 1 : Nat) : Int), congrArg V.int (by omega), ?_⟩
  dsimp only [tNoPart]
  refine Je.cut (same_tup Je.sm hmB) fun Hf rf Jf sf kf => ?_
  refine Jf.cat (same_tup sf ke) kf ?_ fun Hk rk Jk sk kk => ?_
  · rw [cut_take, cut_drop, List.length_append, List.length_take, List.length_drop]; show min j vs.length + 1 + (vs.length - (j + 1)) ≤ 100000; omega
  rw [cut_take, cut_drop] at kk
  have vB := dpAll_same (Jk.sm.trans off2_sub) _ _ hvB
  have z := fit_of_comps (xs := ds.take j ++ [dx] ++ ds.drop (j + 1)) (comps_of comps hcx) (by rw [List.length_append, List.length_append, List.length_take, List.length_drop]; show min j ds.length + 1 + (ds.length - (j + 1)) ≤ 4; omega)
  exact q Hk (.ref rk) _ (S0.trans (Jk.sm.trans off2_sub)) Jk.pl (.tup (same_tup off2_sub kk) (dpAll_app (dpAll_app (dpAll_take j vB) (.cons (hdx Hk Jk) .nil)) (dpAll_drop (j + 1) vB))) z.1 z.2
end
end K12

set_option maxHeartbeats 8000000
namespace K12
open PySem PySem.Spec PyProof.Rows L2 G0 G1 G3 G4 M0
abbrev nLaw : List Str := ["_law_script", "_law_k", "_law_pool_here", "_law_machine_here", "_law_turn", "_law_item", "_law_kept"]
theorem scLaw : FnScope nLaw ["_law_script"] (defScope sLaw) := ⟨rfl, rfl, rfl, by decide +kernel, rfl, by decide +kernel, by decide +kernel⟩
/-- what the law's text finds about it -/
structure Facts (P : Program) (w : World) (K : PySem.W.Frag) (mg : Str → Option Value) (base : Heap) where
  dO : Def P w K mg base 1 "_law_pool" ["_law_script", "_law_k"] (spPool K)
  dM : Def P w K mg base 2 "_law_machine" ["_law_pool_here", "_law_controls"] (spMake K)
  dB : Def P w K mg base 2 "_law_bent" ["_law_pool_here", "_law_machine_here"] (spBent K)
  dI : Def P w K mg base 5 "is_machine" ["thing"] (spAsk K mMachine)
  dD : Def P w K mg base 4 "_law_due" ["_law_item"] (spDue K)
  bI : KBinds K dI.d ["thing"] ["thing"] (fun us ws => us ++ ws) (fun vs zs => vs ++ zs)
  mlen : mg "len" = none
  mmax : mg "max" = none
  mmin : mg "min" = none
  mran : mg "range" = none
  mrep : mg "repr" = none
theorem Fit.shows {d : PyData} (h : Fit d) : d.showable = true ∧ d.depth ≤ 60 ∧ d.shown.length ≤ sizeLine :=
  ⟨nice_show h.nc, by have := h.dep; omega, nice_fits h.nc (by have := h.blk; omega)⟩
theorem fit_bool (b : Bool) : Fit (.bool b) := ⟨nice_bool b, by simp [PyData.depth], by simp [PyData.bulk]⟩
theorem fit_mach {d : PyData} (h : MachD d) : Fit d := by
  obtain ⟨ds, rfl, hP⟩ := parts_of h
  exact (fit_of_comps hP.2.2 (by rw [hP.1]; decide)).1
theorem fit_empty : Fit (.tuple [.tuple [], .tuple [], .tuple []]) := ⟨by decide +kernel, by decide +kernel, by decide +kernel⟩
theorem pool_same {H H' : Hp} {p : Addr} (h : Pool H p) (s : Same H H') : Pool H' p := by
  obtain ⟨x, y, e, r⟩ := h
  exact ⟨x, y, s _ _ e, r⟩
theorem c1 : ctlOk [0] := ⟨by decide, by decide⟩
theorem c2 : ctlOk [1, 0] := ⟨by decide, by decide⟩
theorem c3 : ctlOk [] := ⟨by decide, by decide⟩
theorem c4 : ctlOk [-3, 2] := ⟨by decide, by decide⟩
section
variable {P : Program} {w : World} {K : PySem.W.Frag} {mg : Str → Option Value} {base : Heap}
theorem law_body (X : Facts P w K mg base) {fa : Addr} {cdv : Value} {s : Shared} {H : Hp} {a : Addr} {ns : List Int} (hS : SqL K H a (ns.map V.int)) (hl : ns.length ≤ 63)
    (hr : Room 5 (callerA.deeper (envOfC "law" (defScope sLaw) s.heap.objs.size fa cdv))) :
    ∃ t, PSs (cxOf CX0 P w K mg base nLaw "law" (defScope sLaw) fa cdv callerA [] s H (fun _ _ _ => False)).nox (defBody sLaw) t ∧ t { nx := fun _ _ => False, rt := fun v _ => v = .bl true } (start nLaw [.ref a]) H := by
  have nd := scLaw.nd
  have hr1 := hr.mono (show 1 ≤ 5 by decide)
  have hr2 := hr.mono (show 2 ≤ 5 by decide)
  have hr4 := hr.mono (show 4 ≤ 5 by decide)
  refine ⟨_, pss_cons (ps_for PassesOwn.never rfl (pi_range1 (by rfl) X.mran (pa_cons (pe_callB (call_max2 rfl) (by rfl) X.mmax (by decide +kernel) (pa_cons pe_int (pa_cons (pe_callB (call_min2 rfl) (by rfl) X.mmin (by decide +kernel) (pa_cons pe_int (pa_cons (pe_callB call_len_seq (by rfl) X.mlen PySem.boot_len (pa_cons (pv 0) pa_nil)) pa_nil))) pa_nil))) pa_nil)) (pg_name (i := 1) nd rfl (.inl rfl))
      (pss_cons (ps_set (i := 2) nd rfl (.inl rfl) (pe_call X.dO.ok hr1 (by rfl) X.dO.g X.dO.kp X.dO.b .nil pass0 (pa_cons (pv 0) (pa_cons (pv 1) pa_nil))))
      (pss_cons (ps_set (i := 3) nd rfl (.inl rfl) (pe_call X.dM.ok hr2 (by rfl) X.dM.g X.dM.kp X.dM.b .nil pass0 (pa_cons (pv 2) (pa_cons (pe_lst (pa_cons (pe_tup (pa_cons pe_int pa_nil)) (pa_cons (pe_tup (pa_cons pe_int (pa_cons pe_int pa_nil))) (pa_cons (pe_tup pa_nil) (pa_cons (pe_tup (pa_cons (pe_un un_neg pe_int) (pa_cons pe_int pa_nil))) pa_nil))))) pa_nil))))
      (pss_cons (ps_if (PW.pt (pw_or (pt_cmpR op_notBl (pe_call X.dI.ok hr (by rfl) X.dI.g X.dI.kp X.dI.b .nil pass0 (pa_cons (pv 3) pa_nil)) pe_bl (nomark _))
          (pw_or1 (pt_cmpR op_notBl (pe_named X.dI.ok hr (by rfl) X.dI.g X.dI.kp X.bI pass0 (pk_cons (pe_tup (pa_cons (pe_tup pa_nil) (pa_cons (pe_tup pa_nil) (pa_cons (pe_tup pa_nil) pa_nil)))) pk_nil)) pe_bl (nomark _)))))
        (pss_one (ps_ret pe_bl)) pss_nil)
      (pss_one (ps_for PassesOwn.never rfl (pi_range1 (by rfl) X.mran (pa_cons pe_int pa_nil)) (pg_name (i := 4) nd rfl (.inl rfl))
        (pss_cons (ps_set (i := 5) nd rfl (.inl rfl) (pe_call X.dB.ok hr2 (by rfl) X.dB.g X.dB.kp X.dB.b .nil pass0 (pa_cons (pv 2) (pa_cons (pv 3) pa_nil))))
        (pss_cons (ps_set (i := 6) nd rfl (.inl rfl) (pe_callB (call_reprD rfl hr.units) (by rfl) X.mrep (by decide +kernel) (pa_cons (pv 5) pa_nil)))
        (pss_one (ps_if (PW.pt (pw_or (pt_cmpR op_ne (pe_callB (call_reprD rfl hr.units) (by rfl) X.mrep (by decide +kernel) (pa_cons (pe_call X.dI.ok hr (by rfl) X.dI.g X.dI.kp X.dI.b .nil pass0 (pa_cons (pv 5) pa_nil)) pa_nil)) (pe_callB (call_reprD rfl hr.units) (by rfl) X.mrep (by decide +kernel) (pa_cons (pe_call X.dD.ok hr4 (by rfl) X.dD.g X.dD.kp X.dD.b .nil pass0 (pa_cons (pv 5) pa_nil)) pa_nil)) (nomark _))
            (pw_or1 (pt_cmpR op_ne (pe_callB (call_reprD rfl hr.units) (by rfl) X.mrep (by decide +kernel) (pa_cons (pv 5) pa_nil)) (pv 6) (nomark _)))))
          (pss_one (ps_ret pe_bl)) pss_nil))))))))))
    (pss_one (ps_ret pe_bl)), ?_⟩
  have sz1 : 1 ≤ sizeLine := by decide
  have sz2 : 2 ≤ sizeLine := by decide
  refine ⟨_, rfl, a, _, rfl, .inl hS, _, _, rfl, _, _, rfl, ?_⟩
  obtain ⟨n, en, hn⟩ : ∃ n : Nat, (if (if ((ns.map V.int).length : Int) < (10 : Int) then ((ns.map V.int).length : Int) else (10 : Int)) > 1 then (if ((ns.map V.int).length : Int) < (10 : Int) then ((ns.map V.int).length : Int) else (10 : Int)) else 1) = (n : Int) ∧ n ≤ 10 := by
    refine ⟨(if (if ((ns.map V.int).length : Int) < (10 : Int) then ((ns.map V.int).length : Int) else (10 : Int)) > 1 then (if ((ns.map V.int).length : Int) < (10 : Int) then ((ns.map V.int).length : Int) else (10 : Int)) else 1).toNat, ?_, ?_⟩ <;> (split <;> split <;> omega)
  refine ⟨(n : Int), congrArg (fun z => [V.int z]) en, by omega, by omega, ?_⟩
  rw [show ((n : Int)).toNat = n from Int.toNat_natCast n]
  refine for_range (n := n) (fun i σ H3 => ∃ y1 y2 y3 y4 y5 y6, σ = [some (.ref a), y1, y2, y3, y4, y5, y6] ∧ SqL K H3 a (ns.map V.int))
    ⟨none, none, none, none, none, none, rfl, hS⟩ (fun i σ H1 hi hP => ?_) (fun σ H3 hP => ?_)
  · obtain ⟨y1, y2, y3, y4, y5, y6, rfl, hS1⟩ := hP
    refine ⟨_, rfl, _, rfl, a, ns, i, congrArg (fun z : Int => [V.ref a, V.int z]) (Int.zero_add (i : Int)), hS1, by omega, fun p x0 y0 np hx0 hy0 hy20 => ?_⟩
    have pl : Pool (upd H1 p (.lst [.int x0, .int y0])) p := ⟨x0, y0, upd_same, hx0, hy0, hy20⟩
    have sO : Same H1 (M0.off p (upd H1 p (.lst [.int x0, .int y0]))) := off_new np
    generalize upd H1 p (.lst [.int x0, .int y0]) = H2 at pl sO ⊢
    -- the controls
    refine ⟨_, rfl, sz1, fun t1 n1 => ⟨sz2, fun t2 n2 => ⟨Nat.zero_le _, fun t3 n3 => ⟨3, rfl, sz2, fun t4 n4 => ⟨by show 4 ≤ sizeLine; decide, fun lc n5 => ?_⟩⟩⟩⟩⟩
    have s1 := same_new (o := .tup [.int 0]) n1
    have s2 := same_new (o := .tup [.int 1, .int 0]) n2
    have s3 := same_new (o := .tup []) n3
    have s4 := same_new (o := .tup [.int (-3), .int 2]) n4
    have s5 := same_new (o := .lst [.ref t1, .ref t2, .ref t3, .ref t4]) n5
    have q1 := pool_ne pl n1
    have pl1 := pool_same pl s1
    have q2 := pool_ne pl1 n2
    have pl2 := pool_same pl1 s2
    have q3 := pool_ne pl2 n3
    have pl3 := pool_same pl2 s3
    have q4 := pool_ne pl3 n4
    have pl4 := pool_same pl3 s4
    have q5 := pool_ne pl4 n5
    have pl5 := pool_same pl4 s5
    have mc : Menu K (M0.off p (upd (upd (upd (upd (upd H2 t1 (.tup [.int 0])) t2 (.tup [.int 1, .int 0])) t3 (.tup [])) t4 (.tup [.int (-3), .int 2])) lc (.lst [.ref t1, .ref t2, .ref t3, .ref t4]))) lc [(t1, [0]), (t2, [1, 0]), (t3, []), (t4, [-3, 2])] ctlOk := by
      refine ⟨SqL.of (by rw [off_ne q5]; exact upd_same), fun x hx => ?_⟩
      rcases List.mem_cons.mp hx with rfl | hx
      · exact ⟨SqT.of (by rw [off_ne q1]; exact s5 _ _ (s4 _ _ (s3 _ _ (s2 _ _ upd_same)))), c1⟩
      rcases List.mem_cons.mp hx with rfl | hx
      · exact ⟨SqT.of (by rw [off_ne q2]; exact s5 _ _ (s4 _ _ (s3 _ _ upd_same))), c2⟩
      rcases List.mem_cons.mp hx with rfl | hx
      · exact ⟨SqT.of (by rw [off_ne q3]; exact s5 _ _ (s4 _ _ upd_same)), c3⟩
      rw [List.mem_singleton.mp hx]
      exact ⟨SqT.of (by rw [off_ne q4]; exact s5 _ _ upd_same), c4⟩
    have sP : Same H1 (M0.off p (upd (upd (upd (upd (upd H2 t1 (.tup [.int 0])) t2 (.tup [.int 1, .int 0])) t3 (.tup [])) t4 (.tup [.int (-3), .int 2])) lc (.lst [.ref t1, .ref t2, .ref t3, .ref t4]))) := sO.trans (off_mono (s1.trans (s2.trans (s3.trans (s4.trans s5)))))
    refine ⟨p, lc, _, rfl, pl5, mc, rfl, fun H3 v d s6 pl6 hd hM => ?_⟩
    have sQ : Same H1 (M0.off p H3) := sP.trans s6
    clear sP s6 mc pl5 pl4 pl3 pl2 pl1 q1 q2 q3 q4 q5 s1 s2 s3 s4 s5 n1 n2 n3 n4 n5 sO pl
    obtain ⟨m, rfl⟩ : ∃ m, v = .ref m := by
      obtain ⟨ds, rfl, _⟩ := parts_of hM
      cases hd with
      | tup _ _ => exact ⟨_, rfl⟩
    -- is_machine(machine) is not True
    refine ⟨_, rfl, .ref m, d, rfl, dp_same off_sub _ _ hd, fit_mach hM, fun H4 s7 => ⟨_, _, rfl, rfl, _, rfl, ?_⟩⟩
    rw [hM.ok]
    refine iteF ?_
    have sR : Same H1 (M0.off p H4) := sQ.trans (off_mono s7)
    have hd4 := dp_same (off_mono (p := p) s7) _ _ hd
    have pl7 := pool_same pl6 s7
    refine ⟨Nat.zero_le _, fun t1 n1 => ⟨Nat.zero_le _, fun t2 n2 => ⟨Nat.zero_le _, fun t3 n3 => ⟨by show 3 ≤ sizeLine; decide, fun t4 n4 => ?_⟩⟩⟩⟩
    have s1 := same_new (o := .tup []) n1
    have s2 := same_new (o := .tup []) n2
    have s3 := same_new (o := .tup []) n3
    have s4 := same_new (o := .tup [.ref t1, .ref t2, .ref t3]) n4
    have de : Dp K (upd (upd (upd (upd H4 t1 (.tup [])) t2 (.tup [])) t3 (.tup [])) t4 (.tup [.ref t1, .ref t2, .ref t3])) (.ref t4) (.tuple [.tuple [], .tuple [], .tuple []]) :=
      .tup (SqT.of upd_same) (.cons (.tup (SqT.of (s4 _ _ (s3 _ _ (s2 _ _ upd_same)))) .nil) (.cons (.tup (SqT.of (s4 _ _ (s3 _ _ upd_same))) .nil) (.cons (.tup (SqT.of (s4 _ _ upd_same)) .nil) .nil)))
    refine ⟨.ref t4, _, rfl, de, fit_empty, fun H5 s8 => ⟨_, _, rfl, rfl, _, rfl, iteNS rfl ?_⟩⟩
    have s9 : Same H4 H5 := s1.trans (s2.trans (s3.trans (s4.trans s8)))
    have sS : Same H1 (M0.off p H5) := sR.trans (off_mono s9)
    have hd5 := dp_same (off_mono (p := p) s9) _ _ hd4
    have pl8 := pool_same pl7 s9
    clear de s8 s9 s1 s2 s3 s4 n1 n2 n3 n4 sR hd4 pl7 sQ s7 hd pl6
    -- fourteen things
    refine ⟨14, rfl, by decide, by decide, for_range (n := 14) (fun i' σ H6 => ∃ w4 w5 w6, σ = [some (.ref a), some (.int (0 + (i : Int))), some (.ref p), some (.ref m), w4, w5, w6] ∧ Same (M0.off p H5) (M0.off p H6) ∧ Pool H6 p)
      ⟨y4, y5, y6, rfl, Same.refl _, pl8⟩ (fun i' σ H6 hi' hP => ?_) (fun σ H6 hP => ?_)⟩
    · obtain ⟨w4, w5, w6, rfl, sm, pl9⟩ := hP
      refine ⟨_, rfl, _, rfl, p, m, d, rfl, pl9, dp_same sm _ _ hd5, hM, fun H7 v e s10 pl10 he ft sl => ?_⟩
      have he7 := dp_same off_sub _ _ he
      have sh := ft.shows
      refine ⟨_, rfl, v, e, rfl, he7, sh.1, sh.2.1, sh.2.2, ?_⟩
      refine ⟨_, rfl, v, e, rfl, he7, ft, fun H8 s11 => ⟨_, .bool (mMachine e), rfl, .bl _, (fit_bool _).shows.1, (fit_bool _).shows.2.1, (fit_bool _).shows.2.2, ?_⟩⟩
      refine ⟨_, rfl, v, e, rfl, dp_same s11 _ _ he7, ft, sl, fun H9 s12 => ⟨_, .bool (mMachine e), rfl, .bl _, (fit_bool _).shows.1, (fit_bool _).shows.2.1, (fit_bool _).shows.2.2, rfl, _, rfl, ?_⟩⟩
      rw [show (!decide (V.str (PyData.bool (mMachine e)).shown = V.str (PyData.bool (mMachine e)).shown)) = false by rw [decide_eq_true rfl]; rfl]
      refine iteF ⟨_, rfl, v, e, rfl, dp_same (s11.trans s12) _ _ he7, sh.1, sh.2.1, sh.2.2, _, rfl, rfl, _, rfl, iteNS rfl ?_⟩
      exact ⟨_, _, _, rfl, sm.trans (s10.trans (off_mono (s11.trans s12))), pool_same pl10 (s11.trans s12)⟩
    · obtain ⟨w4, w5, w6, rfl, sm, pl9⟩ := hP
      exact ⟨_, _, _, _, _, _, rfl, off_sub.seq ((sS.trans sm).seq hS1)⟩
  · exact rfl
end
end K12

set_option maxHeartbeats 8000000
namespace K12
open PySem PySem.Spec PyProof.Rows L2 G0 G1 G3 G4 M0
/-- thing by place or by its name -/
theorem mach_named {K : PySem.W.Frag} {f : Addr} {fd : FuncData} (F : Fun K "is_machine" "is_machine" sMach f fd) : KBinds K fd ["thing"] ["thing"] (fun us ws => us ++ ws) (fun vs zs => vs ++ zs) := by
  obtain ⟨oc, od, kV, doc, pm, an, cdv, ct, osl, rfl, lk, hcd⟩ := F.ex
  refine ⟨fun s us ws _ hl => ?_, fun r1 r2 => r1.append r2⟩
  match us, ws, hl with
  | [], [v], _ => exact .of_eq rfl
  | [v], [], _ => exact .of_eq rfl
  | [], [], h => simp at h
  | _ :: _ :: _, _, h => simp at h
  | [_], _ :: _, h => simp at h
  | [], _ :: _ :: _, h => simp at h
/-- a def where the top has put it -/
def At (K : PySem.W.Frag) (x : Str) (st : Stmt) (f : Addr) : Prop :=
  PySem.W.nsIn K mainGlobals x = some (some (.ref f)) ∧ ∃ (od an : Option Addr) (sl : Array (Option Value)) (oc kV dc pm cd ct : Value),
    K.lookup f = some ⟨oc, od, .func (PySem.W.fnOf x x (defArgs st) (defBody st) (defScope st) .none kV dc pm an cd ct), sl⟩ ∧ PySem.W.codeIn K cd x = true ∧ PySem.W.keepIn K (.ref f) = true
theorem at_mk {K : PySem.W.Frag} {x : Str} {st : Stmt} {f : Addr} {od an : Option Addr} {sl : Array (Option Value)} {oc kV dc pm cd ct : Value} (a : PySem.W.nsIn K mainGlobals x = some (some (.ref f)))
    (l : K.lookup f = some ⟨oc, od, .func (PySem.W.fnOf x x (defArgs st) (defBody st) (defScope st) .none kV dc pm an cd ct), sl⟩) (c : PySem.W.codeIn K cd x = true) (k : PySem.W.keepIn K (.ref f) = true) : At K x st f := ⟨a, od, an, sl, oc, kV, dc, pm, cd, ct, l, c, k⟩
theorem At.fn {K : PySem.W.Frag} {x : Str} {st : Stmt} {f : Addr} (h : At K x st f) : ∃ fd, Fun K x x st f fd := by
  obtain ⟨_, od, an, sl, oc, kV, dc, pm, cd, ct, l, c, k⟩ := h
  exact ⟨_, fun_mk l c k⟩
theorem all_mk {P : Program} {w : World} {K : PySem.W.Frag} {h : Heap} {mg : Str → Option Value} {fa fW fT fG fN fC fE fR fI fK fO fM fA fB fP fD fQ fL : Addr} (X : K.In h) (G : h.Ns mainGlobals mg) (hfa : mg "law" = some (.ref fa))
    (aW : At K "is_whole" sWhole fW) (aT : At K "is_tuple" sTuple fT) (aG : At K "is_rising" sRising fG) (aN : At K "is_from_nought" sNought fN) (aC : At K "is_control_with_state" sCtl fC) (aE : At K "is_edge" sEdge fE) (aR : At K "are_rising" sRise fR) (aI : At K "is_machine" sMach fI) (aK : At K "_law_take" sTake fK) (aO : At K "_law_pool" sPool fO) (aM : At K "_law_machine" sMake fM) (aA : At K "_law_whole" sLWhole fA) (aB : At K "_law_are_wholes" sLWholes fB) (aP : At K "_law_is_part" sPart fP) (aD : At K "_law_due" sDue fD) (aQ : At K "_law_bent" sBent fQ) (aL : At K "law" sLaw fL)
    (z0 : PySem.W.nsIn K mainGlobals "len" = some none) (z1 : PySem.W.nsIn K mainGlobals "max" = some none) (z2 : PySem.W.nsIn K mainGlobals "min" = some none) (z3 : PySem.W.nsIn K mainGlobals "range" = some none) (z4 : PySem.W.nsIn K mainGlobals "repr" = some none) (z5 : PySem.W.nsIn K mainGlobals "isinstance" = some none) (z6 : PySem.W.nsIn K mainGlobals "int" = some none) (z7 : PySem.W.nsIn K mainGlobals "bool" = some none) (z8 : PySem.W.nsIn K mainGlobals "tuple" = some none) (z9 : PySem.W.nsIn K mainGlobals "all" = some none) (z10 : PySem.W.nsIn K mainGlobals "list" = some none) (z11 : PySem.W.nsIn K mainGlobals "sorted" = some none) (z12 : PySem.W.nsIn K mainGlobals "set" = some none) (z13 : PySem.W.nsIn K mainGlobals "enumerate" = some none) (z14 : PySem.W.nsIn K mainGlobals "abs" = some none) :
    LawDef P w K mg 5 fa "_law_script" (fun H a ns => SqL K H a (ns.map V.int) ∧ ns.length ≤ 63) := by
  have e := hfa.symm.trans (PySem.W.mg_of X G aL.1)
  cases e
  obtain ⟨dW, FW⟩ := aW.fn
  obtain ⟨dT, FT⟩ := aT.fn
  obtain ⟨dG, FG⟩ := aG.fn
  obtain ⟨dN, FN⟩ := aN.fn
  obtain ⟨dC, FC⟩ := aC.fn
  obtain ⟨dE, FE⟩ := aE.fn
  obtain ⟨dR, FR⟩ := aR.fn
  obtain ⟨dI, FI⟩ := aI.fn
  obtain ⟨dK, FK⟩ := aK.fn
  obtain ⟨dO, FO⟩ := aO.fn
  obtain ⟨dM, FM⟩ := aM.fn
  obtain ⟨dA, FA⟩ := aA.fn
  obtain ⟨dB, FB⟩ := aB.fn
  obtain ⟨dP, FP⟩ := aP.fn
  obtain ⟨dD, FD⟩ := aD.fn
  obtain ⟨dQ, FQ⟩ := aQ.fn
  have bW := FW.binds (ps := ["thing"]) fun _ _ _ _ _ _ us hl => match us, hl with | [_], _ => rfl
  have bT := FT.binds (ps := ["thing", "fewest", "most"]) fun _ _ _ _ _ _ us hl => match us, hl with | [_, _, _], _ => rfl
  have bG := FG.binds (ps := ["things"]) fun _ _ _ _ _ _ us hl => match us, hl with | [_], _ => rfl
  have bN := FN.binds (ps := ["thing"]) fun _ _ _ _ _ _ us hl => match us, hl with | [_], _ => rfl
  have bC := FC.binds (ps := ["thing"]) fun _ _ _ _ _ _ us hl => match us, hl with | [_], _ => rfl
  have bE := FE.binds (ps := ["thing"]) fun _ _ _ _ _ _ us hl => match us, hl with | [_], _ => rfl
  have bR := FR.binds (ps := ["thing", "check"]) fun _ _ _ _ _ _ us hl => match us, hl with | [_, _], _ => rfl
  have bI := FI.binds (ps := ["thing"]) fun _ _ _ _ _ _ us hl => match us, hl with | [_], _ => rfl
  have bK := FK.binds (ps := ["_law_pool_here", "_law_many"]) fun _ _ _ _ _ _ us hl => match us, hl with | [_, _], _ => rfl
  have bO := FO.binds (ps := ["_law_script", "_law_k"]) fun _ _ _ _ _ _ us hl => match us, hl with | [_, _], _ => rfl
  have bM := FM.binds (ps := ["_law_pool_here", "_law_controls"]) fun _ _ _ _ _ _ us hl => match us, hl with | [_, _], _ => rfl
  have bA := FA.binds (ps := ["_law_item", "_law_low"]) fun _ _ _ _ _ _ us hl => match us, hl with | [_, _], _ => rfl
  have bB := FB.binds (ps := ["_law_item", "_law_low"]) fun _ _ _ _ _ _ us hl => match us, hl with | [_, _], _ => rfl
  have bP := FP.binds (ps := ["_law_kind", "_law_one"]) fun _ _ _ _ _ _ us hl => match us, hl with | [_, _], _ => rfl
  have bD := FD.binds (ps := ["_law_item"]) fun _ _ _ _ _ _ us hl => match us, hl with | [_], _ => rfl
  have bQ := FQ.binds (ps := ["_law_pool_here", "_law_machine_here"]) fun _ _ _ _ _ _ us hl => match us, hl with | [_, _], _ => rfl
  have gW := PySem.W.mg_of X G aW.1
  have gT := PySem.W.mg_of X G aT.1
  have gG := PySem.W.mg_of X G aG.1
  have gN := PySem.W.mg_of X G aN.1
  have gC := PySem.W.mg_of X G aC.1
  have gE := PySem.W.mg_of X G aE.1
  have gR := PySem.W.mg_of X G aR.1
  have gI := PySem.W.mg_of X G aI.1
  have gK := PySem.W.mg_of X G aK.1
  have gO := PySem.W.mg_of X G aO.1
  have gM := PySem.W.mg_of X G aM.1
  have gA := PySem.W.mg_of X G aA.1
  have gB := PySem.W.mg_of X G aB.1
  have gP := PySem.W.mg_of X G aP.1
  have gD := PySem.W.mg_of X G aD.1
  have gQ := PySem.W.mg_of X G aQ.1
  have n0 := PySem.W.mg_none_of X G z0
  have n1 := PySem.W.mg_none_of X G z1
  have n2 := PySem.W.mg_none_of X G z2
  have n3 := PySem.W.mg_none_of X G z3
  have n4 := PySem.W.mg_none_of X G z4
  have n5 := PySem.W.mg_none_of X G z5
  have n6 := PySem.W.mg_none_of X G z6
  have n7 := PySem.W.mg_none_of X G z7
  have n8 := PySem.W.mg_none_of X G z8
  have n9 := PySem.W.mg_none_of X G z9
  have n10 := PySem.W.mg_none_of X G z10
  have n11 := PySem.W.mg_none_of X G z11
  have n12 := PySem.W.mg_none_of X G z12
  have n13 := PySem.W.mg_none_of X G z13
  have n14 := PySem.W.mg_none_of X G z14
  obtain ⟨_, od, an, sl, oc, kV, dc, pm, cd, ct, l, c, k⟩ := aL
  refine ⟨_, "law", "law", defArgs sLaw, defBody sLaw, defScope sLaw, .none, kV, dc, pm, cd, ct, oc, an, od, sl, nLaw, rfl, l, c, scLaw, fun s v => .of_eq rfl, fun base _ _ s H a ns hw hr => ?_⟩
  have W1 : Def P w K mg base 1 "is_whole" ["thing"] (spAsk K mWhole) := ⟨fW, dW, ok_whole (k := 0) FW n5 n6 n7, gW, FW.kp, bW⟩
  have W2 : Def P w K mg base 2 "is_whole" ["thing"] (spAsk K mWhole) := ⟨fW, dW, ok_whole (k := 1) FW n5 n6 n7, gW, FW.kp, bW⟩
  have T2 : Def P w K mg base 2 "is_tuple" ["thing", "fewest", "most"] (spTuple K) := ⟨fT, dT, ok_tuple (k := 1) FT n5 n8 n0, gT, FT.kp, bT⟩
  have T4 : Def P w K mg base 4 "is_tuple" ["thing", "fewest", "most"] (spTuple K) := ⟨fT, dT, ok_tuple (k := 3) FT n5 n8 n0, gT, FT.kp, bT⟩
  have okW1 : FnOk P w K mg base CX0 (0 + 1) fW dW ["thing"] (spAsk K mWhole) := ok_whole FW n5 n6 n7
  have okW2 : FnOk P w K mg base CX0 (1 + 1) fW dW ["thing"] (spAsk K mWhole) := ok_whole FW n5 n6 n7
  have N2 : Def P w K mg base 2 "is_from_nought" ["thing"] (spAsk K mNought) := ⟨fN, dN, ok_nought (k := 0) FN okW1 gW FW.kp bW, gN, FN.kp, bN⟩
  have N3 : Def P w K mg base 3 "is_from_nought" ["thing"] (spAsk K mNought) := ⟨fN, dN, ok_nought (k := 1) FN okW2 gW FW.kp bW, gN, FN.kp, bN⟩
  have C3 : Def P w K mg base 3 "is_control_with_state" ["thing"] (spAsk K mCtl) := ⟨fC, dC, ok_ctl (k := 0) FC T2 W2 N2 n5 n8 n9, gC, FC.kp, bC⟩
  have E3 : Def P w K mg base 3 "is_edge" ["thing"] (spAsk K mEdge) := ⟨fE, dE, ok_edge (k := 0) FE T2 N2 n9, gE, FE.kp, bE⟩
  have G3 : Def P w K mg base 3 "is_rising" ["things"] (spRising K) := ⟨fG, dG, ok_rising (k := 2) FG n9 n3 n0, gG, FG.kp, bG⟩
  have R4 : Def P w K mg base 4 "are_rising" ["thing", "check"] (spRise P w K mg base 3) := ⟨fR, dR, ok_rise (k := 2) FR G3 n5 n8 n9, gR, FR.kp, bR⟩
  have I5 : Def P w K mg base 5 "is_machine" ["thing"] (spAsk K mMachine) := ⟨fI, dI, ok_mach (k := 0) FI T4 R4 C3 E3 N3, gI, FI.kp, bI⟩
  have K1 : Def P w K mg base 1 "_law_take" ["_law_pool_here", "_law_many"] spTake := ⟨fK, dK, ok_take (k := 0) FK, gK, FK.kp, bK⟩
  have O1 : Def P w K mg base 1 "_law_pool" ["_law_script", "_law_k"] (spPool K) := ⟨fO, dO, ok_pool (k := 0) FO n0 n14 n6, gO, FO.kp, bO⟩
  have M2 : Def P w K mg base 2 "_law_machine" ["_law_pool_here", "_law_controls"] (spMake K) := ⟨fM, dM, ok_make (k := 0) FM K1 n3 n0 n8 n11, gM, FM.kp, bM⟩
  have Q2 : Def P w K mg base 2 "_law_bent" ["_law_pool_here", "_law_machine_here"] (spBent K) := ⟨fQ, dQ, ok_bent (k := 0) FQ K1 n0 n10 n8, gQ, FQ.kp, bQ⟩
  have A1 : Def P w K mg base 1 "_law_whole" ["_law_item", "_law_low"] (spLow K mLow) := ⟨fA, dA, ok_lwhole (k := 0) FA n5 n6 n7, gA, FA.kp, bA⟩
  have A2 : Def P w K mg base 2 "_law_whole" ["_law_item", "_law_low"] (spLow K mLow) := ⟨fA, dA, ok_lwhole (k := 1) FA n5 n6 n7, gA, FA.kp, bA⟩
  have B2 : Def P w K mg base 2 "_law_are_wholes" ["_law_item", "_law_low"] (spLow K mWholes) := ⟨fB, dB, ok_lwholes (k := 0) FB A1 n5 n8, gB, FB.kp, bB⟩
  have P3 : Def P w K mg base 3 "_law_is_part" ["_law_kind", "_law_one"] (spPart K) := ⟨fP, dP, ok_part (k := 0) FP A2 B2 n5 n8 n0, gP, FP.kp, bP⟩
  have D4 : Def P w K mg base 4 "_law_due" ["_law_item"] (spDue K) := ⟨fD, dD, ok_due (k := 0) FD P3 n5 n8 n0 n13 n10 n11 n12, gD, FD.kp, bD⟩
  obtain ⟨t, h1, h2⟩ := law_body (P := P) (w := w) (K := K) (mg := mg) (base := base)
    { dO := O1, dM := M2, dB := Q2, dI := ⟨fI, dI, ok_mach (k := 0) FI T4 R4 C3 E3 N3, gI, FI.kp, bI⟩, dD := D4, bI := mach_named FI,
      mlen := n0, mmax := n1, mmin := n2, mran := n3, mrep := n4 } hw.1 hw.2 hr
  exact ⟨t, h1.nox, h2⟩
end K12
open PySem PySem.W PyProof.Rows
set_option maxHeartbeats 0 in
theorem PySem.Challenge.cw_fewturnsover_k12_what_are_machines_holds : PySem.Challenge.rw_fewturnsover_k12_what_are_machines.Holds := by
  w_on; o_law; k_head; (case hw => w_witness2)
  k_fill
  refine G2.walk_G (l := PySem.Challenge.rw_fewturnsover_k12_what_are_machines) (n := 63) (k := 5) (x := "_law_script") (fun K H a ns => L2.SqL K H a (ns.map L2.V.int) ∧ ns.length ≤ 63) rfl (by decide) rfl ⟨rfl, by decide, by decide⟩ (fun w h Y => PySem.W.kIn_of Y) ?F (fun _ _ _ _ hl _ hS => ⟨hS, hl⟩)
  case F =>
    intro w mg fa h KX G hmg
    refine' K12.all_mk KX G hmg (K12.at_mk ?a0 ?b0 ?c0 ?d0) (K12.at_mk ?a1 ?b1 ?c1 ?d1) (K12.at_mk ?a2 ?b2 ?c2 ?d2) (K12.at_mk ?a3 ?b3 ?c3 ?d3) (K12.at_mk ?a4 ?b4 ?c4 ?d4) (K12.at_mk ?a5 ?b5 ?c5 ?d5) (K12.at_mk ?a6 ?b6 ?c6 ?d6) (K12.at_mk ?a7 ?b7 ?c7 ?d7) (K12.at_mk ?a8 ?b8 ?c8 ?d8) (K12.at_mk ?a9 ?b9 ?c9 ?d9) (K12.at_mk ?a10 ?b10 ?c10 ?d10) (K12.at_mk ?a11 ?b11 ?c11 ?d11) (K12.at_mk ?a12 ?b12 ?c12 ?d12) (K12.at_mk ?a13 ?b13 ?c13 ?d13) (K12.at_mk ?a14 ?b14 ?c14 ?d14) (K12.at_mk ?a15 ?b15 ?c15 ?d15) (K12.at_mk ?a16 ?b16 ?c16 ?d16) ?z0 ?z1 ?z2 ?z3 ?z4 ?z5 ?z6 ?z7 ?z8 ?z9 ?z10 ?z11 ?z12 ?z13 ?z14
    (case a0 => k_is); (case b0 => k_is); (case c0 => k_is); (case d0 => k_is)
    (case a1 => k_is); (case b1 => k_is); (case c1 => k_is); (case d1 => k_is)
    (case a2 => k_is); (case b2 => k_is); (case c2 => k_is); (case d2 => k_is)
    (case a3 => k_is); (case b3 => k_is); (case c3 => k_is); (case d3 => k_is)
    (case a4 => k_is); (case b4 => k_is); (case c4 => k_is); (case d4 => k_is)
    (case a5 => k_is); (case b5 => k_is); (case c5 => k_is); (case d5 => k_is)
    (case a6 => k_is); (case b6 => k_is); (case c6 => k_is); (case d6 => k_is)
    (case a7 => k_is); (case b7 => k_is); (case c7 => k_is); (case d7 => k_is)
    (case a8 => k_is); (case b8 => k_is); (case c8 => k_is); (case d8 => k_is)
    (case a9 => k_is); (case b9 => k_is); (case c9 => k_is); (case d9 => k_is)
    (case a10 => k_is); (case b10 => k_is); (case c10 => k_is); (case d10 => k_is)
    (case a11 => k_is); (case b11 => k_is); (case c11 => k_is); (case d11 => k_is)
    (case a12 => k_is); (case b12 => k_is); (case c12 => k_is); (case d12 => k_is)
    (case a13 => k_is); (case b13 => k_is); (case c13 => k_is); (case d13 => k_is)
    (case a14 => k_is); (case b14 => k_is); (case c14 => k_is); (case d14 => k_is)
    (case a15 => k_is); (case b15 => k_is); (case c15 => k_is); (case d15 => k_is)
    (case a16 => k_is); (case b16 => k_is); (case c16 => k_is); (case d16 => k_is)
    (case z0 => k_is); (case z1 => k_is); (case z2 => k_is); (case z3 => k_is); (case z4 => k_is); (case z5 => k_is); (case z6 => k_is); (case z7 => k_is); (case z8 => k_is); (case z9 => k_is); (case z10 => k_is); (case z11 => k_is); (case z12 => k_is); (case z13 => k_is); (case z14 => k_is)
