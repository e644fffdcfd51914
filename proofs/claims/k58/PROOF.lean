import PyProof.Rows.All
import HandS.ForMost
import HandS.IsInst
import HandS.Conv
import HandS.Lambda
import HandS.TupAny
import HandS.TupMul
import HandS.WideBits
import KE.KSortedM
import PyProof.P3In
import PyProof.ReprRoads
import HandS.Style
import HandS.RevRange
import HandS.DictComp
import HandS.ForExc
import HandS.Property
import KE.GoesEnum
import HandS.Iter
import HandS.ClsMeth
import HandS.ExcOwn
import HandS.Small
import HandS.EndBits
import HandS.Defaults
import HandS.HotCalls
import HandS.ExcField
import HandS.EndTab
import KE.KExcIs
import HandS.ExcIs
import KE.KNestM
import HandS.Deep
import HandS.ExcInit
import HandS.Nested
import KE.KExcSuper
import HandS.FStr
import HandS.Star
import HandS.Strs
import PyProof.StrOps2
import HandS.Text
import PyProof.FitsReplace
import HandS.TupLe
import HandS.Zip
import KE.KDictList
import HandS.ReplaceLit
import PyProof.ReprBulk
import PyProof.Rows.SortStrRead
import PyProof.Rows.RegStrFacts
import PySem.Challenge.RW_learnways_k58_bad_texts
set_option Elab.async false
set_option linter.all false
set_option maxRecDepth 100000
namespace QD
open PySem PySem.Spec PyProof.Rows L2

/-- plain values that a memo keeps -/
inductive Pl where
  | non | bl (b : Bool) | int (i : Int) | str (x : Str) | tup (xs : List Pl)
/-- data, without addresses -/
inductive D where
  | non | bl (b : Bool) | int (i : Int) | str (x : Str) | tup (xs : List D) | lst (xs : List D)
  | scr (xs : List D) | dct (ks : List Key) (vs : List D) | dcl (o : Obj) (kvs : List (Key × V)) | ins (C : Addr) (ns : List Str) (vs : List D) | pen
  | exo (a : Addr) (d : Option Addr) (ns : List Str) (vs : List D) | tab (P : Addr) (q : Str) | two (v w : V) (c d : D) | memo (J : Int → Pl → Prop) | tupN (xs : List D)

mutual
def noLst : D → Bool
  | .lst _ => false
  | .scr _ => false
  | .tup xs => noLsts xs
  | .tupN xs => noLsts xs
  | .dct _ _ => false
  | .dcl _ _ => false
  | .ins _ _ _ => false
  | .pen => false
  | .exo _ _ _ _ => false
  | .tab _ _ => false
  | .two _ _ _ _ => false
  | .memo _ => false
  | _ => true
def noLsts : List D → Bool
  | [] => true
  | x :: xs => noLst x && noLsts xs
end
inductive Gh where
  | pen | hid | memo (K : PySem.W.Frag) (J : Int → Pl → Prop)
abbrev Gm := Addr → Option Gh
def PenI (i j k : Int) : Prop := 0 ≤ i ∧ (j = 0 ∨ j = 1) ∧ 0 ≤ k ∧ k < 2147483647
def PenAt (H : Hp) (a : Addr) : Prop := ∃ i j k : Int, H a = some (.lst [.int i, .int j, .int k]) ∧ PenI i j k
/-- the name of the lambdas of a law -/
def lamQ : Str := "law.<locals>.<lambda>"
/-- the table at P of code objects of that name -/
def TabN (H : Hp) (P : Addr) (q : Str) : Prop := q = lamQ ∧ LamX.TabS H P q
theorem TabN.ext {H H' : Hp} {P : Addr} {q : Str} (t : TabN H P q) (e : ∀ b o, H b = some o → H' b = some o) : TabN H' P q := ⟨t.1, t.2.ext e⟩
/-- what may change: a list, an instance in its making -/
def MutO (o : HO) : Prop := (∃ vs, o = .lst vs) ∨ (∃ C dx fs, o = .ins C dx fs) ∨ ∃ kvs, o = .dK kvs
theorem MutO.nt {o : HO} (m : MutO o) (ps : Array Value) : o ≠ .tbl ps := by
  rintro rfl
  rcases m with ⟨_, e⟩ | ⟨_, _, _, e⟩ | ⟨_, e⟩ <;> cases e
/-- the empty tuple of the written part (a default) -/
def KNil (K : PySem.W.Frag) (a : Addr) : Prop := ∃ (o : Obj) (its : Array Value) (n : Nat), K.lookup a = some o ∧ o.cls = .type "tuple" ∧ o.data = .seq its n ∧ its.size ≤ sizeLine ∧ Vals [] its.toList
mutual
/-- a plain value as it lies there -/
inductive PlT (K : PySem.W.Frag) (H : Hp) : V → Pl → Prop
  | non : PlT K H .non .non
  | bl (b : Bool) : PlT K H (.bl b) (.bl b)
  | int (i : Int) : PlT K H (.int i) (.int i)
  | str (x : Str) : PlT K H (.str x) (.str x)
  | tup {a : Addr} {xs : List V} {ts : List Pl} : Rd H a (.tup xs) → PlTs K H xs ts → PlT K H (.ref a) (.tup ts)
  | knil {a : Addr} : KNil K a → PlT K H (.ref a) (.tup [])
inductive PlTs (K : PySem.W.Frag) (H : Hp) : List V → List Pl → Prop
  | nil : PlTs K H [] []
  | cons {v : V} {vs : List V} {t : Pl} {ts : List Pl} : PlT K H v t → PlTs K H vs ts → PlTs K H (v :: vs) (t :: ts)
end
/-- a dict from ints to plain values, each as J says -/
def MemoAt (K : PySem.W.Frag) (J : Int → Pl → Prop) (H : Hp) (a : Addr) : Prop := ∃ kvs : List (Key × V), H a = some (.dK kvs) ∧ (kvs.map (·.1)).Nodup ∧ ∀ p ∈ kvs, ∃ (i : Nat) (t : Pl), i < 16777215 ∧ p.1 = .inl (i : Int) ∧ J (i : Int) t ∧ PlT K H p.2 t
/-- the tuples stay -/
def TupS (H H' : Hp) : Prop := ∀ a xs, Rd H a (.tup xs) → Rd H' a (.tup xs)
mutual
theorem PlT.ext {K : PySem.W.Frag} {H H' : Hp} (e : TupS H H') : ∀ {v : V} {t : Pl}, PlT K H v t → PlT K H' v t
  | _, _, .non => .non
  | _, _, .bl b => .bl b
  | _, _, .int i => .int i
  | _, _, .str x => .str x
  | _, _, .tup r l => .tup (e _ _ r) (PlTs.ext e l)
  | _, _, .knil z => .knil z
theorem PlTs.ext {K : PySem.W.Frag} {H H' : Hp} (e : TupS H H') : ∀ {vs : List V} {ts : List Pl}, PlTs K H vs ts → PlTs K H' vs ts
  | _, _, .nil => .nil
  | _, _, .cons a b => .cons (PlT.ext e a) (PlTs.ext e b)
end
theorem MemoAt.ext {K : PySem.W.Frag} {J : Int → Pl → Prop} {H H' : Hp} {a : Addr} (m : MemoAt K J H a) (e : TupS H H') (h : ∀ kvs, H a = some (.dK kvs) → H' a = some (.dK kvs)) : MemoAt K J H' a := by
  obtain ⟨kvs, h1, hl, h2⟩ := m
  refine ⟨kvs, h _ h1, hl, fun p hp => ?_⟩
  obtain ⟨i, t, lt, e1, e2, e3⟩ := h2 p hp
  exact ⟨i, t, lt, e1, e2, e3.ext e⟩
theorem TupS.off {H H' : Hp} {p : Addr} (n : ∀ xs, ¬ Rd H p (.tup xs)) (w : ∀ b, b ≠ p → H' b = H b) : TupS H H' := fun a xs r => by
  have ne : a ≠ p := fun z => n xs (by rw [← z]; exact r)
  unfold Rd
  rw [w a ne]
  exact r
theorem MutO.nrd {H : Hp} {p : Addr} {o : HO} (h : H p = some o) (m : MutO o) : ∀ xs, ¬ Rd H p (.tup xs) := fun xs r => by
  rcases r with r | ⟨z, r⟩ <;> rw [h] at r <;> rcases m with ⟨_, m⟩ | ⟨_, _, _, m⟩ | ⟨_, m⟩ <;> rw [m] at r <;> cases r
theorem none_nrd {H : Hp} {p : Addr} (h : H p = none) : ∀ xs, ¬ Rd H p (.tup xs) := fun xs r => by
  rcases r with r | ⟨z, r⟩ <;> rw [h] at r <;> cases r
theorem MemoAt.off {K : PySem.W.Frag} {J : Int → Pl → Prop} {H H' : Hp} {a p : Addr} (m : MemoAt K J H a) (n : ∀ xs, ¬ Rd H p (.tup xs)) (w : ∀ b, b ≠ p → H' b = H b) (ne : a ≠ p) : MemoAt K J H' a :=
  m.ext (TupS.off n w) fun kvs h => by rw [w a ne]; exact h
theorem MemoAt.ne {K : PySem.W.Frag} {J : Int → Pl → Prop} {H : Hp} {a : Addr} (m : MemoAt K J H a) : H a ≠ none := by
  obtain ⟨_, q, _⟩ := m
  rw [q]; simp
theorem MemoAt.big {K : PySem.W.Frag} {J : Int → Pl → Prop} {H H' : Hp} {a : Addr} (m : MemoAt K J H a) (e : ∀ b o, H b = some o → H' b = some o) : MemoAt K J H' a :=
  m.ext (fun a xs r => r.imp (e _ _) fun z => let ⟨u, q⟩ := z; ⟨u, e _ _ q⟩) fun kvs h => e _ _ h
theorem MemoAt.new {K : PySem.W.Frag} {J : Int → Pl → Prop} {H : Hp} {a p : Addr} {o : HO} (m : MemoAt K J H a) (h : H p = none) : MemoAt K J (upd H p o) a :=
  m.off (none_nrd h) (fun b n => upd_ne n) fun z => m.ne (by rw [z]; exact h)
/-- may a step change it? -/
structure Fix (g : Option Gh) : Prop where
  pen : g ≠ some .pen
  memo : ∀ K J, g ≠ some (.memo K J)
@[simp] theorem fix_none : Fix none := ⟨nofun, nofun⟩
@[simp] theorem fix_hid : Fix (some .hid) := ⟨nofun, nofun⟩
theorem fix_cases (g : Option Gh) : g = some .pen ∨ (∃ K J, g = some (.memo K J)) ∨ Fix g := by
  cases g with
  | none => exact .inr (.inr fix_none)
  | some g => cases g with
    | pen => exact .inl rfl
    | hid => exact .inr (.inr fix_hid)
    | memo K J => exact .inr (.inl ⟨K, J, rfl⟩)
structure GOk (G : Gm) (H : Hp) : Prop where
  lst : ∀ a g, G a = some g → ∃ o, H a = some o ∧ MutO o
  pen : ∀ a, G a = some .pen → PenAt H a
  memo : ∀ a K J, G a = some (.memo K J) → MemoAt K J H a

/-- a list of the written part -/
def KLst (K : PySem.W.Frag) (a : Addr) (xs : List V) : Prop := ∃ (o : Obj) (its : Array Value) (n : Nat), K.lookup a = some o ∧ o.cls = .type "list" ∧ o.dict = none ∧ o.data = .seq its n ∧ its.size ≤ sizeLine ∧ Vals xs its.toList
/-- the tuple at a is of an object that has no own dict -/
def NoDict (H : Hp) (a : Addr) (xs : List V) : Prop := ∃ o : Obj, H a = some (.frz o (.tup xs)) ∧ o.cls = .type "tuple" ∧ o.dict = none
mutual
inductive Rep (K : PySem.W.Frag) (G : Gm) (H : Hp) : V → D → Prop
  | non : Rep K G H .non .non
  | bl (b : Bool) : Rep K G H (.bl b) (.bl b)
  | int (i : Int) : Rep K G H (.int i) (.int i)
  | str (x : Str) : Rep K G H (.str x) (.str x)
  | tup {a : Addr} {xs : List V} {ds : List D} : G a = none → Rd H a (.tup xs) → RepL K G H xs ds → Rep K G H (.ref a) (.tup ds)
  | lst {a : Addr} {xs : List V} {ds : List D} : G a = none → H a = some (.lst xs) → RepL K G H xs ds → Rep K G H (.ref a) (.lst ds)
  | scr {a : Addr} {xs : List V} {ds : List D} : ((G a = none ∧ ∃ o, H a = some (.frz o (.lst xs))) ∨ KLst K a xs) → RepL K G H xs ds → Rep K G H (.ref a) (.scr ds)
  | dct {a : Addr} {kvs : List (Key × V)} {ks : List Key} {ds : List D} : G a = none → Rd H a (.dK kvs) → kvs.map (·.1) = ks → RepL K G H (kvs.map (·.2)) ds → Rep K G H (.ref a) (.dct ks ds)
  | dcl {a : Addr} {o : Obj} {kvs : List (Key × V)} : G a = none → H a = some (.frz o (.dK kvs)) → Rep K G H (.ref a) (.dcl o kvs)
  | ins {a C dx : Addr} {fs : List (Str × V)} {ns : List Str} {ds : List D} : G a = none → H a = some (.ins C dx fs) → fs.map (·.1) = ns → RepL K G H (fs.map (·.2)) ds → Rep K G H (.ref a) (.ins C ns ds)
  | pen {a : Addr} : G a = some .pen → PenAt H a → Rep K G H (.ref a) .pen
  | memo {a : Addr} {J : Int → Pl → Prop} : G a = some (.memo K J) → MemoAt K J H a → Rep K G H (.ref a) (.memo J)
  | tupN {a : Addr} {xs : List V} {ds : List D} : G a = none → NoDict H a xs → RepL K G H xs ds → Rep K G H (.ref a) (.tupN ds)
  | knil {a : Addr} : KNil K a → Rep K G H (.ref a) (.tup [])
  | exo0 {a : Addr} : Rep K G H (.ref a) (.exo a none [] [])
  | exo {a dd : Addr} {ns : List Str} {vs : List V} {ds : List D} : G dd = none → H dd = some (.xd (ns.zip vs)) → ns.length = vs.length → RepL K G H vs ds → Rep K G H (.ref a) (.exo a (some dd) ns ds)
  | tab {P : Addr} {q : Str} : TabN H P q → Rep K G H (.ty "") (.tab P q)
  | two {v w : V} {c d : D} : Rep K G H v c → Rep K G H w d → Rep K G H (.ty "") (.two v w c d)
inductive RepL (K : PySem.W.Frag) (G : Gm) (H : Hp) : List V → List D → Prop
  | nil : RepL K G H [] []
  | cons {v : V} {vs : List V} {d : D} {ds : List D} : Rep K G H v d → RepL K G H vs ds → RepL K G H (v :: vs) (d :: ds)
end

variable {K : PySem.W.Frag}
/-- what a step leaves as it was -/
structure Keep (G G' : Gm) (H H' : Hp) : Prop where
  obj : ∀ a o, H a = some o → Fix (G a) → (∀ ps, o ≠ .tbl ps) → H' a = some o
  pen : ∀ a, G a = some .pen → PenAt H a → PenAt H' a
  memo : ∀ a K J, G a = some (.memo K J) → MemoAt K J H a → MemoAt K J H' a
  gh : ∀ a, H a ≠ none → G' a = G a
  tab : ∀ a ps, H a = some (.tbl ps) → ∃ ps', H' a = some (.tbl ps') ∧ ∀ q, TabN H a q → TabN H' a q
theorem Keep.dom {G G' : Gm} {H H' : Hp} (k : Keep G G' H H') (g : GOk G H) {a : Addr} (h : H a ≠ none) : H' a ≠ none := by
  rcases fix_cases (G a) with e | ⟨K, J, e⟩ | e
  · obtain ⟨_, _, _, q, _⟩ := k.pen a e (g.pen a e)
    rw [q]; simp
  · obtain ⟨_, q, _⟩ := k.memo a K J e (g.memo a K J e)
    rw [q]; simp
  · cases q : H a with
    | none => exact absurd q h
    | some o =>
      by_cases z : ∃ ps, o = .tbl ps
      · obtain ⟨ps, rfl⟩ := z
        obtain ⟨ps', q', _⟩ := k.tab a ps q
        rw [q']; simp
      · rw [k.obj a o q e fun ps y => z ⟨ps, y⟩]; simp
theorem Keep.refl (G : Gm) (H : Hp) : Keep G G H H := ⟨fun _ _ h _ _ => h, fun _ _ h => h, fun _ _ _ _ h => h, fun _ _ => rfl, fun _ ps h => ⟨ps, h, fun _ t => t⟩⟩
theorem Keep.trans {G G1 G2 : Gm} {H H1 H2 : Hp} (g : GOk G H) (a : Keep G G1 H H1) (b : Keep G1 G2 H1 H2) : Keep G G2 H H2 := by
  refine ⟨fun c o h n nt => ?_, fun c h p => ?_, fun c K J h p => ?_, fun c h => ?_, fun c ps h => ?_⟩
  · have hn : H c ≠ none := by rw [h]; simp
    exact b.obj c o (a.obj c o h n nt) (by rw [a.gh c hn]; exact n) nt
  · have hn : H c ≠ none := by obtain ⟨_, _, _, q, _⟩ := p; rw [q]; simp
    exact b.pen c (by rw [a.gh c hn]; exact h) (a.pen c h p)
  · have hn : H c ≠ none := by obtain ⟨_, q, _⟩ := p; rw [q]; simp
    exact b.memo c K J (by rw [a.gh c hn]; exact h) (a.memo c K J h p)
  · rw [b.gh c (a.dom g h), a.gh c h]
  · obtain ⟨ps1, h1, t1⟩ := a.tab c ps h
    obtain ⟨ps2, h2, t2⟩ := b.tab c ps1 h1
    exact ⟨ps2, h2, fun q t => t2 q (t1 q t)⟩

/-- tables and their code objects lie off what may change -/
def NT (H : Hp) (a : Addr) : Prop := (∀ ps, H a ≠ some (.tbl ps)) ∧ ∀ φ, H a ≠ some (.ext φ)
theorem tabs_off {H H' : Hp} {a : Addr} (n : NT H a) (w : ∀ b, b ≠ a → H' b = H b) {P : Addr} {q : Str} (t : TabN H P q) : TabN H' P q := by
  obtain ⟨eq, ps, e, tr, ch⟩ := t
  refine ⟨eq, ps, ?_, tr, fun pos cv z => ?_⟩
  · rw [w P fun y => n.1 ps (by rw [← y]; exact e)]; exact e
  · obtain ⟨c, e1, e2⟩ := ch pos cv z
    refine ⟨c, e1, ?_⟩
    rw [w c fun y => n.2 _ (by rw [← y]; exact e2)]
    exact e2
theorem MutO.off {H : Hp} {a : Addr} {o : HO} (ho : H a = some o) (m : MutO o) : NT H a := by
  rcases m with ⟨_, m⟩ | ⟨_, _, _, m⟩ | ⟨_, m⟩ <;> exact ⟨fun ps => by rw [ho, m]; nofun, fun φ => by rw [ho, m]; nofun⟩
/-- a table behind a step off a -/
theorem tab_off {H1 H H' : Hp} {a : Addr} (k : ∀ b ps, H1 b = some (.tbl ps) → ∃ ps', H b = some (.tbl ps') ∧ ∀ q, TabN H1 b q → TabN H b q) (n : NT H a) (w : ∀ b, b ≠ a → H' b = H b) (b : Addr) (ps : Array Value) (e : H1 b = some (.tbl ps)) : ∃ ps', H' b = some (.tbl ps') ∧ ∀ q, TabN H1 b q → TabN H' b q := by
  obtain ⟨ps', q1, q2⟩ := k b ps e
  refine ⟨ps', ?_, fun y t => tabs_off n w (q2 y t)⟩
  rw [w b fun z => n.1 ps' (by rw [← z]; exact q1)]
  exact q1
theorem Rd.ne {H : Hp} {a : Addr} {o : HO} (r : Rd H a o) : H a ≠ none := by
  rcases r with r | ⟨_, r⟩ <;> rw [r] <;> simp
theorem Keep.tabs {G G' : Gm} {H H' : Hp} (k : Keep G G' H H') {a : Addr} {q : Str} (t : TabN H a q) : TabN H' a q := by
  obtain ⟨_, ps, h, _⟩ := id t
  obtain ⟨_, _, z⟩ := k.tab _ ps h
  exact z _ t
theorem Rd.keep {G G' : Gm} {H H' : Hp} {a : Addr} {o : HO} (k : Keep G G' H H') (e : G a = none) (r : Rd H a o) (nt : ∀ ps, o ≠ .tbl ps := by nofun) : Rd H' a o := by
  rcases r with r | ⟨u, r⟩
  · exact .inl (k.obj a _ r (by rw [e]; simp) nt)
  · exact .inr ⟨u, k.obj a _ r (by rw [e]; simp) nofun⟩
mutual
theorem Rep.keep {G G' : Gm} {H H' : Hp} (k : Keep G G' H H') : ∀ {v : V} {d : D}, Rep K G H v d → Rep K G' H' v d
  | _, _, .non => .non
  | _, _, .bl b => .bl b
  | _, _, .int i => .int i
  | _, _, .str x => .str x
  | _, _, .tup e r l => .tup (by rw [k.gh _ (Rd.ne r)]; exact e) (Rd.keep k e r) (RepL.keep k l)
  | _, _, .lst e r l => .lst (by rw [k.gh _ (by rw [r]; simp)]; exact e) (k.obj _ _ r (by rw [e]; simp) nofun) (RepL.keep k l)
  | _, _, .scr r l => .scr (by
      rcases r with ⟨e, o, r⟩ | r
      · exact .inl ⟨by rw [k.gh _ (by rw [r]; simp)]; exact e, o, k.obj _ _ r (by rw [e]; simp) nofun⟩
      · exact .inr r) (RepL.keep k l)
  | _, _, .dct e r q l => .dct (by rw [k.gh _ (Rd.ne r)]; exact e) (Rd.keep k e r) q (RepL.keep k l)
  | _, _, .dcl e r => .dcl (by rw [k.gh _ (by rw [r]; simp)]; exact e) (k.obj _ _ r (by rw [e]; simp) nofun)
  | _, _, .tupN e ⟨o, r, z⟩ l => .tupN (by rw [k.gh _ (by rw [r]; simp)]; exact e) ⟨o, k.obj _ _ r (by rw [e]; simp) nofun, z⟩ (RepL.keep k l)
  | _, _, .ins e r q l => .ins (by rw [k.gh _ (by rw [r]; simp)]; exact e) (k.obj _ _ r (by rw [e]; simp) nofun) q (RepL.keep k l)
  | _, _, .knil z => .knil z
  | _, _, .exo0 => .exo0
  | _, _, .exo e r n l => .exo (by rw [k.gh _ (by rw [r]; simp)]; exact e) (k.obj _ _ r (by rw [e]; simp) nofun) n (RepL.keep k l)
  | _, _, .tab t => .tab (Keep.tabs k t)
  | _, _, .two a b => .two (Rep.keep k a) (Rep.keep k b)
  | _, _, .pen e p => .pen (by rw [k.gh _ (by obtain ⟨_, _, _, q, _⟩ := p; rw [q]; simp)]; exact e) (k.pen _ e p)
  | _, _, .memo e p => .memo (by rw [k.gh _ (by obtain ⟨_, q, _⟩ := p; rw [q]; simp)]; exact e) (k.memo _ _ _ e p)
theorem RepL.keep {G G' : Gm} {H H' : Hp} (k : Keep G G' H H') : ∀ {vs : List V} {ds : List D}, RepL K G H vs ds → RepL K G' H' vs ds
  | _, _, .nil => .nil
  | _, _, .cons a b => .cons (Rep.keep k a) (RepL.keep k b)
end
/-- fewer ghosts -/
structure GLe (G' G : Gm) : Prop where
  non : ∀ a, G a = none → G' a = none
  pen : ∀ a, G a = some .pen → G' a = some .pen
  memo : ∀ a K J, G a = some (.memo K J) → G' a = some (.memo K J)
mutual
theorem Rep.le {G G' : Gm} {H : Hp} (k : GLe G' G) : ∀ {v : V} {d : D}, Rep K G H v d → Rep K G' H v d
  | _, _, .non => .non
  | _, _, .bl b => .bl b
  | _, _, .int i => .int i
  | _, _, .str x => .str x
  | _, _, .tup e r l => .tup (k.non _ e) r (RepL.le k l)
  | _, _, .lst e r l => .lst (k.non _ e) r (RepL.le k l)
  | _, _, .scr r l => .scr (r.imp (fun z => ⟨k.non _ z.1, z.2⟩) id) (RepL.le k l)
  | _, _, .dct e r q l => .dct (k.non _ e) r q (RepL.le k l)
  | _, _, .dcl e r => .dcl (k.non _ e) r
  | _, _, .tupN e r l => .tupN (k.non _ e) r (RepL.le k l)
  | _, _, .ins e r q l => .ins (k.non _ e) r q (RepL.le k l)
  | _, _, .knil z => .knil z
  | _, _, .exo0 => .exo0
  | _, _, .exo e r n l => .exo (k.non _ e) r n (RepL.le k l)
  | _, _, .tab t => .tab t
  | _, _, .two a b => .two (Rep.le k a) (Rep.le k b)
  | _, _, .pen e p => .pen (k.pen _ e) p
  | _, _, .memo e p => .memo (k.memo _ _ _ e) p
theorem RepL.le {G G' : Gm} {H : Hp} (k : GLe G' G) : ∀ {vs : List V} {ds : List D}, RepL K G H vs ds → RepL K G' H vs ds
  | _, _, .nil => .nil
  | _, _, .cons a b => .cons (Rep.le k a) (RepL.le k b)
end
theorem RepL.append {G : Gm} {H : Hp} : ∀ {vs us : List V} {ds es : List D}, RepL K G H vs ds → RepL K G H us es → RepL K G H (vs ++ us) (ds ++ es)
  | _, _, _, _, .nil, h => h
  | _, _, _, _, .cons a b, h => .cons a (RepL.append b h)
theorem RepL.length {G : Gm} {H : Hp} : ∀ {vs : List V} {ds : List D}, RepL K G H vs ds → vs.length = ds.length
  | _, _, .nil => rfl
  | _, _, .cons a b => by simp [RepL.length b]
theorem RepL.get {G : Gm} {H : Hp} : ∀ {vs : List V} {ds : List D} {i : Nat} {d : D}, RepL K G H vs ds → ds[i]? = some d → ∃ v, vs[i]? = some v ∧ Rep K G H v d
  | _, _, _, _, .nil, e => by simp at e
  | _, _, 0, _, .cons a _, e => by simp at e; subst e; exact ⟨_, rfl, a⟩
  | _, _, i + 1, _, .cons _ b, e => by
    obtain ⟨v, h, r⟩ := RepL.get (i := i) b (by simpa using e)
    exact ⟨v, by simpa using h, r⟩
theorem RepL.getV {G : Gm} {H : Hp} : ∀ {vs : List V} {ds : List D} {i : Nat} {v : V}, RepL K G H vs ds → vs[i]? = some v → ∃ d, ds[i]? = some d ∧ Rep K G H v d
  | _, _, _, _, .nil, e => by simp at e
  | _, _, 0, _, .cons a _, e => by simp at e; subst e; exact ⟨_, rfl, a⟩
  | _, _, i + 1, _, .cons _ b, e => by
    obtain ⟨v, h, r⟩ := RepL.getV (i := i) b (by simpa using e)
    exact ⟨v, by simpa using h, r⟩
theorem RepL.take {G : Gm} {H : Hp} : ∀ {vs : List V} {ds : List D} (n : Nat), RepL K G H vs ds → RepL K G H (vs.take n) (ds.take n)
  | _, _, 0, _ => .nil
  | _, _, _ + 1, .nil => .nil
  | _, _, n + 1, .cons a b => .cons a (RepL.take n b)
theorem RepL.drop {G : Gm} {H : Hp} : ∀ {vs : List V} {ds : List D} (n : Nat), RepL K G H vs ds → RepL K G H (vs.drop n) (ds.drop n)
  | _, _, 0, r => r
  | _, _, _ + 1, .nil => .nil
  | _, _, n + 1, .cons _ b => RepL.drop n b
theorem RepL.reverse {G : Gm} {H : Hp} {vs : List V} {ds : List D} (r : RepL K G H vs ds) : RepL K G H vs.reverse ds.reverse := by
  have aux : ∀ {vs us : List V} {ds es : List D}, RepL K G H vs ds → RepL K G H us es → RepL K G H (vs.reverse ++ us) (ds.reverse ++ es) := by
    intro vs
    induction vs with
    | nil => intro us ds es h1 h2; cases h1; exact h2
    | cons v vs ih =>
      intro us ds es h1 h2
      cases h1 with
      | cons a b =>
        rw [List.reverse_cons, List.reverse_cons, List.append_assoc, List.append_assoc]
        exact ih b (.cons a h2)
  have := aux r .nil
  simpa using this

/-- a new object -/
theorem Keep.laid {G : Gm} {H : Hp} {p : Addr} {o : HO} (h : H p = none) : Keep G G H (upd H p o) :=
  ⟨fun a u e _ _ => by rw [upd_ne (ne_of_none e h)]; exact e, fun a _ ⟨i, j, k, e, q⟩ => ⟨i, j, k, by rw [upd_ne (ne_of_none e h)]; exact e, q⟩, fun a K J _ m => m.new h, fun _ _ => rfl, fun a ps e => ⟨ps, by rw [upd_ne (ne_of_none e h)]; exact e, fun q t => t.ext fun b o x => by rw [upd_ne (ne_of_none x h)]; exact x⟩⟩
theorem GOk.laid {G : Gm} {H : Hp} {p : Addr} {o : HO} (g : GOk G H) (h : H p = none) : GOk G (upd H p o) :=
  ⟨fun a x e => by obtain ⟨vs, q, m⟩ := g.lst a x e; exact ⟨vs, by rw [upd_ne (ne_of_none q h)]; exact q, m⟩, fun a e => by obtain ⟨i, j, k, q, z⟩ := g.pen a e; exact ⟨i, j, k, by rw [upd_ne (ne_of_none q h)]; exact q, z⟩, fun a K J e => (g.memo a K J e).new h⟩
theorem GOk.fresh {G : Gm} {H : Hp} {p : Addr} (g : GOk G H) (h : H p = none) : G p = none := by
  cases e : G p with
  | none => rfl
  | some x => obtain ⟨vs, q, _⟩ := g.lst p x e; rw [h] at q; cases q

/-! ### results -/
inductive R where
  | val (d : D) | brw (ds : List D)
def R.d : R → D
  | .val d => d
  | .brw ds => .lst ds
def RRep (K : PySem.W.Frag) (G : Gm) (H : Hp) (v : V) : R → Prop
  | .val d => Rep K G H v d
  | .brw ds => ∃ a vs, v = .ref a ∧ H a = some (.lst vs) ∧ Fix (G a) ∧ RepL K G H vs ds
theorem RRep.keep {G G' : Gm} {H H' : Hp} (k : Keep G G' H H') {v : V} {r : R} (h : RRep K G H v r) : RRep K G' H' v r := by
  cases r with
  | val d => exact Rep.keep k h
  | brw ds =>
    obtain ⟨a, vs, e, q, n, l⟩ := h
    exact ⟨a, vs, e, k.obj a _ q n nofun, by rw [k.gh a (by rw [q]; simp)]; exact n, RepL.keep k l⟩
/-- a list that is read -/
theorem RRep.lst {G : Gm} {H : Hp} {v : V} {r : R} {ds : List D} (h : RRep K G H v r) (e : r.d = .lst ds) : ∃ a vs, v = .ref a ∧ H a = some (.lst vs) ∧ Fix (G a) ∧ RepL K G H vs ds := by
  cases r with
  | val d =>
    have e' : d = .lst ds := e
    subst e'
    cases h with
    | lst g r l => exact ⟨_, _, rfl, r, by rw [g]; simp, l⟩
  | brw es =>
    have e' : D.lst es = .lst ds := e
    cases e'
    obtain ⟨a, vs, e, q, n, l⟩ := h
    exact ⟨a, vs, e, q, n, l⟩
theorem RRep.tup {G : Gm} {H : Hp} {v : V} {r : R} {ds : List D} (h : RRep K G H v r) (e : r.d = .tup ds) : ∃ a vs, v = .ref a ∧ SqT K H a vs ∧ RepL K G H vs ds := by
  cases r with
  | val d =>
    have e' : d = .tup ds := e
    subst e'
    cases h with
    | tup g r l => exact ⟨_, _, rfl, .inl r, l⟩
    | knil z => exact ⟨_, [], rfl, .inr z, .nil⟩
  | brw es => cases e
theorem RRep.scr {G : Gm} {H : Hp} {v : V} {r : R} {ds : List D} (h : RRep K G H v r) (e : r.d = .scr ds) : ∃ a vs, v = .ref a ∧ SqL K H a vs ∧ RepL K G H vs ds := by
  cases r with
  | val d =>
    have e' : d = .scr ds := e
    subst e'
    cases h with
    | scr r l =>
      rcases r with ⟨_, o, r⟩ | r
      · exact ⟨_, _, rfl, .inl (.inr ⟨o, r⟩), l⟩
      · exact ⟨_, _, rfl, .inr r, l⟩
  | brw es => cases e
theorem RRep.int {G : Gm} {H : Hp} {v : V} {r : R} {i : Int} (h : RRep K G H v r) (e : r.d = .int i) : v = .int i := by
  cases r with
  | val d =>
    have e' : d = .int i := e
    subst e'
    cases h; rfl
  | brw es => cases e
theorem RRep.bl {G : Gm} {H : Hp} {v : V} {r : R} {b : Bool} (h : RRep K G H v r) (e : r.d = .bl b) : v = .bl b := by
  cases r with
  | val d =>
    have e' : d = .bl b := e
    subst e'
    cases h; rfl
  | brw es => cases e
theorem RRep.str {G : Gm} {H : Hp} {v : V} {r : R} {x : Str} (h : RRep K G H v r) (e : r.d = .str x) : v = .str x := by
  cases r with
  | val d =>
    have e' : d = .str x := e
    subst e'
    cases h; rfl
  | brw es => cases e
inductive RRepL (K : PySem.W.Frag) (G : Gm) (H : Hp) : List V → List R → Prop
  | nil : RRepL K G H [] []
  | cons {v : V} {vs : List V} {d : R} {ds : List R} : RRep K G H v d → RRepL K G H vs ds → RRepL K G H (v :: vs) (d :: ds)
theorem RRepL.keep {G G' : Gm} {H H' : Hp} (k : Keep G G' H H') : ∀ {vs : List V} {ds : List R}, RRepL K G H vs ds → RRepL K G' H' vs ds
  | _, _, .nil => .nil
  | _, _, .cons a b => .cons (RRep.keep k a) (RRepL.keep k b)
theorem RRepL.vals {G : Gm} {H : Hp} : ∀ {vs : List V} {ds : List D}, RRepL K G H vs (ds.map R.val) → RepL K G H vs ds
  | _, [], .nil => .nil
  | _, _ :: _, .cons a b => .cons a (RRepL.vals b)

/-! ### the slots -/
inductive EV where
  | no | val (d : D) | own (ds : List D) | dic (ks : List Key) (ds : List D)
abbrev SE := List EV
/-- the entry: its heap, and values that are kept through what runs -/
structure HB where
  hp : Hp
  tmp : List (V × D)
/-- the one own dict of a frame -/
structure DicOk (K : PySem.W.Frag) (H0 : Hp) (G : Gm) (H : Hp) (σ : L2.St) (env : SE) : Prop where
  at_ : ∀ (i : Nat) (ks : List Key) (ds : List D), env[i]? = some (.dic ks ds) → ∃ a kvs, σ[i]? = some (some (.ref a)) ∧ G a = some .hid ∧ H0 a = none ∧ H a = some (.dK kvs) ∧ kvs.map (·.1) = ks ∧ RepL K G H (kvs.map (·.2)) ds
  one : ∀ (i j : Nat) (ks ls : List Key) (ds es : List D), env[i]? = some (.dic ks ds) → env[j]? = some (.dic ls es) → i = j
theorem DicOk.non {K : PySem.W.Frag} {H0 : Hp} {G : Gm} {H : Hp} {σ : L2.St} {env : SE} (h : ∀ (i : Nat) (ks : List Key) (ds : List D), env[i]? ≠ some (.dic ks ds)) : DicOk K H0 G H σ env := ⟨fun i ks ds z => absurd z (h i ks ds), fun i _ ks _ ds _ z => absurd z (h i ks ds)⟩
theorem DicOk.step {K : PySem.W.Frag} {H0 : Hp} {G G' : Gm} {H H' : Hp} {σ : L2.St} {env : SE} (e : DicOk K H0 G H σ env) (k : Keep G G' H H') : DicOk K H0 G' H' σ env := ⟨fun i ks ds h => by
  obtain ⟨a, kvs, q1, q2, q3, q4, q5, q6⟩ := e.at_ i ks ds h
  exact ⟨a, kvs, q1, by rw [k.gh a (by rw [q4]; simp)]; exact q2, q3, k.obj a _ q4 (by rw [q2]; simp) nofun, q5, RepL.keep k q6⟩, e.one⟩
/-- a slot that is no dict afterwards -/
theorem DicOk.set {K : PySem.W.Frag} {H0 : Hp} {G : Gm} {H : Hp} {σ : L2.St} {env : SE} (e : DicOk K H0 G H σ env) (i : Nat) (o : Option V) {x : EV} (hx : ∀ (ks : List Key) (ds : List D), x ≠ .dic ks ds := by intro _ _ z; cases z) : DicOk K H0 G H (σ.set i o) (env.set i x) := by
  have back : ∀ {j : Nat} {ks : List Key} {ds : List D}, (env.set i x)[j]? = some (.dic ks ds) → i ≠ j ∧ env[j]? = some (.dic ks ds) := fun {j ks ds} h => by
    by_cases q : i = j
    · subst q
      rw [List.getElem?_set] at h
      simp only [if_true] at h
      split at h
      · exact absurd (Option.some.inj h) (hx ks ds)
      · cases h
    · rw [List.getElem?_set_ne q] at h
      exact ⟨q, h⟩
  refine ⟨fun j ks ds h => ?_, fun j k ks ls ds es h1 h2 => e.one j k ks ls ds es (back h1).2 (back h2).2⟩
  obtain ⟨n, h'⟩ := back h
  obtain ⟨a, kvs, q⟩ := e.at_ j ks ds h'
  exact ⟨a, kvs, by rw [List.getElem?_set_ne n]; exact q.1, q.2⟩
theorem DicOk.cons {K : PySem.W.Frag} {H0 : Hp} {G : Gm} {H : Hp} {σ : L2.St} {env : SE} (e : DicOk K H0 G H σ env) (o : Option V) {x : EV} (hx : ∀ (ks : List Key) (ds : List D), x ≠ .dic ks ds := by intro _ _ z; cases z) : DicOk K H0 G H (o :: σ) (x :: env) := by
  refine ⟨fun j ks ds h => ?_, fun j k ks ls ds es h1 h2 => ?_⟩
  · cases j with
    | zero => exact absurd (Option.some.inj h) (hx ks ds)
    | succ j => exact e.at_ j ks ds h
  · cases j with
    | zero => exact absurd (Option.some.inj h1) (hx ks ds)
    | succ j => cases k with
      | zero => exact absurd (Option.some.inj h2) (hx ls es)
      | succ k => rw [e.one j k ks ls ds es h1 h2]
/-- the heap, the ghosts changed off the dict -/
theorem DicOk.off {K : PySem.W.Frag} {H0 H0' : Hp} {G G' : Gm} {H H' : Hp} {σ : L2.St} {env : SE} (e : DicOk K H0 G H σ env) (h : ∀ (a : Addr) (kvs : List (Key × V)), H a = some (.dK kvs) → G a = some .hid → G' a = some .hid ∧ H' a = some (.dK kvs)) (h0 : ∀ a : Addr, H0 a = none → G a = some .hid → H0' a = none)
    (r : ∀ vs ds, RepL K G H vs ds → RepL K G' H' vs ds) : DicOk K H0' G' H' σ env := ⟨fun i ks ds z => by
  obtain ⟨a, kvs, q1, q2, q3, q4, q5, q6⟩ := e.at_ i ks ds z
  obtain ⟨h1, h2⟩ := h a kvs q4 q2
  exact ⟨a, kvs, q1, h1, h0 a q3 q2, h2, q5, r _ _ q6⟩, e.one⟩
structure EnvOk (K : PySem.W.Frag) (G0 : Gm) (H0 : HB) (G : Gm) (H : Hp) (σ : L2.St) (env : SE) : Prop where
  g0 : GOk G0 H0.hp
  keep : Keep G0 G H0.hp H
  gok : GOk G H
  len : env.length = σ.length
  tmp : ∀ p ∈ H0.tmp, Rep K G H p.1 p.2
  val : ∀ (i : Nat) (d : D), env[i]? = some (.val d) → ∃ v, σ[i]? = some (some v) ∧ Rep K G H v d
  own : ∀ (i : Nat) (ds : List D), env[i]? = some (.own ds) → ∃ a vs, σ[i]? = some (some (.ref a)) ∧ G a = some .hid ∧ H0.hp a = none ∧ H a = some (.lst vs) ∧ RepL K G H vs ds
  sep : ∀ (i j : Nat) (ds es : List D) (a : Addr), i ≠ j → env[i]? = some (.own ds) → env[j]? = some (.own es) → σ[i]? = some (some (.ref a)) → σ[j]? ≠ some (some (.ref a))
  dic : DicOk K H0.hp G H σ env
theorem EnvOk.step {G0 G G' : Gm} {H0 : HB} {H H' : Hp} {σ : L2.St} {env : SE} (e : EnvOk K G0 H0 G H σ env) (k : Keep G G' H H') (g : GOk G' H') : EnvOk K G0 H0 G' H' σ env := by
  refine ⟨e.g0, e.keep.trans e.g0 k, g, e.len, fun p hp => Rep.keep k (e.tmp p hp), fun i d h => ?_, fun i ds h => ?_, e.sep, e.dic.step k⟩
  · obtain ⟨v, a, b⟩ := e.val i d h
    exact ⟨v, a, Rep.keep k b⟩
  · obtain ⟨a, vs, q1, q2, q3, q4, q5⟩ := e.own i ds h
    exact ⟨a, vs, q1, by rw [k.gh a (by rw [q4]; simp)]; exact q2, q3, k.obj a _ q4 (by rw [q2]; simp) nofun, RepL.keep k q5⟩

/-! ### exceptions, readings -/
structure Exn where
  C : Addr
  fs : Option (List (Str × D))
abbrev XP := Exn → Prop
def XOk (K : PySem.W.Frag) (E : XK) (G : Gm) (H : Hp) (x : XP) : Prop := ∀ e G' H', x e → Keep G G' H H' → GOk G' H' →
  (e.fs = none → E (.ref e.C) none H') ∧ (∀ fs, e.fs = some fs → noLsts (fs.map (·.2)) = true → ∀ d vs, RepL K G' H' vs (fs.map (·.2)) → H' d = some (.xd ((fs.map (·.1)).zip vs)) → E (.ref e.C) (some d) H')
theorem XOk.keep {E : XK} {G G' : Gm} {H H' : Hp} {x : XP} (g : GOk G H) (h : XOk K E G H x) (k : Keep G G' H H') : XOk K E G' H' x := fun e G2 H2 q k2 g2 => h e G2 H2 q (k.trans g k2) g2
abbrev DE := SE → (R → Prop) → XP → Prop
abbrev DT := SE → (Bool → Prop) → XP → Prop
abbrev DA := SE → (List R → Prop) → XP → Prop
def lift (K : PySem.W.Frag) (E : XK) (t : DE) : TE := fun σ H Q => ∃ G0 H0 G env q x, EnvOk K G0 H0 G H σ env ∧ t env q x ∧ (∀ r v G' H', q r → Keep G G' H H' → GOk G' H' → RRep K G' H' v r → Q v H') ∧ XOk K E G H x
def liftT (K : PySem.W.Frag) (E : XK) (t : DT) : TT := fun σ H Q => ∃ G0 H0 G env q x, EnvOk K G0 H0 G H σ env ∧ t env q x ∧ (∀ b G' H', q b → Keep G G' H H' → GOk G' H' → Q b H') ∧ XOk K E G H x
def liftA (K : PySem.W.Frag) (E : XK) (t : DA) : TA := fun σ H Q => ∃ G0 H0 G env q x, EnvOk K G0 H0 G H σ env ∧ t env q x ∧ (∀ rs vs G' H', q rs → Keep G G' H H' → GOk G' H' → RRepL K G' H' vs rs → Q vs H') ∧ XOk K E G H x
structure DEnds where
  nx : SE → Prop
  rt : D → Prop
  bk : SE → Prop := fun _ => False
  ct : SE → Prop := fun _ => False
  ex : XP := fun _ => False
abbrev DS := DEnds → SE → Prop
def liftS (K : PySem.W.Frag) (E : XK) (t : DS) : TS := fun Z σ H => ∃ G0 H0 G env J, EnvOk K G0 H0 G H σ env ∧ t J env ∧
  (∀ env' G' σ' H', J.nx env' → EnvOk K G0 H0 G' H' σ' env' → Z.nx σ' H') ∧
  (∀ d v G' H', J.rt d → Keep G0 G' H0.hp H' → GOk G' H' → Rep K G' H' v d → Z.rt v H') ∧
  (∀ env' G' σ' H', J.bk env' → EnvOk K G0 H0 G' H' σ' env' → Z.bk σ' H') ∧
  (∀ env' G' σ' H', J.ct env' → EnvOk K G0 H0 G' H' σ' env' → Z.ct σ' H') ∧ XOk K E G0 H0.hp J.ex
def PD (X : Cx) (E : XK) (e : Expr) (t : DE) : Prop := PE X e (lift X.K E t)
def PDT (X : Cx) (E : XK) (e : Expr) (t : DT) : Prop := PT X e (liftT X.K E t)
def PDA (X : Cx) (E : XK) (es : List Expr) (t : DA) : Prop := PA X es (liftA X.K E t)
def PDS (X : Cx) (E : XK) (s : Stmt) (t : DS) : Prop := PS X s (liftS X.K E t)
def PDSs (X : Cx) (E : XK) (s : List Stmt) (t : DS) : Prop := PSs X s (liftS X.K E t)
end QD
namespace QD
open PySem PySem.Spec PyProof.Rows L2
section
variable {X : Cx} {E : XK} {a b c : Expr} {ta tb tc : DE} {pos : Pos}

theorem PE.wk {e : Expr} {t t' : TE} (h : PE X e t) (m : ∀ σ H Q, t' σ H Q → t σ H Q) : PE X e t' := ⟨fun pins s σ H Q I hw => h.run pins s σ H Q I (m σ H Q hw)⟩
theorem PT.wk {e : Expr} {t t' : TT} (h : PT X e t) (m : ∀ σ H Q, t' σ H Q → t σ H Q) : PT X e t' := ⟨fun pins s σ H Q I hw => h.run pins s σ H Q I (m σ H Q hw)⟩
theorem PA.wk {e : List Expr} {t t' : TA} (h : PA X e t) (m : ∀ σ H Q, t' σ H Q → t σ H Q) : PA X e t' := ⟨fun pos pins s σ H Q I hw => h.run pos pins s σ H Q I (m σ H Q hw)⟩
theorem PS.wk {e : Stmt} {t t' : TS} (h : PS X e t) (m : ∀ D σ H, t' D σ H → t D σ H) : PS X e t' := ⟨fun pins s σ H Q I hw => h.run pins s σ H Q I (m Q σ H hw)⟩
theorem PSs.wk {e : List Stmt} {t t' : TS} (h : PSs X e t) (m : ∀ D σ H, t' D σ H → t D σ H) : PSs X e t' := ⟨fun pins s σ H Q I hw => h.run pins s σ H Q I (m Q σ H hw)⟩

/-! ### names, constants -/
def dVar (i : Nat) : DE := fun env q _ => match env[i]? with
  | some (.val d) => q (.val d)
  | some (.own ds) => q (.brw ds)
  | _ => False
theorem pd_var (i : Nat) {x : Str} (hN : X.N[i]? = some x := by rfl) (hv : Vis X.env.scope x := by first | exact Or.inl rfl | exact Or.inr (Or.inl rfl) | exact Or.inr (Or.inr rfl)) (hd : (x == ("__debug__" : Str)) = false := by decide)
    (hcd : (x == ("__classdict__" : Str)) = false := by decide) : PD X E (.Name x pos) (dVar i) := by
  refine PE.wk (pv i hN hv hd hcd) ?_
  rintro σ H Q ⟨G0, H0, G, env, q, x, e, h, hq, hx⟩
  unfold dVar at h
  cases hi : env[i]? with
  | none => rw [hi] at h; exact h.elim
  | some ev =>
    rw [hi] at h
    cases ev with
    | no => exact h.elim
    | dic ks ds => exact h.elim
    | val d =>
      obtain ⟨v, e1, r⟩ := e.val i d hi
      exact ⟨v, e1, hq (.val d) v G H h (Keep.refl G H) e.gok r⟩
    | own ds =>
      obtain ⟨p, vs, e1, e2, _, e4, r⟩ := e.own i ds hi
      exact ⟨.ref p, e1, hq (.brw ds) _ G H h (Keep.refl G H) e.gok ⟨p, vs, rfl, e4, by rw [e2]; simp, r⟩⟩
def dC (d : D) : DE := fun _ q _ => q (.val d)
theorem pd_const {v : V} {d : D} (h : PE X a (tC v)) (r : ∀ G H, Rep X.K G H v d) : PD X E a (dC d) := by
  refine PE.wk h ?_
  rintro σ H Q ⟨G0, H0, G, env, q, x, e, h, hq, hx⟩
  exact hq (.val d) v G H h (Keep.refl G H) e.gok (r G H)
theorem pd_int {i : Int} {j} : PD X E (.Constant (.int i) j pos) (dC (.int i)) := pd_const pe_int fun _ _ => .int i
theorem pd_bl {i : Bool} {j} : PD X E (.Constant (.bool i) j pos) (dC (.bl i)) := pd_const pe_bl fun _ _ => .bl i
theorem pd_non {j} : PD X E (.Constant .none j pos) (dC .non) := pd_const pe_non fun _ _ => .non
theorem pd_str {i : Str} {j} : PD X E (.Constant (.str i) j pos) (dC (.str i)) := pd_const pe_str fun _ _ => .str i

/-! ### two places -/
def rD (K : PySem.W.Frag) (f : D → D → Option D) : R2 := fun x y H Q => ∃ G r1 r2 d, GOk G H ∧ RRep K G H x r1 ∧ RRep K G H y r2 ∧ f r1.d r2.d = some d ∧ ∀ v G' H', Keep G G' H H' → GOk G' H' → Rep K G' H' v d → Q v H'
def dOp (f : D → D → Option D) (ta tb : DE) : DE := fun env q x => ta env (fun r1 => tb env (fun r2 => ∃ d, f r1.d r2.d = some d ∧ q (.val d)) x) x
theorem lift_op {f : D → D → Option D} {σ : L2.St} {H : Hp} {Q : VK} (h : lift X.K E (dOp f ta tb) σ H Q) : tOp (rD X.K f) (lift X.K E ta) (lift X.K E tb) σ H Q := by
  obtain ⟨G0, H0, G, env, q, x, e, h, hq, hx⟩ := h
  refine ⟨G0, H0, G, env, _, x, e, h, ?_, hx⟩
  intro r1 v1 G1 H1 q1 k1 g1 rr1
  refine ⟨G0, H0, G1, env, _, x, e.step k1 g1, q1, ?_, hx.keep e.gok k1⟩
  rintro r2 v2 G2 H2 ⟨d, fd, qd⟩ k2 g2 rr2
  exact ⟨G2, r1, r2, d, g2, rr1.keep k2, rr2, fd, fun v G' H' k g rv => hq (.val d) v G' H' qd ((k1.trans e.gok k2).trans e.gok k) g rv⟩
theorem pd_op {op : Operator} {f : D → D → Option D} (ho : OpR X (binaryOp op) (rD X.K f)) (ha : PD X E a ta) (hb : PD X E b tb) : PD X E (.BinOp a op b pos) (dOp f ta tb) :=
  PE.wk (pe_op ho ha hb) fun _ _ _ h => lift_op h
theorem pd_cmp {op : CmpOp} {f : D → D → Option D} (ho : OpR X (compareOp op) (rD X.K f)) (ha : PD X E a ta) (hb : PD X E b tb) (hm : behindInMarks op b = false) : PD X E (.Compare a [op] [b] pos) (dOp f ta tb) :=
  PE.wk (pe_cmpR ho ha hb hm) fun _ _ _ h => lift_op h
def dTest (t : DE) : DT := fun env q x => t env (fun r => ∃ b, r.d = .bl b ∧ q b) x
theorem lift_test {t : DE} {u : TE} {σ : L2.St} {H : Hp} {Q : Bool → Hp → Prop} (hu : ∀ Q', lift X.K E t σ H Q' → u σ H Q') (h : liftT X.K E (dTest t) σ H Q) : tTest u σ H Q := by
  obtain ⟨G0, H0, G, env, q, x, e, h, hq, hx⟩ := h
  refine hu _ ⟨G0, H0, G, env, _, x, e, h, ?_, hx⟩
  rintro r v G' H' ⟨b, eb, qb⟩ k g rr
  exact ⟨b, rr.bl eb, hq b G' H' qb k g⟩
theorem pdt_cmp {op : CmpOp} {f : D → D → Option D} (ho : OpR X (compareOp op) (rD X.K f)) (ha : PD X E a ta) (hb : PD X E b tb) (hm : behindInMarks op b = false) : PDT X E (.Compare a [op] [b] pos) (dTest (dOp f ta tb)) :=
  PT.wk (pt_cmpR ho ha hb hm) fun _ _ _ h => lift_test (fun _ h => lift_op h) h
/-- any expression whose value is a bool, as a test (a name, a call ..) -/
theorem pdt_val (ha : PD X E a ta) (he : ∀ whole, isTrue a X.env whole = (do let v ← whole; standAt a.pos; holding [v] (truthy v)) := by intro _; rfl) : PDT X E a (dTest ta) :=
  PT.wk (pt_val ha he) fun _ _ _ h => lift_test (fun _ h => h) h
/-- a op1 b op2 c -/
def dChain (f f' : D → D → Option D) (ta tb tc : DE) : DE := fun env q x => ta env (fun r1 => tb env (fun r2 => ∃ k, f r1.d r2.d = some (.bl k) ∧
  if k = true then tc env (fun r3 => ∃ d, f' r2.d r3.d = some d ∧ q (.val d)) x else q (.val (.bl false))) x) x
theorem lift_chain {f f' : D → D → Option D} {σ : L2.St} {H : Hp} {Q : VK} (h : lift X.K E (dChain f f' ta tb tc) σ H Q) : tChain (rD X.K f) (rD X.K f') (lift X.K E ta) (lift X.K E tb) (lift X.K E tc) σ H Q := by
  obtain ⟨G0, H0, G, env, q, x, e, h, hq, hx⟩ := h
  refine ⟨G0, H0, G, env, _, x, e, h, ?_, hx⟩
  intro r1 v1 G1 H1 q1 k1 g1 rr1
  refine ⟨G0, H0, G1, env, _, x, e.step k1 g1, q1, ?_, hx.keep e.gok k1⟩
  rintro r2 v2 G2 H2 ⟨k, fd, qd⟩ k2 g2 rr2
  refine ⟨G2, r1, r2, .bl k, g2, rr1.keep k2, rr2, fd, fun v G3 H3 k3 g3 rv => ⟨k, by cases rv; rfl, ?_⟩⟩
  have k13 := (k1.trans e.gok k2).trans e.gok k3
  cases k with
  | false => exact hq _ _ _ _ qd k13 g3 (Rep.bl _)
  | true =>
    refine ⟨G0, H0, G3, env, _, x, e.step k13 g3, qd, ?_, hx.keep e.gok k13⟩
    rintro r4 v4 G4 H4 ⟨d, fd', qd'⟩ k4 g4 rr4
    exact ⟨G4, r2, r4, d, g4, (rr2.keep k3).keep k4, rr4, fd', fun v G' H' k' g' rv' => hq (.val d) v G' H' qd' ((k13.trans e.gok k4).trans e.gok k') g' rv'⟩
theorem pd_chain {op op' : CmpOp} {f f' : D → D → Option D} (ho : OpR X (compareOp op) (rD X.K f)) (ho' : OpR X (compareOp op') (rD X.K f')) (ha : PD X E a ta) (hb : PD X E b tb) (hc : PD X E c tc)
    (hm : lastMarks [op, op'] [b, c] = false := by with_unfolding_all rfl) : PD X E (.Compare a [op, op'] [b, c] pos) (dChain f f' ta tb tc) :=
  PE.wk (pe_chain ho ho' ha hb hc hm) fun _ _ _ h => lift_chain h
theorem pdt_chain {op op' : CmpOp} {f f' : D → D → Option D} (ho : OpR X (compareOp op) (rD X.K f)) (ho' : OpR X (compareOp op') (rD X.K f')) (ha : PD X E a ta) (hb : PD X E b tb) (hc : PD X E c tc)
    (hm : lastMarks [op, op'] [b, c] = false := by with_unfolding_all rfl) : PDT X E (.Compare a [op, op'] [b, c] pos) (dTest (dChain f f' ta tb tc)) :=
  PT.wk (pt_chain ho ho' ha hb hc hm) fun _ _ _ h => lift_test (fun _ h => lift_chain h) h

/-! ### and, or, not, if -/
def dAnd (ta tb : DE) : DE := fun env q x => ta env (fun r => ∃ k, r.d = .bl k ∧ if k = true then tb env q x else q (.val (.bl false))) x
def dOr (ta tb : DE) : DE := fun env q x => ta env (fun r => ∃ k, r.d = .bl k ∧ if k = true then q (.val (.bl true)) else tb env q x) x
def dNot (ta : DE) : DE := fun env q x => ta env (fun r => ∃ k, r.d = .bl k ∧ q (.val (.bl (!k)))) x
variable {rest : List Expr}
theorem pd_one {op} (h : PD X E a ta) : PD X E (.BoolOp op [a] pos) ta := pe_one h
theorem pd_and (ha : PD X E a ta) (hb : PD X E (.BoolOp .And (b :: rest) pos) tb) : PD X E (.BoolOp .And (a :: b :: rest) pos) (dAnd ta tb) := by
  refine PE.wk (pe_and ha hb) ?_
  rintro σ H Q ⟨G0, H0, G, env, q, x, e, h, hq, hx⟩
  refine ⟨G0, H0, G, env, _, x, e, h, ?_, hx⟩
  rintro r v G' H' ⟨k, ek, qk⟩ kk g rr
  refine ⟨k, rr.bl ek, ?_⟩
  cases k with
  | true => exact ⟨G0, H0, G', env, _, x, e.step kk g, qk, fun r2 v2 G2 H2 q2 k2 g2 rr2 => hq r2 v2 G2 H2 q2 (kk.trans e.gok k2) g2 rr2, hx.keep e.gok kk⟩
  | false => exact hq _ _ _ _ qk kk g (Rep.bl _)
theorem pd_not (ha : PD X E a ta) : PD X E (.UnaryOp .Not a pos) (dNot ta) := by
  refine PE.wk (pe_not ha) ?_
  rintro σ H Q ⟨G0, H0, G, env, q, x, e, h, hq, hx⟩
  refine ⟨G0, H0, G, env, _, x, e, h, ?_, hx⟩
  rintro r v G' H' ⟨k, ek, qk⟩ kk g rr
  exact ⟨k, rr.bl ek, hq _ _ _ _ qk kk g (Rep.bl _)⟩
variable {sa sb sc : DT}
def dAndT (ta tb : DT) : DT := fun env q x => ta env (fun k => if k = true then tb env q x else q false) x
def dOrT (ta tb : DT) : DT := fun env q x => ta env (fun k => if k = true then q true else tb env q x) x
def dNotT (ta : DT) : DT := fun env q x => ta env (fun k => q (!k)) x
structure PDW (X : Cx) (E : XK) (e : Expr) (t : DT) : Prop where
  pw : PW X e (liftT X.K E t)
theorem PDW.pt (h : PDW X E a sa) : PDT X E a sa := PW.pt h.pw
theorem PW.wk {e : Expr} {t t' : TT} (h : PW X e t) (m : ∀ σ H Q, t' σ H Q → t σ H Q) : PW X e t' := ⟨fun whole pins s σ H Q I hw => h.run whole pins s σ H Q I (m σ H Q hw)⟩
theorem pdw_and1 (ha : PDT X E a sa) : PDW X E (.BoolOp .And [a] pos) sa := ⟨pw_and1 ha⟩
theorem pdw_or1 (ha : PDT X E a sa) : PDW X E (.BoolOp .Or [a] pos) sa := ⟨pw_or1 ha⟩
theorem pdw_and (ha : PDT X E a sa) (hb : PDW X E (.BoolOp .And (b :: rest) pos) sb) : PDW X E (.BoolOp .And (a :: b :: rest) pos) (dAndT sa sb) := by
  refine ⟨PW.wk (pw_and ha hb.pw) ?_⟩
  rintro σ H Q ⟨G0, H0, G, env, q, x, e, h, hq, hx⟩
  refine ⟨G0, H0, G, env, _, x, e, h, ?_, hx⟩
  rintro k G' H' qk kk g
  cases k with
  | true => exact ⟨G0, H0, G', env, _, x, e.step kk g, qk, fun r2 G2 H2 q2 k2 g2 => hq r2 G2 H2 q2 (kk.trans e.gok k2) g2, hx.keep e.gok kk⟩
  | false => exact hq _ _ _ qk kk g
theorem pdw_or (ha : PDT X E a sa) (hb : PDW X E (.BoolOp .Or (b :: rest) pos) sb) : PDW X E (.BoolOp .Or (a :: b :: rest) pos) (dOrT sa sb) := by
  refine ⟨PW.wk (pw_or ha hb.pw) ?_⟩
  rintro σ H Q ⟨G0, H0, G, env, q, x, e, h, hq, hx⟩
  refine ⟨G0, H0, G, env, _, x, e, h, ?_, hx⟩
  rintro k G' H' qk kk g
  cases k with
  | false => exact ⟨G0, H0, G', env, _, x, e.step kk g, qk, fun r2 G2 H2 q2 k2 g2 => hq r2 G2 H2 q2 (kk.trans e.gok k2) g2, hx.keep e.gok kk⟩
  | true => exact hq _ _ _ qk kk g
theorem pdt_not (ha : PDT X E a sa) : PDT X E (.UnaryOp .Not a pos) (dNotT sa) := by
  refine PT.wk (pt_not ha) ?_
  rintro σ H Q ⟨G0, H0, G, env, q, x, e, h, hq, hx⟩
  exact ⟨G0, H0, G, env, _, x, e, h, fun k G' H' qk kk g => hq _ _ _ qk kk g, hx⟩
def dIf (t : DT) (ta tb : DE) : DE := fun env q x => t env (fun k => if k = true then ta env q x else tb env q x) x
theorem pd_if (hc : PDT X E c sc) (ha : PD X E a ta) (hb : PD X E b tb) : PD X E (.IfExp c a b pos) (dIf sc ta tb) := by
  refine PE.wk (pe_ifExp hc ha hb) ?_
  rintro σ H Q ⟨G0, H0, G, env, q, x, e, h, hq, hx⟩
  refine ⟨G0, H0, G, env, _, x, e, h, ?_, hx⟩
  rintro k G' H' qk kk g
  have nx : ∀ (t : DE), t env q x → lift X.K E t σ H' Q := fun t ht => ⟨G0, H0, G', env, _, x, e.step kk g, ht, fun r2 v2 G2 H2 q2 k2 g2 rr => hq r2 v2 G2 H2 q2 (kk.trans e.gok k2) g2 rr, hx.keep e.gok kk⟩
  cases k with
  | true => exact nx ta qk
  | false => exact nx tb qk

/-! ### arguments, displays -/
variable {es : List Expr} {sA sB : DA}
def dNil : DA := fun _ q _ => q []
def dCons (ta : DE) (tr : DA) : DA := fun env q x => ta env (fun r => tr env (fun rs => q (r :: rs)) x) x
theorem pda_nil : PDA X E [] dNil := by
  refine PA.wk pa_nil ?_
  rintro σ H Q ⟨G0, H0, G, env, q, x, e, h, hq, hx⟩
  exact hq [] [] G H h (Keep.refl G H) e.gok .nil
theorem pda_cons (ha : PD X E a ta) (hr : PDA X E es sA) (hs : starEach (a :: es) X.env = (false, eval a X.env) :: starEach es X.env := by rfl) : PDA X E (a :: es) (dCons ta sA) := by
  refine PA.wk (pa_cons ha hr hs) ?_
  rintro σ H Q ⟨G0, H0, G, env, q, x, e, h, hq, hx⟩
  refine ⟨G0, H0, G, env, _, x, e, h, ?_, hx⟩
  rintro r v G' H' qk kk g rr
  refine ⟨G0, H0, G', env, _, x, e.step kk g, qk, ?_, hx.keep e.gok kk⟩
  rintro rs vs G2 H2 q2 k2 g2 rl
  exact hq _ _ G2 H2 q2 (kk.trans e.gok k2) g2 (.cons (rr.keep k2) rl)
def dTup (ta : DA) : DE := fun env q x => ta env (fun rs => ∃ ds, rs = ds.map R.val ∧ ds.length ≤ 16777216 ∧ q (.val (.tup ds))) x
def dLst (ta : DA) : DE := fun env q x => ta env (fun rs => ∃ ds, rs = ds.map R.val ∧ ds.length ≤ 16777216 ∧ q (.val (.lst ds))) x
theorem RepL.len {K : PySem.W.Frag} {G : Gm} {H : Hp} {vs : List V} {ds : List D} (h : RepL K G H vs ds) (l : ds.length ≤ 16777216) : vs.length ≤ sizeLine := by rw [h.length, sizeLine_eq]; exact l
theorem Rep.newT {K : PySem.W.Frag} {G : Gm} {H : Hp} {vs : List V} {ds : List D} {p : Addr} (g : GOk G H) (n : H p = none) (h : RepL K G H vs ds) : Rep K G (upd H p (.tup vs)) (.ref p) (.tup ds) :=
  .tup (g.fresh n) (.inl upd_same) (RepL.keep (Keep.laid n) h)
theorem Rep.newL {K : PySem.W.Frag} {G : Gm} {H : Hp} {vs : List V} {ds : List D} {p : Addr} (g : GOk G H) (n : H p = none) (h : RepL K G H vs ds) : Rep K G (upd H p (.lst vs)) (.ref p) (.lst ds) :=
  .lst (g.fresh n) upd_same (RepL.keep (Keep.laid n) h)
theorem pd_tup {k : Nat} (h : PDA X E es sA) : PD X E (.Tuple es k pos) (dTup sA) := by
  refine PE.wk (pe_tup h) ?_
  rintro σ H Q ⟨G0, H0, G, env, q, x, e, h, hq, hx⟩
  refine ⟨G0, H0, G, env, _, x, e, h, ?_, hx⟩
  rintro rs vs G' H' ⟨ds, rfl, l, qk⟩ kk g rl
  refine ⟨rl.vals.len l, fun p hp => ?_⟩
  exact hq _ _ G' _ qk (kk.trans e.gok (Keep.laid hp)) (g.laid hp) (Rep.newT g hp rl.vals)
theorem pd_lst (h : PDA X E es sA) : PD X E (.List es pos) (dLst sA) := by
  refine PE.wk (pe_lst h) ?_
  rintro σ H Q ⟨G0, H0, G, env, q, x, e, h, hq, hx⟩
  refine ⟨G0, H0, G, env, _, x, e, h, ?_, hx⟩
  rintro rs vs G' H' ⟨ds, rfl, l, qk⟩ kk g rl
  refine ⟨rl.vals.len l, fun p hp => ?_⟩
  exact hq _ _ G' _ qk (kk.trans e.gok (Keep.laid hp)) (g.laid hp) (Rep.newL g hp rl.vals)
end

/-! ### what a def promises -/
abbrev DF := List D → (D → Prop) → XP → Prop
def spOf (K : PySem.W.Frag) (F : DF) : Sp := fun vs H Q E => ∃ G ds q x, GOk G H ∧ RepL K G H vs ds ∧ F ds q x ∧ (∀ d v G' H', q d → Keep G G' H H' → GOk G' H' → Rep K G' H' v d → Q v H') ∧ XOk K E G H x
def allVal : List R → Bool
  | [] => true
  | .val _ :: r => allVal r
  | _ => false
theorem allVal_map : ∀ {rs : List R}, allVal rs = true → rs = (rs.map R.d).map R.val
  | [], _ => rfl
  | .val d :: r, h => by
    have ih := allVal_map (rs := r) h
    show R.val d :: r = R.val d :: (r.map R.d).map R.val
    rw [← ih]
  | .brw _ :: _, h => by cases h
def pens (G : Gm) : Gm := fun a => match G a with
  | some .hid => none
  | g => g
theorem pens_le (G : Gm) : GLe (pens G) G := ⟨fun a h => by unfold pens; rw [h], fun a h => by unfold pens; rw [h], fun a K J h => by unfold pens; rw [h]⟩
theorem pens_of {G : Gm} {a : Addr} {x : Gh} (h : pens G a = some x) : G a = some x := by
  unfold pens at h
  split at h
  · cases h
  · exact h
theorem pens_ok {G : Gm} {H : Hp} (g : GOk G H) : GOk (pens G) H := ⟨fun a x h => g.lst a _ (pens_of h), fun a h => g.pen a (pens_of h), fun a K J h => g.memo a K J (pens_of h)⟩
theorem pens_non {G : Gm} {a : Addr} (h : Fix (G a)) : pens G a = none := by
  unfold pens
  cases e : G a with
  | none => rfl
  | some x => cases x with
    | pen => exact absurd e h.pen
    | hid => rfl
    | memo K J => exact absurd e (h.memo K J)
theorem RRepL.pens {K : PySem.W.Frag} {G : Gm} {H : Hp} : ∀ {vs : List V} {rs : List R}, RRepL K G H vs rs → RepL K (pens G) H vs (rs.map R.d)
  | _, _, .nil => .nil
  | _, _, .cons (d := .val d) a b => .cons (Rep.le (pens_le G) a) (RRepL.pens b)
  | _, _, .cons (d := .brw ds) a b => by
    obtain ⟨p, vs, rfl, e, n, l⟩ := a
    exact .cons (.lst (pens_non n) e (RepL.le (pens_le G) l)) (RRepL.pens b)
/-- the ghosts behind a callee that saw fewer of them -/
def gback (G G1 : Gm) (H : Hp) : Gm := fun a => match H a with
  | some _ => G a
  | none => G1 a
theorem gback_old {G G1 : Gm} {H : Hp} {a : Addr} (h : H a ≠ none) : gback G G1 H a = G a := by
  unfold gback
  cases e : H a with
  | none => exact absurd e h
  | some o => rfl
theorem gback_new {G G1 : Gm} {H : Hp} {a : Addr} (h : H a = none) : gback G G1 H a = G1 a := by unfold gback; rw [h]
theorem keep_back {G G1 : Gm} {H H' : Hp} (k : Keep (pens G) G1 H H') : Keep G (gback G G1 H) H H' :=
  ⟨fun a o e n nt => k.obj a o e (by rw [pens_non n]; simp) nt, fun a e p => k.pen a ((pens_le G).pen a e) p, fun a K J e p => k.memo a K J ((pens_le G).memo a K J e) p, fun a h => gback_old h, k.tab⟩
theorem gok_back {G G1 : Gm} {H H' : Hp} (g : GOk G H) (k : Keep (pens G) G1 H H') (g1 : GOk G1 H') : GOk (gback G G1 H) H' := by
  refine ⟨fun a x e => ?_, fun a e => ?_, fun a K J e => ?_⟩
  · by_cases h : H a = none
    · rw [gback_new h] at e; exact g1.lst a x e
    · rw [gback_old h] at e
      obtain ⟨o, q, m⟩ := g.lst a x e
      rcases fix_cases (G a) with z | ⟨K, J, z⟩ | z
      · obtain ⟨i, j, k', r, _⟩ := k.pen a ((pens_le G).pen a z) (g.pen a z)
        exact ⟨_, r, .inl ⟨_, rfl⟩⟩
      · obtain ⟨kvs, r, _⟩ := k.memo a K J ((pens_le G).memo a K J z) (g.memo a K J z)
        exact ⟨_, r, .inr (.inr ⟨_, rfl⟩)⟩
      · exact ⟨o, k.obj a _ q (by rw [pens_non z]; simp) m.nt, m⟩
  · by_cases h : H a = none
    · rw [gback_new h] at e; exact g1.pen a e
    · rw [gback_old h] at e
      exact k.pen a ((pens_le G).pen a e) (g.pen a e)
  · by_cases h : H a = none
    · rw [gback_new h] at e; exact g1.memo a K J e
    · rw [gback_old h] at e
      exact k.memo a K J ((pens_le G).memo a K J e) (g.memo a K J e)
theorem back_non {G G1 : Gm} {H H' : Hp} (g : GOk G H) (k : Keep (pens G) G1 H H') {a : Addr} (e : G1 a = none) (h : ∀ o, H' a = some o → ¬ MutO o) : gback G G1 H a = none := by
  by_cases z : H a = none
  · rw [gback_new z]; exact e
  · rw [gback_old z]
    cases q : G a with
    | none => rfl
    | some x =>
      obtain ⟨o, r, m⟩ := g.lst a x q
      rcases fix_cases (G a) with y | ⟨K, J, y⟩ | y
      · obtain ⟨i, j, k', r, _⟩ := k.pen a ((pens_le G).pen a y) (g.pen a y)
        exact absurd (.inl ⟨_, rfl⟩) (h _ r)
      · obtain ⟨kvs, r, _⟩ := k.memo a K J ((pens_le G).memo a K J y) (g.memo a K J y)
        exact absurd (.inr (.inr ⟨_, rfl⟩)) (h _ r)
      · exact absurd m (h _ (k.obj a _ r (by rw [pens_non y]; simp) m.nt))
theorem not_mut {o : HO} (h1 : ∀ vs, o ≠ .lst vs) (h2 : ∀ C dx fs, o ≠ .ins C dx fs) (h3 : ∀ kvs, o ≠ .dK kvs) : ¬ MutO o := by
  rintro (⟨vs, e⟩ | ⟨C, dx, fs, e⟩ | ⟨kvs, e⟩)
  · exact h1 _ e
  · exact h2 _ _ _ e
  · exact h3 _ e
mutual
theorem Rep.back {K : PySem.W.Frag} {G G1 : Gm} {H H' : Hp} (g : GOk G H) (k : Keep (pens G) G1 H H') : ∀ {v : V} {d : D}, noLst d = true → Rep K G1 H' v d → Rep K (gback G G1 H) H' v d
  | _, _, _, .non => .non
  | _, _, _, .bl b => .bl b
  | _, _, _, .int i => .int i
  | _, _, _, .str x => .str x
  | _, _, n, .tup e r l => .tup (back_non g k e fun o q => not_mut (fun vs z => by subst z; rcases r with r | ⟨_, r⟩ <;> (rw [r] at q; cases q)) (fun C dx fs z => by subst z; rcases r with r | ⟨_, r⟩ <;> (rw [r] at q; cases q)) (fun kvs z => by subst z; rcases r with r | ⟨_, r⟩ <;> (rw [r] at q; cases q))) r (RepL.back g k (by simpa [noLst] using n) l)
  | _, _, n, .lst e r l => by simp [noLst] at n
  | _, _, n, .scr r l => by simp [noLst] at n
  | _, _, n, .dct e r q l => by simp [noLst] at n
  | _, _, n, .dcl e r => by simp [noLst] at n
  | _, _, n, .tupN e ⟨o, r, z⟩ l => .tupN (back_non g k e fun o q => not_mut (fun vs z => by subst z; rw [r] at q; cases q) (fun C dx fs z => by subst z; rw [r] at q; cases q) (fun kvs z => by subst z; rw [r] at q; cases q)) ⟨o, r, z⟩ (RepL.back g k (by simpa [noLst] using n) l)
  | _, _, n, .ins e r q l => by simp [noLst] at n
  | _, _, _, .knil z => .knil z
  | _, _, n, .pen e p => by simp [noLst] at n
  | _, _, n, .exo0 => by simp [noLst] at n
  | _, _, n, .exo e r m l => by simp [noLst] at n
  | _, _, n, .tab t => by simp [noLst] at n
  | _, _, n, .two _ _ => by simp [noLst] at n
  | _, _, n, .memo _ _ => by simp [noLst] at n
theorem RepL.back {K : PySem.W.Frag} {G G1 : Gm} {H H' : Hp} (g : GOk G H) (k : Keep (pens G) G1 H H') : ∀ {vs : List V} {ds : List D}, noLsts ds = true → RepL K G1 H' vs ds → RepL K (gback G G1 H) H' vs ds
  | _, _, _, .nil => .nil
  | _, _, n, .cons a b => by
    simp only [noLsts, Bool.and_eq_true] at n
    exact .cons (Rep.back g k n.1 a) (RepL.back g k n.2 b)
end
/-- a def of the module as one calls it -/
structure CalQ (P : Program) (w : World) (K : PySem.W.Frag) (mg : Str → Option Value) (base : Heap) (CX : CXT) (k : Nat) (x : Str) (sp : Sp) (dvs : List V) : Prop where
  ex : ∃ f fd ps ds, FnOk P w K mg base CX k f fd ps sp ∧ mg x = some (.ref f) ∧ PySem.W.keepIn K (.ref f) = true ∧ Binds K fd ps ds ∧ Vals dvs ds
def dCall (F : DF) (ta : DA) : DE := fun env q x => ta env (fun rs => F (rs.map R.d) (fun d => (allVal rs = true ∨ noLst d = true) ∧ q (.val d)) x) x
section
variable {X : Cx} {E : XK} {a b c : Expr} {ta tb tc : DE} {pos p : Pos} {es : List Expr} {sA : DA}
theorem lift_call {F : DF} {dvs : List V} {σ : L2.St} {H : Hp} {Q : VK} {sp : Sp} (hsp : ∀ vs H Q E, spOf X.K F vs H Q E → sp (vs ++ dvs) H Q E) (h : lift X.K E (dCall F sA) σ H Q) : tCall sp dvs E (liftA X.K E sA) σ H Q := by
  obtain ⟨G0, H0, G, env, q, x, e, h, hq, hx⟩ := h
  refine ⟨G0, H0, G, env, _, x, e, h, ?_, hx⟩
  rintro rs vs G' H' qf kk g rl
  refine hsp _ _ _ _ ?_
  by_cases hv : allVal rs = true
  · have rl' := rl
    rw [allVal_map hv] at rl'
    exact ⟨G', rs.map R.d, _, x, g, rl'.vals, qf, fun d v G2 H2 qd k2 g2 r => hq _ _ G2 H2 qd.2 (kk.trans e.gok k2) g2 r, hx.keep e.gok kk⟩
  · refine ⟨pens G', rs.map R.d, _, x, pens_ok g, rl.pens, qf, fun d v G2 H2 qd k2 g2 r => ?_, ?_⟩
    · rcases qd with ⟨z | z, qd⟩
      · exact absurd z hv
      · exact hq _ _ _ H2 qd (kk.trans e.gok (keep_back k2)) (gok_back g k2 g2) (Rep.back g k2 z r)
    · intro ex G2 H2 xe k2 g2
      have := (hx.keep e.gok kk) ex (gback G' G2 H') H2 xe (keep_back k2) (gok_back g k2 g2)
      exact ⟨this.1, fun fs hf n d vs r q => this.2 fs hf n d vs (RepL.back g k2 n r) q⟩
end
end QD
namespace QD
open PySem PySem.Spec PyProof.Rows L2
section
variable {X : Cx} {E : XK}
theorem OpR.wk {f : Value → Value → Sem Value} {r r' : R2} (h : OpR X f r) (m : ∀ x y H Q, r' x y H Q → r x y H Q) : OpR X f r' :=
  fun pins s σ H x y v u Q I rx ry q => h pins s σ H x y v u Q I rx ry (m x y H Q q)
/-- two ints -/
def iiD (g : Int → Int → Option D) : D → D → Option D
  | .int i, .int j => g i j
  | _, _ => none
theorem iiD_some {g : Int → Int → Option D} {x y d : D} (h : iiD g x y = some d) : ∃ i j, x = .int i ∧ y = .int j ∧ g i j = some d := by
  cases x <;> cases y <;> first | (exact ⟨_, _, rfl, rfl, h⟩) | (simp [iiD] at h)
theorem ok_ii {f : Value → Value → Sem Value} {C : Int → Int → Prop} {g : Int → Int → V} {gd : Int → Int → Option D} (h : OpR X f (rI C g)) (hc : ∀ i j d, gd i j = some d → C i j ∧ ∀ G H, Rep X.K G H (g i j) d) : OpR X f (rD X.K (iiD gd)) := by
  refine OpR.wk h ?_
  rintro x y H Q ⟨G, r1, r2, d, g0, h1, h2, e, q⟩
  obtain ⟨i, j, e1, e2, e3⟩ := iiD_some e
  exact ⟨i, j, h1.int e1, h2.int e2, (hc i j d e3).1, q _ G H (Keep.refl G H) g0 ((hc i j d e3).2 G H)⟩
theorem ok_ii0 {f : Value → Value → Sem Value} {g : Int → Int → V} {gd : Int → Int → Option D} (h : OpR X f (rI0 g)) (hc : ∀ i j d, gd i j = some d → ∀ G H, Rep X.K G H (g i j) d) : OpR X f (rD X.K (iiD gd)) := by
  refine OpR.wk h ?_
  rintro x y H Q ⟨G, r1, r2, d, g0, h1, h2, e, q⟩
  obtain ⟨i, j, e1, e2, e3⟩ := iiD_some e
  exact ⟨i, j, h1.int e1, h2.int e2, q _ G H (Keep.refl G H) g0 (hc i j d e3 G H)⟩
abbrev rInt (i : Int) : Option D := some (.int i)
abbrev rBl (b : Bool) : Option D := some (.bl b)
theorem inj_int {i : Int} {d : D} (h : rInt i = some d) : d = .int i := (Option.some.inj h).symm
theorem inj_bl {i : Bool} {d : D} (h : rBl i = some d) : d = .bl i := (Option.some.inj h).symm
def subD := iiD fun i j => rInt (i - j)
def mulI := iiD fun i j => if (-(2 ^ 64) < i ∧ i < 2 ^ 64) ∨ (-(2 ^ 64) < j ∧ j < 2 ^ 64) then rInt (i * j) else none
def fdivD := iiD fun i j => if 0 < j ∧ j < 1073741824 then rInt (i / j) else none
def modD := iiD fun i j => if 0 < j then rInt (i % j) else none
def powD := iiD fun i j => if 0 ≤ j ∧ j ≤ 1000000 ∧ i.natAbs < 2 ^ 64 then rInt (i ^ j.toNat) else none
def shlD := iiD fun i j => if 0 ≤ j ∧ j ≤ 1000000 ∧ i.natAbs < 2 ^ 64 then rInt (i * 2 ^ j.toNat) else none
def shrD := iiD fun i j => if 0 ≤ j then rInt (i / 2 ^ j.toNat) else none
def andD := iiD fun i j => rInt (Builtin.bitAnd i j)
def orD := iiD fun i j => rInt (Builtin.bitOr i j)
def xorD := iiD fun i j => rInt (Builtin.bitXor i j)
def ltI := iiD fun i j => rBl (decide (i < j))
def leI := iiD fun i j => rBl (decide (i ≤ j))
def gtI := iiD fun i j => rBl (decide (j < i))
def geI := iiD fun i j => rBl (decide (j ≤ i))
theorem ok_sub : OpR X (binaryOp .Sub) (rD X.K subD) := ok_ii0 op_sub fun i j d h G H => by rw [inj_int h]; exact .int _
theorem ok_mulI : OpR X (binaryOp .Mult) (rD X.K mulI) := ok_ii op_mul fun i j d h => by
  by_cases c : (-(2 ^ 64) < i ∧ i < 2 ^ 64) ∨ (-(2 ^ 64) < j ∧ j < 2 ^ 64)
  · rw [if_pos c] at h; exact ⟨c, fun G H => by rw [inj_int h]; exact .int _⟩
  · rw [if_neg c] at h; cases h
theorem ok_fdiv : OpR X (binaryOp .FloorDiv) (rD X.K fdivD) := ok_ii op_fdiv fun i j d h => by
  by_cases c : 0 < j ∧ j < 1073741824
  · rw [if_pos c] at h; exact ⟨c, fun G H => by rw [inj_int h]; exact .int _⟩
  · rw [if_neg c] at h; cases h
theorem ok_mod : OpR X (binaryOp .Mod) (rD X.K modD) := ok_ii op_mod fun i j d h => by
  by_cases c : 0 < j
  · rw [if_pos c] at h; exact ⟨c, fun G H => by rw [inj_int h]; exact .int _⟩
  · rw [if_neg c] at h; cases h
theorem ok_pow : OpR X (binaryOp .Pow) (rD X.K powD) := ok_ii op_pow fun i j d h => by
  by_cases c : 0 ≤ j ∧ j ≤ 1000000 ∧ i.natAbs < 2 ^ 64
  · rw [if_pos c] at h; exact ⟨c, fun G H => by rw [inj_int h]; exact .int _⟩
  · rw [if_neg c] at h; cases h
theorem ok_shl : OpR X (binaryOp .LShift) (rD X.K shlD) := ok_ii op_shl fun i j d h => by
  by_cases c : 0 ≤ j ∧ j ≤ 1000000 ∧ i.natAbs < 2 ^ 64
  · rw [if_pos c] at h; exact ⟨c, fun G H => by rw [inj_int h]; exact .int _⟩
  · rw [if_neg c] at h; cases h
theorem ok_band : OpR X (binaryOp .BitAnd) (rD X.K andD) := ok_ii0 op_and fun i j d h G H => by rw [inj_int h]; exact .int _
theorem ok_bor : OpR X (binaryOp .BitOr) (rD X.K orD) := ok_ii0 op_or fun i j d h G H => by rw [inj_int h]; exact .int _
theorem ok_lt : OpR X (compareOp .Lt) (rD X.K ltI) := ok_ii0 op_lt fun i j d h G H => by rw [inj_bl h]; exact .bl _
theorem ok_le : OpR X (compareOp .LtE) (rD X.K leI) := ok_ii0 op_le fun i j d h G H => by rw [inj_bl h]; exact .bl _
theorem ok_gt : OpR X (compareOp .Gt) (rD X.K gtI) := ok_ii0 op_gt fun i j d h G H => by rw [inj_bl h]; exact .bl _
theorem ok_ge : OpR X (compareOp .GtE) (rD X.K geI) := ok_ii0 op_ge fun i j d h G H => by rw [inj_bl h]; exact .bl _

/-- + -/
def addD : D → D → Option D
  | .int i, .int j => some (.int (i + j))
  | .str i, .str j => if i.length + j.length ≤ 16777216 then some (.str (i ++ j)) else none
  | .tup xs, .tup ys => if xs.length + ys.length ≤ 16777216 then some (.tup (xs ++ ys)) else none
  | _, _ => none
theorem ok_add : OpR X (binaryOp .Add) (rD X.K addD) := by
  refine OpR.wk ((op_add (X := X)).or ((op_add_str (X := X)).or (op_catA (X := X)))) ?_
  rintro x y H Q ⟨G, r1, r2, d, g0, h1, h2, e, q⟩
  generalize hd1 : r1.d = d1 at e
  generalize hd2 : r2.d = d2 at e
  unfold addD at e
  split at e
  · cases e
    exact .inl ⟨_, _, h1.int hd1, h2.int hd2, q _ G H (Keep.refl G H) g0 (.int _)⟩
  · split at e
    · rename_i l
      cases e
      exact .inr (.inl ⟨_, _, h1.str hd1, h2.str hd2, by rw [sizeLine_eq]; exact l, q _ G H (Keep.refl G H) g0 (.str _)⟩)
    · cases e
  · split at e
    · rename_i xs ys l
      cases e
      obtain ⟨a, vs, e1, s1, l1⟩ := h1.tup hd1
      obtain ⟨b, us, e2, s2, l2⟩ := h2.tup hd2
      refine .inr (.inr ⟨a, b, vs, us, e1, e2, s1, s2, by rw [l1.length, l2.length, sizeLine_eq]; exact l, fun z => ?_, fun _ z => ?_, fun _ _ p hp => ?_⟩)
      · subst z
        cases l1
        cases r2 with
        | brw _ => cases hd2
        | val d2 =>
          have : d2 = .tup ys := hd2
          subst this
          subst e2
          exact q _ G H (Keep.refl G H) g0 h2
      · subst z
        cases l2
        cases r1 with
        | brw _ => cases hd1
        | val d1 =>
          have : d1 = .tup xs := hd1
          subst this
          subst e1
          rw [List.append_nil] at q
          exact q _ G H (Keep.refl G H) g0 h1
      · exact q _ G _ (Keep.laid hp) (g0.laid hp) (Rep.newT g0 hp (l1.append l2))
    · cases e
  · cases e
/-- list + list -/
def catD : D → D → Option D
  | .lst xs, .lst ys => if xs.length + ys.length ≤ 16777216 then some (.lst (xs ++ ys)) else none
  | _, _ => none

/-! ### ==, != of data -/
mutual
def toPy : D → Option PyData
  | .non => some .none
  | .bl b => some (.bool b)
  | .int i => some (.int i)
  | .str x => some (.str x)
  | .tup xs => (toPys xs).map .tuple
  | .lst xs => (toPys xs).map .list
  | _ => none
def toPys : List D → Option (List PyData)
  | [] => some []
  | x :: xs => match toPy x, toPys xs with
    | some p, some ps => some (p :: ps)
    | _, _ => none
end
theorem toPys_cons {x : D} {xs : List D} {l : List PyData} (h : toPys (x :: xs) = some l) : ∃ p ps, toPy x = some p ∧ toPys xs = some ps ∧ l = p :: ps := by
  unfold toPys at h
  split at h
  · rename_i p ps e1 e2
    exact ⟨p, ps, e1, e2, (Option.some.inj h).symm⟩
  · cases h
mutual
theorem Rep.dp {K : PySem.W.Frag} {G : Gm} {H : Hp} : ∀ {v : V} {d : D}, Rep K G H v d → ∀ {p : PyData}, toPy d = some p → Dp K H v p
  | _, _, .non => fun e => by simp only [toPy, Option.some.injEq] at e; subst e; exact .non
  | _, _, .bl b => fun e => by simp only [toPy, Option.some.injEq] at e; subst e; exact .bl b
  | _, _, .int b => fun e => by simp only [toPy, Option.some.injEq] at e; subst e; exact .int b
  | _, _, .str b => fun e => by simp only [toPy, Option.some.injEq] at e; subst e; exact .str b
  | _, _, .tup _ r l => fun e => by
    simp only [toPy, Option.map_eq_some_iff] at e
    obtain ⟨ps, e1, e2⟩ := e
    subst e2
    exact .tup (.inl r) (RepL.dp l e1)
  | _, _, .lst _ r l => fun e => by
    simp only [toPy, Option.map_eq_some_iff] at e
    obtain ⟨ps, e1, e2⟩ := e
    subst e2
    exact .lst (.inl (.inl r)) (RepL.dp l e1)
  | _, _, .scr _ _ => fun e => by simp [toPy] at e
  | _, _, .dct _ _ _ _ => fun e => by simp [toPy] at e
  | _, _, .dcl _ _ => fun e => by simp [toPy] at e
  | _, _, .ins _ _ _ _ => fun e => by simp [toPy] at e
  | _, _, .pen _ _ => fun e => by simp [toPy] at e
  | _, _, .exo0 => fun e => by simp [toPy] at e
  | _, _, .exo _ _ _ _ => fun e => by simp [toPy] at e
  | _, _, .tab _ => fun e => by simp [toPy] at e
  | _, _, .two _ _ => fun e => by simp [toPy] at e
  | _, _, .tupN _ _ _ => fun e => by simp [toPy] at e
  | _, _, .memo _ _ => fun e => by simp [toPy] at e
  | _, _, .knil z => fun e => by
    simp only [toPy, toPys, Option.map_some, Option.some.injEq] at e
    subst e
    exact .tup (.inr z) .nil
theorem RepL.dp {K : PySem.W.Frag} {G : Gm} {H : Hp} : ∀ {vs : List V} {ds : List D}, RepL K G H vs ds → ∀ {ps : List PyData}, toPys ds = some ps → DpAll K H vs ps
  | _, _, .nil => fun e => by simp only [toPys, Option.some.injEq] at e; subst e; exact .nil
  | _, _, .cons a b => fun e => by
    obtain ⟨p, ps, e1, e2, e3⟩ := toPys_cons e
    subst e3
    exact .cons (Rep.dp a e1) (RepL.dp b e2)
end
theorem RRep.dp {K : PySem.W.Frag} {G : Gm} {H : Hp} {v : V} {r : R} {p : PyData} (h : RRep K G H v r) (e : toPy r.d = some p) : Dp K H v p := by
  cases r with
  | val d => exact Rep.dp h e
  | brw ds =>
    obtain ⟨a, vs, rfl, q, _, l⟩ := h
    simp only [R.d, toPy, Option.map_eq_some_iff] at e
    obtain ⟨ps, e1, e2⟩ := e
    subst e2
    exact .lst (.inl (.inl q)) (RepL.dp l e1)
def eqB (x y : D) : Option Bool := match toPy x, toPy y with
  | some p, some q => if (SeqAt.shaped p && SeqAt.shaped q) = true then some (PyData.eqv p q) else none
  | _, _ => none
theorem eqB_some {x y : D} {b : Bool} (h : eqB x y = some b) : ∃ p q, toPy x = some p ∧ toPy y = some q ∧ SeqAt.shaped p = true ∧ SeqAt.shaped q = true ∧ b = PyData.eqv p q := by
  unfold eqB at h
  split at h
  · rename_i p q e1 e2
    split at h
    · rename_i z
      rw [Bool.and_eq_true] at z
      exact ⟨p, q, e1, e2, z.1, z.2, (Option.some.inj h).symm⟩
    · cases h
  · cases h
def eqD (x y : D) : Option D := (eqB x y).map .bl
def neD (x y : D) : Option D := (eqB x y).map fun b => .bl (!b)
theorem ok_eq (hu : X.A.units + 64 < cLine) : OpR X (compareOp .Eq) (rD X.K eqD) := by
  refine OpR.wk (op_eqD hu) ?_
  rintro x y H Q ⟨G, r1, r2, d, g0, h1, h2, e, q⟩
  obtain ⟨b, e1, e2⟩ := Option.map_eq_some_iff.mp e
  subst e2
  obtain ⟨p, p', a1, a2, a3, a4, rfl⟩ := eqB_some e1
  exact ⟨p, p', h1.dp a1, h2.dp a2, a3, a4, q _ G H (Keep.refl G H) g0 (.bl _)⟩
theorem ok_ne (hu : X.A.units + 64 < cLine) : OpR X (compareOp .NotEq) (rD X.K neD) := by
  refine OpR.wk (op_neD hu) ?_
  rintro x y H Q ⟨G, r1, r2, d, g0, h1, h2, e, q⟩
  obtain ⟨b, e1, e2⟩ := Option.map_eq_some_iff.mp e
  subst e2
  obtain ⟨p, p', a1, a2, a3, a4, rfl⟩ := eqB_some e1
  exact ⟨p, p', h1.dp a1, h2.dp a2, a3, a4, q _ G H (Keep.refl G H) g0 (.bl _)⟩
/-- is None -/
def isNon : D → Bool
  | .non => true
  | _ => false
def isND (x y : D) : Option D := if isNon y then some (.bl (isNon x)) else none
def isNotND (x y : D) : Option D := if isNon y then some (.bl (!isNon x)) else none
theorem RRep.non {K : PySem.W.Frag} {G : Gm} {H : Hp} {v : V} {r : R} (h : RRep K G H v r) : decide (v = .non) = isNon r.d := by
  cases r with
  | val d => cases h <;> simp [R.d, isNon]
  | brw ds => obtain ⟨a, vs, rfl, _⟩ := h; simp [R.d, isNon]
theorem isNon_eq {K : PySem.W.Frag} {G : Gm} {H : Hp} {v : V} {r : R} (h : RRep K G H v r) (e : isNon r.d = true) : v = .non := of_decide_eq_true (h.non.trans e)
theorem ok_isN : OpR X (compareOp .Is) (rD X.K isND) := by
  refine OpR.wk op_isN ?_
  rintro x y H Q ⟨G, r1, r2, d, g0, h1, h2, e, q⟩
  unfold isND at e
  split at e
  · rename_i z
    cases e
    exact ⟨isNon_eq h2 z, by rw [h1.non]; exact q _ G H (Keep.refl G H) g0 (.bl _)⟩
  · cases e
theorem ok_isNotN : OpR X (compareOp .IsNot) (rD X.K isNotND) := by
  refine OpR.wk op_notN ?_
  rintro x y H Q ⟨G, r1, r2, d, g0, h1, h2, e, q⟩
  unfold isNotND at e
  split at e
  · rename_i z
    cases e
    exact ⟨isNon_eq h2 z, by rw [h1.non]; exact q _ G H (Keep.refl G H) g0 (.bl _)⟩
  · cases e
end
end QD
namespace QD
open PySem PySem.Spec PyProof.Rows L2
section
variable {X : Cx} {E : XK}
/-! ### in, not in -/
def inB (x y : D) : Option Bool := match toPy x, toPy y with
  | some d, some (.list xs) => if (SeqAt.shaped d && PyData.canLayAll0 xs) = true then some (xs.any fun y => PyData.eqv y d) else none
  | some d, some (.tuple xs) => if (SeqAt.shaped d && PyData.canLayAll0 xs) = true then some (xs.any fun y => PyData.eqv y d) else none
  | _, _ => none
theorem inB_some {x y : D} {b : Bool} (h : inB x y = some b) : ∃ d xs, toPy x = some d ∧ (toPy y = some (.list xs) ∨ toPy y = some (.tuple xs)) ∧ SeqAt.shaped d = true ∧ PyData.canLayAll0 xs = true ∧ b = xs.any fun y => PyData.eqv y d := by
  unfold inB at h
  split at h
  · rename_i d xs e1 e2
    split at h
    · rename_i z
      rw [Bool.and_eq_true] at z
      exact ⟨d, xs, e1, .inl e2, z.1, z.2, (Option.some.inj h).symm⟩
    · cases h
  · rename_i d xs e1 e2
    split at h
    · rename_i z
      rw [Bool.and_eq_true] at z
      exact ⟨d, xs, e1, .inr e2, z.1, z.2, (Option.some.inj h).symm⟩
    · cases h
  · cases h
def inD (x y : D) : Option D := (inB x y).map .bl
def notInD (x y : D) : Option D := (inB x y).map fun b => .bl (!b)
theorem in_room {A : Around} {d : PyData} {xs : List PyData} (hu : A.units + 65 < cLine) (h : SeqAt.shaped d = true) : A.units + 1 + min (PyData.depthAll xs) d.depth < cLine := by
  have h1 := SeqAt.depth_of_shaped h
  have h2 : min (PyData.depthAll xs) d.depth ≤ d.depth := Nat.min_le_right _ _
  omega
theorem ok_in (hu : X.A.units + 65 < cLine) : OpR X (compareOp .In) (rD X.K inD) := by
  rintro pins s σ H x y v u Q I rx ry ⟨G, r1, r2, d, g0, h1, h2, e, q⟩
  obtain ⟨b, e1, e2⟩ := Option.map_eq_some_iff.mp e
  subst e2
  obtain ⟨p, xs, a1, a2, a3, a4, rfl⟩ := inB_some e1
  obtain ⟨as, rd⟩ := Dp.reads I p x v (h1.dp a1) rx
  have fin : EP X pins σ Q (.bool (xs.any fun y => PyData.eqv y p)) s := ⟨.bl _, H, I, rfl, q _ G H (Keep.refl G H) g0 (.bl _)⟩
  rcases a2 with a2 | a2
  · obtain ⟨bs, re⟩ := Dp.reads I _ y u (h2.dp a2) ry
    exact SeqAt.in_list_reads re rd a4 (SeqAt.canLay_of_shaped a3) (in_room hu a3) fin
  · obtain ⟨bs, re⟩ := Dp.reads I _ y u (h2.dp a2) ry
    exact SeqAt.in_tuple_reads re rd a4 (SeqAt.canLay_of_shaped a3) (in_room hu a3) fin
theorem ok_notIn (hu : X.A.units + 65 < cLine) : OpR X (compareOp .NotIn) (rD X.K notInD) := by
  rintro pins s σ H x y v u Q I rx ry ⟨G, r1, r2, d, g0, h1, h2, e, q⟩
  obtain ⟨b, e1, e2⟩ := Option.map_eq_some_iff.mp e
  subst e2
  obtain ⟨p, xs, a1, a2, a3, a4, rfl⟩ := inB_some e1
  obtain ⟨as, rd⟩ := Dp.reads I p x v (h1.dp a1) rx
  have fin : EP X pins σ Q (.bool (!xs.any fun y => PyData.eqv y p)) s := ⟨.bl _, H, I, rfl, q _ G H (Keep.refl G H) g0 (.bl _)⟩
  rcases a2 with a2 | a2
  · obtain ⟨bs, re⟩ := Dp.reads I _ y u (h2.dp a2) ry
    exact SeqAt.notIn_list_reads re rd a4 (SeqAt.canLay_of_shaped a3) (in_room hu a3) fin
  · obtain ⟨bs, re⟩ := Dp.reads I _ y u (h2.dp a2) ry
    exact SeqAt.notIn_tuple_reads re rd a4 (SeqAt.canLay_of_shaped a3) (in_room hu a3) fin

/-! ### built-in calls -/
def rC (K : PySem.W.Frag) (f : List D → Option D) : List V → Hp → VK → Prop := fun xs H Q => ∃ G rs d, GOk G H ∧ RRepL K G H xs rs ∧ f (rs.map R.d) = some d ∧ ∀ v G' H', Keep G G' H H' → GOk G' H' → Rep K G' H' v d → Q v H'
def dBlt (f : List D → Option D) (ta : DA) : DE := fun env q x => ta env (fun rs => ∃ d, f (rs.map R.d) = some d ∧ q (.val d)) x
variable {a : Expr} {es : List Expr} {sA : DA} {pos p : Pos} {x : Str}
theorem lift_blt {f : List D → Option D} {σ : L2.St} {H : Hp} {Q : VK} (h : lift X.K E (dBlt f sA) σ H Q) : tCB (rC X.K f) (liftA X.K E sA) σ H Q := by
  obtain ⟨G0, H0, G, env, q, x, e, h, hq, hx⟩ := h
  refine ⟨G0, H0, G, env, _, x, e, h, ?_, hx⟩
  rintro rs vs G' H' ⟨d, fd, qd⟩ kk g rl
  exact ⟨G', rs, d, g, rl, fd, fun v G2 H2 k2 g2 r => hq _ _ G2 H2 qd (kk.trans e.gok k2) g2 r⟩
theorem pd_blt {id : String} {f : List D → Option D} (hc : CallR X (.builtin id) (rC X.K f)) (hm : X.mg x = none) (hv : bootBuiltins x = some (.builtin id)) (ha : PDA X E (a :: es) sA) (hg : Gl X x := by rfl) (hn : x ≠ "__name__" := by decide) (hdb : (x == ("__debug__" : Str)) = false := by decide)
    (he : starEach (a :: es) X.env = (false, eval a X.env) :: starEach es X.env := by rfl) (hpl : (backTo pos (starEach es X.env)).any (·.1) = false := by rfl) : PD X E (.Call (.Name x p) (a :: es) [] pos) (dBlt f sA) :=
  PE.wk (pe_callB hc hg hm hv ha hn hdb he hpl) fun _ _ _ h => lift_blt h
theorem pd_bty {id : String} {f : List D → Option D} (hc : CallR X (.type id) (rC X.K f)) (hm : X.mg x = none) (hv : bootBuiltins x = some (.type id)) (ha : PDA X E (a :: es) sA) (hg : Gl X x := by rfl) (hn : x ≠ "__name__" := by decide) (hdb : (x == ("__debug__" : Str)) = false := by decide)
    (he : starEach (a :: es) X.env = (false, eval a X.env) :: starEach es X.env := by rfl) (hpl : (backTo pos (starEach es X.env)).any (·.1) = false := by rfl) : PD X E (.Call (.Name x p) (a :: es) [] pos) (dBlt f sA) :=
  PE.wk (pe_callTy hc hg hm hv ha hn hdb he hpl) fun _ _ _ h => lift_blt h
theorem CallR.wk {f : Value} {r r' : List V → Hp → VK → Prop} (h : CallR X f r) (m : ∀ xs H Q, r' xs H Q → r xs H Q) : CallR X f r' := fun pins s σ H xs us Q I rv q => h pins s σ H xs us Q I rv (m xs H Q q)
theorem one_rep {K : PySem.W.Frag} {G : Gm} {H : Hp} {vs : List V} {rs : List R} {d : D} (h : RRepL K G H vs rs) (e : rs.map R.d = [d]) : ∃ v r, vs = [v] ∧ rs = [r] ∧ r.d = d ∧ RRep K G H v r := by
  cases h with
  | nil => cases e
  | cons h1 h2 =>
    cases h2 with
    | nil => exact ⟨_, _, rfl, rfl, by simpa using e, h1⟩
    | cons _ _ => simp at e
theorem two_rep {K : PySem.W.Frag} {G : Gm} {H : Hp} {vs : List V} {rs : List R} {d d2 : D} (h : RRepL K G H vs rs) (e : rs.map R.d = [d, d2]) : ∃ v r v2 r2, vs = [v, v2] ∧ rs = [r, r2] ∧ r.d = d ∧ r2.d = d2 ∧ RRep K G H v r ∧ RRep K G H v2 r2 := by
  cases h with
  | nil => cases e
  | cons h1 h2 =>
    cases h2 with
    | nil => cases e
    | cons h3 h4 =>
      cases h4 with
      | nil => simp at e; exact ⟨_, _, _, _, rfl, rfl, e.1, e.2, h1, h3⟩
      | cons _ _ => simp at e
/-- a list's or tuple's items -/
def seqOf : D → Option (List D)
  | .tup xs => some xs
  | .lst xs => some xs
  | .scr xs => some xs
  | _ => none
theorem seq_rep {K : PySem.W.Frag} {G : Gm} {H : Hp} {v : V} {r : R} {ds : List D} (h : RRep K G H v r) (e : seqOf r.d = some ds) : ∃ a vs, v = .ref a ∧ ((SqL K H a vs ∧ (r.d = .lst ds ∨ r.d = .scr ds)) ∨ (SqT K H a vs ∧ r.d = .tup ds)) ∧ RepL K G H vs ds := by
  unfold seqOf at e
  split at e
  · rename_i z
    cases e
    obtain ⟨a, vs, h1, h2, h3⟩ := h.tup z
    exact ⟨a, vs, h1, .inr ⟨h2, z⟩, h3⟩
  · rename_i z
    cases e
    obtain ⟨a, vs, h1, h2, _, h3⟩ := h.lst z
    exact ⟨a, vs, h1, .inl ⟨.inl (.inl h2), .inl z⟩, h3⟩
  · rename_i z
    cases e
    obtain ⟨a, vs, h1, h2, h3⟩ := h.scr z
    exact ⟨a, vs, h1, .inl ⟨h2, .inr z⟩, h3⟩
  · cases e
def lenF : List D → Option D
  | [.str z] => if z.length ≤ 16777216 then some (.int z.length) else none
  | [d] => (seqOf d).map fun xs => .int xs.length
  | _ => none
theorem ok_len : CallR X (.builtin "len") (rC X.K lenF) := by
  refine CallR.wk ((call_len_seq (X := X)).or (call_len_str (X := X))) ?_
  rintro xs H Q ⟨G, rs, d, g0, rl, e, q⟩
  generalize hd : rs.map R.d = l at e
  unfold lenF at e
  split at e
  · obtain ⟨v, r, rfl, rfl, e1, rr⟩ := one_rep rl hd
    split at e
    · rename_i z
      cases e
      exact .inr ⟨_, by rw [rr.str e1], by rw [sizeLine_eq]; exact z, q _ G H (Keep.refl G H) g0 (.int _)⟩
    · cases e
  · obtain ⟨ds, e1, e2⟩ := Option.map_eq_some_iff.mp e
    subst e2
    obtain ⟨v, r, rfl, rfl, e3, rr⟩ := one_rep rl hd
    rw [← e3] at e1
    obtain ⟨a, vs, rfl, h, l⟩ := seq_rep rr e1
    refine .inl ⟨a, vs, rfl, h.imp (·.1) (·.1), ?_⟩
    rw [l.length]
    exact q _ G H (Keep.refl G H) g0 (.int _)
  · cases e
def intF : List D → Option D
  | [.int i] => some (.int i)
  | [.bl b] => some (.int (if b then 1 else 0))
  | _ => none
theorem ok_int : CallR X (.type "int") (rC X.K intF) := by
  refine CallR.wk (call_int1 (X := X)) ?_
  rintro xs H Q ⟨G, rs, d, g0, rl, e, q⟩
  generalize hd : rs.map R.d = l at e
  unfold intF at e
  split at e
  · cases e
    obtain ⟨v, r, rfl, rfl, e1, rr⟩ := one_rep rl hd
    exact .inl ⟨_, by rw [rr.int e1], q _ G H (Keep.refl G H) g0 (.int _)⟩
  · cases e
    obtain ⟨v, r, rfl, rfl, e1, rr⟩ := one_rep rl hd
    exact .inr ⟨_, by rw [rr.bl e1], q _ G H (Keep.refl G H) g0 (.int _)⟩
  · cases e
def max2F : List D → Option D
  | [.int i, .int j] => some (.int (if j > i then j else i))
  | _ => none
theorem ok_max2 (hc : X.calm = true) : CallR X (.builtin "max") (rC X.K max2F) := by
  refine CallR.wk (call_max2 hc) ?_
  rintro xs H Q ⟨G, rs, d, g0, rl, e, q⟩
  generalize hd : rs.map R.d = l at e
  unfold max2F at e
  split at e
  · cases e
    obtain ⟨v, r, v2, r2, rfl, rfl, e1, e2, rr, rr2⟩ := two_rep rl hd
    exact ⟨_, _, by rw [rr.int e1, rr2.int e2], q _ G H (Keep.refl G H) g0 (.int _)⟩
  · cases e
def tupF : List D → Option D
  | [d] => (seqOf d).map .tup
  | _ => none
theorem ok_tuple : CallR X (.type "tuple") (rC X.K tupF) := by
  refine CallR.wk (call_tuple_of (X := X)) ?_
  rintro xs H Q ⟨G, rs, d, g0, rl, e, q⟩
  generalize hd : rs.map R.d = l at e
  unfold tupF at e
  split at e
  · obtain ⟨ds, e1, e2⟩ := Option.map_eq_some_iff.mp e
    subst e2
    obtain ⟨v, r, rfl, rfl, e3, rr⟩ := one_rep rl hd
    rw [← e3] at e1
    obtain ⟨a, vs, rfl, h, l⟩ := seq_rep rr e1
    refine ⟨a, vs, rfl, ?_⟩
    rcases h with ⟨h, _⟩ | ⟨h, z⟩
    · exact .inl ⟨h, fun p hp => q _ G _ (Keep.laid hp) (g0.laid hp) (Rep.newT g0 hp l)⟩
    · refine .inr ⟨h, ?_⟩
      cases r with
      | brw _ => cases z
      | val d =>
        have : d = .tup ds := z
        subst this
        exact q _ G H (Keep.refl G H) g0 rr
  · cases e
def lstF : List D → Option D
  | [d] => (seqOf d).map .lst
  | _ => none
/-- the ints, bools of a list -/
def intsOf : List D → Option (List Int)
  | [] => some []
  | .int i :: r => (intsOf r).map (i :: ·)
  | _ => none
def blsOf : List D → Option (List Bool)
  | [] => some []
  | .bl i :: r => (blsOf r).map (i :: ·)
  | _ => none
theorem ints_rep {K : PySem.W.Frag} {G : Gm} {H : Hp} : ∀ {vs : List V} {ds : List D} {ns : List Int}, RepL K G H vs ds → intsOf ds = some ns → vs = ns.map V.int
  | _, _, _, .nil, e => by simp [intsOf] at e; subst e; rfl
  | _, _, _, .cons (d := d) a b, e => by
    cases d <;> simp only [intsOf, Option.map_eq_some_iff, reduceCtorEq] at e
    obtain ⟨r, e1, e2⟩ := e
    subst e2
    cases a
    rw [ints_rep b e1]; rfl
theorem bls_rep {K : PySem.W.Frag} {G : Gm} {H : Hp} : ∀ {vs : List V} {ds : List D} {ns : List Bool}, RepL K G H vs ds → blsOf ds = some ns → vs = ns.map V.bl
  | _, _, _, .nil, e => by simp [blsOf] at e; subst e; rfl
  | _, _, _, .cons (d := d) a b, e => by
    cases d <;> simp only [blsOf, Option.map_eq_some_iff, reduceCtorEq] at e
    obtain ⟨r, e1, e2⟩ := e
    subst e2
    cases a
    rw [bls_rep b e1]; rfl
theorem rep_ints {K : PySem.W.Frag} {G : Gm} {H : Hp} : ∀ ns : List Int, RepL K G H (ns.map V.int) (ns.map D.int)
  | [] => .nil
  | n :: r => .cons (.int n) (rep_ints r)
def sortI (ns : List Int) : List Int := ns.mergeSort fun a b => decide (a ≤ b)
theorem sortI_perm (ns : List Int) : (sortI ns).Perm ns := List.mergeSort_perm _ _
theorem sortI_sorted (ns : List Int) : (sortI ns).Pairwise (· ≤ ·) := by
  have h := List.pairwise_mergeSort (le := fun a b : Int => decide (a ≤ b)) (fun a b c h1 h2 => by simp at *; omega) (fun a b => by simp; omega) ns
  exact h.imp fun z => of_decide_eq_true z
def sortedF : List D → Option D
  | [.lst ds] => match intsOf ds with
    | some ns => if ns.length < 64 then some (.lst ((sortI ns).map .int)) else none
    | none => none
  | _ => none
theorem ok_sorted : CallR X (.builtin "sorted") (rC X.K sortedF) := by
  refine CallR.wk (cr_sorted (X := X)) ?_
  rintro xs H Q ⟨G, rs, d, g0, rl, e, q⟩
  generalize hd : rs.map R.d = l at e
  unfold sortedF at e
  split at e
  · split at e
    · rename_i ns hn
      split at e
      · rename_i l64
        cases e
        obtain ⟨v, r, rfl, rfl, e1, rr⟩ := one_rep rl hd
        obtain ⟨a, vs, rfl, h, _, l⟩ := rr.lst e1
        refine ⟨a, ns, rfl, by rw [← ints_rep l hn]; exact .inl (.inl h), l64, fun ns' p hp hs hn' => ?_⟩
        have : ns' = sortI ns := PySem.W.ksm_same (hp.trans (sortI_perm ns).symm) hs (sortI_sorted ns)
        subst this
        exact q _ G _ (Keep.laid hn') (g0.laid hn') (Rep.newL g0 hn' (rep_ints _))
      · cases e
    · cases e
  · cases e
def allF : List D → Option D
  | [.lst ds] => (blsOf ds).map fun ns => .bl (ns.all id)
  | _ => none
theorem ok_all (hc : X.calm = true) : CallR X (.builtin "all") (rC X.K allF) := by
  refine CallR.wk (cr_all hc) ?_
  rintro xs H Q ⟨G, rs, d, g0, rl, e, q⟩
  generalize hd : rs.map R.d = l at e
  unfold allF at e
  split at e
  · obtain ⟨ns, hn, e2⟩ := Option.map_eq_some_iff.mp e
    subst e2
    obtain ⟨v, r, rfl, rfl, e1, rr⟩ := one_rep rl hd
    obtain ⟨a, vs, rfl, h, _, l⟩ := rr.lst e1
    exact ⟨a, ns, rfl, by rw [← bls_rep l hn]; exact .inl (.inl h), q _ G H (Keep.refl G H) g0 (.bl _)⟩
  · cases e
def anyF : List D → Option D
  | [.lst ds] => (blsOf ds).map fun ns => .bl (ns.any id)
  | _ => none
/-- repr of data -/
def reprF : List D → Option D
  | [d] => match toPy d with
    | some p => if (p.showable && SeqAt.shaped p && decide (p.shown.length ≤ 16777216)) = true then some (.str p.shown) else none
    | none => none
  | _ => none
theorem ok_repr (hgd : X.A.guards = some []) (hu : X.A.units + 65 < cLine) : CallR X (.builtin "repr") (rC X.K reprF) := by
  rintro pins s σ H xs us Q I rv ⟨G, rs, d, g0, rl, e, q⟩
  generalize hd : rs.map R.d = l at e
  unfold reprF at e
  split at e
  · rename_i d0
    split at e
    · rename_i p hp
      split at e
      · rename_i z
        cases e
        simp only [Bool.and_eq_true, decide_eq_true_eq] at z
        obtain ⟨⟨z1, z2⟩, z3⟩ := z
        obtain ⟨v, r, rfl, rfl, e1, rr⟩ := one_rep rl hd
        obtain ⟨u, rfl, ru⟩ := vals1 rv
        have hdp := rr.dp (by rw [e1]; exact hp)
        obtain ⟨as, rd⟩ := Dp.reads I p v u hdp ru
        have hz : p.shown.length ≤ sizeLine := by rw [sizeLine_eq]; exact z3
        have fin : ∀ h' tk, (∀ b o, s.heap.get? b = some o → h'.get? b = some o) → EP X pins σ Q (.str p.shown tk) { s with heap := h', toks := tk + 1 } := fun h' tk k => ⟨.str p.shown, H, I.kept k, ⟨_, rfl⟩, q _ G H (Keep.refl G H) g0 (.str _)⟩
        cases v with
        | ref a =>
          cases ru
          refine repr_of_reads' (h₀ := s.heap) rd z1 (fun hx => ?_) hgd (by have := SeqAt.depth_of_shaped z2; omega) (fun _ _ k => k) (fun h' t tk k => ?_) hz
          · rw [PyData.hasDict_of_canLay p (SeqAt.canLay_of_shaped z2)] at hx; cases hx
          · exact ⟨.str p.shown, H, I.kept k, ⟨_, rfl⟩, q _ G H (Keep.refl G H) g0 (.str _)⟩
        | non =>
          cases ru; cases hdp
          exact PySem.P.repr_of_none (fin s.heap s.toks fun _ _ k => k)
        | bl b =>
          cases ru; cases hdp
          exact PySem.P.repr_of_bool (fin s.heap s.toks fun _ _ k => k)
        | int i =>
          obtain ⟨t, rfl⟩ := ru
          cases hdp
          exact PySem.P.repr_of_int (by simpa [PyData.showable] using z1) (fin s.heap s.toks fun _ _ k => k)
        | str y =>
          obtain ⟨t, rfl⟩ := ru
          cases hdp
          exact PySem.P.repr_of_str (fin s.heap s.toks fun _ _ k => k) hz
        | byt b => cases hdp
        | flt b => cases hdp
        | ty n => cases hdp
      · cases e
    · cases e
  · cases e

/-! ### isinstance of a built-in class -/
def isiD (d : D) (T : String) : Option Bool := match d with
  | .non => kitB "NoneType" T
  | .bl _ => kitB "bool" T
  | .int _ => kitB "int" T
  | .str _ => kitB "str" T
  | .tup _ => kitB "tuple" T
  | .lst _ => kitB "list" T
  | .dct _ _ => kitB "dict" T
  | _ => none
theorem TyX.of {K : PySem.W.Frag} {G : Gm} {H : Hp} {v : V} {r : R} {T : String} {b : Bool} (h : RRep K G H v r) (e : isiD r.d T = some b) : ∃ t, TyX K H v (.type t) ∧ kitB t T = some b := by
  cases r with
  | brw ds =>
    obtain ⟨a, vs, rfl, q, _, l⟩ := h
    exact ⟨_, .base (.lst q), e⟩
  | val d =>
    cases h with
    | non => exact ⟨_, .base .non, e⟩
    | bl b => exact ⟨_, .base (.bl b), e⟩
    | int b => exact ⟨_, .base (.int b), e⟩
    | str b => exact ⟨_, .base (.str b), e⟩
    | tup _ r l =>
      rcases r with r | ⟨o, r⟩
      · exact ⟨_, .base (.tup r), e⟩
      · exact ⟨_, .fTuple r, e⟩
    | lst _ r l => exact ⟨_, .base (.lst r), e⟩
    | scr r l => cases e
    | dct _ r _ l =>
      rcases r with r | ⟨o, r⟩
      · exact ⟨_, .base (.dK r), e⟩
      · exact ⟨_, .fDict r, e⟩
    | dcl _ r => cases e
    | ins _ r _ l => cases e
    | two _ _ => cases e
    | memo _ _ => cases e
    | tupN _ _ _ => cases e
    | pen _ r => cases e
    | exo0 => cases e
    | exo _ r _ l => cases e
    | tab r => cases e
    | knil z =>
      obtain ⟨o, its, n, h1, h2, _⟩ := z
      exact ⟨_, .kTuple h1 h2, e⟩
def dIsi (T : String) (ta : DE) : DE := fun env q x => ta env (fun r => ∃ b, isiD r.d T = some b ∧ q (.val (.bl b))) x
theorem pd_isi {ta : DE} {T : String} {y : Str} {p2 : Pos} (hm : X.mg "isinstance" = none) (hm2 : X.mg y = none) (hv2 : bootBuiltins y = some (.type T)) (ha : PD X E a ta) (hg : Gl X "isinstance" := by rfl) (hg2 : Gl X y := by rfl)
    (hn : y ≠ "__name__" := by decide) (hdb : (y == ("__debug__" : Str)) = false := by decide) (hv : bootBuiltins "isinstance" = some (.builtin "isinstance") := by decide +kernel)
    (hs1 : starEach [a, Expr.Name y p2] X.env = (false, eval a X.env) :: starEach [Expr.Name y p2] X.env := by rfl) :
    PD X E (.Call (.Name "isinstance" p) [a, .Name y p2] [] pos) (dIsi T ta) := by
  have h2 : PE X (.Name y p2) (tC (.ty T)) := pe_bltn hg2 hm2 hv2 rfl hn hdb
  refine PE.wk (pe_callB call_isi hg hm hv (pa_cons (show PE X a (lift X.K E ta) from ha) (pa_cons h2 pa_nil) hs1) (he := hs1)) ?_
  rintro σ H Q ⟨G0, H0, G, env, q, x, e, h, hq, hx⟩
  refine ⟨G0, H0, G, env, _, x, e, h, ?_, hx⟩
  rintro r v G' H' ⟨b, eb, qb⟩ kk g rr
  obtain ⟨t, ty, kb⟩ := TyX.of rr eb
  exact ⟨v, .ty T, .type t, .type T, b, rfl, .ty T, ty, kit_ty kb, hq _ _ G' H' qb kk g (Rep.bl _)⟩

/-! ### subscripts, slices -/
def ixD (x y : D) : Option D := match y with
  | .int i => (seqOf x).bind fun xs => atI xs i
  | _ => none
theorem rep_atI {K : PySem.W.Frag} {G : Gm} {H : Hp} {vs : List V} {ds : List D} {i : Int} {d : D} (l : RepL K G H vs ds) (h : atI ds i = some d) : ∃ v, atI vs i = some v ∧ Rep K G H v d := by
  unfold atI at h ⊢
  rw [l.length]
  cases e : ixN ds.length i with
  | none => rw [e] at h; cases h
  | some j =>
    rw [e] at h
    exact l.get h
theorem ok_ix : IxR X (rD X.K ixD) := by
  rintro ve se pins s σ H x y v u Q I rx ry ⟨G, r1, r2, d, g0, h1, h2, e, q⟩ hst
  generalize hy : r2.d = dy at e
  unfold ixD at e
  split at e
  · rename_i i
    obtain ⟨ds, e1, e2⟩ := Option.bind_eq_some_iff.mp e
    obtain ⟨a, vs, rfl, h, l⟩ := seq_rep h1 e1
    obtain ⟨w, e3, rw'⟩ := rep_atI l e2
    have ei := h2.int hy
    refine ix_seq (X := X) ve se pins s σ H _ _ v u Q I rx ry ?_ hst
    rcases h with ⟨h, _⟩ | ⟨h, _⟩
    · exact .inl ⟨a, vs, i, w, rfl, ei, h, e3, q _ G H (Keep.refl G H) g0 rw'⟩
    · exact .inr (.inl ⟨a, vs, i, w, rfl, ei, h, e3, q _ G H (Keep.refl G H) g0 rw'⟩)
  · cases e
theorem pd_ix {b : Expr} {ta tb : DE} (ha : PD X E a ta) (hb : PD X E b tb) (hs : PlainIx b := by exact fun _ _ => rfl) : PD X E (.Subscript a b pos) (dOp ixD ta tb) :=
  PE.wk (pe_ix ok_ix ha hb hs) fun _ _ _ h => lift_op h
abbrev DO := SE → (Option Int → Prop) → XP → Prop
def liftO (K : PySem.W.Frag) (E : XK) (t : DO) : TO := fun σ H Q => ∃ G0 H0 G env q x, EnvOk K G0 H0 G H σ env ∧ t env q x ∧ (∀ b G' H', q b → Keep G G' H H' → GOk G' H' → Q b H') ∧ XOk K E G H x
def dNoPart : DO := fun _ q _ => q none
def dPart (ta : DE) : DO := fun env q x => ta env (fun r => ∃ i, r.d = .int i ∧ q (some i)) x
theorem PO.wk {e : Option Expr} {t t' : TO} (h : PO X e t) (m : ∀ σ H Q, t' σ H Q → t σ H Q) : PO X e t' := ⟨fun pins s σ H Q I hw => h.run pins s σ H Q I (m σ H Q hw)⟩
theorem pdo_none : PO X none (liftO X.K E dNoPart) := by
  refine PO.wk po_none ?_
  rintro σ H Q ⟨G0, H0, G, env, q, x, e, h, hq, hx⟩
  exact hq none G H h (Keep.refl G H) e.gok
theorem pdo_some {ta : DE} (ha : PD X E a ta) : PO X (some a) (liftO X.K E (dPart ta)) := by
  refine PO.wk (po_some ha) ?_
  rintro σ H Q ⟨G0, H0, G, env, q, x, e, h, hq, hx⟩
  refine ⟨G0, H0, G, env, _, x, e, h, ?_, hx⟩
  rintro r v G' H' ⟨i, ei, qi⟩ kk g rr
  exact ⟨i, rr.int ei, hq _ G' H' qi kk g⟩
def cutD (xs : List D) (lo hi : Option Int) : List D := (xs.drop (HT.sIx xs.length 0 lo)).take (HT.sIx xs.length xs.length hi - HT.sIx xs.length 0 lo)
def slD (d : D) (lo hi : Option Int) : Option D := match d with
  | .tup xs => some (.tup (cutD xs lo hi))
  | .lst xs => some (.lst (cutD xs lo hi))
  | .scr xs => some (.lst (cutD xs lo hi))
  | _ => none
theorem rep_cut {K : PySem.W.Frag} {G : Gm} {H : Hp} {vs : List V} {ds : List D} (lo hi : Option Int) (l : RepL K G H vs ds) : RepL K G H (cutV vs lo hi) (cutD ds lo hi) := by
  unfold cutV cutD
  rw [l.length]
  exact (l.drop _).take _
def dSl (ta : DE) (tl th : DO) : DE := fun env q x => ta env (fun r => tl env (fun lo => th env (fun hi => ∃ d, slD r.d lo hi = some d ∧ q (.val d)) x) x) x
theorem pd_slice {ta : DE} {lo hi : Option Expr} {tl th : DO} {p2 : Pos} (ha : PD X E a ta) (hl : PO X lo (liftO X.K E tl)) (hh : PO X hi (liftO X.K E th)) : PD X E (.Subscript a (.Slice lo hi none p2) pos) (dSl ta tl th) := by
  refine PE.wk (pe_slice ((sl_list (X := X)).or (sl_tupA (X := X))) ha hl hh) ?_
  rintro σ H Q ⟨G0, H0, G, env, q, x, e, h, hq, hx⟩
  refine ⟨G0, H0, G, env, _, x, e, h, ?_, hx⟩
  intro r v G1 H1 q1 k1 g1 rr
  refine ⟨G0, H0, G1, env, _, x, e.step k1 g1, q1, ?_, hx.keep e.gok k1⟩
  intro lo' G2 H2 q2 k2 g2
  have k12 := k1.trans e.gok k2
  refine ⟨G0, H0, G2, env, _, x, e.step k12 g2, q2, ?_, hx.keep e.gok k12⟩
  rintro hi' G3 H3 ⟨d, ed, qd⟩ k3 g3
  have k13 := k12.trans e.gok k3
  have rr3 := (rr.keep k2).keep k3
  generalize hd : r.d = dr at ed
  unfold slD at ed
  split at ed
  · cases ed
    obtain ⟨b, vs, rfl, hs, l⟩ := rr3.tup hd
    refine .inr ⟨b, vs, rfl, hs, fun z => ?_, fun _ p hp => hq _ _ G3 _ qd (k13.trans e.gok (Keep.laid hp)) (g3.laid hp) (Rep.newT g3 hp (rep_cut _ _ l))⟩
    cases r with
    | brw _ => cases hd
    | val d =>
      rename_i ds
      have : d = .tup ds := hd
      subst this
      have ec : cutD ds lo' hi' = ds := by
        unfold cutD
        rw [l.length] at z
        rw [z.1, z.2]
        simp
      rw [ec] at qd
      exact hq _ _ G3 H3 qd k13 g3 rr3
  · cases ed
    obtain ⟨b, vs, rfl, hs, _, l⟩ := rr3.lst hd
    exact .inl ⟨b, vs, rfl, .inl (.inl hs), fun p hp => hq _ _ G3 _ qd (k13.trans e.gok (Keep.laid hp)) (g3.laid hp) (Rep.newL g3 hp (rep_cut _ _ l))⟩
  · cases ed
    obtain ⟨b, vs, rfl, hs, l⟩ := rr3.scr hd
    exact .inl ⟨b, vs, rfl, hs, fun p hp => hq _ _ G3 _ qd (k13.trans e.gok (Keep.laid hp)) (g3.laid hp) (Rep.newL g3 hp (rep_cut _ _ l))⟩
  · cases ed
end
end QD
namespace QD
open PySem PySem.Spec PyProof.Rows L2
/-! ### slots written -/
section
variable {K : PySem.W.Frag} {G0 G : Gm} {H0 : HB} {H : Hp} {σ : L2.St} {env : SE}
theorem EnvOk.setVal (e : EnvOk K G0 H0 G H σ env) {v : V} {d : D} (i : Nat) (r : Rep K G H v d) : EnvOk K G0 H0 G H (σ.set i (some v)) (env.set i (.val d)) := by
  refine ⟨e.g0, e.keep, e.gok, by simp [e.len], e.tmp, fun j d' h => ?_, fun j ds h => ?_, fun j k ds es a n h1 h2 h3 h4 => ?_, e.dic.set i _⟩
  · by_cases q : i = j
    · subst q
      rw [List.getElem?_set] at h
      simp only [if_true] at h
      split at h
      · rename_i hl
        cases h
        exact ⟨v, by rw [List.getElem?_set_self (by rw [← e.len]; exact hl)], r⟩
      · cases h
    · rw [List.getElem?_set_ne q] at h
      obtain ⟨w, e1, e2⟩ := e.val j d' h
      exact ⟨w, by rw [List.getElem?_set_ne q]; exact e1, e2⟩
  · by_cases q : i = j
    · subst q
      rw [List.getElem?_set] at h
      simp only [if_true] at h
      split at h <;> cases h
    · rw [List.getElem?_set_ne q] at h
      obtain ⟨a, vs, e1, e2⟩ := e.own j ds h
      exact ⟨a, vs, by rw [List.getElem?_set_ne q]; exact e1, e2⟩
  · have nj : i ≠ j := fun z => by
      subst z
      rw [List.getElem?_set] at h1
      simp only [if_true] at h1
      split at h1 <;> cases h1
    have nk : i ≠ k := fun z => by
      subst z
      rw [List.getElem?_set] at h2
      simp only [if_true] at h2
      split at h2 <;> cases h2
    rw [List.getElem?_set_ne nj] at h1 h3
    rw [List.getElem?_set_ne nk] at h2 h4
    exact e.sep j k ds es a n h1 h2 h3 h4
theorem EnvOk.setOwn (e : EnvOk K G0 H0 G H σ env) {a : Addr} {vs : List V} {ds : List D} (i : Nat) (g : G a = some .hid) (h0 : H0.hp a = none) (h : H a = some (.lst vs)) (r : RepL K G H vs ds)
    (hs : ∀ (j : Nat) (es : List D), i ≠ j → env[j]? = some (.own es) → σ[j]? ≠ some (some (.ref a))) : EnvOk K G0 H0 G H (σ.set i (some (.ref a))) (env.set i (.own ds)) := by
  refine ⟨e.g0, e.keep, e.gok, by simp [e.len], e.tmp, fun j d' h' => ?_, fun j ds' h' => ?_, fun j k ds' es b n h1 h2 h3 h4 => ?_, e.dic.set i _⟩
  · by_cases q : i = j
    · subst q
      rw [List.getElem?_set] at h'
      simp only [if_true] at h'
      split at h' <;> cases h'
    · rw [List.getElem?_set_ne q] at h'
      obtain ⟨w, e1, e2⟩ := e.val j d' h'
      exact ⟨w, by rw [List.getElem?_set_ne q]; exact e1, e2⟩
  · by_cases q : i = j
    · subst q
      rw [List.getElem?_set] at h'
      simp only [if_true] at h'
      split at h'
      · rename_i hl
        cases h'
        exact ⟨a, vs, by rw [List.getElem?_set_self (by rw [← e.len]; exact hl)], g, h0, h, r⟩
      · cases h'
    · rw [List.getElem?_set_ne q] at h'
      obtain ⟨b, us, e1, e2⟩ := e.own j ds' h'
      exact ⟨b, us, by rw [List.getElem?_set_ne q]; exact e1, e2⟩
  · by_cases qj : i = j
    · subst qj
      have nk : i ≠ k := n
      rw [List.getElem?_set_ne nk] at h2 h4
      rw [List.getElem?_set] at h3
      simp only [if_true] at h3
      split at h3
      · cases h3
        exact hs k es nk h2 h4
      · cases h3
    · rw [List.getElem?_set_ne qj] at h1 h3
      by_cases qk : i = k
      · subst qk
        rw [List.getElem?_set] at h4
        simp only [if_true] at h4
        split at h4
        · cases h4
          exact hs j ds' qj h1 h3
        · cases h4
      · rw [List.getElem?_set_ne qk] at h2 h4
        exact e.sep j k ds' es b n h1 h2 h3 h4
/-- a slot forgotten -/
theorem EnvOk.setNo (e : EnvOk K G0 H0 G H σ env) (i : Nat) (o : Option V) : EnvOk K G0 H0 G H (σ.set i o) (env.set i .no) := by
  have non : ∀ {j : Nat} {x : EV}, (env.set i .no)[j]? = some x → x ≠ .no → i ≠ j := fun {j x} h n z => by
    subst z
    rw [List.getElem?_set] at h
    simp only [if_true] at h
    split at h
    · cases h; exact n rfl
    · cases h
  refine ⟨e.g0, e.keep, e.gok, by simp [e.len], e.tmp, fun j d' h => ?_, fun j ds h => ?_, fun j k ds es a n h1 h2 h3 h4 => ?_, e.dic.set i _⟩
  · have q := non h (by simp)
    rw [List.getElem?_set_ne q] at h
    obtain ⟨w, e1, e2⟩ := e.val j d' h
    exact ⟨w, by rw [List.getElem?_set_ne q]; exact e1, e2⟩
  · have q := non h (by simp)
    rw [List.getElem?_set_ne q] at h
    obtain ⟨a, vs, e1, e2⟩ := e.own j ds h
    exact ⟨a, vs, by rw [List.getElem?_set_ne q]; exact e1, e2⟩
  · have nj := non h1 (by simp)
    have nk := non h2 (by simp)
    rw [List.getElem?_set_ne nj] at h1 h3
    rw [List.getElem?_set_ne nk] at h2 h4
    exact e.sep j k ds es a n h1 h2 h3 h4
/-- a hidden object is written -/
structure Wr (G : Gm) (a : Addr) (H H' : Hp) : Prop where
  hid : G a = some .hid
  oth : ∀ b, b ≠ a → H' b = H b
  mo : ∃ o, H a = some o ∧ MutO o
theorem Wr.tabs {a b : Addr} {H' : Hp} {q : Str} (w : Wr G a H H') (t : TabN H b q) : TabN H' b q := by
  obtain ⟨o, e, m⟩ := w.mo
  exact tabs_off (m.off e) w.oth t
theorem Wr.tab {H1 : Hp} {a : Addr} {H' : Hp} (w : Wr G a H H') (k : ∀ b ps, H1 b = some (.tbl ps) → ∃ ps', H b = some (.tbl ps') ∧ ∀ q, TabN H1 b q → TabN H b q) (b : Addr) (ps : Array Value) (e : H1 b = some (.tbl ps)) : ∃ ps', H' b = some (.tbl ps') ∧ ∀ q, TabN H1 b q → TabN H' b q := by
  obtain ⟨o, y, m⟩ := w.mo
  exact tab_off k (m.off y) w.oth b ps e
theorem Wr.pen {a b : Addr} {H' : Hp} (w : Wr G a H H') (e : G b = some .pen) (p : PenAt H b) : PenAt H' b := by
  obtain ⟨i, j, k, q, z⟩ := p
  exact ⟨i, j, k, by rw [w.oth b fun z => by rw [z, w.hid] at e; cases e]; exact q, z⟩
theorem Wr.memo {a b : Addr} {H' : Hp} {K' : PySem.W.Frag} {J : Int → Pl → Prop} (w : Wr G a H H') (e : G b = some (.memo K' J)) (p : MemoAt K' J H b) : MemoAt K' J H' b := by
  obtain ⟨o, y, m⟩ := w.mo
  exact p.off (m.nrd y) w.oth fun z => by rw [z, w.hid] at e; cases e
theorem Wr.non {a b : Addr} {H' : Hp} (w : Wr G a H H') (e : G b = none) : H' b = H b := w.oth b fun z => by rw [z, w.hid] at e; cases e
theorem Wr.rd {a b : Addr} {o : HO} {H' : Hp} (w : Wr G a H H') (e : G b = none) (r : Rd H b o) : Rd H' b o := by
  rcases r with r | ⟨u, r⟩
  · exact .inl ((w.non e).trans r)
  · exact .inr ⟨u, (w.non e).trans r⟩
mutual
theorem Rep.wr {a : Addr} {H' : Hp} (w : Wr G a H H') : ∀ {v : V} {d : D}, Rep K G H v d → Rep K G H' v d
  | _, _, .non => .non
  | _, _, .bl b => .bl b
  | _, _, .int i => .int i
  | _, _, .str x => .str x
  | _, _, .tup e r l => .tup e (w.rd e r) (RepL.wr w l)
  | _, _, .lst e r l => .lst e ((w.non e).trans r) (RepL.wr w l)
  | _, _, .scr r l => .scr (r.imp (fun z => ⟨z.1, let ⟨o, q⟩ := z.2; ⟨o, (w.non z.1).trans q⟩⟩) id) (RepL.wr w l)
  | _, _, .dct e r q l => .dct e (w.rd e r) q (RepL.wr w l)
  | _, _, .dcl e r => .dcl e ((w.non e).trans r)
  | _, _, .tupN e ⟨o, r, z⟩ l => .tupN e ⟨o, (w.non e).trans r, z⟩ (RepL.wr w l)
  | _, _, .ins e r q l => .ins e ((w.non e).trans r) q (RepL.wr w l)
  | _, _, .knil z => .knil z
  | _, _, .exo0 => .exo0
  | _, _, .exo e r n l => .exo e ((w.non e).trans r) n (RepL.wr w l)
  | _, _, .tab t => .tab (w.tabs t)
  | _, _, .two a b => .two (Rep.wr w a) (Rep.wr w b)
  | _, _, .pen e p => .pen e (w.pen e p)
  | _, _, .memo e p => .memo e (w.memo e p)
theorem RepL.wr {a : Addr} {H' : Hp} (w : Wr G a H H') : ∀ {vs : List V} {ds : List D}, RepL K G H vs ds → RepL K G H' vs ds
  | _, _, .nil => .nil
  | _, _, .cons a b => .cons (Rep.wr w a) (RepL.wr w b)
end
theorem hset_id {σ : L2.St} {i : Nat} {o : Option V} (h : σ[i]? = some o) : σ.set i o = σ := by
  apply List.ext_getElem?
  intro n
  by_cases z : i = n
  · subst z
    rw [List.getElem?_set_self (List.getElem?_eq_some_iff.mp h).1, h]
  · rw [List.getElem?_set_ne z]
theorem EnvOk.write (e : EnvOk K G0 H0 G H σ env) {i : Nat} {a : Addr} {ds es : List D} {us : List V} (h : env[i]? = some (.own ds)) (hσ : σ[i]? = some (some (.ref a))) (r : RepL K G H us es) :
    EnvOk K G0 H0 G (upd H a (.lst us)) σ (env.set i (.own es)) := by
  obtain ⟨a', vs, e1, e2, e3, e4, e5⟩ := e.own i ds h
  rw [hσ] at e1
  cases e1
  have w : Wr G a H (upd H a (.lst us)) := ⟨e2, fun b n => upd_ne n, _, e4, .inl ⟨_, rfl⟩⟩
  have li : i < env.length := (List.getElem?_eq_some_iff.mp h).1
  refine ⟨e.g0, ⟨fun b o q n nt => ?_, fun b g p => w.pen ?_ (e.keep.pen b g p), fun b K J g p => w.memo ?_ (e.keep.memo b K J g p), e.keep.gh, fun b ps q => ?_⟩, ⟨fun b x g => ?_, fun b g => w.pen g (e.gok.pen b g), fun b K J g => w.memo g (e.gok.memo b K J g)⟩, by simp [e.len], fun p hp => Rep.wr w (e.tmp p hp), fun j d' h' => ?_, fun j ds' h' => ?_, fun j k ds' es' b n h1 h2 h3 h4 => ?_, (hset_id hσ ▸ e.dic.set i (some (.ref a))).off (fun b kvs q g => ⟨g, by rw [upd_ne (fun z => by rw [z, e4] at q; cases q)]; exact q⟩) (fun b q _ => q) fun _ _ => RepL.wr w⟩
  · have nb : b ≠ a := fun z => by rw [z, e3] at q; cases q
    rw [upd_ne nb]
    exact e.keep.obj b o q n nt
  · rw [e.keep.gh b (by obtain ⟨_, _, _, q, _⟩ := p; rw [q]; simp)]; exact g
  · rw [e.keep.gh b p.ne]; exact g
  · exact w.tab e.keep.tab b ps q
  · by_cases nb : b = a
    · subst nb; exact ⟨_, upd_same, .inl ⟨us, rfl⟩⟩
    · obtain ⟨zs, q, m⟩ := e.gok.lst b x g
      exact ⟨zs, by rw [upd_ne nb]; exact q, m⟩
  · have q : i ≠ j := fun z => by subst z; rw [List.getElem?_set_self li] at h'; cases h'
    rw [List.getElem?_set_ne q] at h'
    obtain ⟨v, q1, q2⟩ := e.val j d' h'
    exact ⟨v, q1, Rep.wr w q2⟩
  · by_cases q : i = j
    · subst q
      rw [List.getElem?_set_self li] at h'
      cases h'
      exact ⟨a, us, hσ, e2, e3, upd_same, RepL.wr w r⟩
    · rw [List.getElem?_set_ne q] at h'
      obtain ⟨b, ws, q1, q2, q3, q4, q5⟩ := e.own j ds' h'
      have nb : b ≠ a := fun z => by subst z; exact e.sep i j ds ds' b q h h' hσ q1
      exact ⟨b, ws, q1, q2, q3, by rw [upd_ne nb]; exact q4, RepL.wr w q5⟩
  · have back : ∀ {j : Nat} {ds' : List D}, (env.set i (.own es))[j]? = some (.own ds') → ∃ ds'', env[j]? = some (.own ds'') := fun {j ds'} h => by
      by_cases q : i = j
      · subst q; exact ⟨ds, by assumption⟩
      · rw [List.getElem?_set_ne q] at h; exact ⟨ds', h⟩
    obtain ⟨_, z1⟩ := back h1
    obtain ⟨_, z2⟩ := back h2
    exact e.sep j k _ _ b n z1 z2 h3 h4
/-- an own list is no longer written: from now on a value -/
def unh (G : Gm) (a : Addr) : Gm := fun b => if b = a then none else G b
theorem unh_le {a : Addr} (n : Fix (G a)) : GLe (unh G a) G := ⟨fun b h => by unfold unh; split <;> simp_all, fun b h => by
  unfold unh
  rw [if_neg (fun z : b = a => n.pen (by rw [← z]; exact h))]
  exact h, fun b K J h => by
  unfold unh
  rw [if_neg (fun z : b = a => n.memo K J (by rw [← z]; exact h))]
  exact h⟩
theorem EnvOk.freeze (e : EnvOk K G0 H0 G H σ env) {i : Nat} {ds : List D} (h : env[i]? = some (.own ds)) : ∃ G', EnvOk K G0 H0 G' H σ (env.set i (.val (.lst ds))) := by
  obtain ⟨a, vs, e1, e2, e3, e4, e5⟩ := e.own i ds h
  have li : i < env.length := (List.getElem?_eq_some_iff.mp h).1
  have np : Fix (G a) := by rw [e2]; simp
  have le := unh_le (G := G) np
  have ne : ∀ {b : Addr}, b ≠ a → unh G a b = G b := fun {b} n => by unfold unh; rw [if_neg n]
  refine ⟨unh G a, e.g0, ⟨e.keep.obj, e.keep.pen, e.keep.memo, fun b hb => ?_, e.keep.tab⟩, ⟨fun b x g => ?_, fun b g => ?_, fun b K J g => ?_⟩, by simp [e.len], fun p hp => Rep.le le (e.tmp p hp), fun j d' h' => ?_, fun j ds' h' => ?_, fun j k ds' es' b n h1 h2 h3 h4 => ?_, (hset_id e1 ▸ e.dic.set i (some (.ref a))).off (fun b kvs q g => ⟨by rw [ne (fun z => by rw [z, e4] at q; cases q)]; exact g, q⟩) (fun b q _ => q) fun _ _ => RepL.le le⟩
  · rw [ne (fun z => hb (by rw [z]; exact e3))]; exact e.keep.gh b hb
  · by_cases z : b = a
    · subst z; unfold unh at g; rw [if_pos rfl] at g; cases g
    · rw [ne z] at g; exact e.gok.lst b x g
  · by_cases z : b = a
    · subst z; unfold unh at g; rw [if_pos rfl] at g; cases g
    · rw [ne z] at g; exact e.gok.pen b g
  · by_cases z : b = a
    · subst z; unfold unh at g; rw [if_pos rfl] at g; cases g
    · rw [ne z] at g; exact e.gok.memo b K J g
  · by_cases q : i = j
    · subst q
      rw [List.getElem?_set_self li] at h'
      cases h'
      exact ⟨.ref a, e1, .lst (by unfold unh; rw [if_pos rfl]) e4 (RepL.le le e5)⟩
    · rw [List.getElem?_set_ne q] at h'
      obtain ⟨v, q1, q2⟩ := e.val j d' h'
      exact ⟨v, q1, Rep.le le q2⟩
  · have q : i ≠ j := fun z => by subst z; rw [List.getElem?_set_self li] at h'; cases h'
    rw [List.getElem?_set_ne q] at h'
    obtain ⟨b, ws, q1, q2, q3, q4, q5⟩ := e.own j ds' h'
    have nb : b ≠ a := fun z => by subst z; exact e.sep i j ds ds' b q h h' e1 q1
    exact ⟨b, ws, q1, by rw [ne nb]; exact q2, q3, q4, RepL.le le q5⟩
  · have nj : i ≠ j := fun z => by subst z; rw [List.getElem?_set_self li] at h1; cases h1
    have nk : i ≠ k := fun z => by subst z; rw [List.getElem?_set_self li] at h2; cases h2
    rw [List.getElem?_set_ne nj] at h1
    rw [List.getElem?_set_ne nk] at h2
    exact e.sep j k _ _ b n h1 h2 h3 h4
end

/-! ### statements -/
section
variable {X : Cx} {E : XK} {st : Stmt} {rest : List Stmt} {t u : DS} {e a b c : Expr} {te ta tb : DE} {sc : DT} {pos : Pos}
def dNext : DS := fun J env => J.nx env
def dSeq (t u : DS) : DS := fun J env => t { J with nx := u J } env
theorem pds_nil : PDSs X E [] dNext := by
  refine PSs.wk pss_nil ?_
  rintro Z σ H ⟨G0, H0, G, env, J, e, h, hn, hr, hb, hc, hx⟩
  exact hn env G σ H h e
theorem lift_seq {Z : Ends} {σ : L2.St} {H : Hp} (h : liftS X.K E (dSeq t u) Z σ H) : tSeq (liftS X.K E t) (liftS X.K E u) Z σ H := by
  obtain ⟨G0, H0, G, env, J, e, h, hn, hr, hb, hc, hx⟩ := h
  exact ⟨G0, H0, G, env, _, e, h, fun env' G' σ' H' q e' => ⟨G0, H0, G', env', J, e', q, hn, hr, hb, hc, hx⟩, hr, hb, hc, hx⟩
theorem pds_cons (h1 : PDS X E st t) (h2 : PDSs X E rest u) : PDSs X E (st :: rest) (dSeq t u) := PSs.wk (pss_cons h1 h2) fun _ _ _ h => lift_seq h
theorem pds_one (h1 : PDS X E st t) : PDSs X E [st] t := pss_one h1
def dBreak : DS := fun J env => J.bk env
def dCont : DS := fun J env => J.ct env
theorem XOk.now {E : XK} {K : PySem.W.Frag} {G0 G : Gm} {H0 : HB} {H : Hp} {σ : L2.St} {env : SE} {x : XP} (e : EnvOk K G0 H0 G H σ env) (h : XOk K E G0 H0.hp x) : XOk K E G H x := h.keep e.g0 e.keep
/-- return e: a value, or an own list (which is then a value) -/
def dRet (te : DE) : DS := fun J env => te env (fun r => ∃ d, r = .val d ∧ J.rt d) J.ex
theorem pd_ret (h : PD X E a ta) : PDS X E (.Return (some a) pos) (dRet ta) := by
  refine PS.wk (ps_ret h) ?_
  rintro Z σ H ⟨G0, H0, G, env, J, e, h, hn, hr, hb, hc, hx⟩
  refine ⟨G0, H0, G, env, _, _, e, h, ?_, hx.now e⟩
  rintro r v G' H' ⟨d, rfl, q⟩ k g rr
  exact hr d v G' H' q (e.keep.trans e.g0 k) g rr
def dRetOwn (i : Nat) : DS := fun J env => ∃ ds, env[i]? = some (.own ds) ∧ J.rt (.lst ds)
theorem pd_retOwn (i : Nat) {x : Str} {p : Pos} (hN : X.N[i]? = some x := by rfl) (hv : Vis X.env.scope x := by first | exact Or.inl rfl | exact Or.inr (Or.inl rfl) | exact Or.inr (Or.inr rfl)) (hd : (x == ("__debug__" : Str)) = false := by decide)
    (hcd : (x == ("__classdict__" : Str)) = false := by decide) : PDS X E (.Return (some (.Name x p)) pos) (dRetOwn i) := by
  refine PS.wk (ps_ret (pv i hN hv hd hcd)) ?_
  rintro Z σ H ⟨G0, H0, G, env, J, e, ⟨ds, h, q⟩, hn, hr, hb, hc, hx⟩
  obtain ⟨G', e'⟩ := e.freeze h
  obtain ⟨v, e1, rr⟩ := e'.val i (.lst ds) (by rw [List.getElem?_set_self (List.getElem?_eq_some_iff.mp h).1])
  exact ⟨v, e1, hr _ v G' H q e'.keep e'.gok rr⟩
def dRetN : DS := fun J env => J.rt .non
def dDrop (te : DE) : DS := fun J env => te env (fun _ => J.nx env) J.ex
def dIfS (c : DT) (t u : DS) : DS := fun J env => c env (fun k => if k = true then t J env else u J env) J.ex
theorem pd_ifS {sa sb : List Stmt} (hc : PDT X E c sc) (ha : PDSs X E sa t) (hb : PDSs X E sb u) : PDS X E (.If c sa sb pos) (dIfS sc t u) := by
  refine PS.wk (ps_if hc ha hb) ?_
  rintro Z σ H ⟨G0, H0, G, env, J, e, h, hn, hr, hb, hc, hx⟩
  refine ⟨G0, H0, G, env, _, _, e, h, ?_, hx.now e⟩
  rintro k G' H' q kk g
  cases k with
  | true => exact ⟨G0, H0, G', env, J, e.step kk g, q, hn, hr, hb, hc, hx⟩
  | false => exact ⟨G0, H0, G', env, J, e.step kk g, q, hn, hr, hb, hc, hx⟩
/-- ghost: from here on the own list in slot i is a value -/
def dFreeze (i : Nat) (t : DS) : DS := fun J env => ∃ ds, env[i]? = some (.own ds) ∧ t J (env.set i (.val (.lst ds)))
theorem pd_freeze (i : Nat) (h : PDSs X E rest t) : PDSs X E rest (dFreeze i t) := by
  refine PSs.wk h ?_
  rintro Z σ H ⟨G0, H0, G, env, J, e, ⟨ds, h, q⟩, hn, hr, hb, hc, hx⟩
  obtain ⟨G', e'⟩ := e.freeze h
  exact ⟨G0, H0, G', _, J, e', q, hn, hr, hb, hc, hx⟩

/-! ### assignments -/
def dSet (i : Nat) (te : DE) : DS := fun J env => te env (fun r => ∃ d, r = .val d ∧ J.nx (env.set i (.val d))) J.ex
theorem lift_set {i : Nat} {Z : Ends} {σ : L2.St} {H : Hp} (h : liftS X.K E (dSet i ta) Z σ H) : tAsg (lift X.K E ta) (gName i) Z σ H := by
  obtain ⟨G0, H0, G, env, J, e, h, hn, hr, hb, hc, hx⟩ := h
  refine ⟨G0, H0, G, env, _, _, e, h, ?_, hx.now e⟩
  rintro r v G' H' ⟨d, rfl, q⟩ k g rr
  exact hn _ G' _ H' q ((e.step k g).setVal i rr)
theorem pd_set (i : Nat) {x : Str} {p : Pos} (he : PD X E a ta) (hN : X.N.Nodup) (hi : X.N[i]? = some x := by rfl) (hx : Loc X.env.scope x := by first | exact Or.inl rfl | exact Or.inr rfl) (hs : swapsWith a (some (.Name x p)) pos.line X.env = pure false := by rfl)
    (hf : X.fn x = true ∨ X.env.scope.names.lookup x = some .local := by first | exact .inl rfl | exact .inr rfl) : PDS X E (.Assign [.Name x p] a pos) (dSet i ta) :=
  PS.wk (ps_set hN hi hx he hs hf) fun _ _ _ h => lift_set h
/-- fresh lists -/
abbrev DFr := SE → (List D → Prop) → XP → Prop
def FreshL (K : PySem.W.Frag) (H : Hp) (G' : Gm) (H' : Hp) (v : V) (ds : List D) : Prop := ∃ a vs, v = .ref a ∧ H a = none ∧ G' a = some .hid ∧ H' a = some (.lst vs) ∧ RepL K G' H' vs ds
def liftF (K : PySem.W.Frag) (E : XK) (t : DFr) : TE := fun σ H Q => ∃ G0 H0 G env q x, EnvOk K G0 H0 G H σ env ∧ t env q x ∧ (∀ ds v G' H', q ds → Keep G G' H H' → GOk G' H' → FreshL K H G' H' v ds → Q v H') ∧ XOk K E G H x
def PFL (X : Cx) (E : XK) (e : Expr) (t : DFr) : Prop := PE X e (liftF X.K E t)
/-- a fresh address hidden -/
def hide (G : Gm) (a : Addr) : Gm := fun b => if b = a then some .hid else G b
theorem hide_ne {G : Gm} {a b : Addr} (n : b ≠ a) : hide G a b = G b := by unfold hide; rw [if_neg n]
theorem hide_same {G : Gm} {a : Addr} : hide G a a = some .hid := by unfold hide; rw [if_pos rfl]
theorem Keep.hide {G : Gm} {H : Hp} {p : Addr} {vs : List V} (h : H p = none) : Keep G (hide G p) H (upd H p (.lst vs)) :=
  ⟨fun a u e _ _ => by rw [upd_ne (ne_of_none e h)]; exact e, fun a _ ⟨i, j, k, e, q⟩ => ⟨i, j, k, by rw [upd_ne (ne_of_none e h)]; exact e, q⟩, fun a K J _ m => m.new h, fun a e => hide_ne fun z => e (by rw [z]; exact h), fun a ps e => ⟨ps, by rw [upd_ne (ne_of_none e h)]; exact e, fun q t => t.ext fun b o x => by rw [upd_ne (ne_of_none x h)]; exact x⟩⟩
theorem GOk.hide {G : Gm} {H : Hp} {p : Addr} {vs : List V} (g : GOk G H) (h : H p = none) : GOk (hide G p) (upd H p (.lst vs)) := by
  refine ⟨fun a x e => ?_, fun a e => ?_, fun a K J e => ?_⟩
  · by_cases n : a = p
    · subst n; exact ⟨_, upd_same, .inl ⟨vs, rfl⟩⟩
    · rw [hide_ne n] at e
      obtain ⟨us, q, m⟩ := g.lst a x e
      exact ⟨us, by rw [upd_ne n]; exact q, m⟩
  · by_cases n : a = p
    · subst n; rw [hide_same] at e; cases e
    · rw [hide_ne n] at e
      obtain ⟨i, j, k, q, z⟩ := g.pen a e
      exact ⟨i, j, k, by rw [upd_ne n]; exact q, z⟩
  · by_cases n : a = p
    · subst n; rw [hide_same] at e; cases e
    · rw [hide_ne n] at e
      exact (g.memo a K J e).new h
theorem FreshL.new {K : PySem.W.Frag} {G G' : Gm} {H H' : Hp} {p : Addr} {vs : List V} {ds : List D} (g0 : GOk G H) (k : Keep G G' H H') (h : H' p = none) (l : RepL K G' H' vs ds) : FreshL K H (hide G' p) (upd H' p (.lst vs)) (.ref p) ds := by
  refine ⟨p, vs, rfl, ?_, hide_same, upd_same, RepL.keep (Keep.hide h) l⟩
  cases q : H p with
  | none => rfl
  | some o => exact absurd h (k.dom g0 (by rw [q]; simp))
def dFLst (ta : DA) : DFr := fun env q x => ta env (fun rs => ∃ ds, rs = ds.map R.val ∧ ds.length ≤ 16777216 ∧ q ds) x
theorem pf_lst {es : List Expr} {sA : DA} (h : PDA X E es sA) : PFL X E (.List es pos) (dFLst sA) := by
  refine PE.wk (pe_lst h) ?_
  rintro σ H Q ⟨G0, H0, G, env, q, x, e, h, hq, hx⟩
  refine ⟨G0, H0, G, env, _, x, e, h, ?_, hx⟩
  rintro rs vs G' H' ⟨ds, rfl, l, qk⟩ kk g rl
  refine ⟨rl.vals.len l, fun p hp => ?_⟩
  exact hq _ _ _ _ qk (kk.trans e.gok (Keep.hide hp)) (g.hide hp) (FreshL.new e.gok kk hp rl.vals)
/-- a fresh list as a value -/
theorem FreshL.val {K : PySem.W.Frag} {G G' : Gm} {H H' : Hp} {v : V} {ds : List D} (k : Keep G G' H H') (g : GOk G' H') (f : FreshL K H G' H' v ds) : ∃ G2, Keep G G2 H H' ∧ GOk G2 H' ∧ Rep K G2 H' v (.lst ds) := by
  obtain ⟨a, vs, rfl, hn, hh, hl, l⟩ := f
  have le := unh_le (G := G') (a := a) (by rw [hh]; simp)
  have ne : ∀ {b : Addr}, b ≠ a → unh G' a b = G' b := fun {b} n => by unfold unh; rw [if_neg n]
  refine ⟨unh G' a, ⟨k.obj, k.pen, k.memo, fun b hb => ?_, k.tab⟩, ⟨fun b x e => ?_, fun b e => ?_, fun b K J e => ?_⟩, .lst (by unfold unh; rw [if_pos rfl]) hl (RepL.le le l)⟩
  · rw [ne fun z => hb (by rw [z]; exact hn)]; exact k.gh b hb
  · by_cases z : b = a
    · subst z; unfold unh at e; rw [if_pos rfl] at e; cases e
    · rw [ne z] at e; exact g.lst b x e
  · by_cases z : b = a
    · subst z; unfold unh at e; rw [if_pos rfl] at e; cases e
    · rw [ne z] at e; exact g.pen b e
  · by_cases z : b = a
    · subst z; unfold unh at e; rw [if_pos rfl] at e; cases e
    · rw [ne z] at e; exact g.memo b K J e
def dOfF (t : DFr) : DE := fun env q x => t env (fun ds => q (.val (.lst ds))) x
theorem pd_ofF {t : DFr} (h : PFL X E a t) : PD X E a (dOfF t) := by
  refine PE.wk h ?_
  rintro σ H Q ⟨G0, H0, G, env, q, x, e, h, hq, hx⟩
  refine ⟨G0, H0, G, env, _, x, e, h, ?_, hx⟩
  rintro ds v G' H' qd k g f
  obtain ⟨G2, k2, g2, r⟩ := f.val k g
  exact hq _ v G2 H' qd k2 g2 r
theorem EnvOk.fresh {K : PySem.W.Frag} {G0 G G' : Gm} {H0 : HB} {H H' : Hp} {σ : L2.St} {env : SE} {v : V} {ds : List D} (e : EnvOk K G0 H0 G H σ env) (k : Keep G G' H H') (g : GOk G' H') (i : Nat) (f : FreshL K H G' H' v ds) :
    EnvOk K G0 H0 G' H' (σ.set i (some v)) (env.set i (.own ds)) := by
  obtain ⟨a, vs, rfl, hn, hh, hl, l⟩ := f
  refine (e.step k g).setOwn i hh ?_ hl l fun j es _ h z => ?_
  · cases q : H0.hp a with
    | none => rfl
    | some o => exact absurd hn (e.keep.dom e.g0 (by rw [q]; simp))
  · obtain ⟨b, ws, q1, _, _, q4, _⟩ := e.own j es h
    rw [z] at q1
    cases q1
    rw [hn] at q4; cases q4
def dSetOwn (i : Nat) (t : DFr) : DS := fun J env => t env (fun ds => J.nx (env.set i (.own ds))) J.ex
theorem pd_setOwn (i : Nat) {x : Str} {p : Pos} {t : DFr} (he : PFL X E a t) (hN : X.N.Nodup) (hi : X.N[i]? = some x := by rfl) (hx : Loc X.env.scope x := by first | exact Or.inl rfl | exact Or.inr rfl) (hs : swapsWith a (some (.Name x p)) pos.line X.env = pure false := by rfl)
    (hf : X.fn x = true ∨ X.env.scope.names.lookup x = some .local := by first | exact .inl rfl | exact .inr rfl) : PDS X E (.Assign [.Name x p] a pos) (dSetOwn i t) := by
  refine PS.wk (ps_set hN hi hx he hs hf) ?_
  rintro Z σ H ⟨G0, H0, G, env, J, e, h, hn, hr, hb, hc, hx⟩
  refine ⟨G0, H0, G, env, _, _, e, h, ?_, hx.now e⟩
  rintro ds v G' H' q k g f
  exact hn _ G' _ H' q (e.fresh k g i f)

/-! ### own lists written -/
end
end QD
namespace QD
open PySem PySem.Spec PyProof.Rows L2
/-! ### a context in which code runs -/
structure BC (X : Cx) (E : XK) (k : Nat) : Prop where
  calm : X.calm = true
  room : Room k X.A
  gd : X.A.guards = some []
  pass : Passes (L2.CX X.prog X.w) X E
  nd : X.N.Nodup
  tk : Takes X (fun cls d _ H => E cls d H)
theorem BC.u64 {X : Cx} {E : XK} {k : Nat} (B : BC X E k) : X.A.units + 64 < cLine := B.room.units
theorem BC.u65 {X : Cx} {E : XK} {k : Nat} (B : BC X E k) : X.A.units + 65 < cLine := by have := B.room.un; omega
theorem BC.blk {X : Cx} {E : XK} {k : Nat} (B : BC X E k) (s : Shared) (H : Hp) (scope : Scope) (ce : PySem.Env) (fp : List Addr) : BC (X.blk s H scope ce fp) E0 k :=
  ⟨B.calm, B.room, B.gd, passL, B.nd, takes0⟩

/-! ### a def's promise where no repr is under way -/
structure FnG (P : Program) (w : World) (K : PySem.W.Frag) (mg : Str → Option Value) (base : Heap) (k : Nat) (f : Addr) (fd : FuncData) (ps : List Str) (sp : Sp) : Prop where
  len : ∀ vs H Q E, sp vs H Q E → vs.length = ps.length
  run : ∀ (A : Around) (callers : List PySem.Env) (s : Shared) (H : Hp) (args : Args) (us : List Value) (vs : List V) (Q : VK) (E : XK), A.guards = some [] → Room k A →
    Env0 P w K mg base A callers s H → BindsTo s fd args (ps.zip us) → Vals vs us → sp vs H Q E → codeAny (model P w) A (.call (.ref f) args) (CR (L2.CX P w) callers P w H s Q E) s
theorem FnG.up {P : Program} {w : World} {K : PySem.W.Frag} {mg : Str → Option Value} {base : Heap} {j k : Nat} {f : Addr} {fd : FuncData} {ps : List Str} {sp : Sp} (F : FnG P w K mg base j f fd ps sp) (h : j ≤ k) : FnG P w K mg base k f fd ps sp :=
  ⟨F.len, fun A l s H args us vs Q E hg hr => F.run A l s H args us vs Q E hg (hr.mono h)⟩
/-- a def by its body -/
theorem fnG_ofC {P : Program} {w : World} {K : PySem.W.Frag} {mg : Str → Option Value} {base : Heap} {x qual : Str} {st : Stmt} {f : Addr} {fd : FuncData} {N ps : List Str} {k : Nat} {sp : Sp} (F : Fun K x qual st f fd) (S : FnScope N ps (defScope st))
    (len : ∀ vs H Q E, sp vs H Q E → vs.length = ps.length)
    (body : ∀ (cdv : Value) (A : Around) (callers : List PySem.Env) (s : Shared) (H : Hp) (vs : List V) (Q : VK) (E : XK), BC (cxOf (L2.CX P w) P w K mg base N qual (defScope st) f cdv A callers s H E) E k →
      PassesOwn (model P w) (cxOf (L2.CX P w) P w K mg base N qual (defScope st) f cdv A callers s H E).A (cxOf (L2.CX P w) P w K mg base N qual (defScope st) f cdv A callers s H E).env (cxOf (L2.CX P w) P w K mg base N qual (defScope st) f cdv A callers s H E).xe →
      (∃ kV doc pm an ct, fd = PySem.W.fnOf x qual (defArgs st) (defBody st) (defScope st) .none kV doc pm an cdv ct) → sp vs H Q E → ∃ t, PSs (cxOf (L2.CX P w) P w K mg base N qual (defScope st) f cdv A callers s H E) (defBody st) t ∧ t { nx := fun _ H' => Q .non H', rt := Q } (L2.start N vs) H) : FnG P w K mg base (k + 1) f fd ps sp := by
  obtain ⟨oc, od, kV, doc, pm, an, cdv, ct, osl, rfl, lk, hcd⟩ := F.ex
  refine ⟨len, fun A l s H args us vs Q E hg hr e0 hb rv hsp => ?_⟩
  have nArgs := len _ _ _ _ hsp
  have inK : K.In s.heap := e0.mod.kin.keeps fun b o q => (e0.bs b o q).1
  have noLim : s.heap.NoLimit := e0.mod.nolimit.keeps fun b o q => (e0.bs b o q).1
  have kinds : ∀ y ∈ ps.zip us, (defScope st).names.lookup y.1 = some .local ∨ ((defScope st).names.lookup y.1 = some .cell ∧ ((cellsFrom (s.heap.objs.size + 1) (defScope st).names []).lookup y.1).isSome = true) := by
    rintro ⟨n, v⟩ hy
    rcases S.par n (List.of_mem_zip hy).1 with q | q
    · exact .inl q
    · exact .inr ⟨q, PySem.W.cellsFrom_some _ _ _ (.inl q)⟩
  refine codeAny_call_function hr.depth (inK _ _ lk) rfl S.co S.gen rfl (PySem.W.codeRec_of inK hcd) (hb _ _ _ _ ?_)
  refine wpAny_newFunctionEnv_cells S.kind kinds fun env he s2 entered => ?_
  subst he
  refine ⟨noLim.keeps entered.toInCall.keep, codeAny_func ?_⟩
  have tk : Takes (cxOf (L2.CX P w) P w K mg base N qual (defScope st) f cdv A l s H E) (fun cls d _ H => E cls d H) := takes_of rfl rfl rfl rfl
  have ctx : BC (cxOf (L2.CX P w) P w K mg base N qual (defScope st) f cdv A l s H E) E k := ⟨rfl, hr.deeper _, hg, passes_call tk fun _ _ _ _ z => z, S.nd, tk⟩
  obtain ⟨t, ht, q⟩ := body cdv A l s H vs Q E ctx (passes_of rfl) ⟨_, _, _, _, _, rfl⟩ hsp
  have I := inv_start (CX := L2.CX P w) (qual := qual) (f := f) (cd := cdv) (E := E) S hr.hd e0 nArgs rv entered
  have out : ∀ {σ' : L2.St} {H' : Hp} {s' : Shared} {v : V} {u : Value}, Inv (cxOf (L2.CX P w) P w K mg base N qual (defScope st) f cdv A l s H E) [] σ' H' s' → RelV v u → Q v H' → CE l P w H s Q u s' := by
    intro σ' H' s' v u J r1 r2
    exact ⟨v, H', J.os, J.bare, J.base, J.hok, r1, r2⟩
  refine wpAny_mono (ht.run [] s2 _ H _ I q) (fun fl s' hs => ?_) fun _ _ hs => hs
  cases fl with
  | ret u => obtain ⟨v, σ', H', J, r1, r2⟩ := hs; exact out J r1 r2
  | next => obtain ⟨σ', H', J, r2⟩ := hs; exact out (v := .non) (u := .none) J rfl r2
  | brk => obtain ⟨_, _, _, z⟩ := hs; exact z.elim
  | cont => obtain ⟨_, _, _, z⟩ := hs; exact z.elim
theorem fnG_of {P : Program} {w : World} {K : PySem.W.Frag} {mg : Str → Option Value} {base : Heap} {x qual : Str} {st : Stmt} {f : Addr} {fd : FuncData} {N ps : List Str} {k : Nat} {sp : Sp} (F : Fun K x qual st f fd) (S : FnScope N ps (defScope st))
    (len : ∀ vs H Q E, sp vs H Q E → vs.length = ps.length)
    (body : ∀ (cdv : Value) (A : Around) (callers : List PySem.Env) (s : Shared) (H : Hp) (vs : List V) (Q : VK) (E : XK), BC (cxOf (L2.CX P w) P w K mg base N qual (defScope st) f cdv A callers s H E) E k →
      PassesOwn (model P w) (cxOf (L2.CX P w) P w K mg base N qual (defScope st) f cdv A callers s H E).A (cxOf (L2.CX P w) P w K mg base N qual (defScope st) f cdv A callers s H E).env (cxOf (L2.CX P w) P w K mg base N qual (defScope st) f cdv A callers s H E).xe →
      sp vs H Q E → ∃ t, PSs (cxOf (L2.CX P w) P w K mg base N qual (defScope st) f cdv A callers s H E) (defBody st) t ∧ t { nx := fun _ H' => Q .non H', rt := Q } (L2.start N vs) H) : FnG P w K mg base (k + 1) f fd ps sp :=
  fnG_ofC F S len fun cdv A l s H vs Q E B po _ h => body cdv A l s H vs Q E B po h

/-! ### the start of a def -/
def startE (n : Nat) (ds : List D) : SE := ds.map EV.val ++ List.replicate (n - ds.length) EV.no
theorem startE_dic {n i : Nat} {ds : List D} {ks : List Key} {es : List D} : (startE n ds)[i]? ≠ some (.dic ks es) := fun h => by
  unfold startE at h
  rcases List.mem_append.mp (List.mem_of_getElem? h) with z | z
  · obtain ⟨d, _, e⟩ := List.mem_map.mp z; cases e
  · have := (List.mem_replicate.mp z).2; cases this
theorem startE_ok {K : PySem.W.Frag} {G : Gm} {H : Hp} {N : List Str} {vs : List V} {ds : List D} (g : GOk G H) (r : RepL K G H vs ds) : EnvOk K G ⟨H, []⟩ G H (L2.start N vs) (startE N.length ds) := by
  have hl := r.length
  have own : ∀ (i : Nat) (es : List D), (startE N.length ds)[i]? ≠ some (.own es) := fun i es h => by
    unfold startE at h
    rcases List.mem_append.mp (List.mem_of_getElem? h) with z | z
    · obtain ⟨d, _, e⟩ := List.mem_map.mp z; cases e
    · have := (List.mem_replicate.mp z).2; cases this
  refine ⟨g, Keep.refl G H, g, by simp [startE, L2.start, hl], fun p hp => (nomatch hp), fun i d h => ?_, fun i es h => absurd h (own i es), fun i j es _ a _ h => absurd h (own i es), .non fun i ks es h => startE_dic h⟩
  unfold startE at h
  by_cases c : i < ds.length
  · rw [List.getElem?_append_left (by simpa using c), List.getElem?_map] at h
    obtain ⟨d', e1, e2⟩ := Option.map_eq_some_iff.mp h
    cases e2
    obtain ⟨v, e3, e4⟩ := r.get e1
    refine ⟨v, ?_, e4⟩
    unfold L2.start
    rw [List.getElem?_append_left (by simp; omega), List.getElem?_map, e3]
    rfl
  · rw [List.getElem?_append_right (by simpa using c), List.getElem?_replicate] at h
    split at h <;> cases h
/-- a def's promise over data, by its body's reading -/
theorem def_ok {P : Program} {w : World} {K : PySem.W.Frag} {mg : Str → Option Value} {base : Heap} {x qual : Str} {st : Stmt} {f : Addr} {fd : FuncData} {N ps : List Str} {k : Nat} {F : DF} {t : DS} (fn : Fun K x qual st f fd) (S : FnScope N ps (defScope st))
    (body : ∀ (cdv : Value) (A : Around) (callers : List PySem.Env) (s : Shared) (H : Hp) (E : XK), BC (cxOf (L2.CX P w) P w K mg base N qual (defScope st) f cdv A callers s H E) E k →
      PassesOwn (model P w) (cxOf (L2.CX P w) P w K mg base N qual (defScope st) f cdv A callers s H E).A (cxOf (L2.CX P w) P w K mg base N qual (defScope st) f cdv A callers s H E).env (cxOf (L2.CX P w) P w K mg base N qual (defScope st) f cdv A callers s H E).xe →
      PDSs (cxOf (L2.CX P w) P w K mg base N qual (defScope st) f cdv A callers s H E) E (defBody st) t)
    (pure : ∀ ds q x, F ds q x → ds.length = ps.length ∧ t { nx := fun _ => q .non, rt := q, ex := x } (startE N.length ds)) : FnG P w K mg base (k + 1) f fd ps (spOf K F) := by
  refine fnG_of fn S (fun vs H Q E ⟨G, ds, q, x, g, r, h, _⟩ => by rw [r.length]; exact (pure ds q x h).1) fun cdv A l s H vs Q E B po ⟨G, ds, q, x, g, r, h, hq, hx⟩ => ?_
  refine ⟨_, body cdv A l s H E B po, G, ⟨H, []⟩, G, startE N.length ds, _, startE_ok g r, (pure ds q x h).2, ?_, ?_, fun _ _ _ _ z => z.elim, fun _ _ _ _ z => z.elim, hx⟩
  · intro env' G' σ' H' z e'
    exact hq .non .non G' H' z e'.keep e'.gok .non
  · intro d v G' H' z k' g' r'
    exact hq d v G' H' z k' g' r'

/-! ### calls -/
structure CalG (P : Program) (w : World) (K : PySem.W.Frag) (mg : Str → Option Value) (base : Heap) (k : Nat) (x : Str) (sp : Sp) (dvs : List V) : Prop where
  ex : ∃ f fd ps ds, FnG P w K mg base k f fd ps sp ∧ mg x = some (.ref f) ∧ PySem.W.keepIn K (.ref f) = true ∧ Binds K fd ps ds ∧ Vals dvs ds
section
variable {X : Cx} {E : XK} {j k : Nat} {x : Str} {sp : Sp} {dvs : List V} {e : Expr} {es : List Expr} {p pos : Pos} {t : TA} {sA : DA}
theorem run_g {f : Addr} {fd : FuncData} {ps : List Str} {ds : List Value} {pins : List (Addr × Obj)} {σ : L2.St} {H : Hp} {s : Shared} {Q : VK} {us : List Value} {vs : List V} (F : FnG X.prog X.w X.K X.mg X.base k f fd ps sp) (B : BC X E k) (hb : Binds X.K fd ps ds) (hd : Vals dvs ds)
    (I : Inv X pins σ H s) (r : Vals vs us) (h : sp (vs ++ dvs) H Q E) : wpAny (model X.prog X.w) X.A (call (.ref f) us) (EP X pins σ Q) X.xe s := by
  have all : Vals (vs ++ dvs) (us ++ ds) := r.append hd
  have n : (us ++ ds).length = ps.length := by rw [← all.length]; exact F.len _ _ _ _ h
  refine wpAny_call (codeAny_mono (F.run X.A X.stack s H ⟨us, []⟩ (us ++ ds) (vs ++ dvs) Q E B.gd B.room I.env0 (hb s us I.kIn n) all h) fun res s' q => ?_)
  cases res with
  | error ex => exact B.pass pins σ H s ex s' I q
  | ok fl => cases fl with
    | ret u => exact I.after q
    | next => exact q.elim
    | brk => exact q.elim
    | cont => exact q.elim
theorem BC.down {X : Cx} {E : XK} {j k : Nat} (B : BC X E j) (h : k ≤ j) : BC X E k := ⟨B.calm, B.room.mono h, B.gd, B.pass, B.nd, B.tk⟩
theorem pe_g (c : CalG X.prog X.w X.K X.mg X.base k x sp dvs) (B : BC X E j) (hk : k ≤ j) (ha : PA X (e :: es) t) (hg : Gl X x := by rfl) (hdb : (x == ("__debug__" : Str)) = false := by decide)
    (he : starEach (e :: es) X.env = (false, eval e X.env) :: starEach es X.env := by rfl) (hpl : (backTo pos (starEach es X.env)).any (·.1) = false := by rfl) : PE X (.Call (.Name x p) (e :: es) [] pos) (tCall sp dvs E t) := by
  obtain ⟨f, fd, ps, ds, F, hm, kp, hb, hd⟩ := c.ex
  refine ⟨fun pins s σ H Q I h => wpAny_Call_Name_kw (ld_glob I hg hm (PySem.W.callWith_K (h₀ := X.base) I.ok.mod.kin kp (thn (ha.run pos pins s σ H _ I h) ?_) he hpl) hdb)⟩
  rintro us s1 ⟨vs, H1, I1, r, q⟩
  exact ⟨I1.kIn, run_g F (B.down hk) hb hd I1 r q⟩
theorem pd_call {F : DF} (c : CalG X.prog X.w X.K X.mg X.base k x (spOf X.K F) []) (B : BC X E j) (hk : k ≤ j) (ha : PDA X E (e :: es) sA) (hg : Gl X x := by rfl) (hdb : (x == ("__debug__" : Str)) = false := by decide)
    (he : starEach (e :: es) X.env = (false, eval e X.env) :: starEach es X.env := by rfl) (hpl : (backTo pos (starEach es X.env)).any (·.1) = false := by rfl) : PD X E (.Call (.Name x p) (e :: es) [] pos) (dCall F sA) :=
  PE.wk (pe_g c B hk ha hg hdb he hpl) fun _ _ _ h => lift_call (fun vs H Q E z => by rw [List.append_nil]; exact z) h
end
end QD
namespace QD
open PySem PySem.Spec PyProof.Rows L2
section
variable {X : Cx} {E : XK} {e a b c : Expr} {te ta tb : DE} {sc : DT} {pos p : Pos} {x : Str}
/-! ### an own list: append, insert -/
def dAppend (i : Nat) (te : DE) : DS := fun J env => ∃ ds, env[i]? = some (.own ds) ∧ ds.length < 16777216 ∧ te env (fun r => ∃ d, r = .val d ∧ J.nx (env.set i (.own (ds ++ [d])))) J.ex
theorem pd_append (i : Nat) {p2 p3 : Pos} (he : PD X E a ta) (hN : X.N[i]? = some x := by rfl) (hv : Vis X.env.scope x := by first | exact Or.inl rfl | exact Or.inr (Or.inl rfl) | exact Or.inr (Or.inr rfl)) (hd : (x == ("__debug__" : Str)) = false := by decide)
    (hcd : (x == ("__classdict__" : Str)) = false := by decide) (hline : (p2.endLine == p3.line) = true := by rfl) (hst : starEach [a] X.env = (false, eval a X.env) :: starEach [] X.env := by rfl)
    (hbase : attributeBase (.Name x p) "append" X.env (eval (.Name x p) X.env) = eval (.Name x p) X.env := by rfl)
    (hfew : ((backTo p3 (starEach [a] X.env)).all (fun x => !x.1) && (backToKw p3 (keywordEach [] X.env)).all (fun x => x.1.isSome) && decide ([a].length + ([] : List Keyword).length + (if ([] : List Keyword).isEmpty then 0 else 1) < 30)) = true := by rfl)
    (hs : swapsWith (.Call (.Attribute (.Name x p) "append" p2) [a] [] p3) none pos.line X.env = pure false := by rfl) :
    PDS X E (.Expr (.Call (.Attribute (.Name x p) "append" p2) [a] [] p3) pos) (dAppend i ta) := by
  refine PS.wk (ps_expr (pe_bm PySem.F.plainAttrs_list PySem.F.slot_list_append PySem.F.type_list_append mt_append (pv i hN hv hd hcd) (pa_cons (show PE X a (lift X.K E ta) from he) pa_nil hst) hbase hfew hline hst rfl) hs) ?_
  rintro Z σ H ⟨G0, H0, G, env, J, e, ⟨ds, hi, hl, h⟩, hn, hr, hb, hc, hx⟩
  obtain ⟨l, vs, e1, e2, e3, e4, e5⟩ := e.own i ds hi
  refine ⟨.ref l, e1, .inl ⟨rfl, vs, .inl (.inl e4)⟩, G0, H0, G, env, _, _, e, h, ?_, hx.now e⟩
  rintro r v G' H' ⟨d, rfl, q⟩ k g rr
  have e' := e.step k g
  obtain ⟨l', vs', f1, f2, f3, f4, f5⟩ := e'.own i ds hi
  rw [e1] at f1
  cases f1
  exact ⟨l, vs', v, rfl, rfl, f4, by rw [f5.length, sizeLine_eq]; exact hl, hn _ G' σ _ q (e'.write hi e1 (f5.append (.cons rr .nil)))⟩
def dInsert (i : Nat) (ta tb : DE) : DS := fun J env => ∃ ds, env[i]? = some (.own ds) ∧ ds.length < 16777216 ∧
  ta env (fun r => ∃ k, r.d = .int k ∧ 0 ≤ k ∧ k < 16777216 ∧ tb env (fun r2 => ∃ d, r2 = .val d ∧ J.nx (env.set i (.own (ds.take k.toNat ++ [d] ++ ds.drop k.toNat)))) J.ex) J.ex
/-! ### several names at once -/
inductive RF where
  | val (d : D) | own (ds : List D)
def RF.ev : RF → EV
  | .val d => .val d
  | .own ds => .own ds
inductive FRepL (K : PySem.W.Frag) (H : Hp) (G' : Gm) (H' : Hp) : List V → List RF → List Addr → Prop
  | nil : FRepL K H G' H' [] [] []
  | val {v : V} {d : D} {vs : List V} {rs : List RF} {os : List Addr} : Rep K G' H' v d → FRepL K H G' H' vs rs os → FRepL K H G' H' (v :: vs) (.val d :: rs) os
  | own {l : Addr} {us : List V} {ds : List D} {vs : List V} {rs : List RF} {os : List Addr} : H l = none → G' l = some .hid → H' l = some (.lst us) → RepL K G' H' us ds → l ∉ os → FRepL K H G' H' vs rs os → FRepL K H G' H' (.ref l :: vs) (.own ds :: rs) (l :: os)
theorem FRepL.lt {K : PySem.W.Frag} {H : Hp} {G' : Gm} {H' : Hp} : ∀ {vs : List V} {rs : List RF} {os : List Addr}, FRepL K H G' H' vs rs os → ∀ l ∈ os, H l = none
  | _, _, _, .nil, _, h => nomatch h
  | _, _, _, .val _ r, l, h => r.lt l h
  | _, _, _, .own n _ _ _ _ r, l, h => by
    rcases List.mem_cons.mp h with z | z
    · rw [z]; exact n
    · exact r.lt l z
theorem FRepL.before {K : PySem.W.Frag} {G G1 G' : Gm} {H H1 H' : Hp} (g : GOk G H) (k : Keep G G1 H H1) : ∀ {vs : List V} {rs : List RF} {os : List Addr}, FRepL K H1 G' H' vs rs os → FRepL K H G' H' vs rs os
  | _, _, _, .nil => .nil
  | _, _, _, .val a r => .val a (r.before g k)
  | _, _, _, .own n h1 h2 h3 h4 r => .own (by
      rename_i l us ds vs rs os
      cases q : H l with
      | none => rfl
      | some o => exact absurd n (k.dom g (by rw [q]; simp))) h1 h2 h3 h4 (r.before g k)
theorem FRepL.keep {K : PySem.W.Frag} {G1 G2 : Gm} {H H1 H2 : Hp} (k : Keep G1 G2 H1 H2) : ∀ {vs : List V} {rs : List RF} {os : List Addr}, FRepL K H G1 H1 vs rs os → FRepL K H G2 H2 vs rs os
  | _, _, _, .nil => .nil
  | _, _, _, .val a r => .val (Rep.keep k a) (r.keep k)
  | _, _, _, .own n h1 h2 h3 h4 r => .own n (by rw [k.gh _ (by rw [h2]; simp)]; exact h1) (k.obj _ _ h2 (by rw [h1]; simp) nofun) (RepL.keep k h3) h4 (r.keep k)
abbrev DAF := SE → (List RF → Prop) → XP → Prop
def liftPF (K : PySem.W.Frag) (E : XK) (t : DAF) : TA := fun σ H Q => ∃ G0 H0 G env q x, EnvOk K G0 H0 G H σ env ∧ t env q x ∧ (∀ rs vs os G' H', q rs → Keep G G' H H' → GOk G' H' → FRepL K H G' H' vs rs os → Q vs H') ∧ XOk K E G H x
def PAF (X : Cx) (E : XK) (es : List Expr) (t : DAF) : Prop := PA X es (liftPF X.K E t)
def dFNil : DAF := fun _ q _ => q []
def dFVal (ta : DE) (tr : DAF) : DAF := fun env q x => ta env (fun r => ∃ d, r = .val d ∧ tr env (fun rs => q (.val d :: rs)) x) x
def dFOwn (ta : DFr) (tr : DAF) : DAF := fun env q x => ta env (fun ds => tr env (fun rs => q (.own ds :: rs)) x) x
variable {es : List Expr} {tf : DFr} {sF : DAF}
theorem paf_nil : PAF X E [] dFNil := by
  refine PA.wk pa_nil ?_
  rintro σ H Q ⟨G0, H0, G, env, q, x, e, h, hq, hx⟩
  exact hq [] [] [] G H h (Keep.refl G H) e.gok .nil
theorem paf_val (ha : PD X E a ta) (hr : PAF X E es sF) (hs : starEach (a :: es) X.env = (false, eval a X.env) :: starEach es X.env := by rfl) : PAF X E (a :: es) (dFVal ta sF) := by
  refine PA.wk (pa_cons ha hr hs) ?_
  rintro σ H Q ⟨G0, H0, G, env, q, x, e, h, hq, hx⟩
  refine ⟨G0, H0, G, env, _, x, e, h, ?_, hx⟩
  rintro r v G' H' ⟨d, rfl, qk⟩ kk g rr
  refine ⟨G0, H0, G', env, _, x, e.step kk g, qk, ?_, hx.keep e.gok kk⟩
  rintro rs vs os G2 H2 q2 k2 g2 rl
  exact hq _ _ os G2 H2 q2 (kk.trans e.gok k2) g2 (.val (Rep.keep k2 rr) (rl.before e.gok kk))
theorem paf_own (ha : PFL X E a tf) (hr : PAF X E es sF) (hs : starEach (a :: es) X.env = (false, eval a X.env) :: starEach es X.env := by rfl) : PAF X E (a :: es) (dFOwn tf sF) := by
  refine PA.wk (pa_cons ha hr hs) ?_
  rintro σ H Q ⟨G0, H0, G, env, q, x, e, h, hq, hx⟩
  refine ⟨G0, H0, G, env, _, x, e, h, ?_, hx⟩
  rintro ds v G' H' qk kk g ⟨l, us, rfl, hn, hh, hl, ll⟩
  refine ⟨G0, H0, G', env, _, x, e.step kk g, qk, ?_, hx.keep e.gok kk⟩
  rintro rs vs os G2 H2 q2 k2 g2 rl
  refine hq _ _ (l :: os) G2 H2 q2 (kk.trans e.gok k2) g2 (.own hn (by rw [k2.gh l (by rw [hl]; simp)]; exact hh) (k2.obj _ _ hl (by rw [hh]; simp) nofun) (RepL.keep k2 ll) (fun z => ?_) (rl.before e.gok kk))
  have := rl.lt l z
  rw [hl] at this; cases this
def setS : List Nat → List V → L2.St → L2.St
  | i :: is, v :: vs, σ => setS is vs (σ.set i (some v))
  | _, _, σ => σ
def setE : List Nat → List RF → SE → SE
  | i :: is, r :: rs, env => setE is rs (env.set i r.ev)
  | _, _, env => env
theorem EnvOk.setAll {K : PySem.W.Frag} {G0 G : Gm} {H0 : HB} {Hs H : Hp} : ∀ (is : List Nat) {vs : List V} {rs : List RF} {os : List Addr} {σ : L2.St} {env : SE}, EnvOk K G0 H0 G H σ env → FRepL K Hs G H vs rs os → (∀ l ∈ os, H0.hp l = none) →
    (∀ l ∈ os, ∀ (j : Nat) (es : List D), env[j]? = some (.own es) → σ[j]? ≠ some (some (.ref l))) → EnvOk K G0 H0 G H (setS is vs σ) (setE is rs env)
  | [], _, _, _, _, _, e, _, _, _ => by simpa [setS, setE] using e
  | i :: is, _, _, _, _, _, e, .nil, _, _ => by simpa [setS, setE] using e
  | i :: is, _, _, os, σ, env, e, .val (d := d) (v := v) r f, h0, h => by
    refine EnvOk.setAll is (e.setVal i r) f h0 fun l hl j es q => ?_
    have ne : i ≠ j := fun z => by
      subst z
      rw [List.getElem?_set] at q
      simp only [if_true] at q
      split at q <;> cases q
    rw [List.getElem?_set_ne ne] at q ⊢
    exact h l hl j es q
  | i :: is, _, _, _, σ, env, e, .own (l := l) (ds := ds) n hh hl ll no f, h0, h => by
    refine EnvOk.setAll is (e.setOwn i hh (h0 l List.mem_cons_self) hl ll fun j es _ q => h l List.mem_cons_self j es q) f (fun m hm => h0 m (List.mem_cons_of_mem _ hm)) fun m hm j es q z => ?_
    by_cases ne : i = j
    · subst ne
      rw [List.getElem?_set] at z
      simp only [if_true] at z
      split at z
      · cases z; exact no hm
      · cases z
    · rw [List.getElem?_set_ne ne] at q z
      exact h m (List.mem_cons_of_mem _ hm) j es q z
theorem EnvOk.setBatch {K : PySem.W.Frag} {G0 G G' : Gm} {H0 : HB} {H H' : Hp} {σ : L2.St} {env : SE} {vs : List V} {rs : List RF} {os : List Addr} (e : EnvOk K G0 H0 G H σ env) (k : Keep G G' H H') (g : GOk G' H') (is : List Nat) (f : FRepL K H G' H' vs rs os) :
    EnvOk K G0 H0 G' H' (setS is vs σ) (setE is rs env) := by
  refine EnvOk.setAll is (e.step k g) f (fun l hl => ?_) fun l hl j es q z => ?_
  · cases w : H0.hp l with
    | none => rfl
    | some o => exact absurd (f.lt l hl) (e.keep.dom e.g0 (by rw [w]; simp))
  · obtain ⟨m, us, q1, _, _, q4, _⟩ := e.own j es q
    rw [q1] at z
    cases z
    have := f.lt _ hl
    rw [q4] at this; cases this
def dPar (is : List Nat) (t : DAF) : DS := fun J env => t env (fun rs => rs.length = is.length ∧ J.nx (setE is rs env)) J.ex
theorem FRepL.length {K : PySem.W.Frag} {H : Hp} {G' : Gm} {H' : Hp} : ∀ {vs : List V} {rs : List RF} {os : List Addr}, FRepL K H G' H' vs rs os → vs.length = rs.length
  | _, _, _, .nil => rfl
  | _, _, _, .val _ r => by simp [r.length]
  | _, _, _, .own _ _ _ _ _ r => by simp [r.length]
theorem pd_par2 (i j : Nat) {y : Str} {px py pt : Pos} {kt k2 pt2} (ha : PAF X E [a, b] sF) (hc : X.calm = true) (hN : X.N.Nodup) (hi : X.N[i]? = some x := by rfl) (hj : X.N[j]? = some y := by rfl) (hij : i ≠ j := by decide)
    (hx : X.env.scope.names.lookup x = some .local := by rfl) (hy : X.env.scope.names.lookup y = some .local := by rfl)
    (hw : swappedStores [.Tuple [.Name x px, .Name y py] kt pt] (.Tuple [a, b] k2 pt2) X.env = pure (some [x, y]) := by rfl)
    (hs : swapsWithSole [.Tuple [.Name x px, .Name y py] kt pt] (.Tuple [a, b] k2 pt2) pos.line X.env = pure false := by rfl) : PDS X E (.Assign [.Tuple [.Name x px, .Name y py] kt pt] (.Tuple [a, b] k2 pt2) pos) (dPar [i, j] sF) := by
  refine PS.wk (ps_par hc hN hi hj hij hx hy ha hw hs) ?_
  rintro Z σ H ⟨G0, H0, G, env, J, e, h, hn, hr, hb, hc, hx⟩
  refine ⟨G0, H0, G, env, _, _, e, h, ?_, hx.now e⟩
  rintro rs vs os G' H' ⟨hl, q⟩ k g f
  have l2 := f.length.trans hl
  match vs, l2 with
  | [v, w], _ => exact ⟨v, w, rfl, hn _ G' _ H' q (e.setBatch k g [i, j] f)⟩
theorem pd_par3 (i j l : Nat) {y z : Str} {px py pz pt : Pos} {kt k2 pt2} (ha : PAF X E [a, b, c] sF) (hc : X.calm = true) (hN : X.N.Nodup) (hi : X.N[i]? = some x := by rfl) (hj : X.N[j]? = some y := by rfl) (hl : X.N[l]? = some z := by rfl) (hij : i ≠ j := by decide) (hil : i ≠ l := by decide) (hjl : j ≠ l := by decide)
    (hx : X.env.scope.names.lookup x = some .local := by rfl) (hy : X.env.scope.names.lookup y = some .local := by rfl) (hz : X.env.scope.names.lookup z = some .local := by rfl)
    (hw : swappedStores [.Tuple [.Name x px, .Name y py, .Name z pz] kt pt] (.Tuple [a, b, c] k2 pt2) X.env = pure (some [x, y, z]) := by rfl)
    (hs : swapsWithSole [.Tuple [.Name x px, .Name y py, .Name z pz] kt pt] (.Tuple [a, b, c] k2 pt2) pos.line X.env = pure false := by rfl) : PDS X E (.Assign [.Tuple [.Name x px, .Name y py, .Name z pz] kt pt] (.Tuple [a, b, c] k2 pt2) pos) (dPar [i, j, l] sF) := by
  refine PS.wk (ps_par3 hc hN hi hj hl hij hil hjl hx hy hz ha hw hs) ?_
  rintro Z σ H ⟨G0, H0, G, env, J, e, h, hn, hr, hb, hc, hx⟩
  refine ⟨G0, H0, G, env, _, _, e, h, ?_, hx.now e⟩
  rintro rs vs os G' H' ⟨hl, q⟩ k g f
  have l2 := f.length.trans hl
  match vs, l2 with
  | [v, w, u], _ => exact ⟨v, w, u, rfl, hn _ G' _ H' q (e.setBatch k g [i, j, l] f)⟩
/-- names as a tuple of targets -/
inductive GN (X : Cx) : List Expr → List Nat → TGs → Prop
  | nil : GN X [] [] gNil
  | cons {y : Str} {q : Pos} {es : List Expr} {i : Nat} {is : List Nat} {t : TGs} : X.N[i]? = some y → Loc X.env.scope y → (X.fn y = true ∨ X.env.scope.names.lookup y = some .local) → GN X es is t →
      (assignEach (.Name y q :: es) X.env).map (·.2) = assign (.Name y q) X.env :: (assignEach es X.env).map (·.2) → GN X (.Name y q :: es) (i :: is) (gCons (gName i) t)
theorem GN.pgs {es : List Expr} {is : List Nat} {t : TGs} (h : GN X es is t) (hN : X.N.Nodup) : PGs X es t := by
  induction h with
  | nil => exact pgs_nil
  | cons h1 h2 h3 _ h5 ih => exact pgs_cons (pg_name hN h1 h2 h3) ih h5
theorem GN.set {es : List Expr} {is : List Nat} {t : TGs} (h : GN X es is t) : ∀ {vs : List V} {σ : L2.St} {H : Hp} {Q : L2.St → Hp → Prop}, vs.length = is.length → Q (setS is vs σ) H → t vs σ H Q := by
  induction h with
  | nil => intro vs σ H Q hl q; exact ⟨List.length_eq_zero_iff.mp hl, by simpa [setS] using q⟩
  | cons h1 h2 h3 _ h5 ih =>
    intro vs σ H Q hl q
    cases vs with
    | nil => simp at hl
    | cons v vs => exact ⟨v, vs, rfl, ih (by simpa using hl) q⟩
/-- a, b = e -/
def dUnpack (is : List Nat) (te : DE) : DS := fun J env => te env (fun r => ∃ ds, r = .val (.tup ds) ∧ ds.length = is.length ∧ J.nx (setE is (ds.map RF.val) env)) J.ex
theorem frep_vals {K : PySem.W.Frag} {H : Hp} {G' : Gm} {H' : Hp} : ∀ {vs : List V} {ds : List D}, RepL K G' H' vs ds → FRepL K H G' H' vs (ds.map RF.val) []
  | _, _, .nil => .nil
  | _, _, .cons a b => .val a (frep_vals b)
theorem pd_unpack {is : List Nat} {tgs : List Expr} {t : TGs} {kt : Nat} {pt : Pos} (ha : PD X E a ta) (gn : GN X tgs is t) (hc : X.calm = true) (hN : X.N.Nodup)
    (hn : (assignEach tgs X.env).length = is.length := by rfl) (hst : (assignEach tgs X.env).findIdx? (·.1) = none := by rfl)
    (hs : swapsWithSole [.Tuple tgs kt pt] a pos.line X.env = pure false := by rfl) (hw : swappedStores [.Tuple tgs kt pt] a X.env = pure none := by rfl)
    (h1 : (assignEach [.Tuple tgs kt pt] X.env).map (·.2) = [assign (.Tuple tgs kt pt) X.env] := by rfl) : PDS X E (.Assign [.Tuple tgs kt pt] a pos) (dUnpack is ta) := by
  refine PS.wk (ps_asg (show PE X a (lift X.K E ta) from ha) (pg_tup hc (gn.pgs hN) hn hst) hs hw h1) ?_
  rintro Z σ H ⟨G0, H0, G, env, J, e, h, hn, hr, hb, hc, hx⟩
  refine ⟨G0, H0, G, env, _, _, e, h, ?_, hx.now e⟩
  rintro r v G' H' ⟨ds, rfl, hl, q⟩ k g rr
  obtain ⟨l, vs, rfl, hs, hv⟩ := rr.tup rfl
  have l2 := hv.length.trans hl
  exact ⟨l, vs, rfl, hs, l2, gn.set l2 (hn _ G' _ H' q (e.setBatch k g is (frep_vals hv)))⟩

/-! ### what is walked -/
/-- J walks ds as long as v stands for r -/
def WalkR (K : PySem.W.Frag) (J : It) (v : V) (r : R) (ds : List D) : Prop := ∀ G H, GOk G H → RRep K G H v r → ∀ i,
  (i < ds.length → J.go i H ∧ ∀ y H', J.yld i H y H' → ∃ d, ds[i]? = some d ∧ ∃ G', Keep G G' H H' ∧ GOk G' H' ∧ Rep K G' H' y d) ∧ (ds.length ≤ i → J.stop i H)
abbrev DI := SE → (List D → Bool → Prop) → XP → Prop
def R.isVal : R → Bool
  | .val _ => true
  | .brw _ => false
def liftI (K : PySem.W.Frag) (E : XK) (t : DI) : TI := fun σ H R' => ∃ G0 H0 G env q x, EnvOk K G0 H0 G H σ env ∧ t env q x ∧
  (∀ ds v r G' H' J, q ds r.isVal → Keep G G' H H' → GOk G' H' → RRep K G' H' v r → WalkR K J v r ds → R' J H') ∧ XOk K E G H x
def PDI (X : Cx) (E : XK) (tg iter : Expr) (t : DI) : Prop := PI X tg iter (liftI X.K E t)
theorem PI.wk {tg iter : Expr} {t t' : TI} (h : PI X tg iter t) (m : ∀ σ H Q, t' σ H Q → t σ H Q) : PI X tg iter t' := ⟨fun pins s σ H Q I hw => h.run pins s σ H Q I (m σ H Q hw)⟩
theorem PI.or {tg iter : Expr} {t t' : TI} (h : PI X tg iter t) (h' : PI X tg iter t') : PI X tg iter (fun σ H Q => t σ H Q ∨ t' σ H Q) := ⟨fun pins s σ H Q I hw => by
  rcases hw with hw | hw
  · exact h.run pins s σ H Q I hw
  · exact h'.run pins s σ H Q I hw⟩
/-- a list or tuple -/
def iSeq (te : DE) : DI := fun env q x => te env (fun r => ∃ ds, r.d = .lst ds ∧ q ds r.isVal) x ∨ te env (fun r => ∃ ds, r.d = .tup ds ∧ q ds r.isVal) x
end
end QD
namespace QD
open PySem PySem.Spec PyProof.Rows L2
section
variable {X : Cx} {E : XK} {e a b c tg iter : Expr} {te ta tb tcc : DE} {sc : DT} {pos p : Pos} {x : Str} {ti : DI}
/-! ### sources -/
theorem walk_list {K : PySem.W.Frag} {a : Addr} {r : R} {ds : List D} (e : r.d = .lst ds) : WalkR K (Itl K a) (.ref a) r ds := by
  intro G H g rr i
  obtain ⟨b, vs, q1, q2, q3, q4⟩ := rr.lst e
  cases q1
  have q2' : SqL K H a vs := .inl (.inl q2)
  refine ⟨fun h => ⟨?_, fun y H' h => ?_⟩, fun h => ⟨vs, q2', by rw [q4.length]; exact h⟩⟩
  · obtain ⟨v, h1, _⟩ := q4.get (List.getElem?_eq_getElem h)
    exact ⟨vs, v, q2', h1⟩
  · obtain ⟨rfl, h⟩ := h
    obtain ⟨d, h1, h2⟩ := q4.getV (h vs q2')
    exact ⟨d, h1, G, Keep.refl G H', g, h2⟩
theorem walk_tup {K : PySem.W.Frag} {a : Addr} {r : R} {ds : List D} (e : r.d = .tup ds) : WalkR K (Itt K a) (.ref a) r ds := by
  intro G H g rr i
  obtain ⟨b, vs, q1, q2, q4⟩ := rr.tup e
  cases q1
  refine ⟨fun h => ⟨?_, fun y H' h => ?_⟩, fun h => ⟨vs, q2, by rw [q4.length]; exact h⟩⟩
  · obtain ⟨v, h1, _⟩ := q4.get (List.getElem?_eq_getElem h)
    exact ⟨vs, v, q2, h1⟩
  · obtain ⟨rfl, h⟩ := h
    obtain ⟨d, h1, h2⟩ := q4.getV (h vs q2)
    exact ⟨d, h1, G, Keep.refl G H', g, h2⟩
theorem pdi_seq (h : PD X E iter te) : PDI X E tg iter (iSeq te) := by
  refine PI.wk (QD.PI.or (pi_list (tg := tg) (show PE X iter (lift X.K E te) from h)) (pi_tup (show PE X iter (lift X.K E te) from h))) ?_
  rintro σ H Q ⟨G0, H0, G, env, q, x, e, h, hq, hx⟩
  rcases h with h | h
  · refine .inl ⟨G0, H0, G, env, _, x, e, h, ?_, hx⟩
    rintro r v G' H' ⟨ds, e1, qd⟩ k g rr
    obtain ⟨a, vs, rfl, q2, q3, q4⟩ := rr.lst e1
    exact ⟨a, rfl, ⟨vs, .inl (.inl q2)⟩, hq ds _ r G' H' _ qd k g rr (walk_list e1)⟩
  · refine .inr ⟨G0, H0, G, env, _, x, e, h, ?_, hx⟩
    rintro r v G' H' ⟨ds, e1, qd⟩ k g rr
    obtain ⟨a, vs, rfl, q2, q4⟩ := rr.tup e1
    exact ⟨a, rfl, ⟨vs, q2⟩, hq ds _ r G' H' _ qd k g rr (walk_tup e1)⟩
/-- range -/
def rngD (lo : Int) (n : Nat) : List D := (List.range n).map fun i => .int (lo + (i : Nat))
theorem rngD_len (lo : Int) (n : Nat) : (rngD lo n).length = n := by simp [rngD]
theorem rngD_at {lo : Int} {n i : Nat} (h : i < n) : (rngD lo n)[i]? = some (.int (lo + (i : Nat))) := by simp [rngD, List.getElem?_range h]
theorem walk_range {K : PySem.W.Frag} {lo : Int} {n : Nat} : WalkR K (Itr lo n) .non (.val .non) (rngD lo n) := by
  intro G H g rr i
  rw [rngD_len]
  refine ⟨fun hi => ⟨hi, fun y H' h => ?_⟩, id⟩
  obtain ⟨rfl, rfl⟩ := h
  exact ⟨_, rngD_at hi, G, Keep.refl G H', g, .int _⟩
def iRange1 (ta : DE) : DI := fun env q x => ta env (fun r => ∃ j, r.d = .int j ∧ -(2 ^ 62) ≤ j ∧ j < 2 ^ 62 ∧ q (rngD 0 j.toNat) true) x
theorem pdi_range1 (ha : PD X E a ta) (hm : X.mg "range" = none) (hg : Gl X "range" := by rfl) (hs : starEach [a] X.env = [(false, eval a X.env)] := by rfl) : PDI X E tg (.Call (.Name "range" p) [a] [] pos) (iRange1 ta) := by
  refine PI.wk (pi_range1 hg hm (pa_cons (show PE X a (lift X.K E ta) from ha) pa_nil hs) hs) ?_
  rintro σ H Q ⟨G0, H0, G, env, q, x, e, h, hq, hx⟩
  refine ⟨G0, H0, G, env, _, x, e, h, ?_, hx⟩
  rintro r v G' H' ⟨j, e1, h1, h2, qd⟩ k g rr
  exact ⟨j, by rw [rr.int e1], h1, h2, hq _ .non (.val .non) G' H' _ qd k g Rep.non walk_range⟩
def iRange2 (ta tb : DE) : DI := fun env q x => ta env (fun r => ∃ i, r.d = .int i ∧ tb env (fun r2 => ∃ j, r2.d = .int j ∧ (-(2 ^ 62) ≤ i ∧ i < 2 ^ 62 ∧ -(2 ^ 62) ≤ j ∧ j < 2 ^ 62) ∧ q (rngD i (j - i).toNat) true) x) x
/-! ### targets -/
abbrev DG := D → SE → Option SE
def PGD (X : Cx) (tg : Expr) (is : List Nat) (dg : DG) : Prop := ∃ g, PG X tg g ∧ ∀ (K : PySem.W.Frag) (G0 : Gm) (H0 : HB) (G : Gm) (H : Hp) (σ : L2.St) (env : SE) (v : V) (d : D) (env' : SE), X.K = K → EnvOk K G0 H0 G H σ env → Rep K G H v d → dg d env = some env' →
  ∀ Q : L2.St → Hp → Prop, (∀ vs, EnvOk K G0 H0 G H (setS is vs σ) env' → Q (setS is vs σ) H) → g v σ H Q
def gN (i : Nat) : DG := fun d env => some (env.set i (.val d))
theorem pgd_name (i : Nat) (hN : X.N.Nodup) (hi : X.N[i]? = some x := by rfl) (hx : Loc X.env.scope x := by first | exact Or.inl rfl | exact Or.inr rfl) (hf : X.fn x = true ∨ X.env.scope.names.lookup x = some .local := by first | exact .inl rfl | exact .inr rfl) : PGD X (.Name x p) [i] (gN i) := by
  refine ⟨_, pg_name hN hi hx hf, fun K G0 H0 G H σ env v d env' hK e r h Q q => ?_⟩
  cases h
  exact q [v] (e.setVal i r)
def gTupN (is : List Nat) : DG := fun d env => match d with
  | .tup ds => if ds.length = is.length then some (setE is (ds.map RF.val) env) else none
  | _ => none
theorem pgd_names {is : List Nat} {tgs : List Expr} {t : TGs} {kt : Nat} (gn : GN X tgs is t) (hc : X.calm = true) (hN : X.N.Nodup) (hn : (assignEach tgs X.env).length = is.length := by rfl) (hst : (assignEach tgs X.env).findIdx? (·.1) = none := by rfl) :
    PGD X (.Tuple tgs kt pos) is (gTupN is) := by
  refine ⟨_, pg_tup hc (gn.pgs hN) hn hst, fun K G0 H0 G H σ env v d env' hK e r h Q q => ?_⟩
  subst hK
  unfold gTupN at h
  split at h
  · rename_i ds
    split at h
    · rename_i hl
      cases h
      obtain ⟨l, vs, rfl, hs, hv⟩ := (show RRep X.K G H v (.val (.tup ds)) from r).tup rfl
      have l2 := hv.length.trans hl
      exact ⟨l, vs, rfl, hs, l2, gn.set l2 (q vs (e.setBatch (Keep.refl G H) e.gok is (frep_vals hv)))⟩
    · cases h
  · cases h

/-! ### for, while -/
theorem EnvOk.tmpCons {K : PySem.W.Frag} {G0 G : Gm} {H0 : HB} {H : Hp} {σ : L2.St} {env : SE} {v : V} {d : D} (e : EnvOk K G0 H0 G H σ env) (r : Rep K G H v d) : EnvOk K G0 ⟨H0.hp, (v, d) :: H0.tmp⟩ G H σ env :=
  ⟨e.g0, e.keep, e.gok, e.len, fun p hp => by
    rcases List.mem_cons.mp hp with z | z
    · rw [z]; exact r
    · exact e.tmp p z, e.val, e.own, e.sep, e.dic⟩
theorem EnvOk.tmpTail {K : PySem.W.Frag} {G0 G : Gm} {hp : Hp} {q : V × D} {l : List (V × D)} {H : Hp} {σ : L2.St} {env : SE} (e : EnvOk K G0 ⟨hp, q :: l⟩ G H σ env) : EnvOk K G0 ⟨hp, l⟩ G H σ env :=
  ⟨e.g0, e.keep, e.gok, e.len, fun p z => e.tmp p (List.mem_cons_of_mem _ z), e.val, e.own, e.sep, e.dic⟩
def dForL (dg : DG) (tb : DS) (J : DEnds) : List D → SE → Prop
  | [], env => J.nx env
  | d :: ds, env => ∃ env', dg d env = some env' ∧ tb { J with nx := fun e => dForL dg tb J ds e, ct := fun e => dForL dg tb J ds e, bk := J.nx } env'
def dFor (ti : DI) (dg : DG) (tb : DS) : DS := fun J env => ti env (fun ds v => v = true ∧ dForL dg tb J ds env) J.ex
theorem pd_for {body : List Stmt} {is : List Nat} {dg : DG} {tb : DS} (po : PassesOwn (model X.prog X.w) X.A X.env X.xe) (hc : X.calm = true) (hi : PDI X E tg iter ti) (hg : PGD X tg is dg) (hb : PDSs X E body tb)
    (hs : ∀ x, foldedSetIterable iter X.env x = pure x := by intro _; rfl) : PDS X E (.For tg iter body [] pos) (dFor ti dg tb) := by
  obtain ⟨g, pg, gg⟩ := hg
  refine PS.wk (ps_for po hc hi pg hb hs) ?_
  rintro Z σ H ⟨G0, H0, G, env, J, e, h, hn, hr, hbk, hct, hx⟩
  refine ⟨G0, H0, G, env, _, _, e, h, ?_, hx.now e⟩
  rintro ds v r G1 H1 Jt ⟨isv, hd⟩ k1 g1 rr wk
  cases r with
  | brw _ => cases isv
  | val d =>
    have e1 := (e.step k1 g1).tmpCons (show Rep X.K G1 H1 v d from rr)
    have rep : ∀ {G' H' σ' env'}, EnvOk X.K G0 ⟨H0.hp, (v, d) :: H0.tmp⟩ G' H' σ' env' → RRep X.K G' H' v (.val d) := fun e' => e'.tmp (v, d) List.mem_cons_self
    refine ⟨fun i m σ' H' => ∃ G' env', i ≤ ds.length ∧ m = ds.length - i ∧ EnvOk X.K G0 ⟨H0.hp, (v, d) :: H0.tmp⟩ G' H' σ' env' ∧ dForL dg tb J (ds.drop i) env', ⟨ds.length, G1, env, Nat.zero_le _, rfl, e1, hd⟩, ?_⟩
    rintro i m σ' H' ⟨G', env', hi', rfl, e', hd'⟩
    obtain ⟨w1, w2⟩ := wk G' H' e'.gok (rep e') i
    by_cases hlt : i < ds.length
    · obtain ⟨go, yl⟩ := w1 hlt
      refine .inr ⟨go, fun σ2 H2 => ∃ G2 env2, EnvOk X.K G0 ⟨H0.hp, (v, d) :: H0.tmp⟩ G2 H2 σ2 env2 ∧ dForL dg tb J (ds.drop (i + 1)) env2, fun σ2 H2 ⟨G2, env2, e2, h2⟩ => ⟨ds.length - (i + 1), by omega, G2, env2, hlt, rfl, e2, h2⟩, fun y H2 hy => ?_⟩
      obtain ⟨dy, hdy, G2, k2, g2, ry⟩ := yl y H2 hy
      rw [List.drop_eq_getElem_cons hlt] at hd'
      rw [List.getElem?_eq_getElem hlt] at hdy
      cases hdy
      obtain ⟨env3, he3, hb3⟩ := hd'
      refine gg X.K G0 _ G2 H2 σ' env' y _ env3 rfl (e'.step k2 g2) ry he3 _ fun vs e3 => ?_
      refine ⟨G0, _, G2, env3, _, e3, hb3, fun env4 G4 σ4 H4 q4 e4 => ⟨G4, env4, e4, q4⟩, hr, fun env4 G4 σ4 H4 q4 e4 => hn env4 G4 σ4 H4 q4 e4.tmpTail, fun env4 G4 σ4 H4 q4 e4 => ⟨G4, env4, e4, q4⟩, hx⟩
    · refine .inl ⟨w2 (by omega), ?_⟩
      rw [List.drop_eq_nil_of_le (by omega)] at hd'
      exact hn env' G' σ' H' hd' e'.tmpTail
/-! ### comprehensions -/
def wipeE (env : SE) : List Nat → SE
  | [] => env
  | i :: is => (wipeE env is).set i .no
theorem EnvOk.wipe {K : PySem.W.Frag} {G0 G : Gm} {H0 : HB} {H : Hp} {σ : L2.St} {env : SE} (e : EnvOk K G0 H0 G H σ env) : ∀ vs : List Nat, EnvOk K G0 H0 G H (L2.wipe σ vs) (wipeE env vs)
  | [] => e
  | i :: is => (e.wipe is).setNo i none
theorem wipe_ext {τ ρ : L2.St} {vs : List Nat} (hl : τ.length = ρ.length) (h : ∀ j, j ∉ vs → τ[j]? = ρ[j]?) : L2.wipe τ vs = L2.wipe ρ vs := by
  have none_at : ∀ (θ : L2.St) (j : Nat), j ∈ vs → (L2.wipe θ vs)[j]? = (if j < θ.length then some none else none) := fun θ j hj => by
    cases q : (L2.wipe θ vs)[j]? with
    | none =>
      have := List.getElem?_eq_none_iff.mp q
      rw [wipe_length] at this
      rw [if_neg (by omega)]
    | some o =>
      have hlt := (List.getElem?_eq_some_iff.mp q).1
      rw [wipe_length] at hlt
      rw [if_pos hlt]
      cases o with
      | none => rfl
      | some z => exact absurd hj (wipe_some q).2
  apply List.ext_getElem?
  intro j
  by_cases hj : j ∈ vs
  · rw [none_at _ j hj, none_at _ j hj, hl]
  · rw [wipe_out hj, wipe_out hj, h j hj]
theorem setS_length : ∀ (is : List Nat) (vals : List V) (σ : L2.St), (setS is vals σ).length = σ.length
  | [], _, _ => by simp [setS]
  | _ :: _, [], _ => by simp [setS]
  | i :: is, v :: vals, σ => by
    show (setS is vals (σ.set i (some v))).length = _
    rw [setS_length is vals]
    simp
theorem setS_out : ∀ {is : List Nat} {vals : List V} {σ : L2.St} {j : Nat}, j ∉ is → (setS is vals σ)[j]? = σ[j]?
  | [], _, _, _, _ => by simp [setS]
  | _ :: _, [], _, _, _ => by simp [setS]
  | i :: is, v :: vals, σ, j, h => by
    show (setS is vals (σ.set i (some v)))[j]? = _
    rw [setS_out fun z => h (List.mem_cons_of_mem _ z), List.getElem?_set_ne fun z => h (by rw [z]; exact List.mem_cons_self)]
theorem wipe_setS {is : List Nat} {vals : List V} {σ : L2.St} {vs : List Nat} (h : ∀ i ∈ is, i ∈ vs) : L2.wipe (setS is vals (L2.wipe σ vs)) vs = L2.wipe σ vs :=
  wipe_ext (by rw [setS_length, wipe_length]) fun j hj => by rw [setS_out fun z => hj (h j z), wipe_out hj]
def noX : XP := fun _ => False
theorem XOk.noX {K : PySem.W.Frag} {E : XK} {G : Gm} {H : Hp} : XOk K E G H noX := fun _ _ _ z => z.elim
def dYes : DT := fun _ q _ => q true
def dLcL (dg : DG) (tt : DT) (te : DE) : List D → SE → (List D → Prop) → Prop
  | [], _, q => q []
  | d :: ds, env, q => ∃ env', dg d env = some env' ∧ tt env' (fun k => if k = true then te env' (fun r => ∃ d', r = .val d' ∧ dLcL dg tt te ds env (fun l => q (d' :: l))) noX else dLcL dg tt te ds env q) noX
def dLc (vs : List Nat) (ti : DI) (dg : DG) (tt : DT) (te : DE) : DFr := fun env q x => ti env (fun ds _ => ds.length ≤ 16777216 ∧ dLcL dg tt te ds (wipeE env vs) q) x
def PTsD (X : Cx) (ifs : List Expr) (t : DT) : Prop := PTs X ifs (liftT X.K E0 t)
theorem ptsd_nil : PTsD X [] dYes := ⟨fun pins s σ H Q I h => by
  obtain ⟨G0, H0, G, env, q, x, e, h, hq, hx⟩ := h
  exact pts_nil.run pins s σ H Q I (hq true G H h (Keep.refl G H) e.gok)⟩
theorem ptsd_one (h : PDT X E0 c sc) : PTsD X [c] sc := pts_one h
theorem lift_lc {vs is : List Nat} {dg : DG} {g : TG} {sc : DT} {te : DE} {σ : L2.St} {H : Hp} {Q : VK}
    (gg : ∀ (K : PySem.W.Frag) (G0 : Gm) (H0 : HB) (G : Gm) (H : Hp) (σ : L2.St) (env : SE) (v : V) (d : D) (env' : SE), X.K = K → EnvOk K G0 H0 G H σ env → Rep K G H v d → dg d env = some env' → ∀ Q : L2.St → Hp → Prop, (∀ vs, EnvOk K G0 H0 G H (setS is vs σ) env' → Q (setS is vs σ) H) → g v σ H Q)
    (his : ∀ i ∈ is, i ∈ vs) (h : liftF X.K E (dLc vs ti dg sc te) σ H Q) : tLc (liftI X.K E ti) g (liftT X.K E0 sc) (lift X.K E0 te) vs σ H Q := by
  obtain ⟨G0, H0, G, env, q, x, e, h, hq, hx⟩ := h
  refine ⟨G0, H0, G, env, _, x, e, h, ?_, hx⟩
  rintro ds v r G1 H1 Jt ⟨hlen, hd⟩ k1 g1 rr wk l hl
  have e1 := e.step k1 g1
  have old : ∀ {b : Addr}, H1 b ≠ none → b ≠ l := fun {b} n z => n (by rw [z]; exact hl)
  refine ⟨fun i m Hc => ∃ Gc acc accD, i ≤ ds.length ∧ m = ds.length - i ∧ Keep G1 Gc H1 Hc ∧ GOk Gc Hc ∧ Gc l = some .hid ∧ Hc l = some (.lst acc) ∧ RepL X.K Gc Hc acc accD ∧ acc.length ≤ i ∧ dLcL dg sc te (ds.drop i) (wipeE env vs) (fun z => q (accD ++ z)),
    ⟨ds.length, hide G1 l, [], [], Nat.zero_le _, rfl, Keep.hide hl, g1.hide hl, hide_same, upd_same, .nil, Nat.le_refl _, by simpa using hd⟩, ?_⟩
  rintro i m Hc ⟨Gc, acc, accD, hi, rfl, kc, gc, hh, hll, rl, la, hd'⟩
  obtain ⟨w1, w2⟩ := wk Gc Hc gc (rr.keep kc) i
  by_cases hlt : i < ds.length
  · obtain ⟨go, yl⟩ := w1 hlt
    have nextW : ∀ {Gd : Gm} {Hd : Hp} {acc' : List V} {accD' : List D}, Keep G1 Gd H1 Hd → GOk Gd Hd → Gd l = some .hid → Hd l = some (.lst acc') → RepL X.K Gd Hd acc' accD' → acc'.length ≤ i + 1 → dLcL dg sc te (ds.drop (i + 1)) (wipeE env vs) (fun z => q (accD' ++ z)) →
        ∃ m', m' < ds.length - i ∧ ∃ Gc acc accD, i + 1 ≤ ds.length ∧ m' = ds.length - (i + 1) ∧ Keep G1 Gc H1 Hd ∧ GOk Gc Hd ∧ Gc l = some .hid ∧ Hd l = some (.lst acc) ∧ RepL X.K Gc Hd acc accD ∧ acc.length ≤ i + 1 ∧ dLcL dg sc te (ds.drop (i + 1)) (wipeE env vs) (fun z => q (accD ++ z)) :=
      fun a1 a2 a3 a4 a5 a6 a7 => ⟨ds.length - (i + 1), by omega, _, _, _, hlt, rfl, a1, a2, a3, a4, a5, a6, a7⟩
    refine .inr ⟨go, fun Hd => ∃ Gd acc' accD', Keep G1 Gd H1 Hd ∧ GOk Gd Hd ∧ Gd l = some .hid ∧ Hd l = some (.lst acc') ∧ RepL X.K Gd Hd acc' accD' ∧ acc'.length ≤ i + 1 ∧ dLcL dg sc te (ds.drop (i + 1)) (wipeE env vs) (fun z => q (accD' ++ z)),
      fun Hd ⟨Gd, acc', accD', a1, a2, a3, a4, a5, a6, a7⟩ => nextW a1 a2 a3 a4 a5 a6 a7, fun y H2 hy => ?_⟩
    obtain ⟨dy, hdy, G2, k2, g2, ry⟩ := yl y H2 hy
    rw [List.drop_eq_getElem_cons hlt] at hd'
    rw [List.getElem?_eq_getElem hlt] at hdy
    cases hdy
    obtain ⟨env3, he3, hb3⟩ := hd'
    have k12 := kc.trans g1 k2
    have ew : EnvOk X.K G0 H0 G2 H2 (L2.wipe σ vs) (wipeE env vs) := (e1.step k12 g2).wipe vs
    have hid2 : ∀ {Gx : Gm} {Hx : Hp}, Keep Gc Gx Hc Hx → Gx l = some .hid ∧ Hx l = some (.lst acc) := fun kx => ⟨by rw [kx.gh l (by rw [hll]; simp)]; exact hh, kx.obj l _ hll (by rw [hh]; simp) nofun⟩
    refine gg X.K G0 H0 G2 H2 _ _ y _ env3 rfl ew ry he3 _ fun vals e3 => ⟨wipe_setS his, ?_⟩
    refine ⟨G0, H0, G2, env3, _, noX, e3, hb3, ?_, XOk.noX⟩
    rintro kk G3 H3 qk k3 g3
    have kc3 := k2.trans gc k3
    have k13 := k12.trans g1 k3
    cases kk with
    | false =>
      obtain ⟨z1, z2⟩ := hid2 kc3
      exact ⟨G3, acc, accD, k13, g3, z1, z2, RepL.keep kc3 rl, by omega, qk⟩
    | true =>
      refine ⟨G0, H0, G3, env3, _, noX, e3.step k3 g3, qk, ?_, XOk.noX⟩
      rintro r4 y4 G4 H4 ⟨d4, rfl, q4⟩ k4 g4 rr4
      have kc4 := kc3.trans gc k4
      have k14 := k13.trans g1 k4
      obtain ⟨z1, z2⟩ := hid2 kc4
      have w : Wr G4 l H4 (upd H4 l (.lst (acc ++ [y4]))) := ⟨z1, fun b n => upd_ne n, _, z2, .inl ⟨_, rfl⟩⟩
      refine ⟨acc, z2, by rw [sizeLine_eq]; omega, G4, acc ++ [y4], accD ++ [d4], ⟨fun b o hb nb nt => ?_, fun b gb pb => ?_, fun b K J gb pb => w.memo (by rw [k14.gh b pb.ne]; exact gb) (k14.memo b K J gb pb), k14.gh, w.tab k14.tab⟩, ⟨fun b x gb => ?_, fun b gb => w.pen gb (g4.pen b gb), fun b K J gb => w.memo gb (g4.memo b K J gb)⟩, z1, upd_same, RepL.wr w ((RepL.keep kc4 rl).append (.cons rr4 .nil)), by simp; omega, by simpa using q4⟩
      · rw [upd_ne (old (by rw [hb]; simp))]; exact k14.obj b o hb nb nt
      · exact w.pen (by rw [k14.gh b (by obtain ⟨_, _, _, q, _⟩ := pb; rw [q]; simp)]; exact gb) (k14.pen b gb pb)
      · by_cases nb : b = l
        · subst nb; exact ⟨_, upd_same, .inl ⟨_, rfl⟩⟩
        · obtain ⟨zs, qz, m⟩ := g4.lst b x gb
          exact ⟨zs, by rw [upd_ne nb]; exact qz, m⟩
  · refine .inl ⟨w2 (by omega), ?_⟩
    rw [List.drop_eq_nil_of_le (by omega)] at hd'
    have hd2 : q accD := by simpa [dLcL] using hd'
    refine hq accD (.ref l) Gc Hc hd2 (k1.trans e.gok kc) gc ⟨l, acc, rfl, ?_, hh, hll, rl⟩
    cases z : H l with
    | none => rfl
    | some o => exact absurd hl (k1.dom e.gok (by rw [z]; simp))
theorem pf_lc {elt : Expr} {ifs : List Expr} {scope : Scope} {own : List (Str × Nat)} {is : List Nat} {dg : DG} {te : DE} (hc : X.calm = true) (hN : X.N.Nodup) (hi : PDI X E tg iter ti) (ok : BlkOk X.N X.env.scope scope own)
    (hg : ∃ g, (∀ (s : Shared) (H : Hp) (C : Addr) (cl : List (Str × Addr)) (fp : List Addr), PG (X.blk s H scope (compEnvC scope cl C X.env) fp) tg g) ∧ ∀ (K : PySem.W.Frag) (G0 : Gm) (H0 : HB) (G : Gm) (H : Hp) (σ : L2.St) (env : SE) (v : V) (d : D) (env' : SE), X.K = K → EnvOk K G0 H0 G H σ env → Rep K G H v d → dg d env = some env' → ∀ Q : L2.St → Hp → Prop, (∀ vs, EnvOk K G0 H0 G H (setS is vs σ) env' → Q (setS is vs σ) H) → g v σ H Q)
    (ht : ∀ (s : Shared) (H : Hp) (C : Addr) (cl : List (Str × Addr)) (fp : List Addr), PTsD (X.blk s H scope (compEnvC scope cl C X.env) fp) ifs sc)
    (he : ∀ (s : Shared) (H : Hp) (C : Addr) (cl : List (Str × Addr)) (fp : List Addr), PD (X.blk s H scope (compEnvC scope cl C X.env) fp) E0 elt te) (his : ∀ i ∈ is, i ∈ own.map (·.2) := by decide) (hs : ∀ x, foldedSetIterable iter X.env x = pure x := by intro _; rfl) :
    PFL X E (.ListComp elt [⟨tg, iter, ifs, 0⟩] scope pos) (dLc (own.map (·.2)) ti dg sc te) := by
  obtain ⟨g, pg, gg⟩ := hg
  exact PE.wk (pe_lc hc hN hi ok pg (fun s H C cl fp => show PTs (X.blk s H scope (compEnvC scope cl C X.env) fp) ifs (liftT X.K E0 sc) from ht s H C cl fp) (fun s H C cl fp => show PE (X.blk s H scope (compEnvC scope cl C X.env) fp) elt (lift X.K E0 te) from he s H C cl fp) hs) fun _ _ _ h => lift_lc gg his h
end
end QD
namespace QD
open PySem PySem.Spec PyProof.Rows L2
/-! ### names of built-ins -/
structure Tx (mg : Str → Option Value) : Prop where
  len : mg "len" = none
  range : mg "range" = none
  tuple : mg "tuple" = none
  list : mg "list" = none
  int : mg "int" = none
  bool : mg "bool" = none
  str : mg "str" = none
  isinstance : mg "isinstance" = none
  max : mg "max" = none
  sorted : mg "sorted" = none
  sum : mg "sum" = none
  all : mg "all" = none
  any : mg "any" = none
  repr : mg "repr" = none
  enumerate : mg "enumerate" = none
  zip : mg "zip" = none
  reversed : mg "reversed" = none
theorem boot_len_ : bootBuiltins "len" = some (.builtin "len") := by decide +kernel
theorem boot_max_ : bootBuiltins "max" = some (.builtin "max") := by decide +kernel
theorem boot_sorted_ : bootBuiltins "sorted" = some (.builtin "sorted") := by decide +kernel
theorem boot_all_ : bootBuiltins "all" = some (.builtin "all") := by decide +kernel
theorem boot_repr_ : bootBuiltins "repr" = some (.builtin "repr") := by decide +kernel
theorem boot_int_ : bootBuiltins "int" = some (.type "int") := by decide +kernel
theorem boot_bool_ : bootBuiltins "bool" = some (.type "bool") := by decide +kernel
theorem boot_str_ : bootBuiltins "str" = some (.type "str") := by decide +kernel
theorem boot_tuple_ : bootBuiltins "tuple" = some (.type "tuple") := by decide +kernel
section
variable {X : Cx} {E : XK} {e a b c tg iter : Expr} {te ta tb : DE} {pos p : Pos} {x : Str}
/-! ### +, *, <, is over several kinds -/
theorem ok_cat : OpR X (binaryOp .Add) (rD X.K catD) := by
  refine OpR.wk op_cat ?_
  rintro x y H Q ⟨G, r1, r2, d, g0, h1, h2, e, q⟩
  generalize hd1 : r1.d = d1 at e
  generalize hd2 : r2.d = d2 at e
  unfold catD at e
  split at e
  · split at e
    · rename_i l
      cases e
      obtain ⟨a, vs, rfl, s1, _, l1⟩ := h1.lst hd1
      obtain ⟨b, us, rfl, s2, _, l2⟩ := h2.lst hd2
      exact ⟨a, b, vs, us, rfl, rfl, s1, s2, by rw [l1.length, l2.length, sizeLine_eq]; exact l, fun q0 hq0 => q _ G _ (Keep.laid hq0) (g0.laid hq0) (Rep.newL g0 hq0 (l1.append l2))⟩
    · cases e
  · cases e
theorem rD_or {K : PySem.W.Frag} {f g : D → D → Option D} {x y : V} {H : Hp} {Q : VK} (h : rD K (fun a b => (f a b).or (g a b)) x y H Q) : rD K f x y H Q ∨ rD K g x y H Q := by
  obtain ⟨G, r1, r2, d, g0, h1, h2, e, q⟩ := h
  cases z : f r1.d r2.d with
  | some d' =>
    have e' : (f r1.d r2.d).or (g r1.d r2.d) = some d := e
    rw [z] at e'
    exact .inl ⟨G, r1, r2, d, g0, h1, h2, by rw [z]; exact e', q⟩
  | none =>
    have e' : (f r1.d r2.d).or (g r1.d r2.d) = some d := e
    rw [z] at e'
    exact .inr ⟨G, r1, r2, d, g0, h1, h2, e', q⟩
theorem ok_or {o : Value → Value → Sem Value} {f g : D → D → Option D} (h1 : OpR X o (rD X.K f)) (h2 : OpR X o (rD X.K g)) : OpR X o (rD X.K fun a b => (f a b).or (g a b)) := OpR.wk (h1.or h2) fun _ _ _ _ q => rD_or q
def addA (a b : D) : Option D := (addD a b).or (catD a b)
theorem ok_addA : OpR X (binaryOp .Add) (rD X.K addA) := ok_or ok_add ok_cat
def ltA (a b : D) : Option D := ltI a b
theorem ok_ltA (hu : X.A.units + 65 < cLine) : OpR X (compareOp .Lt) (rD X.K ltA) := ok_lt
def mulA (a b : D) : Option D := mulI a b
theorem ok_mulA : OpR X (binaryOp .Mult) (rD X.K mulA) := ok_mulI
def isBD (x y : D) : Option D := match x, y with
  | .bl a, .bl b => some (.bl (decide (a = b)))
  | _, _ => none
def isNotBD (x y : D) : Option D := match x, y with
  | .bl a, .bl b => some (.bl (!decide (a = b)))
  | _, _ => none
theorem ok_isB : OpR X (compareOp .Is) (rD X.K isBD) := by
  refine OpR.wk op_isBl ?_
  rintro x y H Q ⟨G, r1, r2, d, g0, h1, h2, e, q⟩
  generalize hd1 : r1.d = d1 at e
  generalize hd2 : r2.d = d2 at e
  unfold isBD at e
  split at e
  · cases e
    exact ⟨_, _, h1.bl hd1, h2.bl hd2, q _ G H (Keep.refl G H) g0 (.bl _)⟩
  · cases e
theorem ok_isNotB : OpR X (compareOp .IsNot) (rD X.K isNotBD) := by
  refine OpR.wk op_notBl ?_
  rintro x y H Q ⟨G, r1, r2, d, g0, h1, h2, e, q⟩
  generalize hd1 : r1.d = d1 at e
  generalize hd2 : r2.d = d2 at e
  unfold isNotBD at e
  split at e
  · cases e
    exact ⟨_, _, h1.bl hd1, h2.bl hd2, q _ G H (Keep.refl G H) g0 (.bl _)⟩
  · cases e
def isA (a b : D) : Option D := (isND a b).or (isBD a b)
def isNotA (a b : D) : Option D := (isNotND a b).or (isNotBD a b)
theorem ok_isA : OpR X (compareOp .Is) (rD X.K isA) := ok_or ok_isN ok_isB
theorem ok_isNotA : OpR X (compareOp .IsNot) (rD X.K isNotA) := ok_or ok_isNotN ok_isNotB
def dNeg (ta : DE) : DE := fun env q x => ta env (fun r => ∃ i, r.d = .int i ∧ q (.val (.int (-i)))) x
/-- a comprehension's one name -/
theorem comp_name (i : Nat) {scope : Scope} {y : Str} {q : Pos} (hN : X.N.Nodup) (hi : ∀ (s : Shared) (H : Hp) (C : Addr) (cl : List (Str × Addr)) (fp : List Addr), (X.blk s H scope (compEnvC scope cl C X.env) fp).N[i]? = some y)
    (hx : ∀ (s : Shared) (H : Hp) (C : Addr) (cl : List (Str × Addr)) (fp : List Addr), Loc (X.blk s H scope (compEnvC scope cl C X.env) fp).env.scope y)
    (hf : ∀ (s : Shared) (H : Hp) (C : Addr) (cl : List (Str × Addr)) (fp : List Addr), (X.blk s H scope (compEnvC scope cl C X.env) fp).fn y = true ∨ (X.blk s H scope (compEnvC scope cl C X.env) fp).env.scope.names.lookup y = some .local) :
    ∃ g, (∀ (s : Shared) (H : Hp) (C : Addr) (cl : List (Str × Addr)) (fp : List Addr), PG (X.blk s H scope (compEnvC scope cl C X.env) fp) (.Name y q) g) ∧ ∀ (K : PySem.W.Frag) (G0 : Gm) (H0 : HB) (G : Gm) (H : Hp) (σ : L2.St) (env : SE) (v : V) (d : D) (env' : SE), X.K = K → EnvOk K G0 H0 G H σ env → Rep K G H v d → gN i d env = some env' → ∀ Q : L2.St → Hp → Prop, (∀ vs, EnvOk K G0 H0 G H (setS [i] vs σ) env' → Q (setS [i] vs σ) H) → g v σ H Q := by
  refine ⟨gName i, fun s H C cl fp => pg_name hN (hi s H C cl fp) (hx s H C cl fp) (hf s H C cl fp), fun K G0 H0 G H σ env v d env' hK e r h Q q => ?_⟩
  cases h
  exact q [v] (e.setVal i r)
/-- name = [..] as a value -/
def dSetLcV (i : Nat) (t : DFr) : DS := fun J env => t env (fun ds => J.nx (env.set i (.val (.lst ds)))) J.ex
theorem EnvOk.freshV {K : PySem.W.Frag} {G0 G G' : Gm} {H0 : HB} {H H' : Hp} {σ : L2.St} {env : SE} {v : V} {ds : List D} (e : EnvOk K G0 H0 G H σ env) (k : Keep G G' H H') (g : GOk G' H') (i : Nat) (f : FreshL K H G' H' v ds) :
    ∃ G2, EnvOk K G0 H0 G2 H' (σ.set i (some v)) (env.set i (.val (.lst ds))) := by
  obtain ⟨G2, k2, g2, r⟩ := f.val k g
  exact ⟨G2, (e.step k2 g2).setVal i r⟩
variable {ti : DI} {sc : DT}
theorem pd_setLcV (i : Nat) {y : Str} {py spos : Pos} {elt : Expr} {ifs : List Expr} {scope : Scope} {own : List (Str × Nat)} {is : List Nat} {dg : DG} {te : DE} (hc : X.calm = true) (hN : X.N.Nodup) (hi : PDI X E tg iter ti) (ok : BlkOk X.N X.env.scope scope own)
    (hg : ∃ g, (∀ (s : Shared) (H : Hp) (C : Addr) (cl : List (Str × Addr)) (fp : List Addr), PG (X.blk s H scope (compEnvC scope cl C X.env) fp) tg g) ∧ ∀ (K : PySem.W.Frag) (G0 : Gm) (H0 : HB) (G : Gm) (H : Hp) (σ : L2.St) (env : SE) (v : V) (d : D) (env' : SE), X.K = K → EnvOk K G0 H0 G H σ env → Rep K G H v d → dg d env = some env' → ∀ Q : L2.St → Hp → Prop, (∀ vs, EnvOk K G0 H0 G H (setS is vs σ) env' → Q (setS is vs σ) H) → g v σ H Q)
    (ht : ∀ (s : Shared) (H : Hp) (C : Addr) (cl : List (Str × Addr)) (fp : List Addr), PTsD (X.blk s H scope (compEnvC scope cl C X.env) fp) ifs sc)
    (he : ∀ (s : Shared) (H : Hp) (C : Addr) (cl : List (Str × Addr)) (fp : List Addr), PD (X.blk s H scope (compEnvC scope cl C X.env) fp) E0 elt te)
    (hy : X.N[i]? = some y := by rfl) (hyl : X.env.scope.names.lookup y = some .local := by rfl) (hsw : swapsWith (.ListComp elt [⟨tg, iter, ifs, 0⟩] scope pos) (some (.Name y py)) spos.line X.env = pure true := by first | exact sw_true rfl rfl rfl (by decide +kernel) | rfl)
    (his : ∀ i ∈ is, i ∈ own.map (·.2) := by decide) (hs : ∀ x, foldedSetIterable iter X.env x = pure x := by intro _; rfl) :
    PDS X E (.Assign [.Name y py] (.ListComp elt [⟨tg, iter, ifs, 0⟩] scope pos) spos) (dSetLcV i (dLc (own.map (·.2)) ti dg sc te)) := by
  obtain ⟨g, pg, gg⟩ := hg
  refine PS.wk (ps_setLc hc hN hy hyl hsw hi ok pg (fun s H C cl fp => show PTs (X.blk s H scope (compEnvC scope cl C X.env) fp) ifs (liftT X.K E0 sc) from ht s H C cl fp) (fun s H C cl fp => show PE (X.blk s H scope (compEnvC scope cl C X.env) fp) elt (lift X.K E0 te) from he s H C cl fp) hs) ?_
  rintro Z σ H ⟨G0, H0, G, env, J, e, h, hn, hr, hb, hct, hx⟩
  refine lift_lc gg his ⟨G0, H0, G, env, _, _, e, h, ?_, hx.now e⟩
  rintro ds v G' H' q k g' f
  obtain ⟨G2, e2⟩ := e.freshV k g' i f
  exact hn _ G2 _ H' q e2
/-- code that is never reached -/
def dNever : DS := fun _ _ => False
end
end QD
/-! enumerate(tuple), zip(tuple, tuple) -/
namespace QD
open PySem PySem.Spec PyProof.Rows L2
set_option maxHeartbeats 1000000 in
theorem enum_made {v : Value} {o : Obj} {H : Heap → Prop} (B : Begins v o H) :
    Meets (Builtin.«enumerate.__new__» ⟨[.type "enumerate", v], []⟩) (fun _ R s => H s.heap ∧
      R (.ok (.ret (.ref (s.heap.push o).objs.size))) { s with heap := (s.heap.push o).push { cls := .type "enumerate", data := .fields #[.none, .bool false, .ref s.heap.objs.size, rawInt 0, .none, .none] } }) :=
  .of_wp fun prog w A R s h => by
    obtain ⟨hp, g, d, tk, os⟩ := s
    obtain ⟨h1, h⟩ := h
    have hsub := sub_enumerate
    have q1 : ∀ {A' : Around} {E : Value → Shared → Prop} {Q : Value → Shared → Prop}, Q (.ref hp.objs.size) ⟨hp.push o, g, d, tk, os⟩ → wpAny (model prog w) A' (pyIter v) Q E ⟨hp, g, d, tk, os⟩ :=
      fun q => B.iter prog w _ _ ⟨hp, g, d, tk, os⟩ _ h1 q
    wp_walk using q1
    refine wpAny_stack_any fun st => wpAny_pure ?_
    split
    · rename_i c _ _ _ _ _
      cases (c == Value.type "enumerate") <;>
      · wp_walk using q1
        exact ⟨_, rfl, h⟩
    · wp_walk using q1
      exact ⟨_, rfl, h⟩
theorem enum_call {prog : Program} {w : World} {A : Around} {E : Value → Shared → Prop} {s : Shared} {v : Value} {o : Obj} {H : Heap → Prop} {Q : Value → Shared → Prop} (B : Begins v o H) (h1 : H s.heap)
    (h : ∀ h', IsEnum h' (s.heap.objs.size + 1) s.heap.objs.size ((0 : Nat) : Int) .none → h'.get? s.heap.objs.size = some o → (∀ b o, s.heap.get? b = some o → h'.get? b = some o) → Q (.ref (s.heap.objs.size + 1)) { s with heap := h' }) :
    wpAny (model prog w) A (call (.type "enumerate") [v]) Q E s := by
  refine callType_new F.called_enumerate (by decide) (F.typeCall_enumerate_1 _) (F.newCall_enumerate_1 _) (fun obj => F.args_object_init_2 obj _) F.entry_enumerate_new (enum_made B) ⟨h1, ?_⟩
  have hz : (s.heap.push o).objs.size = s.heap.objs.size + 1 := Heap.size_push ..
  have he := Heap.get?_push_size (s.heap.push o) (o := { cls := .type "enumerate", data := .fields #[.none, .bool false, .ref s.heap.objs.size, rawInt 0, .none, .none] }) rfl
  show _ ∧ _
  rw [hz] at he ⊢
  exact ⟨⟨_, he, rfl⟩, h _ he (Heap.get?_push_of_some _ (Heap.get?_push_size _ B.free)) fun b o x => Heap.get?_push_of_some _ (Heap.get?_push_of_some _ x)⟩
/-- the pairs (i, item) of the tuple at a -/
def Iet (K : PySem.W.Frag) (a : Addr) : It where
  go := fun i H => ∃ (xs : List V) (x : V), SqT K H a xs ∧ xs[i]? = some x
  yld := fun i H v H' => ∃ T x, v = .ref T ∧ H T = none ∧ H' = upd H T (.tup [.int (i : Nat), x]) ∧ ∀ xs, SqT K H a xs → xs[i]? = some x
  stop := fun i H => ∃ xs : List V, SqT K H a xs ∧ xs.length ≤ i
theorem turn_et {P : Program} {w : World} {K : PySem.W.Frag} {elts : List Expr} {kk : Nat} {tpos : Pos} (a e it : Addr) (hei : e ≠ it) (hea : e ≠ a) (hai : a ≠ it) :
    Turn P w K (.Tuple elts kk tpos) (Iet K a) [e, it] e (fun i h => (∃ old, IsEnum h e it ((i : Nat) : Int) old) ∧ h.IsTupleIter it a i) where
  mem := by simp
  obj := fun i h st b hb => by
    obtain ⟨⟨old, he⟩, o, ho, hc, hd⟩ := st
    rcases (by simpa using hb : b = e ∨ b = it) with rfl | rfl
    · exact ⟨_, he, fun v q => nomatch q⟩
    · exact ⟨o, ho, fun v q => by rw [hd] at q; cases q⟩
  keep := fun i h h' st k => let ⟨⟨old, he⟩, hi⟩ := st; ⟨⟨old, k e (by simp) _ he⟩, hi.at fun o q => k it (by simp) o q⟩
  item := by
    intro X hP hw hK hc i pins s σ H E I hf st hg
    subst hP hw hK
    obtain ⟨⟨old, he⟩, hit⟩ := st
    obtain ⟨xs, x, hq, hx⟩ := hg
    obtain ⟨its, rv, p, hz⟩ := I.tuple hq
    obtain ⟨u, hu, ru⟩ := rv.get hx
    have hel : e < s.heap.objs.size := Heap.lt_size he
    have hil : it < s.heap.objs.size := by obtain ⟨_, q, _⟩ := hit; exact Heap.lt_size q
    have p' : s.heap.IsTuple a its.toArray := p
    have lt : i < its.toArray.size := by
      have := (List.getElem?_eq_some_iff.mp hu).1
      simpa using this
    have nef : e ∉ [it, a] := by simp; exact ⟨hei, hea⟩
    refine wpAny_pyNext_enum_itemD (Draws.tuple (A := X.A.in1) (I.ok.hd hc) it a hai its.toArray) he ⟨hit, p'⟩ lt hei nef fun y h' tk hy ho hst hT hsz hk => ?_
    have ey : y = u := by
      have : its[i]? = some y := by simpa using hy
      rw [hu] at this
      exact (Option.some.inj this).symm
    subst ey
    refine ⟨_, rfl, wpAny_letOwnedTupleGo_enum (s := { s with heap := h', toks := tk + 1 }) ho fun h'' he' sb => ?_⟩
    have hT2 := (sb.2 _ (Nat.ne_of_gt hel)).trans hT
    have new : ObjOk X.prog X.w (upd H s.heap.objs.size (.tup [.int (i : Nat), x])) h'' s.heap.objs.size (.tup [.int (i : Nat), x]) :=
      ⟨by show 2 ≤ sizeLine; decide, [.int i tk, y], .cons ⟨_, rfl⟩ (.cons ru .nil), ⟨_, hT2, rfl, _, rfl⟩⟩
    have kk' : ∀ b ob, b ∉ [e, it] → s.heap.get? b = some ob → h''.get? b = some ob := fun b ob hb q => (sb.2 b (fun z => hb (by simp [z]))).trans (hk b ob (fun z => hb (by simp [z])) (fun z => hb (by simp [z])) q)
    have I1 : Inv X pins σ (upd H s.heap.objs.size (.tup [.int (i : Nat), x])) { s with heap := h'', toks := tk + 1 } := I.turnedNew (ch := [e, it]) kk' hf (Nat.le_refl _) new
    refine ⟨.ref s.heap.objs.size, _, I1, rfl, ⟨_, x, rfl, I.hok.fresh (Nat.le_refl _), rfl, fun ys hy => by rw [I.tuple_inj hy hq]; exact hx⟩, ⟨⟨y, ?_⟩, hst.1.at fun o q => (sb.2 it (Ne.symm hei)).trans q⟩, fun b hb => ?_⟩
    · have e1 : ((i + 1 : Nat) : Int) = (i : Int) + 1 := by omega
      rw [e1]; exact he'
    · have hb' : b < s.heap.objs.size := by
        rcases (by simpa using hb : b = e ∨ b = it) with z | z <;> (rw [z]; assumption)
      rw [upd_ne (Nat.ne_of_lt hb')]
      exact (hf b hb).1
  done := by
    intro X hP hw hK hc i pins s σ H E I hf st hg
    subst hP hw hK
    obtain ⟨⟨old, he⟩, hit⟩ := st
    obtain ⟨xs, hq, hx⟩ := hg
    obtain ⟨its, rv, p, hz⟩ := I.tuple hq
    obtain ⟨f0, f1, f2, f3, f4, f5⟩ := hf it (by simp)
    have hl := rv.length
    have p' : s.heap.IsTuple a its.toArray := p
    unfold pyNext
    refine wpAny_bind (wpAny_attempt (wpAny_callSpecial?_slot (name := Str.ofString "__next__") (⟨_, he, rfl⟩ : s.TypeIs (.ref e) "enumerate") F.slot_enumerate_next
      (wpAny_call_entry F.slot_enumerate_next (⟨_, he, rfl⟩ : s.TypeIs (.ref e) "enumerate") F.entry_enumerate_next ?_ (F.args_enumerate_next_1 _))))
    show wpAny _ _ (field (.ref e) 2 >>= _) _ _ _
    refine wpAny_bind (wpAny_field he rfl (x := .ref it) rfl ?_)
    refine wpAny_bind (wpAny_nextOf_tuple_end (I.ok.hd hc) hit p' (by simp; omega) fun h' x he' hx' => ?_)
    obtain ⟨o, ho, hc'⟩ := hx'
    refine wpAny_bind (wpAny_isInstance (T := "StopIteration") (b := true) ⟨o, ho, hc'⟩ isSubtype_stop ?_)
    exact wpAny_pure ⟨rfl, I.turned (t' := s.toks) (fun b o hb q => he' b o hb q) f0 f1 f3 f4 f5⟩
  self := fun A i s Q E st h => let ⟨⟨_, he⟩, _⟩ := st; wpAny_pyIter_enum he h
def iEnumT (K : PySem.W.Frag) (ta : TA) : TI := fun σ H R => ta σ H fun vs H1 => ∃ a xs, vs = [.ref a] ∧ SqT K H1 a xs ∧ R (Iet K a) H1
theorem pi_enumT {X : Cx} {e : Expr} {ta : TA} {p pos tpos : Pos} {elts : List Expr} {kk : Nat} (hg : Gl X "enumerate") (hm : X.mg "enumerate" = none) (ha : PA X [e] ta) (hs : starEach [e] X.env = [(false, eval e X.env)] := by rfl) :
    PI X (.Tuple elts kk tpos) (.Call (.Name "enumerate" p) [e] [] pos) (iEnumT X.K ta) := by
  refine ⟨fun pins s σ H R I h => ?_⟩
  refine Call_ (ld_blt I hg hm boot_enumerate (PyProof.Rows.callWith_type1 (thn (ha.run pos pins s σ H _ I h) fun us s1 ⟨vs, H1, I1, r1, q1⟩ => ?_) hs rfl))
  obtain ⟨a, xs, rfl, hq, q⟩ := q1
  cases r1 with
  | cons r rr =>
    cases rr
    cases r
    obtain ⟨its, rv, p', hz⟩ := I1.tuple hq
    have pt : s1.heap.IsTuple a its.toArray := p'
    have hal : a < s1.heap.objs.size := by obtain ⟨_, q, _⟩ := pt; exact Heap.lt_size q
    refine enum_call (begins_tuple a its.toArray) pt fun h' he hit hk => wpAny_pyIter_enum he ?_
    have I2 : Inv X pins σ H1 { s1 with heap := h' } := I1.kept (t' := s1.toks) hk
    refine ⟨s1.heap.objs.size + 1, [s1.heap.objs.size + 1, s1.heap.objs.size], _, _, H1, rfl, I2, turn_et a (s1.heap.objs.size + 1) s1.heap.objs.size (Nat.succ_ne_self _) (Nat.ne_of_gt (Nat.lt_succ_of_lt hal)) (Nat.ne_of_lt hal), ⟨⟨.none, he⟩, ⟨_, hit, rfl, rfl⟩⟩, fun b hb => ?_, q⟩
    have hle : s1.heap.objs.size ≤ b := by
      rcases (by simpa using hb : b = s1.heap.objs.size + 1 ∨ b = s1.heap.objs.size) with z | z
      · rw [z]; exact Nat.le_add_right _ _
      · rw [z]; exact Nat.le_refl _
    exact I1.fpOk hle (I1.hok.fresh hle)
section
variable {X : Cx} {E : XK} {e a b c tg iter : Expr} {te ta tb : DE} {pos p tpos : Pos} {kk : Nat} {elts : List Expr}
def enD (ds : List D) : List D := (List.range ds.length).map fun i => .tup [.int (i : Nat), ds.getD i .non]
theorem enD_len (ds : List D) : (enD ds).length = ds.length := by simp [enD]
theorem enD_at {ds : List D} {i : Nat} {d : D} (h : ds[i]? = some d) : (enD ds)[i]? = some (.tup [.int (i : Nat), d]) := by
  have lt := (List.getElem?_eq_some_iff.mp h).1
  simp [enD, List.getElem?_range lt, List.getD, h]
theorem pairRep {K : PySem.W.Frag} {G : Gm} {H : Hp} {T : Addr} {x : V} {d : D} {i : Nat} (g : GOk G H) (n : H T = none) (r : Rep K G H x d) : Rep K G (upd H T (.tup [.int i, x])) (.ref T) (.tup [.int i, d]) :=
  Rep.newT g n (.cons (.int _) (.cons r .nil))
theorem walk_enumT {K : PySem.W.Frag} {a : Addr} {r : R} {ds : List D} (e : r.d = .tup ds) : WalkR K (Iet K a) (.ref a) r (enD ds) := by
  intro G H g rr i
  obtain ⟨b, vs, q1, q2, q4⟩ := rr.tup e
  cases q1
  rw [enD_len]
  refine ⟨fun h => ⟨?_, fun y H' h => ?_⟩, fun h => ⟨vs, q2, by rw [q4.length]; exact h⟩⟩
  · obtain ⟨v, h1, _⟩ := q4.get (List.getElem?_eq_getElem h)
    exact ⟨vs, v, q2, h1⟩
  · obtain ⟨T, x, rfl, n, rfl, h⟩ := h
    obtain ⟨d, h1, h2⟩ := q4.getV (h vs q2)
    exact ⟨_, enD_at h1, G, Keep.laid n, g.laid n, pairRep g n h2⟩
theorem walk_enumL {K : PySem.W.Frag} {a : Addr} {r : R} {ds : List D} (e : r.d = .lst ds) : WalkR K (Ite K a) (.ref a) r (enD ds) := by
  intro G H g rr i
  obtain ⟨b, vs, q1, q2, q3, q4⟩ := rr.lst e
  cases q1
  have q2' : SqL K H a vs := .inl (.inl q2)
  rw [enD_len]
  refine ⟨fun h => ⟨?_, fun y H' h => ?_⟩, fun h => ⟨vs, q2', by rw [q4.length]; exact h⟩⟩
  · obtain ⟨v, h1, _⟩ := q4.get (List.getElem?_eq_getElem h)
    exact ⟨vs, v, q2', h1⟩
  · obtain ⟨T, x, rfl, n, rfl, h⟩ := h
    obtain ⟨d, h1, h2⟩ := q4.getV (h vs q2')
    exact ⟨_, enD_at h1, G, Keep.laid n, g.laid n, pairRep g n h2⟩
def iEnumD (te : DE) : DI := fun env q x => te env (fun r => ∃ ds, r.d = .lst ds ∧ q (enD ds) r.isVal) x ∨ te env (fun r => ∃ ds, r.d = .tup ds ∧ q (enD ds) r.isVal) x
theorem pdi_enum (h : PD X E e te) (hm : X.mg "enumerate" = none) (hg : Gl X "enumerate" := by rfl) (hs : starEach [e] X.env = [(false, eval e X.env)] := by rfl) : PDI X E (.Tuple elts kk tpos) (.Call (.Name "enumerate" p) [e] [] pos) (iEnumD te) := by
  have hA := pa_cons (show PE X e (lift X.K E te) from h) pa_nil hs
  refine PI.wk (QD.PI.or (pi_enum hg hm hA hs) (pi_enumT hg hm hA hs)) ?_
  rintro σ H Q ⟨G0, H0, G, env, q, x, e, h, hq, hx⟩
  rcases h with h | h
  · refine .inl ⟨G0, H0, G, env, _, x, e, h, ?_, hx⟩
    rintro r v G' H' ⟨ds, e1, qd⟩ k g rr
    obtain ⟨a, vs, rfl, q2, q3, q4⟩ := rr.lst e1
    exact ⟨a, vs, rfl, .inl (.inl q2), hq _ _ r G' H' _ qd k g rr (walk_enumL e1)⟩
  · refine .inr ⟨G0, H0, G, env, _, x, e, h, ?_, hx⟩
    rintro r v G' H' ⟨ds, e1, qd⟩ k g rr
    obtain ⟨a, vs, rfl, q2, q4⟩ := rr.tup e1
    exact ⟨a, vs, rfl, q2, hq _ _ r G' H' _ qd k g rr (walk_enumT e1)⟩
end
end QD
/-! instances: class constants, attributes, len, properties, making; raise -/
namespace QD
open PySem PySem.Spec PyProof.Rows L2
abbrev XF : XK := fun _ _ _ => False
section
variable {X : Cx} {E : XK} {k j : Nat} {pins : List (Addr × Obj)} {σ : L2.St} {H : Hp} {s : Shared} {fd : FuncData} {ps : List Str} {sp : Sp} {f : Addr}
end
/-- a method of the class: a plain def, without defaults -/
structure MetG (P : Program) (w : World) (K : PySem.W.Frag) (mg : Str → Option Value) (base : Heap) (k : Nat) (C : Addr) (m : Str) (sp : Sp) : Prop where
  cls : Cls K C
  ex : ∃ f fd ps, FnG P w K mg base k f fd ps sp ∧ Meth K C m f ∧ Binds K fd ps []
section
variable {X : Cx} {E : XK} {e a b c o : Expr} {te ta tb : DE} {pos p apos : Pos} {es : List Expr} {sA : DA} {k j : Nat} {C : Addr} {x m f : Str}
/-- the values of an instance -/
def lkD (f : Str) : List Str → List D → Option D
  | n :: ns, d :: ds => if f == n then some d else lkD f ns ds
  | _, _ => none
theorem lkD_rep {K : PySem.W.Frag} {G : Gm} {H : Hp} {f : Str} {d : D} : ∀ {fs : List (Str × V)} {ds : List D}, RepL K G H (fs.map (·.2)) ds → lkD f (fs.map (·.1)) ds = some d → ∃ v, fs.lookup f = some v ∧ Rep K G H v d
  | [], _, r, h => by cases r; cases h
  | (n, v) :: fs, _, r, h => by
    cases r with
    | cons r1 r2 =>
      unfold lkD at h
      by_cases q : (f == n) = true
      · simp only [List.map_cons, q, if_true] at h
        cases h
        exact ⟨v, by simp [List.lookup, q], r1⟩
      · simp only [List.map_cons, q] at h
        obtain ⟨u, e1, e2⟩ := lkD_rep r2 (by simpa using h)
        exact ⟨u, by simp [List.lookup, q]; exact e1, e2⟩
theorem RRep.ins {K : PySem.W.Frag} {G : Gm} {H : Hp} {v : V} {r : R} {ns : List Str} {ds : List D} (h : RRep K G H v r) (e : r.d = .ins C ns ds) : ∃ a dx fs, v = .ref a ∧ G a = none ∧ H a = some (.ins C dx fs) ∧ fs.map (·.1) = ns ∧ RepL K G H (fs.map (·.2)) ds := by
  cases r with
  | val d =>
    have e' : d = .ins C ns ds := e
    subst e'
    cases h with
    | ins g r q l => exact ⟨_, _, _, rfl, g, r, q, l⟩
  | brw es => cases e
def dFld (C : Addr) (f : Str) (te : DE) : DE := fun env q x => te env (fun r => ∃ ns ds d, r.d = .ins C ns ds ∧ lkD f ns ds = some d ∧ q (.val d)) x
theorem pd_fld (c : Cls X.K C) (n : NoAttr X.K C f) (he : PD X E e te) (hb : attributeBase e f X.env (eval e X.env) = eval e X.env := by rfl) : PD X E (.Attribute e f pos) (dFld C f te) := by
  refine PE.wk (pe_fld (show PE X e (lift X.K E te) from he) hb) ?_
  rintro σ H Q ⟨G0, H0, G, env, q, x, e, h, hq, hx⟩
  refine ⟨G0, H0, G, env, _, x, e, h, ?_, hx⟩
  rintro r v G' H' ⟨ns, ds, d, e1, e2, qd⟩ kk g rr
  obtain ⟨a, dx, fs, rfl, ga, ha, e3, l⟩ := rr.ins e1
  subst e3
  obtain ⟨u, l1, l2⟩ := lkD_rep l e2
  exact ⟨a, C, dx, fs, u, rfl, ha, c, n, l1, hq _ _ G' H' qd kk g l2⟩
/-- an int of the class -/
structure ConI (K : PySem.W.Frag) (mg : Str → Option Value) (x : Str) (C : Addr) (f : Str) (i : Int) : Prop where
  g : mg x = some (.ref C)
  at_ : ∃ mc u, ClX.CRead K C mc ∧ ClX.CVal K C mc f (.int i) u
theorem pd_con {i : Int} (T : ConI X.K X.mg x C f i) (hg : Gl X x := by rfl) (hdb : (x == ("__debug__" : Str)) = false := by decide) (hb : attributeBase (.Name x p) f X.env (eval (.Name x p) X.env) = eval (.Name x p) X.env := by rfl) : PD X E (.Attribute (.Name x p) f pos) (dC (.int i)) := by
  refine PE.wk (ClX.pe_cval (pe_glob hg T.g (show RelV (.ref C) (.ref C) from rfl) hdb) hb) ?_
  rintro σ H Q ⟨G0, H0, G, env, q, x, e, h, hq, hx⟩
  obtain ⟨mc, u, r, k⟩ := T.at_
  exact ⟨C, mc, _, u, rfl, r, k, hq _ _ G H h (Keep.refl G H) e.gok (Rep.int i)⟩
/-- len(o) of an own class -/
def dMeth0 (F : DF) (te : DE) : DE := fun env q x => te env (fun r => F [r.d] (fun d => r.isVal = true ∧ ∃ n : Int, d = .int n ∧ (0 ≤ n ∧ n < 2 ^ 63) ∧ q (.val d)) noX) x
/-- a property -/
structure PrpG (P : Program) (w : World) (K : PySem.W.Frag) (mg : Str → Option Value) (base : Heap) (k : Nat) (C : Addr) (f : Str) (sp : Sp) : Prop where
  cls : Cls K C
  ex : ∃ p g fd ps, FnG P w K mg base k g fd ps sp ∧ PropOf K C f p g ∧ Binds K fd ps []
def dProp (F : DF) (te : DE) : DE := fun env q x => te env (fun r => F [r.d] (fun d => r.isVal = true ∧ q (.val d)) noX) x
end
end QD
/-! C(..): __init__ that stores attributes; raise -/
namespace QD
open PySem PySem.Spec PyProof.Rows L2
section
variable {X : Cx} {E : XK} {e a b c o : Expr} {te ta tb : DE} {pos p apos : Pos} {es : List Expr} {sA : DA} {k j : Nat} {C : Addr} {x m f : Str}
/-! ### raise of an own class with a text -/
structure ExcG (K : PySem.W.Frag) (mg : Str → Option Value) (x : Str) (C : Addr) : Prop where
  g : mg x = some (.ref C)
  kp : PySem.W.keepIn K (.ref C) = true
  ex : ∃ (bmB : List Value) (B newId initId : String), ExcBaseFacts B newId initId bmB ∧ PySem.W.excIn K C bmB newId = true
  sub : PySem.W.subIn K (.ref C) (.type "BaseException") = some true
  ty : PySem.W.typeIn K (.ref C) = some (.type "type")
def dRaise (C : Addr) : DS := fun J _ => J.ex ⟨C, none⟩
theorem pd_raise {t : Str} {n : Nat} {p2 : Pos} (T : ExcG X.K X.mg x C) (B : BC X E j) (hg : Gl X x := by rfl) (hdb : (x == ("__debug__" : Str)) = false := by decide) : PDS X E (.Raise (some (.Call (.Name x p) [.Constant (.str t) n p2] [] apos)) none pos) (dRaise C) := by
  obtain ⟨bmB, Bs, newId, initId, F, q⟩ := T.ex
  refine PS.wk (ps_raise B.calm B.tk (pmk_own F q T.g T.kp (raises_own T.sub T.ty) hg hdb)) ?_
  rintro Z σ H ⟨G0, H0, G, env, J, e, h, hn, hr, hb, hct, hx⟩
  exact ((hx.now e) _ G H h (Keep.refl G H) e.gok).1 rfl

/-! ### the state while __init__ runs -/
structure KeepB (a : Addr) (G G' : Gm) (H H' : Hp) : Prop where
  obj : ∀ b o, b ≠ a → H b = some o → Fix (G b) → (∀ ps, o ≠ .tbl ps) → H' b = some o
  pen : ∀ b, G b = some .pen → PenAt H b → PenAt H' b
  memo : ∀ b K J, G b = some (.memo K J) → MemoAt K J H b → MemoAt K J H' b
  gh : ∀ b, H b ≠ none → G' b = G b
  tab : ∀ b ps, H b = some (.tbl ps) → ∃ ps', H' b = some (.tbl ps') ∧ ∀ q, TabN H b q → TabN H' b q
theorem Keep.but {a : Addr} {G G' : Gm} {H H' : Hp} (k : Keep G G' H H') : KeepB a G G' H H' := ⟨fun b o _ h n nt => k.obj b o h n nt, k.pen, k.memo, k.gh, k.tab⟩
theorem KeepB.dom {a : Addr} {G G' : Gm} {H H' : Hp} (k : KeepB a G G' H H') (g : GOk G H) {b : Addr} (n : b ≠ a) (h : H b ≠ none) : H' b ≠ none := by
  rcases fix_cases (G b) with e | ⟨K, J, e⟩ | e
  · obtain ⟨_, _, _, q, _⟩ := k.pen b e (g.pen b e)
    rw [q]; simp
  · exact (k.memo b K J e (g.memo b K J e)).ne
  · cases q : H b with
    | none => exact absurd q h
    | some o =>
      by_cases z : ∃ ps, o = .tbl ps
      · obtain ⟨ps, rfl⟩ := z
        obtain ⟨ps', q', _⟩ := k.tab b ps q
        rw [q']; simp
      · rw [k.obj b o n q e fun ps y => z ⟨ps, y⟩]; simp
theorem KeepB.trans {a : Addr} {G G1 G2 : Gm} {H H1 H2 : Hp} (g : GOk G H) (ha : H1 a ≠ none) (x : KeepB a G G1 H H1) (y : KeepB a G1 G2 H1 H2) : KeepB a G G2 H H2 := by
  refine ⟨fun c o n h np nt => ?_, fun c h q => ?_, fun c K J h q => ?_, fun c h => ?_, fun c ps h => ?_⟩
  · have hn : H c ≠ none := by rw [h]; simp
    exact y.obj c o n (x.obj c o n h np nt) (by rw [x.gh c hn]; exact np) nt
  · have hn : H c ≠ none := by obtain ⟨_, _, _, q, _⟩ := q; rw [q]; simp
    exact y.pen c (by rw [x.gh c hn]; exact h) (x.pen c h q)
  · exact y.memo c K J (by rw [x.gh c q.ne]; exact h) (x.memo c K J h q)
  · have hn1 : H1 c ≠ none := by
      by_cases z : c = a
      · rw [z]; exact ha
      · exact x.dom g z h
    rw [y.gh c hn1, x.gh c h]
  · obtain ⟨ps1, h1, t1⟩ := x.tab c ps h
    obtain ⟨ps2, h2, t2⟩ := y.tab c ps1 h1
    exact ⟨ps2, h2, fun q t => t2 q (t1 q t)⟩
structure IniSt (K : PySem.W.Frag) (C a : Addr) (H : Hp) (σ : L2.St) (G : Gm) (env : SE) (ns : List Str) (es : List D) : Prop where
  ev : ∃ G0 H0, EnvOk K G0 H0 G H σ env
  no : ∀ (i : Nat) (ds : List D), env[i]? ≠ some (.own ds)
  nod : ∀ (i : Nat) (ks : List Key) (ds : List D), env[i]? ≠ some (.dic ks ds)
  self : σ[0]? = some (some (.ref a))
  hid : G a = some .hid
  at_ : ∃ dx fs, H a = some (.ins C dx fs) ∧ fs.map (·.1) = ns ∧ RepL K G H (fs.map (·.2)) es
abbrev DN := SE → List Str → List D → (List Str → List D → Prop) → XP → Prop
def liftN (K : PySem.W.Frag) (E : XK) (C : Addr) (t : DN) : TS := fun Z σ H => ∃ a G env ns es q x, IniSt K C a H σ G env ns es ∧ t env ns es q x ∧
  (∀ ns' es' env' G' σ' H', q ns' es' → KeepB a G G' H H' → GOk G' H' → IniSt K C a H' σ' G' env' ns' es' → Z.nx σ' H') ∧ XOk K E G H x
theorem IniSt.gok {K : PySem.W.Frag} {a : Addr} {H : Hp} {σ : L2.St} {G : Gm} {env : SE} {ns : List Str} {es : List D} (i : IniSt K C a H σ G env ns es) : GOk G H := let ⟨_, _, e⟩ := i.ev; e.gok
def dnNil : DN := fun _ ns es q _ => q ns es
theorem pn_nil : PSs X [] (liftN X.K E C dnNil) := by
  refine PSs.wk pss_nil ?_
  rintro Z σ H ⟨a, G, env, ns, es, q, x, i, h, hq, hx⟩
  exact hq ns es env G σ H h (Keep.refl G H).but i.gok i
/-- if c: (what doesn't go on) -/
def dnIf (c : DT) (tb : DS) (tr : DN) : DN := fun env ns es q x => c env (fun k => if k = true then tb { nx := fun _ => False, rt := fun _ => False, ex := x } env else tr env ns es q x) x
theorem IniSt.step {K : PySem.W.Frag} {a : Addr} {H H' : Hp} {σ : L2.St} {G G' : Gm} {env : SE} {ns : List Str} {es : List D} (i : IniSt K C a H σ G env ns es) (k : Keep G G' H H') (g : GOk G' H') : IniSt K C a H' σ G' env ns es := by
  obtain ⟨⟨G0, H0, e⟩, n, nd, s, h, dx, fs, ha, hf, r⟩ := i
  exact ⟨⟨G0, H0, e.step k g⟩, n, nd, s, by rw [k.gh a (by rw [ha]; simp)]; exact h, dx, fs, k.obj a _ ha (by rw [h]; simp) nofun, hf, RepL.keep k r⟩
theorem pn_if {sc : DT} {tb : DS} {tr : DN} {body rest : List Stmt} (hc : PDT X E c sc) (hb : PDSs X E body tb) (hr : PSs X rest (liftN X.K E C tr)) : PSs X (.If c body [] pos :: rest) (liftN X.K E C (dnIf sc tb tr)) := by
  refine PSs.wk (pss_cons (ps_if (show PT X c (liftT X.K E sc) from hc) (show PSs X body (liftS X.K E tb) from hb) pss_nil) hr) ?_
  rintro Z σ H ⟨a, G, env, ns, es, q, x, i, h, hq, hx⟩
  obtain ⟨G0, H0, e⟩ := i.ev
  refine ⟨G0, H0, G, env, _, x, e, h, ?_, hx⟩
  rintro k G' H' qk kk g
  cases k with
  | true =>
    refine ⟨G', ⟨H', []⟩, G', env, _, ⟨g, Keep.refl G' H', g, e.len, fun p hp => (nomatch hp), (e.step kk g).val, fun i' ds' z => absurd z (i.no i' ds'), fun i' j' ds' es' a' n z => absurd z (i.no i' ds'), .non i.nod⟩, qk, fun _ _ _ _ z => z.elim, fun _ _ _ _ z => z.elim, fun _ _ _ _ z => z.elim, fun _ _ _ _ z => z.elim, hx.keep e.gok kk⟩
  | false =>
    refine ⟨a, G', env, ns, es, q, x, i.step kk g, qk, ?_, hx.keep e.gok kk⟩
    intro ns' es' env' G2 σ' H2 q2 k2 g2 i2
    refine hq ns' es' env' G2 σ' H2 q2 (kk.but.trans e.gok ?_ k2) g2 i2
    obtain ⟨dx, fs, ha, _⟩ := (i.step kk g).at_
    rw [ha]; simp
/-- self.f = e, where self is read as what it has so far -/
def dnSet (f : Str) (te : DE) (tr : DN) : DN := fun env ns es q x => (∀ g ∈ ns, g ≠ f) ∧ ns.length < 900 ∧ te (env.set 0 (.val (.ins C ns es))) (fun r => ∃ d, r = .val d ∧ noLst d = true ∧ tr env (ns ++ [f]) (es ++ [d]) q noX) noX
theorem putF_new {f : Str} {v : V} : ∀ {fs : List (Str × V)}, (∀ g ∈ fs.map (·.1), g ≠ f) → putF f v fs = fs ++ [(f, v)]
  | [], _ => rfl
  | (g, u) :: r, h => by
    have h1 : g ≠ f := h g (by simp)
    unfold putF
    rw [if_neg h1, putF_new fun y hy => h y (by simp at hy ⊢; exact .inr hy)]
    rfl
theorem pn_set {tr : DN} {value : Expr} {rest : List Stmt} {pos' : Pos} {y : Str} (cl : Cls X.K C) (n : NoAttr X.K C f) (hN : X.N[0]? = some y) (hv : Vis X.env.scope y) (hd : (y == ("__debug__" : Str)) = false) (hcd : (y == ("__classdict__" : Str)) = false) (he : PD X E value te) (hr : PSs X rest (liftN X.K E C tr))
    (hs : swapsWith value (some (.Attribute (.Name y p) f pos')) pos.line X.env = pure false) : PSs X (.Assign [.Attribute (.Name y p) f pos'] value pos :: rest) (liftN X.K E C (dnSet (C := C) f te tr)) := by
  refine PSs.wk (pss_cons (ps_fld (pe_var (i := 0) hN hv hd hcd) (show PE X value (lift X.K E te) from he) hs) hr) ?_
  rintro Z σ H ⟨a, G, env, ns, es, q, x, i, ⟨hfr, hlen, h⟩, hq, hx⟩
  obtain ⟨⟨G0, H0, e⟩, no, nod, self, hid, dx, fs, ha, hf, r⟩ := i
  have gp := pens_ok e.gok
  have es0 : EnvOk X.K (pens G) ⟨H, []⟩ (pens G) H σ env := ⟨gp, Keep.refl _ H, gp, e.len, fun p hp => (nomatch hp), fun i d z => by
    obtain ⟨v, z1, z2⟩ := e.val i d z
    exact ⟨v, z1, Rep.le (pens_le G) z2⟩, fun i' ds' z => absurd z (no i' ds'), fun i' j' ds' es' a' n z => absurd z (no i' ds'), .non nod⟩
  have rs : Rep X.K (pens G) H (.ref a) (.ins C ns es) := .ins (pens_non (by rw [hid]; simp)) ha hf (RepL.le (pens_le G) r)
  have es1 := es0.setVal 0 rs
  have hset : σ.set 0 (some (.ref a)) = σ := by
    apply List.ext_getElem?
    intro n
    by_cases z : 0 = n
    · subst z
      rw [List.getElem?_set_self (List.getElem?_eq_some_iff.mp self).1, self]
    · rw [List.getElem?_set_ne z]
  rw [hset] at es1
  refine ⟨pens G, ⟨H, []⟩, pens G, _, _, noX, es1, h, ?_, XOk.noX⟩
  rintro rv v G1 H1 ⟨d, rfl, nl, ht⟩ k1 g1 rr
  have ha1 : H1 a = some (.ins C dx fs) := k1.obj a _ ha (by rw [pens_non (by rw [hid]; simp)]; simp) nofun
  have kb := keep_back k1
  have gb := gok_back e.gok k1 g1
  have rd : Rep X.K (gback G G1 H) H1 v d := Rep.back e.gok k1 nl rr
  have hid1 : gback G G1 H a = some .hid := by rw [gback_old (by rw [ha]; simp)]; exact hid
  refine ⟨.ref a, self, a, C, dx, fs, rfl, ha1, cl, n, by rw [show fs.length = ns.length by rw [← hf]; simp]; omega, ?_⟩
  have hput : putF f v fs = fs ++ [(f, v)] := putF_new (by rw [hf]; exact hfr)
  have w : Wr (gback G G1 H) a H1 (upd H1 a (.ins C dx (putF f v fs))) := ⟨hid1, fun b nb => upd_ne nb, _, ha1, .inr (.inl ⟨_, _, _, rfl⟩)⟩
  have k2 : KeepB a G (gback G G1 H) H (upd H1 a (.ins C dx (putF f v fs))) := ⟨fun b ob nb hb np nt => by rw [upd_ne nb]; exact kb.obj b ob hb np nt, fun b gbn pb => w.pen (by rw [kb.gh b (by obtain ⟨_, _, _, q, _⟩ := pb; rw [q]; simp)]; exact gbn) (kb.pen b gbn pb), fun b K J gbn pb => w.memo (by rw [kb.gh b pb.ne]; exact gbn) (kb.memo b K J gbn pb), kb.gh, w.tab kb.tab⟩
  have g2 : GOk (gback G G1 H) (upd H1 a (.ins C dx (putF f v fs))) := ⟨fun b y gy => by
    by_cases z : b = a
    · subst z; exact ⟨_, upd_same, .inr (.inl ⟨_, _, _, rfl⟩)⟩
    · obtain ⟨ob, q1, q2⟩ := gb.lst b y gy
      exact ⟨ob, by rw [upd_ne z]; exact q1, q2⟩, fun b gy => w.pen gy (gb.pen b gy), fun b K J gy => w.memo gy (gb.memo b K J gy)⟩
  have e2 := (e.step kb gb)
  have rfin : RepL X.K (gback G G1 H) (upd H1 a (.ins C dx (putF f v fs))) ((fs ++ [(f, v)]).map (·.2)) (es ++ [d]) := by
    rw [List.map_append]
    exact RepL.wr w ((RepL.keep kb r).append (.cons rd .nil))
  refine ⟨a, gback G G1 H, env, ns ++ [f], es ++ [d], q, noX, ⟨⟨gback G G1 H, ⟨upd H1 a (.ins C dx (putF f v fs)), []⟩, ⟨g2, Keep.refl _ _, g2, e.len, fun p hp => (nomatch hp), fun i d z => ?_, fun i' ds' z => absurd z (no i' ds'), fun i' j' ds' es' a' n z => absurd z (no i' ds'), .non nod⟩⟩, no, nod, self, hid1, dx, putF f v fs, upd_same, by rw [hput]; simp [hf], by have z := rfin; rw [← hput] at z; exact z⟩, ht, ?_, XOk.noX⟩
  · obtain ⟨v', z1, z2⟩ := e2.val i d z
    exact ⟨v', z1, Rep.wr w z2⟩
  · intro ns' es' env' G3 σ' H3 q3 k3 g3 i3
    exact hq ns' es' env' G3 σ' H3 q3 (k2.trans e.gok (by rw [upd_same]; simp) k3) g3 i3
/-! ### what __init__ promises, the making -/
theorem EnvOk.consNo {K : PySem.W.Frag} {G0 G : Gm} {H0 : HB} {H : Hp} {σ : L2.St} {env : SE} (e : EnvOk K G0 H0 G H σ env) (o : Option V) : EnvOk K G0 H0 G H (o :: σ) (.no :: env) := by
  refine ⟨e.g0, e.keep, e.gok, by simp [e.len], e.tmp, fun i d h => ?_, fun i ds h => ?_, fun i j ds es b n h1 h2 => ?_, e.dic.cons o⟩
  · cases i with
    | zero => cases h
    | succ i => exact e.val i d h
  · cases i with
    | zero => cases h
    | succ i => exact e.own i ds h
  · cases i with
    | zero => cases h1
    | succ i => cases j with
      | zero => cases h2
      | succ j => exact e.sep i j ds es b (by omega) h1 h2
/-- F: the arguments, then what is wanted of the instance -/
def spIni (K : PySem.W.Frag) (C : Addr) (F : DF) : Sp := fun vs H Q E => ∃ a dx us G ds q x, vs = .ref a :: us ∧ H a = some (.ins C dx []) ∧ G a = some .hid ∧ GOk G H ∧ RepL K G H us ds ∧ F ds q x ∧
  (∀ fs dx' ns es G' H', q (.ins C ns es) → KeepB a G G' H H' → GOk G' H' → G' a = some .hid → H' a = some (.ins C dx' fs) → fs.map (·.1) = ns → RepL K G' H' (fs.map (·.2)) es → Q .non H') ∧ XOk K E G H x
theorem ini_ok {P : Program} {w : World} {K : PySem.W.Frag} {mg : Str → Option Value} {base : Heap} {x qual : Str} {st : Stmt} {f : Addr} {fd : FuncData} {N ps : List Str} {k : Nat} {F : DF} {t : DN} (fn : Fun K x qual st f fd) (S : FnScope N ps (defScope st))
    (body : ∀ (cdv : Value) (A : Around) (callers : List PySem.Env) (s : Shared) (H : Hp) (E : XK), BC (cxOf (L2.CX P w) P w K mg base N qual (defScope st) f cdv A callers s H E) E k →
      PassesOwn (model P w) (cxOf (L2.CX P w) P w K mg base N qual (defScope st) f cdv A callers s H E).A (cxOf (L2.CX P w) P w K mg base N qual (defScope st) f cdv A callers s H E).env (cxOf (L2.CX P w) P w K mg base N qual (defScope st) f cdv A callers s H E).xe →
      PSs (cxOf (L2.CX P w) P w K mg base N qual (defScope st) f cdv A callers s H E) (defBody st) (liftN K E C t))
    (hp : ps ≠ [])
    (pure : ∀ ds q x, F ds q x → ds.length + 1 = ps.length ∧ t ((.no : EV) :: startE (N.length - 1) ds) [] [] (fun ns es => q (.ins C ns es)) x) : FnG P w K mg base (k + 1) f fd ps (spIni K C F) := by
  refine fnG_of fn S (fun vs H Q E ⟨a, dx, us, G, ds, q, x, e, _, _, _, r, h, _⟩ => by rw [e, List.length_cons, r.length]; exact (pure ds q x h).1) fun cdv A l s H vs Q E B po ⟨a, dx, us, G, ds, q, x, e, ha, hid, g, r, h, hq, hx⟩ => ?_
  subst e
  obtain ⟨hl, ht⟩ := pure ds q x h
  have hlen : ps.length ≤ N.length := by
    have z := congrArg List.length S.pre
    rw [List.length_take] at z
    omega
  have hps : 0 < ps.length := List.length_pos_iff.mpr hp
  have e0 := (startE_ok (N := N.tail) g r).consNo (some (.ref a))
  have hst : L2.start N (.ref a :: us) = some (.ref a) :: L2.start N.tail us := by
    unfold L2.start
    rw [List.map_cons, List.cons_append, List.length_tail, List.length_cons, show N.length - (us.length + 1) = N.length - 1 - us.length by omega]
  rw [← hst, List.length_tail] at e0
  refine ⟨_, body cdv A l s H E B po, a, G, _, [], [], _, x, ⟨⟨G, ⟨H, []⟩, e0⟩, ?_, ?_, by rw [hst]; rfl, hid, dx, [], ha, rfl, .nil⟩, ht, ?_, hx⟩
  · intro i es h
    cases i with
    | zero => cases h
    | succ i =>
      have h' : (startE (N.length - 1) ds)[i]? = some (.own es) := h
      unfold startE at h'
      rcases List.mem_append.mp (List.mem_of_getElem? h') with z | z
      · obtain ⟨d, _, e⟩ := List.mem_map.mp z; cases e
      · have := (List.mem_replicate.mp z).2; cases this
  · intro i ks es h
    cases i with
    | zero => cases h
    | succ i => exact startE_dic (show (startE (N.length - 1) ds)[i]? = some (.dic ks es) from h)
  · rintro ns' es' env' G' σ' H' q' k' g' ⟨_, _, _, _, hid', dx', fs', ha', hf', r'⟩
    exact hq fs' dx' ns' es' G' H' q' k' g' hid' ha' hf' r'
/-- C(..) -/
def dMake (C : Addr) (F : DF) (ta : DA) : DE := fun env q x => ta env (fun rs => ∃ ds, rs = ds.map R.val ∧ F ds (fun d => q (.val d)) x) x
structure MakG (P : Program) (w : World) (K : PySem.W.Frag) (mg : Str → Option Value) (base : Heap) (k : Nat) (x : Str) (C : Addr) (F : DF) : Prop where
  g : mg x = some (.ref C)
  ex : ∃ f fd ps, FnG P w K mg base k f fd ps (spIni K C F) ∧ Mk K C f ∧ Binds K fd ps []
theorem make_guards {A : Around} {C : Addr} {us : List Value} {kw : List (Str × Value)} : (A.under (.builtin "type.__call__" ⟨.ref C :: us, kw⟩)).guards = A.guards := by
  first | rfl | simp [Around.under, Code.isGuard, guardIds]
theorem run_makeG {sp : Sp} {fd : FuncData} {ps : List Str} {fI : Addr} {pins : List (Addr × Obj)} {σ : L2.St} {H : Hp} {s : Shared} {Q : VK} {us : List Value} {vs : List V} (M : Mk X.K C fI) (F : FnG X.prog X.w X.K X.mg X.base k fI fd ps sp) (B : BC X E j) (hk : k + 1 ≤ j) (hb : Binds X.K fd ps [])
    (I : Inv X pins σ H s) (r : Vals vs us) (h : ∀ y dx, H y = none → H dx = none → dx ≠ y → sp (.ref y :: vs) (upd (upd H dx (.own y)) y (.ins C dx [])) (fun v H2 => v = .non ∧ Q (.ref y) H2) E) :
    wpAny (model X.prog X.w) X.A (call (.ref C) us) (EP X pins σ Q) X.xe s := by
  have hq := h (s.heap.objs.size + 1) s.heap.objs.size (I.hok.fresh (Nat.le_succ _)) (I.hok.fresh (Nat.le_refl _)) (Nat.ne_of_lt (Nat.lt_succ_self _))
  have I2 := Inv.made (C := C) I
  have r2 : Vals (V.ref (s.heap.objs.size + 1) :: vs) (Value.ref (s.heap.objs.size + 1) :: us) := .cons rfl r
  have n : (Value.ref (s.heap.objs.size + 1) :: us ++ []).length = ps.length := by rw [List.append_nil, ← r2.length]; exact F.len _ _ _ _ hq
  have bt := hb _ (Value.ref (s.heap.objs.size + 1) :: us) I2.kIn n
  rw [List.append_nil] at bt
  refine wpAny_call (make_map (f := fI) I.kIn M.makes M.init (beq_iff_eq.mp M.fn) (codeAny_mono (F.run _ X.stack _ _ ⟨Value.ref (s.heap.objs.size + 1) :: us, []⟩ (Value.ref (s.heap.objs.size + 1) :: us) _ _ E (by rw [make_guards]; exact B.gd) ((B.room.mono hk).make C us [])
    (I2.env0.make C us []) bt r2 hq) fun res s' q => ?_))
  cases res with
  | error ex => exact B.pass pins σ _ _ ex s' I2 q
  | ok fl => cases fl with
    | ret u =>
      obtain ⟨v, H', I3, rv, ev, q3⟩ := I2.after q
      subst ev
      exact ⟨rv, ⟨V.ref (s.heap.objs.size + 1), H', I3, rfl, q3⟩⟩
    | next => exact q.elim
    | brk => exact q.elim
    | cont => exact q.elim
theorem pd_make {F : DF} (M : MakG X.prog X.w X.K X.mg X.base k x C F) (B : BC X E j) (hk : k + 1 ≤ j) (ha : PDA X E (e :: es) sA) (hg : Gl X x := by rfl) (hdb : (x == ("__debug__" : Str)) = false := by decide)
    (he : starEach (e :: es) X.env = (false, eval e X.env) :: starEach es X.env := by rfl) (hpl : (backTo pos (starEach es X.env)).any (·.1) = false := by rfl) : PD X E (.Call (.Name x p) (e :: es) [] pos) (dMake C F sA) := by
  obtain ⟨f, fd, ps, FG, mk, hb⟩ := M.ex
  have raw : PE X (.Call (.Name x p) (e :: es) [] pos) (tMake C (spIni X.K C F) [] E (liftA X.K E sA)) := by
    refine ⟨fun pins s σ H Q I h => ?_⟩
    refine wpAny_Call_Name_kw (ld_glob I hg M.g ?_ hdb)
    refine PySem.W.callWith_K (h₀ := X.base) I.ok.mod.kin mk.kp (thn ((show PA X (e :: es) (liftA X.K E sA) from ha).run pos pins s σ H _ I h) fun us s1 ⟨vs, H1, I1, r, q⟩ => ⟨I1.kIn, ?_⟩) he hpl
    refine run_makeG mk FG B hk hb I1 r ?_
    intro y dx h1 h2 h3
    have := q y dx h1 h2 h3
    rwa [List.append_nil] at this
  refine PE.wk raw ?_
  rintro σ H Q ⟨G0, H0, G, env, q, x, e, h, hq, hx⟩
  refine ⟨G0, H0, G, env, _, x, e, h, ?_, hx⟩
  rintro rs vs G1 H1 ⟨ds, rfl, hF⟩ kk g1 rl
  intro y dx hy hdx hne
  rw [List.append_nil]
  have gy := g1.fresh hy
  have gd := g1.fresh hdx
  let G2 : Gm := fun b => if b = y then some .hid else G1 b
  have G2y : G2 y = some .hid := if_pos rfl
  have G2n : ∀ {b}, b ≠ y → G2 b = G1 b := fun n => if_neg n
  let H2 := upd (upd H1 dx (.own y)) y (.ins C dx [])
  have H2n : ∀ {b}, b ≠ y → b ≠ dx → H2 b = H1 b := fun n1 n2 => by show upd (upd H1 dx _) y _ _ = _; rw [upd_ne n1, upd_ne n2]
  have nd : ∀ {b o}, H1 b = some o → b ≠ y ∧ b ≠ dx := fun h => ⟨ne_of_none h hy, ne_of_none h hdx⟩
  have k12 : Keep G1 G2 H1 H2 := ⟨fun b ob hb _ _ => by rw [H2n (nd hb).1 (nd hb).2]; exact hb, fun b gb ⟨i, j, k, e, z⟩ => ⟨i, j, k, by rw [H2n (nd e).1 (nd e).2]; exact e, z⟩, fun b K J _ m => m.big fun c o x => by rw [H2n (nd x).1 (nd x).2]; exact x, fun b hb => by
    cases q : H1 b with
    | none => exact absurd q hb
    | some ob => exact G2n (nd q).1, fun b ps e => ⟨ps, by rw [H2n (nd e).1 (nd e).2]; exact e, fun q t => t.ext fun b o x => by rw [H2n (nd x).1 (nd x).2]; exact x⟩⟩
  have g2 : GOk G2 H2 := by
    refine ⟨fun b z gb => ?_, fun b gb => ?_, fun b K J gb => ?_⟩
    · by_cases n : b = y
      · subst n; exact ⟨_, upd_same, .inr (.inl ⟨_, _, _, rfl⟩)⟩
      · rw [G2n n] at gb
        obtain ⟨ob, q1, q2⟩ := g1.lst b z gb
        exact ⟨ob, by rw [H2n (nd q1).1 (nd q1).2]; exact q1, q2⟩
    · by_cases n : b = y
      · subst n; rw [G2y] at gb; cases gb
      · rw [G2n n] at gb
        obtain ⟨i, j, k, e, z⟩ := g1.pen b gb
        exact ⟨i, j, k, by rw [H2n (nd e).1 (nd e).2]; exact e, z⟩
    · by_cases n : b = y
      · subst n; rw [G2y] at gb; cases gb
      · rw [G2n n] at gb
        exact (g1.memo b K J gb).big fun c o x => by rw [H2n (nd x).1 (nd x).2]; exact x
  refine ⟨y, dx, vs, G2, ds, _, x, rfl, upd_same, G2y, g2, RepL.keep k12 rl.vals, hF, ?_, (hx.keep e.gok kk).keep g1 k12⟩
  intro fs dx' ns es G3 H3 qd k3 g3 h3y ha hf r3
  replace k3 : KeepB y G2 G3 H2 H3 := k3
  refine ⟨rfl, ?_⟩
  let G4 : Gm := fun b => if b = y then none else G3 b
  have G4y : G4 y = none := if_pos rfl
  have G4n : ∀ {b}, b ≠ y → G4 b = G3 b := fun n => if_neg n
  have k14 : Keep G1 G4 H1 H3 := by
    refine ⟨fun b ob hb np nt => ?_, fun b gb pb => ?_, fun b K J gb pb => ?_, fun b hb => ?_, fun b ps h => ?_⟩
    · exact k3.obj b ob (nd hb).1 (by rw [H2n (nd hb).1 (nd hb).2]; exact hb) (by rw [G2n (nd hb).1]; exact np) nt
    · have pb' := pb
      obtain ⟨i, j, k, e, z⟩ := pb
      exact k3.pen b (by rw [G2n (nd e).1]; exact gb) (k12.pen b gb pb')
    · have ne : b ≠ y := fun z => pb.ne (by rw [z]; exact hy)
      exact k3.memo b K J (by rw [G2n ne]; exact gb) (k12.memo b K J gb pb)
    · cases q : H1 b with
      | none => exact absurd q hb
      | some ob => rw [G4n (nd q).1, k3.gh b (by rw [H2n (nd q).1 (nd q).2, q]; simp), G2n (nd q).1]
    · obtain ⟨ps1, h1, t1⟩ := k12.tab b ps h
      obtain ⟨ps2, h2, t2⟩ := k3.tab b ps1 h1
      exact ⟨ps2, h2, fun q t => t2 q (t1 q t)⟩
  have le : GLe G4 G3 := ⟨fun b z => by
    by_cases n : b = y
    · rw [n]; exact G4y
    · rw [G4n n]; exact z, fun b z => by
    by_cases n : b = y
    · rw [n, h3y] at z; cases z
    · rw [G4n n]; exact z, fun b K J z => by
    by_cases n : b = y
    · rw [n, h3y] at z; cases z
    · rw [G4n n]; exact z⟩
  have g4 : GOk G4 H3 := ⟨fun b z gb => by
    by_cases n : b = y
    · rw [n, G4y] at gb; cases gb
    · rw [G4n n] at gb; exact g3.lst b z gb, fun b gb => by
    by_cases n : b = y
    · rw [n, G4y] at gb; cases gb
    · rw [G4n n] at gb; exact g3.pen b gb, fun b K J gb => by
    by_cases n : b = y
    · rw [n, G4y] at gb; cases gb
    · rw [G4n n] at gb; exact g3.memo b K J gb⟩
  exact hq (.val (.ins C ns es)) (.ref y) G4 H3 qd (kk.trans e.gok k14) g4 (show Rep X.K G4 H3 (.ref y) (.ins C ns es) from .ins G4y ha hf (RepL.le le r3))
end
end QD
/-! dicts: {k: v for ..}, d[k], [.. for k in d] -/
namespace QD
open PySem PySem.Spec PyProof.Rows L2
inductive RepP (K : PySem.W.Frag) (G : Gm) (H : Hp) : List (Key × V) → List (Key × D) → Prop
  | nil : RepP K G H [] []
  | cons {k : Key} {v : V} {d : D} {kvs : List (Key × V)} {ps : List (Key × D)} : Rep K G H v d → RepP K G H kvs ps → RepP K G H ((k, v) :: kvs) ((k, d) :: ps)
theorem RepP.keep {K : PySem.W.Frag} {G G' : Gm} {H H' : Hp} (k : Keep G G' H H') : ∀ {vs : List (Key × V)} {ds : List (Key × D)}, RepP K G H vs ds → RepP K G' H' vs ds
  | _, _, .nil => .nil
  | _, _, .cons a b => .cons (Rep.keep k a) (RepP.keep k b)
theorem RepP.wr {K : PySem.W.Frag} {G : Gm} {a : Addr} {H H' : Hp} (w : Wr G a H H') : ∀ {vs : List (Key × V)} {ds : List (Key × D)}, RepP K G H vs ds → RepP K G H' vs ds
  | _, _, .nil => .nil
  | _, _, .cons a b => .cons (Rep.wr w a) (RepP.wr w b)
theorem RepP.le {K : PySem.W.Frag} {G G' : Gm} {H : Hp} (k : GLe G' G) : ∀ {vs : List (Key × V)} {ds : List (Key × D)}, RepP K G H vs ds → RepP K G' H vs ds
  | _, _, .nil => .nil
  | _, _, .cons a b => .cons (Rep.le k a) (RepP.le k b)
theorem RepP.keys {K : PySem.W.Frag} {G : Gm} {H : Hp} : ∀ {vs : List (Key × V)} {ds : List (Key × D)}, RepP K G H vs ds → vs.map (·.1) = ds.map (·.1)
  | _, _, .nil => rfl
  | _, _, .cons a b => by simp [RepP.keys b]
theorem RepP.vals {K : PySem.W.Frag} {G : Gm} {H : Hp} : ∀ {vs : List (Key × V)} {ds : List (Key × D)}, RepP K G H vs ds → RepL K G H (vs.map (·.2)) (ds.map (·.2))
  | _, _, .nil => .nil
  | _, _, .cons a b => .cons a (RepP.vals b)
theorem RepP.len {K : PySem.W.Frag} {G : Gm} {H : Hp} : ∀ {vs : List (Key × V)} {ds : List (Key × D)}, RepP K G H vs ds → vs.length = ds.length
  | _, _, .nil => rfl
  | _, _, .cons a b => by simp [RepP.len b]
/-- as putK -/
def putD (ps : List (Key × D)) (k : Key) (d : D) : List (Key × D) :=
  if (ps.any fun p => decide (p.1 = k)) = true then ps.map (fun p => if p.1 = k then (p.1, d) else p) else ps ++ [(k, d)]
theorem RepP.put {K : PySem.W.Frag} {G : Gm} {H : Hp} {vs : List (Key × V)} {ds : List (Key × D)} {k : Key} {v : V} {d : D} (h : RepP K G H vs ds) (r : Rep K G H v d) : RepP K G H (putK vs k v) (putD ds k d) := by
  have ha : (vs.any fun p => decide (p.1 = k)) = (ds.any fun p => decide (p.1 = k)) := by
    have h1 : (vs.any fun p => decide (p.1 = k)) = (vs.map (·.1)).any fun y => decide (y = k) := by rw [List.any_map]; rfl
    have h2 : (ds.any fun p => decide (p.1 = k)) = (ds.map (·.1)).any fun y => decide (y = k) := by rw [List.any_map]; rfl
    rw [h1, h2, h.keys]
  have hm : ∀ {vs : List (Key × V)} {ds : List (Key × D)}, RepP K G H vs ds → RepP K G H (vs.map fun p => if p.1 = k then (p.1, v) else p) (ds.map fun p => if p.1 = k then (p.1, d) else p) := by
    intro vs ds h
    induction h with
    | nil => exact .nil
    | @cons k' v' d' kvs ps r1 r2 ih =>
      rw [List.map_cons, List.map_cons]
      by_cases q : k' = k
      · simp only [q, if_true]; exact .cons r ih
      · simp only [q, if_false]; exact .cons r1 ih
  have happ : ∀ {vs : List (Key × V)} {ds : List (Key × D)}, RepP K G H vs ds → RepP K G H (vs ++ [(k, v)]) (ds ++ [(k, d)]) := by
    intro vs ds h
    induction h with
    | nil => exact .cons r .nil
    | cons r1 r2 ih => exact .cons r1 ih
  unfold putK putD
  rw [ha]
  split
  · exact hm h
  · exact happ h
def keyD : D → Option Key
  | .int i => some (.inl i)
  | .str x => some (.inr x)
  | _ => none
def dKey : Key → D
  | .inl i => .int i
  | .inr x => .str x
theorem key_rep {K : PySem.W.Frag} {G : Gm} {H : Hp} {v : V} {d : D} {k : Key} (r : Rep K G H v d) (h : keyD d = some k) : v = kV k := by
  cases r <;> simp [keyD] at h <;> subst h <;> rfl
theorem rep_key {K : PySem.W.Frag} {G : Gm} {H : Hp} (k : Key) : Rep K G H (kV k) (dKey k) := by
  cases k with
  | inl i => exact .int i
  | inr x => exact .str x
section
variable {X : Cx} {E : XK} {e a b c tg iter : Expr} {te tk ta tb : DE} {sc : DT} {pos p : Pos} {x : Str} {ti : DI}
def dDcL (dg : DG) (tk te : DE) : List D → SE → List (Key × D) → (List (Key × D) → Prop) → Prop
  | [], _, ps, q => q ps
  | d :: ds, env, ps, q => ∃ env', dg d env = some env' ∧ tk env' (fun r => ∃ d1 k, r = .val d1 ∧ keyD d1 = some k ∧ te env' (fun r2 => ∃ d2, r2 = .val d2 ∧ dDcL dg tk te ds env (putD ps k d2) q) noX) noX
def dDc (vs : List Nat) (ti : DI) (dg : DG) (tk te : DE) : DE := fun env q x => ti env (fun ds _ => ds.length ≤ 16777216 ∧ dDcL dg tk te ds (wipeE env vs) [] (fun ps => q (.val (.dct (ps.map (·.1)) (ps.map (·.2)))))) x
theorem lift_dc {vs is : List Nat} {dg : DG} {g : TG} {tk te : DE} {σ : L2.St} {H : Hp} {Q : VK}
    (gg : ∀ (K : PySem.W.Frag) (G0 : Gm) (H0 : HB) (G : Gm) (H : Hp) (σ : L2.St) (env : SE) (v : V) (d : D) (env' : SE), X.K = K → EnvOk K G0 H0 G H σ env → Rep K G H v d → dg d env = some env' → ∀ Q : L2.St → Hp → Prop, (∀ vs, EnvOk K G0 H0 G H (setS is vs σ) env' → Q (setS is vs σ) H) → g v σ H Q)
    (his : ∀ i ∈ is, i ∈ vs) (h : lift X.K E (dDc vs ti dg tk te) σ H Q) : tDc (liftI X.K E ti) g (liftT X.K E0 dYes) (lift X.K E0 tk) (lift X.K E0 te) vs σ H Q := by
  obtain ⟨G0, H0, G, env, q, x, e, h, hq, hx⟩ := h
  refine ⟨G0, H0, G, env, _, x, e, h, ?_, hx⟩
  rintro ds v r G1 H1 Jt ⟨hlen, hd⟩ k1 g1 rr wk l hl
  have e1 := e.step k1 g1
  have old : ∀ {b : Addr}, H1 b ≠ none → b ≠ l := fun {b} n z => n (by rw [z]; exact hl)
  have hids : hide G1 l l = some .hid := hide_same
  have hidn : ∀ {b : Addr}, b ≠ l → hide G1 l b = G1 b := fun n => by unfold hide; rw [if_neg n]
  have k0 : Keep G1 (hide G1 l) H1 (upd H1 l (.dK [])) := ⟨fun b o hb _ _ => by rw [upd_ne (old (by rw [hb]; simp))]; exact hb, fun b gb ⟨i, j, k, eb, z⟩ => ⟨i, j, k, by rw [upd_ne (old (by rw [eb]; simp))]; exact eb, z⟩, fun b K J _ m => m.new hl, fun b hb => hidn (old hb), fun b ps e => ⟨ps, by rw [upd_ne (old (by rw [e]; simp))]; exact e, fun q t => t.ext fun b o x => by rw [upd_ne (old (by rw [x]; simp))]; exact x⟩⟩
  have g0 : GOk (hide G1 l) (upd H1 l (.dK [])) := ⟨fun b z gb => by
    by_cases n : b = l
    · subst n; exact ⟨_, upd_same, .inr (.inr ⟨_, rfl⟩)⟩
    · rw [hidn n] at gb; rw [upd_ne n]; exact g1.lst b z gb, fun b gb => by
    by_cases n : b = l
    · subst n; rw [hids] at gb; cases gb
    · rw [hidn n] at gb
      obtain ⟨i, j, k, eb, z⟩ := g1.pen b gb
      exact ⟨i, j, k, by rw [upd_ne n]; exact eb, z⟩, fun b K J gb => by
    by_cases n : b = l
    · subst n; rw [hids] at gb; cases gb
    · rw [hidn n] at gb
      exact (g1.memo b K J gb).new hl⟩
  refine ⟨fun i m Hc => ∃ Gc acc accD, i ≤ ds.length ∧ m = ds.length - i ∧ Keep G1 Gc H1 Hc ∧ GOk Gc Hc ∧ Gc l = some .hid ∧ Hc l = some (.dK acc) ∧ RepP X.K Gc Hc acc accD ∧ acc.length ≤ i ∧ dDcL dg tk te (ds.drop i) (wipeE env vs) accD (fun ps => q (.val (.dct (ps.map (·.1)) (ps.map (·.2))))),
    ⟨ds.length, hide G1 l, [], [], Nat.zero_le _, rfl, k0, g0, hids, upd_same, .nil, Nat.le_refl _, by simpa using hd⟩, ?_⟩
  rintro i m Hc ⟨Gc, acc, accD, hi, rfl, kc, gc, hh, hll, rl, la, hd'⟩
  obtain ⟨w1, w2⟩ := wk Gc Hc gc (rr.keep kc) i
  by_cases hlt : i < ds.length
  · obtain ⟨go, yl⟩ := w1 hlt
    refine .inr ⟨go, fun Hd => ∃ Gd acc' accD', Keep G1 Gd H1 Hd ∧ GOk Gd Hd ∧ Gd l = some .hid ∧ Hd l = some (.dK acc') ∧ RepP X.K Gd Hd acc' accD' ∧ acc'.length ≤ i + 1 ∧ dDcL dg tk te (ds.drop (i + 1)) (wipeE env vs) accD' (fun ps => q (.val (.dct (ps.map (·.1)) (ps.map (·.2))))),
      fun Hd ⟨Gd, acc', accD', a1, a2, a3, a4, a5, a6, a7⟩ => ⟨ds.length - (i + 1), by omega, Gd, acc', accD', hlt, rfl, a1, a2, a3, a4, a5, a6, a7⟩, fun y H2 hy => ?_⟩
    obtain ⟨dy, hdy, G2, k2, g2, ry⟩ := yl y H2 hy
    rw [List.drop_eq_getElem_cons hlt] at hd'
    rw [List.getElem?_eq_getElem hlt] at hdy
    cases hdy
    obtain ⟨env3, he3, hb3⟩ := hd'
    have k12 := kc.trans g1 k2
    have ew : EnvOk X.K G0 H0 G2 H2 (L2.wipe σ vs) (wipeE env vs) := (e1.step k12 g2).wipe vs
    have hid2 : ∀ {Gx : Gm} {Hx : Hp}, Keep Gc Gx Hc Hx → Gx l = some .hid ∧ Hx l = some (.dK acc) := fun kx => ⟨by rw [kx.gh l (by rw [hll]; simp)]; exact hh, kx.obj l _ hll (by rw [hh]; simp) nofun⟩
    refine gg X.K G0 H0 G2 H2 _ _ y _ env3 rfl ew ry he3 _ fun vals e3 => ⟨wipe_setS his, ?_⟩
    refine ⟨G0, H0, G2, env3, fun b => b = true, noX, e3, rfl, ?_, XOk.noX⟩
    rintro kk G3 H3 rfl k3 g3
    have kc3 := k2.trans gc k3
    have k13 := k12.trans g1 k3
    refine ⟨G0, H0, G3, env3, _, noX, e3.step k3 g3, hb3, ?_, XOk.noX⟩
    rintro r4 y4 G4 H4 ⟨d4, ky, rfl, hky, q4⟩ k4 g4 rr4
    have kc4 := kc3.trans gc k4
    have k14 := k13.trans g1 k4
    refine ⟨G0, H0, G4, env3, _, noX, (e3.step k3 g3).step k4 g4, q4, ?_, XOk.noX⟩
    rintro r5 y5 G5 H5 ⟨d5, rfl, q5⟩ k5 g5 rr5
    have kc5 := kc4.trans gc k5
    have k15 := k14.trans g1 k5
    obtain ⟨z1, z2⟩ := hid2 kc5
    have w : Wr G5 l H5 (upd H5 l (.dK (putK acc ky y5))) := ⟨z1, fun b n => upd_ne n, _, z2, .inr (.inr ⟨_, rfl⟩)⟩
    have lp : (putK acc ky y5).length ≤ acc.length + 1 := by unfold putK; split <;> simp
    refine ⟨acc, ky, key_rep rr4 hky, z2, by rw [sizeLine_eq]; omega, G5, putK acc ky y5, putD accD ky d5, ⟨fun b o hb nb nt => ?_, fun b gb pb => ?_, fun b K J gb pb => w.memo (by rw [k15.gh b pb.ne]; exact gb) (k15.memo b K J gb pb), k15.gh, w.tab k15.tab⟩, ⟨fun b x gb => ?_, fun b gb => w.pen gb (g5.pen b gb), fun b K J gb => w.memo gb (g5.memo b K J gb)⟩, z1, upd_same, RepP.wr w ((RepP.keep kc5 rl).put rr5), by omega, q5⟩
    · rw [upd_ne (old (by rw [hb]; simp))]; exact k15.obj b o hb nb nt
    · exact w.pen (by rw [k15.gh b (by obtain ⟨_, _, _, q, _⟩ := pb; rw [q]; simp)]; exact gb) (k15.pen b gb pb)
    · by_cases nb : b = l
      · subst nb; exact ⟨_, upd_same, .inr (.inr ⟨_, rfl⟩)⟩
      · obtain ⟨zs, qz, m⟩ := g5.lst b x gb
        exact ⟨zs, by rw [upd_ne nb]; exact qz, m⟩
  · refine .inl ⟨w2 (by omega), ?_⟩
    rw [List.drop_eq_nil_of_le (by omega)] at hd'
    have hd2 : q (.val (.dct (accD.map (·.1)) (accD.map (·.2)))) := hd'
    -- the dict is a value now
    have le := unh_le (G := Gc) (a := l) (by rw [hh]; simp)
    have ne : ∀ {b : Addr}, b ≠ l → unh Gc l b = Gc b := fun {b} n => by unfold unh; rw [if_neg n]
    have us : unh Gc l l = none := by unfold unh; rw [if_pos rfl]
    refine hq _ (.ref l) (unh Gc l) Hc hd2 (k1.trans e.gok ⟨kc.obj, kc.pen, kc.memo, fun b hb => by rw [ne (old hb)]; exact kc.gh b hb, kc.tab⟩) ⟨fun b x gb => ?_, fun b gb => ?_, fun b K J gb => ?_⟩ (show Rep X.K (unh Gc l) Hc (.ref l) (.dct _ _) from .dct us (.inl hll) rl.keys (RepL.le le rl.vals))
    · by_cases z : b = l
      · subst z; rw [us] at gb; cases gb
      · rw [ne z] at gb; exact gc.lst b x gb
    · by_cases z : b = l
      · subst z; rw [us] at gb; cases gb
      · rw [ne z] at gb; exact gc.pen b gb
    · by_cases z : b = l
      · subst z; rw [us] at gb; cases gb
      · rw [ne z] at gb; exact gc.memo b K J gb
theorem pd_dc {kx vx : Expr} {scope : Scope} {own : List (Str × Nat)} {is : List Nat} {dg : DG} (hc : X.calm = true) (hN : X.N.Nodup) (hi : PDI X E tg iter ti) (ok : BlkOk X.N X.env.scope scope own)
    (hg : ∃ g, (∀ (s : Shared) (H : Hp) (C : Addr) (cl : List (Str × Addr)) (fp : List Addr), PG (X.blk s H scope (compEnvC scope cl C X.env) fp) tg g) ∧ ∀ (K : PySem.W.Frag) (G0 : Gm) (H0 : HB) (G : Gm) (H : Hp) (σ : L2.St) (env : SE) (v : V) (d : D) (env' : SE), X.K = K → EnvOk K G0 H0 G H σ env → Rep K G H v d → dg d env = some env' → ∀ Q : L2.St → Hp → Prop, (∀ vs, EnvOk K G0 H0 G H (setS is vs σ) env' → Q (setS is vs σ) H) → g v σ H Q)
    (hk : ∀ (s : Shared) (H : Hp) (C : Addr) (cl : List (Str × Addr)) (fp : List Addr), PD (X.blk s H scope (compEnvC scope cl C X.env) fp) E0 kx tk)
    (he : ∀ (s : Shared) (H : Hp) (C : Addr) (cl : List (Str × Addr)) (fp : List Addr), PD (X.blk s H scope (compEnvC scope cl C X.env) fp) E0 vx te) (his : ∀ i ∈ is, i ∈ own.map (·.2) := by decide) (hs : ∀ x, foldedSetIterable iter X.env x = pure x := by intro _; rfl) :
    PD X E (.DictComp kx vx [⟨tg, iter, [], 0⟩] scope pos) (dDc (own.map (·.2)) ti dg tk te) := by
  obtain ⟨g, pg, gg⟩ := hg
  exact PE.wk (pe_dc hc hN hi ok pg (fun s H C cl fp => show PTs (X.blk s H scope (compEnvC scope cl C X.env) fp) [] (liftT X.K E0 dYes) from ptsd_nil) (fun s H C cl fp => show PE (X.blk s H scope (compEnvC scope cl C X.env) fp) kx (lift X.K E0 tk) from hk s H C cl fp) (fun s H C cl fp => show PE (X.blk s H scope (compEnvC scope cl C X.env) fp) vx (lift X.K E0 te) from he s H C cl fp) hs) fun _ _ _ h => lift_dc gg his h
theorem upd_ne2 {H : Hp} {a d : Addr} {o u w : HO} (h : H d = some w) (n : w ≠ o) (r : H a = some o) : upd H d u a = H a := upd_ne (by rintro rfl; rw [h] at r; exact n (Option.some.inj r))
/-! ### d[k] -/
def lkK (k : Key) : List Key → List D → Option D
  | k' :: ks, d :: ds => if k' = k then some d else lkK k ks ds
  | _, _ => none
theorem lkK_rep {K : PySem.W.Frag} {G : Gm} {H : Hp} {k : Key} {d : D} : ∀ {kvs : List (Key × V)} {ds : List D}, RepL K G H (kvs.map (·.2)) ds → lkK k (kvs.map (·.1)) ds = some d → ∃ v, valV kvs k = some v ∧ Rep K G H v d
  | [], _, r, h => by cases r; cases h
  | (k', v) :: kvs, _, r, h => by
    cases r with
    | cons r1 r2 =>
      by_cases q : k' = k
      · rename_i d1 ds1
        have h' : some d1 = some d := by simpa [lkK, q] using h
        cases h'
        exact ⟨v, valV_pos q, r1⟩
      · rename_i d1 ds1
        have h' : lkK k (kvs.map (·.1)) ds1 = some d := by simpa [lkK, q] using h
        obtain ⟨u, e1, e2⟩ := lkK_rep r2 h'
        exact ⟨u, by rw [valV_neg (p := (k', v)) q]; exact e1, e2⟩
def dDGet (ta tb : DE) : DE := fun env q x => ta env (fun r => tb env (fun r2 => ∃ ks ds k d, r.d = .dct ks ds ∧ keyD r2.d = some k ∧ lkK k ks ds = some d ∧ q (.val d)) x) x
theorem RRep.dct {K : PySem.W.Frag} {G : Gm} {H : Hp} {v : V} {r : R} {ks : List Key} {ds : List D} (h : RRep K G H v r) (e : r.d = .dct ks ds) : ∃ a kvs, v = .ref a ∧ Rd H a (.dK kvs) ∧ kvs.map (·.1) = ks ∧ RepL K G H (kvs.map (·.2)) ds := by
  cases r with
  | val d =>
    have e' : d = .dct ks ds := e
    subst e'
    cases h with
    | dct g r q l => exact ⟨_, _, rfl, r, q, l⟩
  | brw es => cases e
theorem RRep.key {K : PySem.W.Frag} {G : Gm} {H : Hp} {v : V} {r : R} {k : Key} (h : RRep K G H v r) (e : keyD r.d = some k) : v = kV k := by
  cases r with
  | val d => exact key_rep (show Rep K G H v d from h) e
  | brw es => cases e
theorem pd_dget {k : Nat} (B : BC X E k) (ha : PD X E a ta) (hb : PD X E b tb) (hs : NoSl b := by intro _ _; rfl) : PD X E (.Subscript a b pos) (dDGet ta tb) := by
  refine PE.wk (pe_dget (by have := B.u65; omega) (show PE X a (lift X.K E ta) from ha) (show PE X b (lift X.K E tb) from hb) hs) ?_
  rintro σ H Q ⟨G0, H0, G, env, q, x, e, h, hq, hx⟩
  refine ⟨G0, H0, G, env, _, x, e, h, ?_, hx⟩
  rintro r v G1 H1 h1 k1 g1 rr
  refine ⟨G0, H0, G1, env, _, x, e.step k1 g1, h1, ?_, hx.keep e.gok k1⟩
  rintro r2 v2 G2 H2 ⟨ks, ds, k, d, e1, e2, e3, qd⟩ k2 g2 rr2
  obtain ⟨l, kvs, rfl, rd, rfl, rl⟩ := (rr.keep k2).dct e1
  obtain ⟨u, l1, l2⟩ := lkK_rep rl e3
  exact ⟨l, u, rfl, .inl ⟨kvs, k, rd, rr2.key e2, l1.symm⟩, hq _ _ G2 H2 qd (k1.trans e.gok k2) g2 l2⟩

/-! ### a dict gone through -/
mutual
def noDl : D → Bool
  | .dcl _ _ => false
  | .tup xs => noDls xs
  | .tupN xs => noDls xs
  | .lst xs => noDls xs
  | .scr xs => noDls xs
  | .dct _ xs => noDls xs
  | .ins _ _ xs => noDls xs
  | .exo _ _ _ _ => false
  | .two _ _ _ _ => false
  | .memo _ => false
  | _ => true
def noDls : List D → Bool
  | [] => true
  | x :: xs => noDl x && noDls xs
end
section
variable {K : PySem.W.Frag} {G : Gm} {H : Hp} {d : Addr} {od : Obj} {kvs : List (Key × V)}
theorem Rd.upd_ne' {o u : HO} {a : Addr} (n : a ≠ d) (r : Rd H a o) : Rd (upd H d u) a o := by
  unfold Rd
  rw [upd_ne n]
  exact r
theorem Rd.ne' {o : HO} {a : Addr} {w : HO} (h : H d = some w) (h1 : w ≠ o) (h2 : ∀ z, w ≠ .frz z o) (r : Rd H a o) : a ≠ d := by
  rintro rfl
  rcases r with r | ⟨z, r⟩
  · rw [h] at r; exact h1 (Option.some.inj r)
  · rw [h] at r; exact h2 z (Option.some.inj r)
mutual
theorem Rep.lock (gd : G d = none) (h : H d = some (.dK kvs)) : ∀ {v : V} {x : D}, Rep K G H v x → Rep K G (upd H d (.frz od (.dK kvs))) v x
  | _, _, .non => .non
  | _, _, .bl b => .bl b
  | _, _, .int i => .int i
  | _, _, .str x => .str x
  | _, _, .tup e r l => .tup e (Rd.upd_ne' (Rd.ne' h (by simp) (by simp) r) r) (RepL.lock gd h l)
  | _, _, .lst e r l => .lst e (by rw [QD.upd_ne2 h (by simp) r]; exact r) (RepL.lock gd h l)
  | _, _, .scr r l => .scr (r.imp (fun z => ⟨z.1, z.2.imp fun o q => by rw [QD.upd_ne2 h (by simp) q]; exact q⟩) id) (RepL.lock gd h l)
  | _, _, .dct (a := a) e r q l => .dct e (by
      by_cases n : a = d
      · subst n
        rcases r with r | ⟨z, r⟩
        · rw [h] at r; cases r; exact .inr ⟨od, upd_same⟩
        · rw [h] at r; cases r
      · exact Rd.upd_ne' n r) q (RepL.lock gd h l)
  | _, _, .dcl e r => .dcl e (by rw [QD.upd_ne2 h (by simp) r]; exact r)
  | _, _, .tupN e ⟨o, r, z⟩ l => .tupN e ⟨o, by rw [QD.upd_ne2 h (by simp) r]; exact r, z⟩ (RepL.lock gd h l)
  | _, _, .ins e r q l => .ins e (by rw [QD.upd_ne2 h (by simp) r]; exact r) q (RepL.lock gd h l)
  | _, _, .knil z => .knil z
  | _, _, .pen e ⟨i, j, k, p, z⟩ => .pen e ⟨i, j, k, by rw [QD.upd_ne2 h (by simp) p]; exact p, z⟩
  | _, _, .exo0 => .exo0
  | _, _, .exo e r n l => .exo e (by rw [QD.upd_ne2 h (by simp) r]; exact r) n (RepL.lock gd h l)
  | _, _, .tab t => .tab (tabs_off (MutO.off h (.inr (.inr ⟨_, rfl⟩))) (fun b n => upd_ne n) t)
  | _, _, .two a b => .two (Rep.lock gd h a) (Rep.lock gd h b)
  | _, _, .memo e p => .memo e (p.off (MutO.nrd h (.inr (.inr ⟨_, rfl⟩))) (fun b n => upd_ne n) fun z => by rw [z, gd] at e; cases e)
theorem RepL.lock (gd : G d = none) (h : H d = some (.dK kvs)) : ∀ {vs : List V} {xs : List D}, RepL K G H vs xs → RepL K G (upd H d (.frz od (.dK kvs))) vs xs
  | _, _, .nil => .nil
  | _, _, .cons a b => .cons (Rep.lock gd h a) (RepL.lock gd h b)
end
mutual
theorem Rep.unlock (h : H d = some (.frz od (.dK kvs))) : ∀ {v : V} {x : D}, noDl x = true → Rep K G H v x → Rep K G (upd H d (.dK kvs)) v x
  | _, _, _, .non => .non
  | _, _, _, .bl b => .bl b
  | _, _, _, .int i => .int i
  | _, _, _, .str x => .str x
  | _, _, n, .tup e r l => .tup e (Rd.upd_ne' (Rd.ne' h (by simp) (by simp) r) r) (RepL.unlock h (by simpa [noDl] using n) l)
  | _, _, n, .lst e r l => .lst e (by rw [QD.upd_ne2 h (by simp) r]; exact r) (RepL.unlock h (by simpa [noDl] using n) l)
  | _, _, n, .scr r l => .scr (r.imp (fun z => ⟨z.1, z.2.imp fun o q => by rw [QD.upd_ne2 h (by simp) q]; exact q⟩) id) (RepL.unlock h (by simpa [noDl] using n) l)
  | _, _, n, .dct (a := a) e r q l => .dct e (by
      by_cases n : a = d
      · subst n
        rcases r with r | ⟨z, r⟩
        · rw [h] at r; cases r
        · rw [h] at r; cases r; exact .inl upd_same
      · exact Rd.upd_ne' n r) q (RepL.unlock h (by simpa [noDl] using n) l)
  | _, _, n, .dcl e r => by simp [noDl] at n
  | _, _, n, .tupN e ⟨o, r, z⟩ l => .tupN e ⟨o, by rw [QD.upd_ne2 h (by simp) r]; exact r, z⟩ (RepL.unlock h (by simpa [noDl] using n) l)
  | _, _, n, .ins e r q l => .ins e (by rw [QD.upd_ne2 h (by simp) r]; exact r) q (RepL.unlock h (by simpa [noDl] using n) l)
  | _, _, _, .knil z => .knil z
  | _, _, _, .pen e ⟨i, j, k, p, z⟩ => .pen e ⟨i, j, k, by rw [QD.upd_ne2 h (by simp) p]; exact p, z⟩
  | _, _, n, .exo0 => by simp [noDl] at n
  | _, _, n, .exo e r m l => by simp [noDl] at n
  | _, _, _, .tab t => .tab (tabs_off ⟨fun ps z => (by rw [h] at z; cases z), fun φ z => (by rw [h] at z; cases z)⟩ (fun b n => upd_ne n) t)
  | _, _, n, .two _ _ => by simp [noDl] at n
  | _, _, n, .memo _ _ => by simp [noDl] at n
theorem RepL.unlock (h : H d = some (.frz od (.dK kvs))) : ∀ {vs : List V} {xs : List D}, noDls xs = true → RepL K G H vs xs → RepL K G (upd H d (.dK kvs)) vs xs
  | _, _, _, .nil => .nil
  | _, _, n, .cons a b => by
    simp only [noDls, Bool.and_eq_true] at n
    exact .cons (Rep.unlock h n.1 a) (RepL.unlock h n.2 b)
end
end
theorem PE.or {e : Expr} {t t' : TE} (h : PE X e t) (h' : PE X e t') : PE X e (fun σ H Q => t σ H Q ∨ t' σ H Q) := ⟨fun pins s σ H Q I hw => by
  rcases hw with hw | hw
  · exact h.run pins s σ H Q I hw
  · exact h'.run pins s σ H Q I hw⟩
/-- e evaluated while the dict in slot i is locked -/
def dLocked (i : Nat) (te : DE) : DE := fun env q x => ∃ ks ds, env[i]? = some (.val (.dct ks ds)) ∧ ∀ od kvs, kvs.map (·.1) = ks → te (env.set i (.val (.dcl od kvs))) (fun r => ∃ d, r = .val d ∧ noDl d = true ∧ q r) noX
theorem pd_locked (i : Nat) (he : PD X E e te) : PD X E e (dLocked i te) := by
  have h0 : PE X e (lift X.K E te) := he
  refine PE.wk (PE.or h0 (pe_lock h0)) ?_
  rintro σ H Q ⟨G0, H0, G, env, q, x, e, ⟨ks, ds, hi, h⟩, hq, hx⟩
  obtain ⟨v, hv, rv⟩ := e.val i _ hi
  cases rv with
  | @dct a kvs _ _ ga rd hk rl =>
    have hset : ∀ {o : Option V}, σ[i]? = some o → σ.set i o = σ := fun {o} z => by
      apply List.ext_getElem?
      intro n
      by_cases y : i = n
      · subst y
        rw [List.getElem?_set_self (List.getElem?_eq_some_iff.mp z).1, z]
      · rw [List.getElem?_set_ne y]
    rcases rd with rd | ⟨od, rd⟩
    · refine .inr ⟨a, _, rd, True.intro, fun od => ?_⟩
      let H0' : Hp := fun b => if b = a then (match H0.hp a with | none => none | some _ => some (.frz od (.dK kvs))) else H0.hp b
      have h0n : ∀ {b}, b ≠ a → H0' b = H0.hp b := fun n => if_neg n
      have h0a : H0' a = (match H0.hp a with | none => none | some _ => some (.frz od (.dK kvs))) := if_pos rfl
      have h0d : ∀ {b}, H0' b ≠ none → H0.hp b ≠ none := fun {b} z => by
        by_cases n : b = a
        · subst n; rw [h0a] at z
          cases q : H0.hp b with
          | none => rw [q] at z; exact absurd rfl z
          | some o => simp
        · rw [h0n n] at z; exact z
      have h0nn : ∀ {b}, H0.hp b = none → H0' b = none := fun {b} z => by
        cases q : H0' b with
        | none => rfl
        | some o => exact absurd z (h0d (by rw [q]; simp))
      have gne : ∀ {b g}, G b = some g → b ≠ a := fun h z => by rw [z, ga] at h; cases h
      have g0a : ∀ {b g}, G0 b = some g → b ≠ a := fun {b g} h z => by
        obtain ⟨o, q, _⟩ := e.g0.lst b g h
        have := e.keep.gh b (by rw [q]; simp)
        rw [h] at this
        exact gne this z
      have nr0 : ∀ xs, ¬ Rd H0.hp a (.tup xs) := fun xs r => by
        have f0 : G0 a = none := by rw [← e.keep.gh a (Rd.ne r)]; exact ga
        rcases r with r | ⟨z, r⟩
        · have := e.keep.obj a _ r (by rw [f0]; simp) nofun
          rw [rd] at this; cases this
        · have := e.keep.obj a _ r (by rw [f0]; simp) nofun
          rw [rd] at this; cases this
      have nr0' : ∀ xs, ¬ Rd H0' a (.tup xs) := fun xs r => by
        unfold Rd at r
        rw [h0a] at r
        cases q : H0.hp a with
        | none => rw [q] at r; rcases r with r | ⟨z, r⟩ <;> cases r
        | some o => rw [q] at r; rcases r with r | ⟨z, r⟩ <;> cases r
      have n0 : NT H0' a := by
        cases q : H0.hp a with
        | none => exact ⟨fun ps z => (by rw [h0a, q] at z; cases z), fun φ z => (by rw [h0a, q] at z; cases z)⟩
        | some o => exact ⟨fun ps z => (by rw [h0a, q] at z; cases z), fun φ z => (by rw [h0a, q] at z; cases z)⟩
      have hTab : ∀ b ps, H0' b = some (.tbl ps) → ∃ ps', H b = some (.tbl ps') ∧ ∀ q, TabN H0' b q → TabN H b q := fun b ps hb => by
        have n : b ≠ a := fun z => n0.1 ps (by rw [← z]; exact hb)
        rw [h0n n] at hb
        obtain ⟨ps', q1, q2⟩ := e.keep.tab b ps hb
        exact ⟨ps', q1, fun q t => q2 q (tabs_off n0 (fun c nc => (h0n nc).symm) t)⟩
      have e1 : EnvOk X.K G0 ⟨H0', []⟩ G (upd H a (.frz od (.dK kvs))) σ env := by
        refine ⟨⟨fun b g gb => ?_, fun b gb => ?_, fun b K J gb => ?_⟩, ⟨fun b o hb nb nt => ?_, fun b gb pb => ?_, fun b K J gb pb => ?_, fun b hb => e.keep.gh b (h0d hb), fun b ps hb => ?_⟩, ⟨fun b g gb => ?_, fun b gb => ?_, fun b K J gb => ?_⟩, e.len, fun p hp => (nomatch hp), fun j dj hj => ?_, fun j dj hj => ?_, e.sep, e.dic.off (fun b kvs q g => ⟨g, by rw [upd_ne (gne g)]; exact q⟩) (fun b q _ => h0nn q) fun _ _ => RepL.lock ga rd⟩
        · obtain ⟨o, q1, q2⟩ := e.g0.lst b g gb
          exact ⟨o, by show H0' b = _; rw [h0n (g0a gb)]; exact q1, q2⟩
        · obtain ⟨i1, j1, k1, q1, q2⟩ := e.g0.pen b gb
          exact ⟨i1, j1, k1, by show H0' b = _; rw [h0n (g0a gb)]; exact q1, q2⟩
        · exact (e.g0.memo b K J gb).off (p := a) nr0 (fun c n => h0n n) (g0a gb)
        · have hb' : H0' b = some o := hb
          by_cases n : b = a
          · subst n
            rw [h0a] at hb'
            cases q : H0.hp b with
            | none => rw [q] at hb'; cases hb'
            | some u => rw [q] at hb'; rw [upd_same]; exact hb'
          · rw [h0n n] at hb'; rw [upd_ne n]; exact e.keep.obj b o hb' nb nt
        · have n := g0a gb
          obtain ⟨i1, j1, k1, q1, q2⟩ := pb
          have q1' : H0' b = _ := q1
          rw [h0n n] at q1'
          obtain ⟨i2, j2, k2, q3, q4⟩ := e.keep.pen b gb ⟨i1, j1, k1, q1', q2⟩
          exact ⟨i2, j2, k2, by rw [upd_ne n]; exact q3, q4⟩
        · have n := g0a gb
          have m0 : MemoAt K J H0.hp b := MemoAt.off (show MemoAt K J H0' b from pb) (p := a) nr0' (fun c n => (h0n n).symm) n
          exact (e.keep.memo b K J gb m0).off (MutO.nrd rd (.inr (.inr ⟨_, rfl⟩))) (fun c n => upd_ne n) n
        · exact tab_off (fun b ps hb => hTab b ps hb) (MutO.off rd (.inr (.inr ⟨_, rfl⟩))) (fun b n => upd_ne n) b ps hb
        · obtain ⟨o, q1, q2⟩ := e.gok.lst b g gb
          exact ⟨o, by rw [upd_ne (gne gb)]; exact q1, q2⟩
        · obtain ⟨i1, j1, k1, q1, q2⟩ := e.gok.pen b gb
          exact ⟨i1, j1, k1, by rw [upd_ne (gne gb)]; exact q1, q2⟩
        · exact (e.gok.memo b K J gb).off (MutO.nrd rd (.inr (.inr ⟨_, rfl⟩))) (fun c n => upd_ne n) (gne gb)
        · obtain ⟨w, e1, e2⟩ := e.val j dj hj
          exact ⟨w, e1, Rep.lock ga rd e2⟩
        · obtain ⟨b, vs, q1, q2, q3, q4, q5⟩ := e.own j dj hj
          exact ⟨b, vs, q1, q2, h0nn q3, by rw [upd_ne (gne q2)]; exact q4, RepL.lock ga rd q5⟩
      have rl' : Rep X.K G (upd H a (.frz od (.dK kvs))) (.ref a) (.dcl od kvs) := .dcl ga upd_same
      have e2 := e1.setVal i rl'
      rw [hset hv] at e2
      refine ⟨G0, _, G, _, _, noX, e2, h od kvs hk, ?_, XOk.noX⟩
      rintro r v G1 H1 ⟨d, rfl, nd, qd⟩ k1 g1 rr
      have h1a : H1 a = some (.frz od (.dK kvs)) := k1.obj a _ upd_same (by rw [ga]; simp) nofun
      have g1a : G1 a = none := by rw [k1.gh a (by rw [upd_same]; simp)]; exact ga
      have nr1 : ∀ xs, ¬ Rd H1 a (.tup xs) := fun xs r => by
        rcases r with r | ⟨z, r⟩ <;> rw [h1a] at r <;> cases r
      have gne1 : ∀ {b g}, G1 b = some g → b ≠ a := fun h z => by rw [z, g1a] at h; cases h
      refine ⟨h1a, hq _ v G1 _ qd ⟨fun b o hb nb nt => ?_, fun b gb pb => ?_, fun b K J gb pb => ?_, fun b hb => ?_, fun b ps hb => ?_⟩ ⟨fun b g gb => ?_, fun b gb => ?_, fun b K J gb => ?_⟩ (show Rep X.K G1 _ v d from Rep.unlock h1a nd rr)⟩
      · by_cases n : b = a
        · subst n; rw [upd_same, ← rd]; exact hb
        · rw [upd_ne n]; exact k1.obj b o (by rw [upd_ne n]; exact hb) nb nt
      · have n := gne gb
        obtain ⟨i1, j1, k2, q1, q2⟩ := pb
        obtain ⟨i2, j2, k3, q3, q4⟩ := k1.pen b gb ⟨i1, j1, k2, by rw [upd_ne n]; exact q1, q2⟩
        exact ⟨i2, j2, k3, by rw [upd_ne n]; exact q3, q4⟩
      · have n := gne gb
        have m1 := pb.off (H' := upd H a (.frz od (.dK kvs))) (MutO.nrd rd (.inr (.inr ⟨_, rfl⟩))) (fun c n => upd_ne n) n
        exact (k1.memo b K J gb m1).off nr1 (fun c n => upd_ne n) n
      · refine k1.gh b ?_
        by_cases n : b = a
        · subst n; rw [upd_same]; simp
        · rw [upd_ne n]; exact hb
      · have nn : NT H a := MutO.off rd (.inr (.inr ⟨_, rfl⟩))
        have n : b ≠ a := fun z => nn.1 ps (by rw [← z]; exact hb)
        refine tab_off (fun b ps hb => ?_) ⟨fun ps z => (by rw [h1a] at z; cases z), fun φ z => (by rw [h1a] at z; cases z)⟩ (fun c nc => upd_ne nc) b ps hb
        have n : b ≠ a := fun z => nn.1 ps (by rw [← z]; exact hb)
        obtain ⟨ps', q1, q2⟩ := k1.tab b ps (by rw [upd_ne n]; exact hb)
        exact ⟨ps', q1, fun q t => q2 q (tabs_off nn (fun c nc => upd_ne nc) t)⟩
      · obtain ⟨o, q1, q2⟩ := g1.lst b g gb
        exact ⟨o, by rw [upd_ne (gne1 gb)]; exact q1, q2⟩
      · obtain ⟨i1, j1, k2, q1, q2⟩ := g1.pen b gb
        exact ⟨i1, j1, k2, by rw [upd_ne (gne1 gb)]; exact q1, q2⟩
      · exact (g1.memo b K J gb).off nr1 (fun c n => upd_ne n) (gne1 gb)
    · refine .inl ?_
      have e2 := e.setVal i (show Rep X.K G H (.ref a) (.dcl od kvs) from .dcl ga rd)
      rw [hset hv] at e2
      refine ⟨G0, H0, G, _, _, noX, e2, h od kvs hk, ?_, XOk.noX⟩
      rintro r v G1 H1 ⟨d, rfl, nd, qd⟩ k1 g1 rr
      exact hq _ v G1 H1 qd k1 g1 rr
/-- the keys of a locked dict -/
def iKeysD (te : DE) : DI := fun env q x => te env (fun r => ∃ od kvs, r = .val (.dcl od kvs) ∧ q (kvs.map fun p => dKey p.1) true) x
theorem pdi_keys (he : PD X E e te) : PDI X E tg e (iKeysD te) := by
  refine PI.wk (pi_keys (show PE X e (lift X.K E te) from he)) ?_
  rintro σ H Q ⟨G0, H0, G, env, q, x, e, h, hq, hx⟩
  refine ⟨G0, H0, G, env, _, x, e, h, ?_, hx⟩
  rintro r v G' H' ⟨od, kvs, rfl, qd⟩ k g rr
  cases (show Rep X.K G' H' v (.dcl od kvs) from rr) with
  | @dcl a _ _ ga rd =>
    refine ⟨a, od, rfl, .inl ⟨kvs, rd, hq _ (.ref a) (.val (.dcl od kvs)) G' H' _ qd k g rr ?_⟩⟩
    intro G2 H2 g2 rr2 i
    cases (show Rep X.K G2 H2 (.ref a) (.dcl od kvs) from rr2) with
    | dcl ga2 rd2 =>
      rw [List.length_map]
      refine ⟨fun hi => ⟨⟨rd2, hi⟩, fun y H3 hy => ?_⟩, fun hi => ⟨rd2, hi⟩⟩
      obtain ⟨rfl, ky, vy, e1, rfl⟩ := hy
      exact ⟨dKey ky, by rw [List.getElem?_map, e1]; rfl, G2, Keep.refl G2 H3, g2, rep_key ky⟩
end
end QD
/-! the pen of a law: a list of three ints that is drawn from -/
namespace QD
open PySem PySem.Spec PyProof.Rows L2
def penOk : Nat → Int → Prop
  | 0, i => 0 ≤ i
  | 1, i => i = 0 ∨ i = 1
  | 2, i => 0 ≤ i ∧ i < 2147483647
  | _, _ => False
section
variable {X : Cx} {E : XK} {a b o : Expr} {te ta tb : DE} {pos p pos' pos2 : Pos} {n : Nat}
theorem RRep.pen {K : PySem.W.Frag} {G : Gm} {H : Hp} {v : V} {r : R} (h : RRep K G H v r) (e : r.d = .pen) : ∃ a, v = .ref a ∧ G a = some .pen ∧ PenAt H a := by
  cases r with
  | val d =>
    have e' : d = .pen := e
    subst e'
    cases h with
    | pen g p => exact ⟨_, rfl, g, p⟩
  | brw es => cases e
def dPenGet (k : Nat) (te : DE) : DE := fun env q x => te env (fun r => r.d = .pen ∧ k < 3 ∧ ∀ i, penOk k i → q (.val (.int i))) x
theorem pd_penGet {k : Nat} (ha : PD X E o te) (hs : PlainIx (.Constant (.int k) n p) := by exact fun _ _ => rfl) : PD X E (.Subscript o (.Constant (.int k) n p) pos) (dPenGet k te) := by
  refine PE.wk (pe_ix ix_list (show PE X o (lift X.K E te) from ha) pe_int hs) ?_
  rintro σ H Q ⟨G0, H0, G, env, q, x, e, h, hq, hx⟩
  refine ⟨G0, H0, G, env, _, x, e, h, ?_, hx⟩
  rintro r v G' H' ⟨e1, hk, qd⟩ kk g rr
  obtain ⟨a, rfl, ga, i0, i1, i2, hl, h0, h1, h2, h3⟩ := rr.pen e1
  match k, hk with
  | 0, _ => exact ⟨a, [.int i0, .int i1, .int i2], 0, .int i0, rfl, rfl, .inl (.inl hl), rfl, hq _ _ G' H' (qd i0 h0) kk g (Rep.int _)⟩
  | 1, _ => exact ⟨a, [.int i0, .int i1, .int i2], 1, .int i1, rfl, rfl, .inl (.inl hl), rfl, hq _ _ G' H' (qd i1 h1) kk g (Rep.int _)⟩
  | 2, _ => exact ⟨a, [.int i0, .int i1, .int i2], 2, .int i2, rfl, rfl, .inl (.inl hl), rfl, hq _ _ G' H' (qd i2 ⟨h2, h3⟩) kk g (Rep.int _)⟩
/-- pen[k] = e, the pen in slot i -/
def dPenSet (i k : Nat) (te : DE) : DS := fun J env => te env (fun r => ∃ v, r.d = .int v ∧ env[i]? = some (.val .pen) ∧ penOk k v ∧ J.nx env) J.ex
theorem pd_penSet (i : Nat) {k : Nat} {y : Str} {value : Expr} (hv : PD X E value te) (hi : X.N[i]? = some y := by rfl) (hx : Vis X.env.scope y := by first | exact Or.inl rfl | exact Or.inr (Or.inl rfl)) (hd : (y == ("__debug__" : Str)) = false := by decide) (hcd : (y == ("__classdict__" : Str)) = false := by decide)
    (ha : ∀ v, assign (.Subscript (.Name y p) (.Constant (.int k) n pos2) pos') X.env v = (do
      let ov ← holding [v] (eval (.Name y p) X.env)
      let iv ← holding [v, ov] (eval (.Constant (.int k) n pos2) X.env)
      standAt pos'
      holding [v, ov, iv] (setItem ov iv v)
      release [v, ov, iv] []) := by intro _; rfl) (hs : swapsWithSole [.Subscript (.Name y p) (.Constant (.int k) n pos2) pos'] value pos.line X.env = pure false := by rfl) (hw : swappedStores [.Subscript (.Name y p) (.Constant (.int k) n pos2) pos'] value X.env = pure none := by rfl)
    (h1 : (assignEach [.Subscript (.Name y p) (.Constant (.int k) n pos2) pos'] X.env).map (·.2) = [assign (.Subscript (.Name y p) (.Constant (.int k) n pos2) pos') X.env] := by rfl) :
    PDS X E (.Assign [.Subscript (.Name y p) (.Constant (.int k) n pos2) pos'] value pos) (dPenSet i k te) := by
  refine PS.wk (ps_asg (show PE X value (lift X.K E te) from hv) (pg_sub (pe_var hi hx hd hcd) pe_int set_list ha) hs hw h1) ?_
  rintro Z σ H ⟨G0, H0, G, env, J, e, h, hn, hr, hb, hct, hxx⟩
  refine ⟨G0, H0, G, env, _, _, e, h, ?_, hxx.now e⟩
  rintro r v G1 H1 ⟨j, ej, ep, ok, qn⟩ k1 g1 rr
  have e1 := e.step k1 g1
  obtain ⟨w, hsw, rw'⟩ := e1.val i _ ep
  obtain ⟨a, ew, ga, i0, i1, i2, hl, h0, h1', h2, h3⟩ := (show RRep X.K G1 H1 w (.val .pen) from rw').pen rfl
  subst ew
  have ev := rr.int ej
  subst ev
  have fin : ∀ {b0 b1 b2 : Int}, PenI b0 b1 b2 → Z.nx σ (upd H1 a (.lst [.int b0, .int b1, .int b2])) := fun {b0 b1 b2} pi => by
    have hp : PenAt (upd H1 a (.lst [.int b0, .int b1, .int b2])) a := ⟨b0, b1, b2, upd_same, pi⟩
    have kk : Keep G1 G1 H1 (upd H1 a (.lst [.int b0, .int b1, .int b2])) := ⟨fun b ob hb nb _ => by rw [upd_ne fun z => nb.pen (by rw [z]; exact ga)]; exact hb, fun b gb pb => by
      by_cases z : b = a
      · rw [z]; exact hp
      · obtain ⟨c0, c1, c2, q1, q2⟩ := pb
        exact ⟨c0, c1, c2, by rw [upd_ne z]; exact q1, q2⟩, fun b K J gb m => m.off (MutO.nrd hl (.inl ⟨_, rfl⟩)) (fun c n => upd_ne n) fun z => (by rw [z, ga] at gb; cases gb), fun _ _ => rfl, tab_off (fun b ps h => ⟨ps, h, fun q t => t⟩) (MutO.off hl (.inl ⟨_, rfl⟩)) fun c nc => upd_ne nc⟩
    have gg : GOk G1 (upd H1 a (.lst [.int b0, .int b1, .int b2])) := ⟨fun b x gb => by
      by_cases z : b = a
      · rw [z]; exact ⟨_, upd_same, .inl ⟨_, rfl⟩⟩
      · obtain ⟨o, q1, q2⟩ := g1.lst b x gb
        exact ⟨o, by rw [upd_ne z]; exact q1, q2⟩, fun b gb => kk.pen b gb (g1.pen b gb), fun b K J gb => kk.memo b K J gb (g1.memo b K J gb)⟩
    exact hn env G1 σ _ qn (e1.step kk gg)
  match k, ok with
  | 0, ok => exact ⟨_, hsw, ⟨a, [.int i0, .int i1, .int i2], 0, 0, rfl, rfl, hl, rfl, fin ⟨ok, h1', h2, h3⟩⟩⟩
  | 1, ok => exact ⟨_, hsw, ⟨a, [.int i0, .int i1, .int i2], 1, 1, rfl, rfl, hl, rfl, fin ⟨h0, ok, h2, h3⟩⟩⟩
  | 2, ok => exact ⟨_, hsw, ⟨a, [.int i0, .int i1, .int i2], 2, 2, rfl, rfl, hl, rfl, fin ⟨h0, h1', ok.1, ok.2⟩⟩⟩
/-- return [i, j, k]: a pen -/
def dRetPen (t : DFr) : DS := fun J env => t env (fun ds => ∃ i j k, ds = [.int i, .int j, .int k] ∧ PenI i j k ∧ J.rt .pen) J.ex
theorem pd_retPen {t : DFr} {v : Expr} (h : PFL X E v t) : PDS X E (.Return (some v) pos) (dRetPen t) := by
  refine PS.wk (ps_ret (show PE X v (liftF X.K E t) from h)) ?_
  rintro Z σ H ⟨G0, H0, G, env, J, e, h, hn, hr, hb, hct, hxx⟩
  refine ⟨G0, H0, G, env, _, _, e, h, ?_, hxx.now e⟩
  rintro ds v G1 H1 ⟨i, j, k, rfl, pi, qr⟩ k1 g1 ⟨a, vs, rfl, hn', gh, hl, rl⟩
  cases rl with
  | cons r1 rl => cases rl with
    | cons r2 rl => cases rl with
      | cons r3 rl =>
        cases rl
        cases r1; cases r2; cases r3
        let G2 : Gm := fun b => if b = a then some .pen else G1 b
        have gs : G2 a = some .pen := if_pos rfl
        have gn : ∀ {b}, b ≠ a → G2 b = G1 b := fun n => if_neg n
        have hp : PenAt H1 a := ⟨i, j, k, hl, pi⟩
        have k2 : Keep G G2 H H1 := ⟨k1.obj, k1.pen, k1.memo, fun b hb => by rw [gn fun z => hb (by rw [z]; exact hn')]; exact k1.gh b hb, k1.tab⟩
        have g2 : GOk G2 H1 := ⟨fun b x gb => by
          by_cases z : b = a
          · rw [z]; exact ⟨_, hl, .inl ⟨_, rfl⟩⟩
          · rw [gn z] at gb; exact g1.lst b x gb, fun b gb => by
          by_cases z : b = a
          · rw [z]; exact hp
          · rw [gn z] at gb; exact g1.pen b gb, fun b K J gb => by
          by_cases z : b = a
          · rw [z, gs] at gb; cases gb
          · rw [gn z] at gb; exact g1.memo b K J gb⟩
        exact hr .pen (.ref a) G2 H1 qr (e.keep.trans e.g0 k2) g2 (.pen gs hp)
end
end QD
/-! tuple[::-1], join, displays of dicts -/
namespace QD
open PySem PySem.Spec PyProof.Rows L2
section
variable {prog : Program} {w : World} {A : Around} {E : Value → Shared → Prop} {s : Shared}
end
section
variable {X : Cx} {E : XK} {e a b o : Expr} {te ta tb : DE} {pos : Pos}
def dRev (te : DE) : DE := fun env q x => te env (fun r => ∃ ds, r.d = .tup ds ∧ q (.val (.tup ds.reverse))) x
/-- text.join(a list or tuple of texts) -/
def strsOf : List D → Option (List Str)
  | [] => some []
  | .str x :: r => (strsOf r).map (x :: ·)
  | _ => none
theorem strs_rep {K : PySem.W.Frag} {G : Gm} {H : Hp} : ∀ {vs : List V} {ds : List D} {ys : List Str}, RepL K G H vs ds → strsOf ds = some ys → vs = ys.map V.str
  | _, _, _, .nil, h => by cases h; rfl
  | _, _, ys, .cons (d := d) a b, h => by
    cases d <;> simp only [strsOf, Option.map_eq_some_iff] at h <;> try (cases h; done)
    obtain ⟨zs, h1, rfl⟩ := h
    cases a
    rw [strs_rep b h1]
    rfl
def dJoin (sep : Str) (te : DE) : DE := fun env q x => te env (fun r => ∃ ds ys, seqOf r.d = some ds ∧ strsOf ds = some ys ∧ (ys.map (·.length)).sum + ys.length * sep.length ≤ 16777216 ∧ q (.val (.str (Txt.join sep ys)))) x
theorem pd_join {sep : Str} {n : Nat} {p2 apos : Pos} (he : PD X E e te) (hs : starEach [e] X.env = [(false, eval e X.env)] := by rfl) (hbase : attributeBase (.Constant (.str sep) n p2) "join" X.env (eval (.Constant (.str sep) n p2) X.env) = eval (.Constant (.str sep) n p2) X.env := by rfl) (hline : (apos.endLine == pos.line) = true := by rfl) :
    PD X E (.Call (.Attribute (.Constant (.str sep) n p2) "join" apos) [e] [] pos) (dJoin sep te) := by
  refine PE.wk (pe_join pe_str (show PE X e (lift X.K E te) from he) hs hbase hline) ?_
  rintro σ H Q ⟨G0, H0, G, env, q, x, e, h, hq, hx⟩
  refine ⟨⟨sep, rfl⟩, G0, H0, G, env, _, x, e, h, ?_, hx⟩
  rintro r v G' H' ⟨ds, ys, e1, e2, hz, qd⟩ k g rr
  obtain ⟨a, vs, rfl, h, l⟩ := seq_rep rr e1
  have ev := strs_rep l e2
  subst ev
  exact ⟨sep, a, ys, rfl, rfl, h.imp (·.1) (·.1), hz, hq _ _ G' H' qd k g (Rep.str _)⟩
/-- {} and {k: v} -/
def dDict0 : DE := fun _ q _ => q (.val (.dct [] []))
theorem Rep.newD {K : PySem.W.Frag} {G : Gm} {H : Hp} {kvs : List (Key × V)} {ds : List D} {p : Addr} (g : GOk G H) (n : H p = none) (h : RepL K G H (kvs.map (·.2)) ds) : Rep K G (upd H p (.dK kvs)) (.ref p) (.dct (kvs.map (·.1)) ds) :=
  .dct (g.fresh n) (.inl upd_same) rfl (RepL.keep (Keep.laid n) h)
theorem pd_dict0 : PD X E (.Dict [] [] pos) dDict0 := by
  refine PE.wk pe_dnewK ?_
  rintro σ H Q ⟨G0, H0, G, env, q, x, e, h, hq, hx⟩
  intro p hp
  exact hq _ _ G _ h (Keep.laid hp) (e.gok.laid hp) (Rep.newD (kvs := []) e.gok hp .nil)
def dDict1 (a b : Int) : DE := fun _ q _ => q (.val (.dct [.inl a] [.int b]))
end
end QD
/-! the end: a law's def, promised where no repr is under way, is called with its script -/
namespace QD
open PyProof
open PySem PySem.Spec PyProof.Rows L2
section
variable {P : Program} {w : World} {K : PySem.W.Frag} {mg mb : Str → Option Value} {a : Addr} {s : Shared} {H : Hp} {vs : List Value}
/-- the script's list alone is tracked, if anything -/
structure ScrOnly (K : PySem.W.Frag) (H : Hp) (a : Addr) : Prop where
  frz : ∀ b, H b = none ∨ ∃ o xs, H b = some (.frz o (.lst xs))
  one : ∀ b, H b ≠ none → b = a
  out : H a ≠ none → K.lookup a = none
theorem ScrOnly.free {b : Addr} {o : Obj} {es : Array DictEntry} {n : Nat} (S : ScrOnly K H a) (obj : s.heap.get? a = some { cls := .type "list", data := .seq vs.toArray }) (e : s.heap.get? b = some o) (d : o.data = .dict es n) : H b = none := by
  cases q : H b with
  | none => rfl
  | some u =>
    have eb := S.one b (by rw [q]; simp)
    rw [eb, obj] at e
    cases e
    cases (show Data.seq vs.toArray _ = Data.dict es n from d)
theorem ScrOnly.kin (S : ScrOnly K H a) (k : K.In s.heap) : K.In (hidT s.heap H) := fun b o e => hidT_get (k b o e) (by
  cases q : H b with
  | none => rfl
  | some u =>
    have nz : H b ≠ none := by rw [q]; simp
    have eb := S.one b nz
    rw [eb] at nz e
    rw [S.out nz] at e
    cases e)
end
theorem BC.pd {X : Cx} {E : XK} {k : Nat} (B : BC X E k) {s : Shared} {H : Hp} {scope : Scope} {ce : PySem.Env} {fp : List Addr} {e : Expr} {t : DE} (h : BC (X.blk s H scope ce fp) E0 k → PD (X.blk s H scope ce fp) E0 e t) : PD (X.blk s H scope ce fp) E0 e t := h (B.blk s H scope ce fp)
theorem BC.ptd {X : Cx} {E : XK} {k : Nat} (B : BC X E k) {s : Shared} {H : Hp} {scope : Scope} {ce : PySem.Env} {fp : List Addr} {es : List Expr} {t : DT} (h : BC (X.blk s H scope ce fp) E0 k → PTsD (X.blk s H scope ce fp) es t) : PTsD (X.blk s H scope ce fp) es t := h (B.blk s H scope ce fp)
end QD
/-! x in o, x not in o for an own class; bit_length -/
namespace QD
open PySem PySem.Spec PyProof.Rows L2
section
variable {X : Cx} {E : XK} {k j : Nat} {C : Addr} {a b o : Expr} {ta tb te : DE} {pos apos : Pos}
def dInC (F : DF) (neg : Bool) (ta tb : DE) : DE := fun env q x => ta env (fun r1 => tb env (fun r2 => r1.isVal = true ∧ r2.isVal = true ∧ F [r2.d, r1.d] (fun d => ∃ c, d = .bl c ∧ q (.val (.bl (if neg then !c else c)))) noX) x) x
theorem RRep.isVal {K : PySem.W.Frag} {G : Gm} {H : Hp} {v : V} {r : R} (h : RRep K G H v r) (e : r.isVal = true) : Rep K G H v r.d := by
  cases r with
  | val d => exact h
  | brw ds => cases e
/-- x.bit_length() -/
def dBits (te : DE) : DE := fun env q x => te env (fun r => ∃ i, r.d = .int i ∧ q (.val (.int (Builtin.Int.intBits i : Nat)))) x
end
end QD
/-! defs with defaults -/
namespace QD
open PySem PySem.Spec PyProof.Rows L2
end QD
namespace QD
open PySem PySem.Spec PyProof.Rows L2
/-! rows of so many values -/
theorem ulen1 {P : List Value → Prop} (h : ∀ a, P [a]) : ∀ us : List Value, us.length = 1 → P us
  | [a], _ => h a
theorem ulen2 {P : List Value → Prop} (h : ∀ a b, P [a, b]) (us : List Value) (e : us.length = 2) : P us := by
  cases us with
  | nil => cases e
  | cons a us => exact ulen1 (P := fun l => P (a :: l)) (h a) us (Nat.succ.inj e)
theorem ulen3 {P : List Value → Prop} (h : ∀ a b c, P [a, b, c]) (us : List Value) (e : us.length = 3) : P us := by
  cases us with
  | nil => cases e
  | cons a us => exact ulen2 (P := fun l => P (a :: l)) (h a) us (Nat.succ.inj e)
theorem ulen4 {P : List Value → Prop} (h : ∀ a b c d, P [a, b, c, d]) (us : List Value) (e : us.length = 4) : P us := by
  cases us with
  | nil => cases e
  | cons a us => exact ulen3 (P := fun l => P (a :: l)) (h a) us (Nat.succ.inj e)
end QD
namespace QD
open PySem PySem.Spec PyProof.Rows L2
/-! ### every combinator where it is given all it takes -/
theorem dVar_app (i : Nat) (env : SE) (q : R → Prop) (u2_ : XP) : dVar i env q u2_ = (match env[i]? with
  | some (.val d) => q (.val d)
  | some (.own ds) => q (.brw ds)
  | _ => False) := rfl
theorem dC_app (d : D) (u0_ : SE) (q : R → Prop) (u2_ : XP) : dC d u0_ q u2_ = (q (.val d)) := rfl
theorem dOp_app (f : D → D → Option D) (ta tb : DE) (env : SE) (q : R → Prop) (x : XP) : dOp f ta tb env q x = (ta env (fun r1 => tb env (fun r2 => ∃ d, f r1.d r2.d = some d ∧ q (.val d)) x) x) := rfl
theorem dTest_app (t : DE) (env : SE) (q : Bool → Prop) (x : XP) : dTest t env q x = (t env (fun r => ∃ b, r.d = .bl b ∧ q b) x) := rfl
theorem dChain_app (f f' : D → D → Option D) (ta tb tc : DE) (env : SE) (q : R → Prop) (x : XP) : dChain f f' ta tb tc env q x = (ta env (fun r1 => tb env (fun r2 => ∃ k, f r1.d r2.d = some (.bl k) ∧
  if k = true then tc env (fun r3 => ∃ d, f' r2.d r3.d = some d ∧ q (.val d)) x else q (.val (.bl false))) x) x) := rfl
theorem dAnd_app (ta tb : DE) (env : SE) (q : R → Prop) (x : XP) : dAnd ta tb env q x = (ta env (fun r => ∃ k, r.d = .bl k ∧ if k = true then tb env q x else q (.val (.bl false))) x) := rfl
theorem dOr_app (ta tb : DE) (env : SE) (q : R → Prop) (x : XP) : dOr ta tb env q x = (ta env (fun r => ∃ k, r.d = .bl k ∧ if k = true then q (.val (.bl true)) else tb env q x) x) := rfl
theorem dNot_app (ta : DE) (env : SE) (q : R → Prop) (x : XP) : dNot ta env q x = (ta env (fun r => ∃ k, r.d = .bl k ∧ q (.val (.bl (!k)))) x) := rfl
theorem dAndT_app (ta tb : DT) (env : SE) (q : Bool → Prop) (x : XP) : dAndT ta tb env q x = (ta env (fun k => if k = true then tb env q x else q false) x) := rfl
theorem dOrT_app (ta tb : DT) (env : SE) (q : Bool → Prop) (x : XP) : dOrT ta tb env q x = (ta env (fun k => if k = true then q true else tb env q x) x) := rfl
theorem dNotT_app (ta : DT) (env : SE) (q : Bool → Prop) (x : XP) : dNotT ta env q x = (ta env (fun k => q (!k)) x) := rfl
theorem dIf_app (t : DT) (ta tb : DE) (env : SE) (q : R → Prop) (x : XP) : dIf t ta tb env q x = (t env (fun k => if k = true then ta env q x else tb env q x) x) := rfl
theorem dNil_app (u0_ : SE) (q : List R → Prop) (u2_ : XP) : dNil  u0_ q u2_ = (q []) := rfl
theorem dCons_app (ta : DE) (tr : DA) (env : SE) (q : List R → Prop) (x : XP) : dCons ta tr env q x = (ta env (fun r => tr env (fun rs => q (r :: rs)) x) x) := rfl
theorem dTup_app (ta : DA) (env : SE) (q : R → Prop) (x : XP) : dTup ta env q x = (ta env (fun rs => ∃ ds, rs = ds.map R.val ∧ ds.length ≤ 16777216 ∧ q (.val (.tup ds))) x) := rfl
theorem dLst_app (ta : DA) (env : SE) (q : R → Prop) (x : XP) : dLst ta env q x = (ta env (fun rs => ∃ ds, rs = ds.map R.val ∧ ds.length ≤ 16777216 ∧ q (.val (.lst ds))) x) := rfl
theorem dCall_app (F : DF) (ta : DA) (env : SE) (q : R → Prop) (x : XP) : dCall F ta env q x = (ta env (fun rs => F (rs.map R.d) (fun d => (allVal rs = true ∨ noLst d = true) ∧ q (.val d)) x) x) := rfl
theorem dBlt_app (f : List D → Option D) (ta : DA) (env : SE) (q : R → Prop) (x : XP) : dBlt f ta env q x = (ta env (fun rs => ∃ d, f (rs.map R.d) = some d ∧ q (.val d)) x) := rfl
theorem dIsi_app (T : String) (ta : DE) (env : SE) (q : R → Prop) (x : XP) : dIsi T ta env q x = (ta env (fun r => ∃ b, isiD r.d T = some b ∧ q (.val (.bl b))) x) := rfl
theorem dNoPart_app (u0_ : SE) (q : Option Int → Prop) (u2_ : XP) : dNoPart  u0_ q u2_ = (q none) := rfl
theorem dPart_app (ta : DE) (env : SE) (q : Option Int → Prop) (x : XP) : dPart ta env q x = (ta env (fun r => ∃ i, r.d = .int i ∧ q (some i)) x) := rfl
theorem dSl_app (ta : DE) (tl th : DO) (env : SE) (q : R → Prop) (x : XP) : dSl ta tl th env q x = (ta env (fun r => tl env (fun lo => th env (fun hi => ∃ d, slD r.d lo hi = some d ∧ q (.val d)) x) x) x) := rfl
theorem dNext_app (J : DEnds) (env : SE) : dNext  J env = (J.nx env) := rfl
theorem dBreak_app (J : DEnds) (env : SE) : dBreak  J env = (J.bk env) := rfl
theorem dCont_app (J : DEnds) (env : SE) : dCont  J env = (J.ct env) := rfl
theorem dRet_app (te : DE) (J : DEnds) (env : SE) : dRet te J env = (te env (fun r => ∃ d, r = .val d ∧ J.rt d) J.ex) := rfl
theorem dRetOwn_app (i : Nat) (J : DEnds) (env : SE) : dRetOwn i J env = (∃ ds, env[i]? = some (.own ds) ∧ J.rt (.lst ds)) := rfl
theorem dRetN_app (J : DEnds) (env : SE) : dRetN  J env = (J.rt .non) := rfl
theorem dDrop_app (te : DE) (J : DEnds) (env : SE) : dDrop te J env = (te env (fun _ => J.nx env) J.ex) := rfl
theorem dFreeze_app (i : Nat) (t : DS) (J : DEnds) (env : SE) : dFreeze i t J env = (∃ ds, env[i]? = some (.own ds) ∧ t J (env.set i (.val (.lst ds)))) := rfl
theorem dSet_app (i : Nat) (te : DE) (J : DEnds) (env : SE) : dSet i te J env = (te env (fun r => ∃ d, r = .val d ∧ J.nx (env.set i (.val d))) J.ex) := rfl
theorem dFLst_app (ta : DA) (env : SE) (q : List D → Prop) (x : XP) : dFLst ta env q x = (ta env (fun rs => ∃ ds, rs = ds.map R.val ∧ ds.length ≤ 16777216 ∧ q ds) x) := rfl
theorem dOfF_app (t : DFr) (env : SE) (q : R → Prop) (x : XP) : dOfF t env q x = (t env (fun ds => q (.val (.lst ds))) x) := rfl
theorem dSetOwn_app (i : Nat) (t : DFr) (J : DEnds) (env : SE) : dSetOwn i t J env = (t env (fun ds => J.nx (env.set i (.own ds))) J.ex) := rfl
theorem dAppend_app (i : Nat) (te : DE) (J : DEnds) (env : SE) : dAppend i te J env = (∃ ds, env[i]? = some (.own ds) ∧ ds.length < 16777216 ∧ te env (fun r => ∃ d, r = .val d ∧ J.nx (env.set i (.own (ds ++ [d])))) J.ex) := rfl
theorem dInsert_app (i : Nat) (ta tb : DE) (J : DEnds) (env : SE) : dInsert i ta tb J env = (∃ ds, env[i]? = some (.own ds) ∧ ds.length < 16777216 ∧
  ta env (fun r => ∃ k, r.d = .int k ∧ 0 ≤ k ∧ k < 16777216 ∧ tb env (fun r2 => ∃ d, r2 = .val d ∧ J.nx (env.set i (.own (ds.take k.toNat ++ [d] ++ ds.drop k.toNat)))) J.ex) J.ex) := rfl
theorem dFNil_app (u0_ : SE) (q : List RF → Prop) (u2_ : XP) : dFNil  u0_ q u2_ = (q []) := rfl
theorem dFVal_app (ta : DE) (tr : DAF) (env : SE) (q : List RF → Prop) (x : XP) : dFVal ta tr env q x = (ta env (fun r => ∃ d, r = .val d ∧ tr env (fun rs => q (.val d :: rs)) x) x) := rfl
theorem dFOwn_app (ta : DFr) (tr : DAF) (env : SE) (q : List RF → Prop) (x : XP) : dFOwn ta tr env q x = (ta env (fun ds => tr env (fun rs => q (.own ds :: rs)) x) x) := rfl
theorem dPar_app (is : List Nat) (t : DAF) (J : DEnds) (env : SE) : dPar is t J env = (t env (fun rs => rs.length = is.length ∧ J.nx (setE is rs env)) J.ex) := rfl
theorem dUnpack_app (is : List Nat) (te : DE) (J : DEnds) (env : SE) : dUnpack is te J env = (te env (fun r => ∃ ds, r = .val (.tup ds) ∧ ds.length = is.length ∧ J.nx (setE is (ds.map RF.val) env)) J.ex) := rfl
theorem iSeq_app (te : DE) (env : SE) (q : List D → Bool → Prop) (x : XP) : iSeq te env q x = (te env (fun r => ∃ ds, r.d = .lst ds ∧ q ds r.isVal) x ∨ te env (fun r => ∃ ds, r.d = .tup ds ∧ q ds r.isVal) x) := rfl
theorem iRange1_app (ta : DE) (env : SE) (q : List D → Bool → Prop) (x : XP) : iRange1 ta env q x = (ta env (fun r => ∃ j, r.d = .int j ∧ -(2 ^ 62) ≤ j ∧ j < 2 ^ 62 ∧ q (rngD 0 j.toNat) true) x) := rfl
theorem iRange2_app (ta tb : DE) (env : SE) (q : List D → Bool → Prop) (x : XP) : iRange2 ta tb env q x = (ta env (fun r => ∃ i, r.d = .int i ∧ tb env (fun r2 => ∃ j, r2.d = .int j ∧ (-(2 ^ 62) ≤ i ∧ i < 2 ^ 62 ∧ -(2 ^ 62) ≤ j ∧ j < 2 ^ 62) ∧ q (rngD i (j - i).toNat) true) x) x) := rfl
theorem dFor_app (ti : DI) (dg : DG) (tb : DS) (J : DEnds) (env : SE) : dFor ti dg tb J env = (ti env (fun ds v => v = true ∧ dForL dg tb J ds env) J.ex) := rfl
theorem dYes_app (u0_ : SE) (q : Bool → Prop) (u2_ : XP) : dYes  u0_ q u2_ = (q true) := rfl
theorem dLc_app (vs : List Nat) (ti : DI) (dg : DG) (tt : DT) (te : DE) (env : SE) (q : List D → Prop) (x : XP) : dLc vs ti dg tt te env q x = (ti env (fun ds _ => ds.length ≤ 16777216 ∧ dLcL dg tt te ds (wipeE env vs) q) x) := rfl
theorem dNeg_app (ta : DE) (env : SE) (q : R → Prop) (x : XP) : dNeg ta env q x = (ta env (fun r => ∃ i, r.d = .int i ∧ q (.val (.int (-i)))) x) := rfl
theorem dSetLcV_app (i : Nat) (t : DFr) (J : DEnds) (env : SE) : dSetLcV i t J env = (t env (fun ds => J.nx (env.set i (.val (.lst ds)))) J.ex) := rfl
theorem dNever_app (u0_ : DEnds) (u1_ : SE) : dNever  u0_ u1_ = (False) := rfl
theorem iEnumD_app (te : DE) (env : SE) (q : List D → Bool → Prop) (x : XP) : iEnumD te env q x = (te env (fun r => ∃ ds, r.d = .lst ds ∧ q (enD ds) r.isVal) x ∨ te env (fun r => ∃ ds, r.d = .tup ds ∧ q (enD ds) r.isVal) x) := rfl
theorem dFld_app (C : Addr) (f : Str) (te : DE) (env : SE) (q : R → Prop) (x : XP) : dFld C f te env q x = (te env (fun r => ∃ ns ds d, r.d = .ins C ns ds ∧ lkD f ns ds = some d ∧ q (.val d)) x) := rfl
theorem dMeth0_app (F : DF) (te : DE) (env : SE) (q : R → Prop) (x : XP) : dMeth0 F te env q x = (te env (fun r => F [r.d] (fun d => r.isVal = true ∧ ∃ n : Int, d = .int n ∧ (0 ≤ n ∧ n < 2 ^ 63) ∧ q (.val d)) noX) x) := rfl
theorem dProp_app (F : DF) (te : DE) (env : SE) (q : R → Prop) (x : XP) : dProp F te env q x = (te env (fun r => F [r.d] (fun d => r.isVal = true ∧ q (.val d)) noX) x) := rfl
theorem dRaise_app (C : Addr) (J : DEnds) (u1_ : SE) : dRaise C J u1_ = (J.ex ⟨C, none⟩) := rfl
theorem dMake_app (C : Addr) (F : DF) (ta : DA) (env : SE) (q : R → Prop) (x : XP) : dMake C F ta env q x = (ta env (fun rs => ∃ ds, rs = ds.map R.val ∧ F ds (fun d => q (.val d)) x) x) := rfl
theorem dDc_app (vs : List Nat) (ti : DI) (dg : DG) (tk te : DE) (env : SE) (q : R → Prop) (x : XP) : dDc vs ti dg tk te env q x = (ti env (fun ds _ => ds.length ≤ 16777216 ∧ dDcL dg tk te ds (wipeE env vs) [] (fun ps => q (.val (.dct (ps.map (·.1)) (ps.map (·.2)))))) x) := rfl
theorem dDGet_app (ta tb : DE) (env : SE) (q : R → Prop) (x : XP) : dDGet ta tb env q x = (ta env (fun r => tb env (fun r2 => ∃ ks ds k d, r.d = .dct ks ds ∧ keyD r2.d = some k ∧ lkK k ks ds = some d ∧ q (.val d)) x) x) := rfl
theorem dLocked_app (i : Nat) (te : DE) (env : SE) (q : R → Prop) (x : XP) : dLocked i te env q x = (∃ ks ds, env[i]? = some (.val (.dct ks ds)) ∧ ∀ od kvs, kvs.map (·.1) = ks → te (env.set i (.val (.dcl od kvs))) (fun r => ∃ d, r = .val d ∧ noDl d = true ∧ q r) noX) := rfl
theorem iKeysD_app (te : DE) (env : SE) (q : List D → Bool → Prop) (x : XP) : iKeysD te env q x = (te env (fun r => ∃ od kvs, r = .val (.dcl od kvs) ∧ q (kvs.map fun p => dKey p.1) true) x) := rfl
theorem dPenGet_app (k : Nat) (te : DE) (env : SE) (q : R → Prop) (x : XP) : dPenGet k te env q x = (te env (fun r => r.d = .pen ∧ k < 3 ∧ ∀ i, penOk k i → q (.val (.int i))) x) := rfl
theorem dPenSet_app (i k : Nat) (te : DE) (J : DEnds) (env : SE) : dPenSet i k te J env = (te env (fun r => ∃ v, r.d = .int v ∧ env[i]? = some (.val .pen) ∧ penOk k v ∧ J.nx env) J.ex) := rfl
theorem dRetPen_app (t : DFr) (J : DEnds) (env : SE) : dRetPen t J env = (t env (fun ds => ∃ i j k, ds = [.int i, .int j, .int k] ∧ PenI i j k ∧ J.rt .pen) J.ex) := rfl
theorem dRev_app (te : DE) (env : SE) (q : R → Prop) (x : XP) : dRev te env q x = (te env (fun r => ∃ ds, r.d = .tup ds ∧ q (.val (.tup ds.reverse))) x) := rfl
theorem dJoin_app (sep : Str) (te : DE) (env : SE) (q : R → Prop) (x : XP) : dJoin sep te env q x = (te env (fun r => ∃ ds ys, seqOf r.d = some ds ∧ strsOf ds = some ys ∧ (ys.map (·.length)).sum + ys.length * sep.length ≤ 16777216 ∧ q (.val (.str (Txt.join sep ys)))) x) := rfl
theorem dDict0_app (u0_ : SE) (q : R → Prop) (u2_ : XP) : dDict0  u0_ q u2_ = (q (.val (.dct [] []))) := rfl
theorem dDict1_app (a b : Int) (u0_ : SE) (q : R → Prop) (u2_ : XP) : dDict1 a b u0_ q u2_ = (q (.val (.dct [.inl a] [.int b]))) := rfl
theorem dInC_app (F : DF) (neg : Bool) (ta tb : DE) (env : SE) (q : R → Prop) (x : XP) : dInC F neg ta tb env q x = (ta env (fun r1 => tb env (fun r2 => r1.isVal = true ∧ r2.isVal = true ∧ F [r2.d, r1.d] (fun d => ∃ c, d = .bl c ∧ q (.val (.bl (if neg then !c else c)))) noX) x) x) := rfl
theorem dBits_app (te : DE) (env : SE) (q : R → Prop) (x : XP) : dBits te env q x = (te env (fun r => ∃ i, r.d = .int i ∧ q (.val (.int (Builtin.Int.intBits i : Nat)))) x) := rfl
/-! ### statements, one at a time: what follows is a letter -/
theorem w_seq {t u : DS} {J : DEnds} {env : SE} (h : ∀ k : SE → Prop, (∀ e, u J e → k e) → t ⟨k, J.rt, J.bk, J.ct, J.ex⟩ env) : dSeq t u J env := h _ fun _ z => z
theorem w_if {c : DT} {t u : DS} {J : DEnds} {env : SE} (h : ∀ A B : Prop, (t J env → A) → (u J env → B) → c env (fun k => if k = true then A else B) J.ex) : dIfS c t u J env := h _ _ id id
/-! ### lists of values -/
theorem ex_nil' {P : List D → Prop} : (∃ ds : List D, ([] : List R) = ds.map R.val ∧ P ds) ↔ P [] :=
  ⟨fun ⟨ds, e, h⟩ => match ds, e, h with | [], _, h => h, fun h => ⟨[], rfl, h⟩⟩
theorem ex_cons' {a : D} {rs : List R} {P : List D → Prop} : (∃ ds : List D, R.val a :: rs = ds.map R.val ∧ P ds) ↔ ∃ ds : List D, rs = ds.map R.val ∧ P (a :: ds) := by
  constructor
  · rintro ⟨ds, e, h⟩
    cases ds with
    | nil => cases e
    | cons d ds => simp only [List.map_cons, List.cons.injEq, R.val.injEq] at e; obtain ⟨rfl, e⟩ := e; exact ⟨ds, e, h⟩
  · rintro ⟨ds, e, h⟩
    exact ⟨a :: ds, by rw [e]; rfl, h⟩
theorem ex_val {a : D} {P : D → Prop} : (∃ d, R.val a = R.val d ∧ P d) ↔ P a := ⟨fun ⟨d, e, h⟩ => by cases e; exact h, fun h => ⟨a, rfl, h⟩⟩
theorem ex_vald {α : Type} {a : α} {P : α → Prop} : (∃ d, some a = some d ∧ P d) ↔ P a := ⟨fun ⟨d, e, h⟩ => by cases e; exact h, fun h => ⟨a, rfl, h⟩⟩
theorem ex_bl {a : Bool} {P : Bool → Prop} : (∃ d, D.bl a = D.bl d ∧ P d) ↔ P a := ⟨fun ⟨d, e, h⟩ => by cases e; exact h, fun h => ⟨a, rfl, h⟩⟩
theorem ex_sbl {a : Bool} {P : Bool → Prop} : (∃ d, some (D.bl a) = some (D.bl d) ∧ P d) ↔ P a := ⟨fun ⟨d, e, h⟩ => by cases e; exact h, fun h => ⟨a, rfl, h⟩⟩
theorem ex_int {a : Int} {P : Int → Prop} : (∃ d, D.int a = D.int d ∧ P d) ↔ P a := ⟨fun ⟨d, e, h⟩ => by cases e; exact h, fun h => ⟨a, rfl, h⟩⟩
theorem ex_lst {a : List D} {P : List D → Prop} : (∃ d, D.lst a = D.lst d ∧ P d) ↔ P a := ⟨fun ⟨d, e, h⟩ => by cases e; exact h, fun h => ⟨a, rfl, h⟩⟩
theorem ex_tup {a : List D} {P : List D → Prop} : (∃ d, D.tup a = D.tup d ∧ P d) ↔ P a := ⟨fun ⟨d, e, h⟩ => by cases e; exact h, fun h => ⟨a, rfl, h⟩⟩
theorem no_lt {a : List D} {P : List D → Prop} : (∃ d, D.lst a = D.tup d ∧ P d) ↔ False := ⟨fun ⟨_, e, _⟩ => (nomatch e), False.elim⟩
theorem no_tl {a : List D} {P : List D → Prop} : (∃ d, D.tup a = D.lst d ∧ P d) ↔ False := ⟨fun ⟨_, e, _⟩ => (nomatch e), False.elim⟩
theorem ex_own {a : List D} {P : List D → Prop} : (∃ d, some (EV.own a) = some (EV.own d) ∧ P d) ↔ P a := ⟨fun ⟨d, e, h⟩ => by cases e; exact h, fun h => ⟨a, rfl, h⟩⟩
theorem ex_vtup {a : List D} {P : List D → Prop} : (∃ d, R.val (D.tup a) = R.val (D.tup d) ∧ P d) ↔ P a := ⟨fun ⟨d, e, h⟩ => by cases e; exact h, fun h => ⟨a, rfl, h⟩⟩
/-! ### loops -/
theorem for_inv {α : Type} (h : α → D) (I : List α → SE → Prop) {g : DG} {body : DS} {J : DEnds} : ∀ {l : List α} {env : SE}, I l env →
    (∀ a r env (k : SE → Prop), a ∈ l → I (a :: r) env → (∀ e, I r e → k e) → ∃ env', g (h a) env = some env' ∧ body ⟨k, J.rt, J.nx, k, J.ex⟩ env') → (∀ env, I [] env → J.nx env) → dForL g body J (l.map h) env
  | [], env, i, _, e => e env i
  | a :: r, env, i, st, e => by
    obtain ⟨env', e1, e2⟩ := st a r env (fun e => dForL g body J (r.map h) e) List.mem_cons_self i fun env1 i1 => for_inv h I i1 (fun b s env k m => st b s env k (List.mem_cons_of_mem _ m)) e
    exact ⟨env', e1, e2⟩
theorem for_invD (I : List D → SE → Prop) {g : DG} {body : DS} {J : DEnds} {l : List D} {env : SE} (i : I l env)
    (st : ∀ a r env (k : SE → Prop), a ∈ l → I (a :: r) env → (∀ e, I r e → k e) → ∃ env', g a env = some env' ∧ body ⟨k, J.rt, J.nx, k, J.ex⟩ env') (e : ∀ env, I [] env → J.nx env) : dForL g body J l env := by
  have := for_inv id I (g := g) (body := body) (J := J) i st e
  rwa [List.map_id] at this
/-- the same statement for every item, whatever the slots were that may change -/
theorem for_any {α : Type} (h : α → D) (I : SE → Prop) {g : DG} {body : DS} {J : DEnds} {l : List α} {env : SE} (i : I env)
    (st : ∀ a env (k : SE → Prop), a ∈ l → I env → (∀ e, I e → k e) → ∃ env', g (h a) env = some env' ∧ body ⟨k, J.rt, J.nx, k, J.ex⟩ env') (e : ∀ env, I env → J.nx env) : dForL g body J (l.map h) env :=
  for_inv h (fun _ => I) i (fun a _ env k m i hk => st a env k m i hk) e
theorem for_anyD (I : SE → Prop) {g : DG} {body : DS} {J : DEnds} {l : List D} {env : SE} (i : I env)
    (st : ∀ a env (k : SE → Prop), a ∈ l → I env → (∀ e, I e → k e) → ∃ env', g a env = some env' ∧ body ⟨k, J.rt, J.nx, k, J.ex⟩ env') (e : ∀ env, I env → J.nx env) : dForL g body J l env :=
  for_invD (fun _ => I) i (fun a _ env k m i hk => st a env k m i hk) e
/-! ### comprehensions -/
theorem lc_all {α : Type} (h : α → D) (f : α → D) {dg : DG} {te : DE} {env : SE} : ∀ {l : List α} {q : List D → Prop},
    (∀ a ∈ l, ∃ env', dg (h a) env = some env' ∧ (∀ Q : R → Prop, Q (.val (f a)) → te env' Q noX)) → q (l.map f) → dLcL dg dYes te (l.map h) env q
  | [], q, _, hq => hq
  | a :: l, q, ht, hq => by
    obtain ⟨env', e1, e3⟩ := ht a List.mem_cons_self
    exact ⟨env', e1, e3 _ ⟨_, rfl, lc_all h f (fun b m => ht b (List.mem_cons_of_mem _ m)) hq⟩⟩
theorem ex_false {α : Type} : (∃ _ : α, False) ↔ False := ⟨fun ⟨_, h⟩ => h, False.elim⟩
end QD
/-! a lambda is made, handed to a def, called there in a try -/
namespace QD
open PySem PySem.Spec PyProof.Rows L2
/-- the table at P may have grown, and code objects be new; all else is as it was -/
structure Grow (P : Addr) (H H1 : Hp) : Prop where
  old : ∀ b o, b ≠ P → H b = some o → H1 b = some o
  tab : LamX.TabS H1 P lamQ
  was : ∃ ps, H P = some (.tbl ps)
theorem Grow.keep {P : Addr} {G : Gm} {H H1 : Hp} (r : Grow P H H1) (g : GOk G H) : Keep G G H H1 := by
  obtain ⟨ps, hp⟩ := r.was
  have off : ∀ {b o}, H b = some o → (∀ z, o ≠ .tbl z) → b ≠ P := fun e n z => n ps (by rw [z, hp] at e; exact (Option.some.inj e).symm)
  refine ⟨fun b o e _ n => r.old b o (off e n) e, fun b _ ⟨i, j, k, e, q⟩ => ⟨i, j, k, r.old b _ (off e nofun) e, q⟩, fun b K J _ m => m.ext (fun a xs q => q.imp (fun z => r.old _ _ (off z fun _ w => by cases w) z) fun ⟨u, z⟩ => ⟨u, r.old _ _ (off z fun _ w => by cases w) z⟩) fun kvs z => r.old _ _ (off z fun _ w => by cases w) z, fun _ _ => rfl, fun b us e => ?_⟩
  by_cases z : b = P
  · subst z
    obtain ⟨us', h1, h2, h3⟩ := id r.tab
    exact ⟨us', h1, fun q t => ⟨t.1, by rw [t.1]; exact r.tab⟩⟩
  · refine ⟨us, r.old b _ z e, fun q ⟨t1, vs, t2, t3, t4⟩ => ⟨t1, vs, r.old b _ z t2, t3, fun pos cv y => ?_⟩⟩
    obtain ⟨c, c1, c2⟩ := t4 pos cv y
    exact ⟨c, c1, r.old c _ (off c2 LamX.codeO_ne) c2⟩
theorem Grow.gok {P : Addr} {G : Gm} {H H1 : Hp} (r : Grow P H H1) (g : GOk G H) : GOk G H1 := by
  obtain ⟨ps, hp⟩ := r.was
  have off : ∀ {b o}, H b = some o → (∀ z, o ≠ .tbl z) → b ≠ P := fun e n z => n ps (by rw [z, hp] at e; exact (Option.some.inj e).symm)
  refine ⟨fun b x e => ?_, fun b e => ?_, fun b K J e => ?_⟩
  · obtain ⟨o, q, m⟩ := g.lst b x e
    exact ⟨o, r.old b o (off q m.nt) q, m⟩
  · obtain ⟨i, j, k, q, z⟩ := g.pen b e
    exact ⟨i, j, k, r.old b _ (off q nofun) q, z⟩
  · exact (r.keep g).memo b K J e (g.memo b K J e)
section
variable {X : Cx} {pins : List (Addr × Obj)} {σ : L2.St} {H : Hp} {s : Shared}
/-- the function object of a lambda -/
abbrev lamObj (X : Cx) (ar : Arguments) (bd : Expr) (sc : Scope) (md : Value) (c' : Addr) (tv : Value) : Obj := PySem.W.kla_obj "<lambda>" (X.env.qual ++ "<lambda>") ar bd sc (cloFrom X.env.cells sc.names []) md c' tv
theorem lam_new {c P : Addr} {ar : Arguments} {bd : Expr} {sc : Scope} {pos : Pos} {E Q : Value → Shared → Prop} (I : Inv X pins σ H s) (tb : LamX.TabB X.base X.mg c P) (ec : X.env.code = .ref c) (eq : X.env.qual ++ "<lambda>" = lamQ) (t : LamX.TabS H P lamQ)
    (nodef : defaultsOf ar X.env = ([], [])) (fr : ∀ y ∈ sc.names, y.2 = .free → ∃ c, X.env.cells.lookup y.1 = some c)
    (go : ∀ (f c' : Addr) (md tv : Value) (H1 : Hp) (s' : Shared), Inv X pins σ H1 s' → Grow P H H1 → s'.heap.get? f = some (lamObj X ar bd sc md c' tv) → H1 f = none → f ∉ frs X.stack → H1 c' = some (LamX.CodeO c' (X.env.qual ++ "<lambda>")) → Q (.ref f) s') :
    wpAny (model X.prog X.w) X.A (eval (.Lambda ar bd sc pos) X.env) Q E s := by
  rw [← eq] at t
  obtain ⟨ps, hp, tr, ch⟩ := id t
  have hb : s.heap.BuiltinsAt X.mg P := tb.bm.keeps I.bk
  have ht : s.heap.get? P = some { cls := .none, data := .fields ps } := I.hok P _ hp
  have sep : ∀ f, s.heap.objs.size ≤ f → f ∉ frs X.stack := by
    intro f hf z
    cases List.mem_cons.mp (I.stkSub _ z) with
    | inl e => exact Nat.not_lt.mpr hf (e ▸ I.lt)
    | inr e => exact I.nofs hf e
  refine PySem.W.kla_eval nodef ?_
  match found : codeAmong pos ps.toList with
  | some cv =>
    obtain ⟨c', ecv, hco⟩ := ch pos cv found
    subst ecv
    refine PySem.W.kla_makeFunctionHit (mg := X.mg) (c := c) (P := P) (ps := ps) (closure_ok fr) I.ok.glob (I.mod.glob.keeps I.bk) ec (tb.code.keeps I.bk) ht tr found hb ?_
    intro tv h' tk grew size
    have J : Inv X pins σ H { s with heap := h'.push (lamObj X ar bd sc ((X.mg "__name__").getD .none) c' tv), toks := tk } := I.kept fun b o e => Heap.get?_push_of_some _ (grew b o e)
    exact go _ c' _ tv H _ J ⟨fun _ _ _ e => e, eq ▸ t, ps, hp⟩ (Heap.get?_push_size _ rfl) (I.hok.fresh size) (sep _ size) hco
  | none =>
    refine PySem.W.kla_makeFunction (mg := X.mg) (c := c) (P := P) (ps := ps) (closure_ok fr) I.ok.glob (I.mod.glob.keeps I.bk) ec (tb.code.keeps I.bk) ht tr found tb.gP hb ?_
    intro c' tv h' tk grew ge lt ⟨c2, oc, vs, tt, e2, hoc, hd, hv⟩ htb
    cases e2
    have big : s.heap.objs.size ≤ h'.objs.size := by omega
    have nc : H c' = none := I.hok.fresh ge
    have pc : P ≠ c' := ne_of_none hp nc
    have J := LamX.inv_table (t' := tk) (more := #[rawInt pos.line, rawInt pos.col, .ref c']) (h' := h'.push (lamObj X ar bd sc ((X.mg "__name__").getD .none) c' tv)) I hp (fun b o n e => Heap.get?_push_of_some _ (grew b o n e)) (Heap.get?_push_of_some _ htb) ge ⟨oc, vs, tt, Heap.get?_push_of_some _ hoc, hd, hv⟩
    have keep : ∀ b o, b ≠ P → H b = some o → upd (upd H P (.tbl (ps ++ #[rawInt pos.line, rawInt pos.col, .ref c']))) c' (LamX.CodeO c' (X.env.qual ++ "<lambda>")) b = some o := fun b o n e => by rw [upd_ne (ne_of_none e nc), upd_ne n]; exact e
    have lst : (ps ++ #[rawInt pos.line, rawInt pos.col, .ref c']).toList = ps.toList ++ [rawInt pos.line, rawInt pos.col, .ref c'] := by simp
    refine go _ c' _ tv _ _ J ⟨keep, eq ▸ ⟨_, by rw [upd_ne pc, upd_same], by rw [lst]; exact PySem.TriplesOk_snoc _ _ _ _ tr, fun p' cv z => ?_⟩, ps, hp⟩ (Heap.get?_push_size _ rfl) ?_ (sep _ big) upd_same
    · rw [lst] at z
      rcases LamX.among_app _ tr z with z | z
      · obtain ⟨c0, e1, e2⟩ := ch p' cv z
        exact ⟨c0, e1, keep _ _ (fun y => LamX.codeO_ne ps (by rw [y, hp] at e2; exact (Option.some.inj e2).symm)) e2⟩
      · exact ⟨c', z, upd_same⟩
    · have n1 : h'.objs.size ≠ c' := fun z => Nat.lt_irrefl _ (z ▸ lt)
      have n2 : h'.objs.size ≠ P := fun z => Nat.not_lt.mpr big (z ▸ Heap.lt_size ht)
      rw [upd_ne n1, upd_ne n2]
      exact I.hok.fresh big
/-- the lambda is called, where it is handed in the slot i -/
theorem lam_act {σ0 : L2.St} {Ng : List Str} {qg a : Str} {sg sc : Scope} {g f c' : Addr} {cdg md tv : Value} {ar : Arguments} {bd : Expr} {k i : Nat} {pn : List (Addr × Obj)} {xe : Value → Shared → Prop} {W : WX} {E : XK} {tb : TE} {p1 p2 : Pos}
    (I : Inv X pins σ H s) (L : LamX.LamS X.env.scope sc) (at_f : s.heap.get? f = some (lamObj X ar bd sc md c' tv)) (nf : H f = none) (sep : f ∉ frs X.stack)
    (bnd : bindArgs (PySem.W.kla_fn "<lambda>" (X.env.qual ++ "<lambda>") ar bd sc (cloFrom X.env.cells sc.names []) md (.ref c') tv) ⟨[], []⟩ = pure []) (gd : X.A.guards = some [])
    (tk : Takes ((cxOf (L2.CX X.prog X.w) X.prog X.w X.K X.mg X.base Ng qg sg g cdg X.A X.stack s H E0).tr pn xe) W) (sub : ∀ cls d H', E cls d H' → W cls d σ0 H') (room : Room (k + 1) (X.A.deeper (envOfC qg sg s.heap.objs.size g cdg)))
    (body : ∀ (A : Around) (callers : List PySem.Env) (s : Shared) (H : Hp), A.guards = some [] → Room k (A.deeper (LamX.lamEnv X sc s.heap.objs.size f c')) → PE (LamX.lamCx X A callers s H E sc f c') bd tb)
    (hN : Ng[i]? = some a) (vis : Vis sg a) (nd : (a == ("__debug__" : Str)) = false) (nc : (a == ("__classdict__" : Str)) = false) :
    PE ((cxOf (L2.CX X.prog X.w) X.prog X.w X.K X.mg X.base Ng qg sg g cdg X.A X.stack s H E0).tr pn xe) (.Call (.Name a p1) [] [] p2) (fun σZ HZ Q => σZ = σ0 ∧ σ0[i]? = some (some (.ref f)) ∧ HZ c' = some (LamX.CodeO c' (X.env.qual ++ "<lambda>")) ∧ tb σ HZ Q) := by
  refine ⟨?_⟩
  rintro pz sz σZ HZ Q IZ ⟨rfl, slot, code, reads⟩
  have name := (pe_var (pos := p1) (i := i) hN vis nd nc).run pz sz σZ HZ (fun v H1 => v = .ref f ∧ H1 = HZ) IZ ⟨.ref f, slot, rfl, rfl⟩
  refine wpAny_Call_Name_kw (thn name ?_)
  rintro u s1 ⟨v, H1, I1, ru, ev, eh⟩
  subst ev
  rw [eh] at I1
  obtain rfl : u = Value.ref f := ru
  have still := I1.base.keep f _ at_f nf sep (fun z => nomatch (show f ∈ ([] : List Addr) from z))
  have un : Un (frs X.stack) [] H HZ s.heap s1.heap := I1.base
  obtain ⟨⟨oc, vs, t, hoc, dat, nm⟩, _, _⟩ := I1.hok c' _ code
  refine PySem.W.callWith_F0 ⟨_, _, _, _, still⟩ ?_
  have run : codeAny (model X.prog X.w) (X.A.deeper (envOfC qg sg s.heap.objs.size g cdg)) (.call (.ref f) ⟨[], []⟩) (CR (L2.CX X.prog X.w) (envOfC qg sg s.heap.objs.size g cdg :: X.stack) X.prog X.w HZ s1 Q E) s1 := by
    refine PySem.W.kla_callFunE room.depth still rfl L.co L.gen rfl ⟨c', oc, vs, t, rfl, hoc, dat, nm⟩ ?_
    rw [bnd]
    refine wpAny_pure (wpAny_newFunctionEnv (fun y hy => (L.own y hy).2) (fun y hy => absurd hy (by simp)) (fun h₁ ns new => ⟨I1.nolimit.fresh _ new, ?_⟩) L.kind)
    show codeAny _ _ (.expr bd (LamX.lamEnv X sc s1.heap.objs.size f c')) _ _
    have same : ∀ b o, s1.heap.get? b = some o → h₁.get? b = some o := fun b o e => new.extBut b o (Nat.ne_of_lt (Heap.lt_size e)) (Heap.get?_push_of_some _ e)
    have J := LamX.lam_start2 (A := X.A.deeper (envOfC qg sg s.heap.objs.size g cdg)) (outer := envOfC qg sg s.heap.objs.size g cdg :: X.stack) (E := E) (f := f) (c' := c') (tk := s1.toks + ([] : List (Str × Value)).length) I L I1.env0 room.hd un ns same
    have done := (body (X.A.deeper (envOfC qg sg s.heap.objs.size g cdg)) _ s1 HZ gd (room.deeper _)).run [] _ _ HZ Q J reads
    refine PySem.W.kla_codeExpr (wpAny_mono done (fun v s' q => ?_) fun _ _ q => q)
    obtain ⟨w', H', J', rv, q⟩ := q
    exact ⟨w', H', J'.os, J'.bare, J'.base, J'.hok, rv, q⟩
  refine wpAny_call (codeAny_mono run fun r s' q => ?_)
  match r, q with
  | .error e, q => exact tk e s' (XE.of_call I1 (fun cls d H' h => sub cls d H' h) q)
  | .ok (.ret u), q => exact I1.after q
  | .ok .next, q => exact q.elim
  | .ok .brk, q => exact q.elim
  | .ok .cont, q => exact q.elim
end
end QD
/-! a def that is handed the exception that is handled -/
namespace QD
open PySem PySem.Spec PyProof.Rows L2
/-! ### how often a truth value stands in a list, and where -/
section
variable {X : Cx}
def rCntF (K : PySem.W.Frag) : V → List V → Hp → VK → Prop := fun x xs H Q => ∃ (a : Addr) (ys : List V) (y : V), x = .ref a ∧ xs = [y] ∧ SqL K H a ys ∧ flatV y = true ∧ ys.all flatV = true ∧ Q (.int ((ys.countP fun z => eqV z y : Nat) : Int)) H
theorem cnt_u {y : V} : ∀ {ys : List V} {us : List Value}, Vals ys us → ys.all flatV = true → us.countP (eqU y) = ys.countP fun z => eqV z y
  | _, _, .nil, _ => rfl
  | z :: ys, u :: us, .cons r t, f => by
    rw [List.all_cons, Bool.and_eq_true] at f
    rw [List.countP_cons, List.countP_cons, cnt_u t f.2, eqU_of r f.1]
theorem mt_cntF : MtR X "list.count" (rCntF X.K) := by
  rintro pins s σ H x xs v us Q I rx rxs ⟨a, ys, y, rfl, rfl, hs, fy, fys, q⟩
  cases rx
  obtain ⟨uy, rfl, ry⟩ := rxs.one
  obtain ⟨its, rv, ⟨⟨cls, dd, data, sl⟩, n, ho, hc, hdn, hd⟩, hlen⟩ := I.list hs
  dsimp only at hc hd
  subst hc hd
  have ans : Value.int ((its.toArray.toList.countP (eqU y) : Nat) : Int) s.toks = Value.int ((ys.countP (fun z => eqV z y) : Nat) : Int) s.toks := by
    rw [show its.toArray.toList = its from rfl, cnt_u rv fys]
  refine call_meets PySem.F.slot_list_count ⟨_, ho, rfl⟩ PySem.F.entry_list_count (PySem.F.args_list_count_2 _ _) (SeqAt.list_countAt a its.toArray n dd sl uy (eqU y)) ⟨ho, fun u' hu' => mem_eqAt ry fy rv fys u' (by simpa using hu'), ?_⟩
  exact ⟨.int _, H, I.tok _, ⟨s.toks, ans⟩, q⟩
end
section
variable {X : Cx} {E : XK} {o e a : Expr} {te : DE} {pos p p2 apos : Pos} {n : Nat}
theorem bls_rep2 {K : PySem.W.Frag} {G : Gm} {H : Hp} : ∀ {vs : List V} {bs : List Bool}, RepL K G H vs (bs.map D.bl) → vs = bs.map V.bl
  | _, [], .nil => rfl
  | _, b :: bs, .cons r l => by cases r; rw [bls_rep2 l]; rfl
theorem bls_flat2 (bs : List Bool) : (bs.map V.bl).all flatV = true := by
  rw [List.all_eq_true]
  intro v hv
  obtain ⟨b, _, rfl⟩ := List.mem_map.mp hv
  rfl
def dCntT (te : DE) : DE := fun env q x => te env (fun r => ∃ bs : List Bool, r.d = .lst (bs.map .bl) ∧ q (.val (.int ((bs.countP id : Nat) : Int)))) x
theorem pd_cntT {j} (he : PD X E o te) (hbase : attributeBase o "count" X.env (eval o X.env) = eval o X.env := by rfl) (hline : (apos.endLine == pos.line) = true := by rfl)
    (hs : starEach [.Constant (.bool true) j p] X.env = (false, eval (.Constant (.bool true) j p) X.env) :: starEach [] X.env := by rfl) :
    PD X E (.Call (.Attribute o "count" apos) [.Constant (.bool true) j p] [] pos) (dCntT te) := by
  refine PE.wk (pe_bm PySem.F.plainAttrs_list PySem.F.slot_list_count PySem.F.type_list_count mt_cntF (show PE X o (lift X.K E te) from he) (pa_cons pe_bl pa_nil hs) hbase (by rfl) hline hs) ?_
  rintro σ H Q ⟨G0, H0, G, env, q, x, e, h, hq, hx⟩
  refine ⟨G0, H0, G, env, _, x, e, h, ?_, hx⟩
  rintro r v G' H' ⟨bs, eb, qb⟩ k g rr
  obtain ⟨b, vs, rfl, hl, _, rl⟩ := rr.lst eb
  have ev := bls_rep2 rl
  subst ev
  refine ⟨.inl ⟨rfl, _, .inl (.inl hl)⟩, b, bs.map V.bl, .bl true, rfl, rfl, .inl (.inl hl), rfl, bls_flat2 bs, ?_⟩
  have ec : (bs.map V.bl).countP (fun z => eqV z (.bl true)) = bs.countP id := by
    rw [List.countP_map]
    congr 1
    funext c
    cases c <;> rfl
  rw [ec]
  exact hq _ _ G' H' qb k g (Rep.int _)
def dIdxT (te : DE) : DE := fun env q x => te env (fun r => ∃ (bs : List Bool) (j : Nat), r.d = .lst (bs.map .bl) ∧ bs[j]? = some true ∧ (∀ m < j, bs[m]? = some false) ∧ q (.val (.int (j : Int)))) x
theorem pd_idxT {j} (he : PD X E o te) (hbase : attributeBase o "index" X.env (eval o X.env) = eval o X.env := by rfl) (hline : (apos.endLine == pos.line) = true := by rfl)
    (hs : starEach [.Constant (.bool true) j p] X.env = (false, eval (.Constant (.bool true) j p) X.env) :: starEach [] X.env := by rfl) :
    PD X E (.Call (.Attribute o "index" apos) [.Constant (.bool true) j p] [] pos) (dIdxT te) := by
  refine PE.wk (pe_bm PySem.F.plainAttrs_list PySem.F.slot_list_index PySem.F.type_list_index mt_index (show PE X o (lift X.K E te) from he) (pa_cons pe_bl pa_nil hs) hbase (by rfl) hline hs) ?_
  rintro σ H Q ⟨G0, H0, G, env, q, x, e, h, hq, hx⟩
  refine ⟨G0, H0, G, env, _, x, e, h, ?_, hx⟩
  rintro r v G' H' ⟨bs, i, eb, hi, hm, qb⟩ k g rr
  obtain ⟨b, vs, rfl, hl, _, rl⟩ := rr.lst eb
  have ev := bls_rep2 rl
  subst ev
  refine ⟨.inl ⟨rfl, _, .inl (.inl hl)⟩, b, bs.map V.bl, .bl true, i, .bl true, rfl, rfl, .inl (.inl hl), rfl, bls_flat2 bs, by rw [List.getElem?_map, hi]; rfl, rfl, fun m z lt ez => ?_, hq _ _ G' H' qb k g (Rep.int _)⟩
  rw [List.getElem?_map, hm m lt] at ez
  cases ez
  rfl
end
/-! ### what is asked of the exception -/
/-- isinstance, of what the context holds -/
def rIsP (K : PySem.W.Frag) (C a : Addr) (d : Option Addr) : List V → Hp → VK → Prop := fun xs H Q => (∀ dd, d = some dd → ∃ fs, H dd = some (.xd fs)) ∧ ∃ (c : V) (b : Bool), xs = [.ref a, c] ∧ Q (.bl b) H ∧
  ((∃ cv, ClsV c cv ∧ PySem.W.kitOne K (.ref C) cv = some b) ∨ ∃ (tp : Addr) (cs : List V) (us : List Value), c = .ref tp ∧ H tp = some (.tup cs) ∧ Paired ClsV cs us ∧ PySem.W.kitAny K (.ref C) us = some b)
theorem inst_p {X : Cx} {a C : Addr} {oe : Obj} {d : Option Addr} {pins : List (Addr × Obj)} {σ : L2.St} {H : Hp} {s : Shared} (hp : (a, oe) ∈ X.pn) (hz : Zc (.ref C) d oe) (hf : ∃ vs, oe.data = .fields vs) (I : Inv X pins σ H s) (hd : ∀ dd, d = some dd → ∃ fs, H dd = some (.xd fs)) :
    ∃ od, PySem.W.InstAt s.heap a oe C od ∧ ∀ dd, d = some dd → ∃ oo, od = some oo ∧ s.heap.get? dd = some oo := by
  obtain ⟨vs, hv⟩ := hf
  have nc : PySem.W.notCls oe = true := by unfold PySem.W.notCls; rw [hv]
  have at_ := (I.pin (a, oe) (List.mem_append_left _ hp)).1
  cases d with
  | none => exact ⟨none, ⟨at_, hz.1, nc, by rw [hz.2]; trivial⟩, fun dd z => (nomatch z)⟩
  | some dd =>
    obtain ⟨fs, e⟩ := hd dd rfl
    obtain ⟨mA, ns, _⟩ := (show ObjOk X.prog X.w H s.heap dd (.xd fs) from I.hok dd _ e)
    obtain ⟨oo, ho, _⟩ := lookIn_ns ns
    exact ⟨some oo, ⟨at_, hz.1, nc, by rw [hz.2]; exact ho⟩, fun d2 z => ⟨oo, rfl, by cases z; exact ho⟩⟩
theorem call_isP {X : Cx} {a C : Addr} {oe : Obj} {d : Option Addr} (hp : (a, oe) ∈ X.pn) (hz : Zc (.ref C) d oe) (hf : ∃ vs, oe.data = .fields vs) (T : L2.ExcC X.K C) : CallR X (.builtin "isinstance") (rIsP X.K C a d) := by
  rintro pins s σ H xs us Q I r ⟨hd, c, b, rfl, q, alt⟩
  obtain ⟨u1, u2, rfl, r1, r2⟩ := vals2 r
  cases (show u1 = Value.ref a from r1)
  obtain ⟨od, J, _⟩ := inst_p hp hz hf I hd
  have cl : (PySem.W.clsIn X.K C).isSome = true := by
    obtain ⟨cd, hc, _⟩ := PySem.W.any_some T.hd
    rw [hc]; rfl
  have Z := PySem.W.kitx_exc (x := a) (ox := oe) (od := od) cl T.hg T.hk T.hs T.ha T.hn T.ht T.hm
  rcases alt with ⟨cv, k, e⟩ | ⟨tp, cs, ws, rfl, hT, k, e⟩
  · have e2 := k.eq r2
    subst e2
    exact PySem.W.kia_one Z I.kIn J e (fun z => nomatch z) fun tk => ⟨.bl b, H, I.tok tk, rfl, q⟩
  · cases (show u2 = Value.ref tp from r2)
    obtain ⟨_, its, rv, ⟨oc, od', dt, sl⟩, h1, h2, n, h3⟩ := (show ObjOk X.prog X.w H s.heap tp (.tup cs) from I.hok tp _ hT)
    have e3 := ClsV.all k rv
    dsimp only at h2 h3
    subst e3 h2 h3
    exact PySem.W.kia_tup Z I.kIn J h1 e (fun z => nomatch z) fun tk => ⟨.bl b, H, I.tok tk, rfl, q⟩
theorem exo_rep {K : PySem.W.Frag} {G : Gm} {H : Hp} {v : V} {a : Addr} {d : Option Addr} {ns : List Str} {ds : List D} (r : RRep K G H v (.val (.exo a d ns ds))) : v = .ref a ∧ ∀ dd, d = some dd → ∃ vs, ns.length = vs.length ∧ H dd = some (.xd (ns.zip vs)) ∧ RepL K G H vs ds := by
  cases (show Rep K G H v (.exo a d ns ds) from r) with
  | exo0 => exact ⟨rfl, fun dd z => (nomatch z)⟩
  | exo g h n l => exact ⟨rfl, fun d2 z => by cases z; exact ⟨_, n, h, l⟩⟩
section
variable {X : Cx} {E : XK} {o e : Expr} {te : DE} {pos p p2 apos : Pos} {n : Nat} {a C : Addr} {oe : Obj} {d : Option Addr}
def dIsP (a : Addr) (d : Option Addr) (b : Bool) (te : DE) : DE := fun env q x => te env (fun r => (∃ ns ds, r = .val (.exo a d ns ds)) ∧ q (.val (.bl b))) x
theorem pd_isP {D : Addr} {y : Str} {b : Bool} (hp : (a, oe) ∈ X.pn) (hz : Zc (.ref C) d oe) (hf : ∃ vs, oe.data = .fields vs) (T : L2.ExcC X.K C) (hm : X.mg "isinstance" = none) (hy : X.mg y = some (.ref D)) (hk : PySem.W.kitOne X.K (.ref C) (.ref D) = some b) (he : PD X E e te) (hg : Gl X "isinstance" := by rfl) (hg2 : Gl X y := by rfl)
    (hdb : (y == ("__debug__" : Str)) = false := by decide) (hv : bootBuiltins "isinstance" = some (.builtin "isinstance") := by decide +kernel)
    (hs1 : starEach [e, Expr.Name y p2] X.env = (false, eval e X.env) :: starEach [Expr.Name y p2] X.env := by rfl) :
    PD X E (.Call (.Name "isinstance" p) [e, .Name y p2] [] pos) (dIsP a d b te) := by
  have h2 : PE X (.Name y p2) (tC (.ref D)) := pe_glob hg2 hy (show RelV (.ref D) (.ref D) from rfl) hdb
  refine PE.wk (pe_callB (call_isP hp hz hf T) hg hm hv (pa_cons (show PE X e (lift X.K E te) from he) (pa_cons h2 pa_nil) hs1) (he := hs1)) ?_
  rintro σ H Q ⟨G0, H0, G, env, q, x, e, h, hq, hx⟩
  refine ⟨G0, H0, G, env, _, x, e, h, ?_, hx⟩
  rintro r v G' H' ⟨⟨ns, ds, rfl⟩, qb⟩ kk g rr
  obtain ⟨rfl, hd⟩ := exo_rep rr
  refine ⟨fun dd z => ?_, .ref D, b, rfl, hq _ _ G' H' qb kk g (Rep.bl _), .inl ⟨.ref D, .own D, hk⟩⟩
  obtain ⟨vs, _, z2, _⟩ := hd dd z
  exact ⟨_, z2⟩
theorem pd_isPB {T' : String} {y : Str} {b : Bool} (hp : (a, oe) ∈ X.pn) (hz : Zc (.ref C) d oe) (hf : ∃ vs, oe.data = .fields vs) (T : L2.ExcC X.K C) (hm : X.mg "isinstance" = none) (hy : X.mg y = none) (hb : bootBuiltins y = some (.type T')) (hk : PySem.W.kitOne X.K (.ref C) (.type T') = some b) (he : PD X E e te) (hg : Gl X "isinstance" := by rfl) (hg2 : Gl X y := by rfl)
    (hn : y ≠ "__name__" := by decide) (hdb : (y == ("__debug__" : Str)) = false := by decide) (hv : bootBuiltins "isinstance" = some (.builtin "isinstance") := by decide +kernel)
    (hs1 : starEach [e, Expr.Name y p2] X.env = (false, eval e X.env) :: starEach [Expr.Name y p2] X.env := by rfl) :
    PD X E (.Call (.Name "isinstance" p) [e, .Name y p2] [] pos) (dIsP a d b te) := by
  have h2 : PE X (.Name y p2) (tC (.ty T')) := pe_bltn hg2 hy hb rfl hn hdb
  refine PE.wk (pe_callB (call_isP hp hz hf T) hg hm hv (pa_cons (show PE X e (lift X.K E te) from he) (pa_cons h2 pa_nil) hs1) (he := hs1)) ?_
  rintro σ H Q ⟨G0, H0, G, env, q, x, e, h, hq, hx⟩
  refine ⟨G0, H0, G, env, _, x, e, h, ?_, hx⟩
  rintro r v G' H' ⟨⟨ns, ds, rfl⟩, qb⟩ kk g rr
  obtain ⟨rfl, hd⟩ := exo_rep rr
  refine ⟨fun dd z => ?_, .ty T', b, rfl, hq _ _ G' H' qb kk g (Rep.bl _), .inl ⟨.type T', .ty T', hk⟩⟩
  obtain ⟨vs, _, z2, _⟩ := hd dd z
  exact ⟨_, z2⟩
/-- a display of built-in classes -/
def BltTup (X : Cx) (e : Expr) (ts : List String) : Prop := PE X e (fun σ H Q => ∀ p, H p = none → Q (.ref p) (upd H p (.tup (ts.map V.ty))))
def BltArgs (X : Cx) (es : List Expr) (ts : List String) : Prop := PA X es (fun σ H Q => Q (ts.map V.ty) H)
theorem blt_nil : BltArgs X [] [] := PA.wk pa_nil fun _ _ _ h => h
theorem blt_cons {y : Str} {t : String} {es : List Expr} {ts : List String} (hy : X.mg y = none) (hb : bootBuiltins y = some (.type t)) (hr : BltArgs X es ts) (hg2 : Gl X y := by rfl) (hn : y ≠ "__name__" := by decide) (hdb : (y == ("__debug__" : Str)) = false := by decide)
    (hs : starEach (Expr.Name y p2 :: es) X.env = (false, eval (Expr.Name y p2) X.env) :: starEach es X.env := by rfl) : BltArgs X (Expr.Name y p2 :: es) (t :: ts) :=
  PA.wk (pa_cons (pe_bltn hg2 hy hb (show RelV (.ty t) (.type t) from rfl) hn hdb) hr hs) fun _ _ _ h => h
theorem blt_tup {es : List Expr} {ts : List String} {j} (h : BltArgs X es ts) (hl : ts.length ≤ 9) : BltTup X (.Tuple es j pos) ts := by
  refine PE.wk (pe_tup h) fun σ H Q h => ⟨?_, h⟩
  rw [List.length_map, sizeLine_eq]; omega
theorem clsv_all (ts : List String) : Paired ClsV (ts.map V.ty) (ts.map Value.type) := by
  induction ts with
  | nil => exact .nil
  | cons t ts ih => exact .cons (.ty t) ih
theorem pd_isPT {ts : List String} {e2 : Expr} {b : Bool} (hp : (a, oe) ∈ X.pn) (hz : Zc (.ref C) d oe) (hf : ∃ vs, oe.data = .fields vs) (T : L2.ExcC X.K C) (hm : X.mg "isinstance" = none) (ht : BltTup X e2 ts) (hk : PySem.W.kitAny X.K (.ref C) (ts.map Value.type) = some b) (he : PD X E e te) (hg : Gl X "isinstance" := by rfl)
    (hv : bootBuiltins "isinstance" = some (.builtin "isinstance") := by decide +kernel) (hs1 : starEach [e, e2] X.env = (false, eval e X.env) :: starEach [e2] X.env := by rfl) (hs2 : starEach [e2] X.env = (false, eval e2 X.env) :: starEach [] X.env := by rfl)
    (hpl : (backTo pos (starEach [e2] X.env)).any (·.1) = false := by rfl) : PD X E (.Call (.Name "isinstance" p) [e, e2] [] pos) (dIsP a d b te) := by
  refine PE.wk (pe_callB (call_isP hp hz hf T) hg hm hv (pa_cons (show PE X e (lift X.K E te) from he) (pa_cons ht pa_nil hs2) hs1) (by decide) (by decide) hs1 hpl) ?_
  rintro σ H Q ⟨G0, H0, G, env, q, x, ev, h, hq, hx⟩
  refine ⟨G0, H0, G, env, _, x, ev, h, ?_, hx⟩
  rintro r v G' H' ⟨⟨ns, ds, rfl⟩, qb⟩ kk g rr tp htp
  obtain ⟨rfl, hd⟩ := exo_rep rr
  refine ⟨fun dd z => ?_, .ref tp, b, rfl, hq _ _ G' _ qb (kk.trans ev.gok (Keep.laid htp)) (g.laid htp) (Rep.bl _), .inr ⟨tp, _, _, rfl, upd_same, clsv_all ts, hk⟩⟩
  obtain ⟨vs, _, z2, _⟩ := hd dd z
  exact ⟨_, by rw [upd_ne (ne_of_none z2 htp)]; exact z2⟩
/-- a field of it -/
def dXf (a : Addr) (d : Option Addr) (f : Str) (te : DE) : DE := fun env q x => te env (fun r => ∃ ns ds v, r = .val (.exo a d ns ds) ∧ (ns.zip ds).lookup f = some v ∧ q (.val v)) x
theorem zip_look {K : PySem.W.Frag} {G : Gm} {H : Hp} {f : Str} {x : D} : ∀ {ns : List Str} {vs : List V} {ds : List D}, ns.length = vs.length → RepL K G H vs ds → (ns.zip ds).lookup f = some x → ∃ v, (ns.zip vs).lookup f = some v ∧ Rep K G H v x
  | [], _, _, _, _, z => by simp at z
  | n :: ns, _, _, h, .nil, z => by simp at h
  | n :: ns, v :: vs, y :: ds, h, .cons r l, z => by
    simp only [List.zip_cons_cons, List.lookup_cons] at z ⊢
    cases c : f == n with
    | true => rw [c] at z; cases z; exact ⟨v, rfl, r⟩
    | false =>
      rw [c] at z
      exact zip_look (by simpa using h) l z
theorem pd_xf {f : Str} (hp : (a, oe) ∈ X.pn) (hz : Zc (.ref C) d oe) (hf : ∃ vs, oe.data = .fields vs) (T : XfC X.K C) (hno : PySem.W.findIn X.K (.ref C) f = some none) (he : PD X E e te) (hb : attributeBase e f X.env (eval e X.env) = eval e X.env := by rfl) : PD X E (.Attribute e f pos) (dXf a d f te) := by
  refine ⟨fun pins s σ H Q I h => ?_⟩
  obtain ⟨G0, H0, G, env, q, x, ev, h, hq, hx⟩ := h
  refine attr_of hb (thn ((show PE X e (lift X.K E te) from he).run pins s σ H (fun v H1 => ∃ ns ds y G', v = .ref a ∧ (ns.zip ds).lookup f = some y ∧ q (.val y) ∧ Keep G G' H H1 ∧ GOk G' H1 ∧ RRep X.K G' H1 v (.val (.exo a d ns ds))) I ⟨G0, H0, G, env, _, x, ev, h, ?_, hx⟩) ?_)
  · rintro r v G' H' ⟨ns, ds, y, rfl, l, qy⟩ k g rr
    exact ⟨ns, ds, y, G', (exo_rep rr).1, l, qy, k, g, rr⟩
  · rintro u s1 ⟨v, H1, I1, ru, ns, ds, y, G', rfl, l, qy, k, g, rr⟩
    obtain rfl : u = Value.ref a := ru
    obtain ⟨_, hd⟩ := exo_rep rr
    obtain ⟨od, J, hod⟩ := inst_p hp hz hf I1 fun dd z => (let ⟨vs, _, z2, _⟩ := hd dd z; ⟨_, z2⟩)
    cases d with
    | none =>
      cases (show Rep X.K G' H1 (.ref a) (.exo a none ns ds) from rr)
      simp at l
    | some dd =>
      obtain ⟨vs, hl, e1, rl⟩ := hd dd rfl
      obtain ⟨oo, rfl, ho⟩ := hod dd rfl
      obtain ⟨w, lw, rw'⟩ := zip_look hl rl l
      obtain ⟨mA, ns', hr⟩ := (show ObjOk X.prog X.w H1 s1.heap dd (.xd (ns.zip vs)) from I1.hok dd _ e1)
      obtain ⟨od, ho', hlk⟩ := lookIn_ns ns'
      rw [ho] at ho'
      cases ho'
      obtain ⟨u, hu, ru⟩ := RelO.some_of (v := w) (o := mA f) (by rw [← lw]; exact hr f)
      exact HandSPX.exc_get I1.kIn J T.ga T.gg T.exC (PySem.W.findObj_own T.hdC hno rfl (by rw [hlk, hu])) (handed_of ru) ⟨w, H1, I1.tok _, ru, hq _ _ G' H1 qy k g rw'⟩
end
end QD
/-! the def that is handed the exception; the def that calls the lambda in a try; the call of both as one expression -/
namespace QD
open PySem PySem.Spec PyProof.Rows L2
/-- the context of a def that is handed p's exception, of the class C -/
structure BW (X : Cx) (k : Nat) (a C : Addr) (oe : Obj) (d : Option Addr) : Prop where
  nd : X.N.Nodup
  room : L2H.RoomH k X.A
  pin : (a, oe) ∈ X.pn
  cls : Zc (.ref C) d oe
  fld : ∃ vs, oe.data = .fields vs
theorem BW.u64 {X : Cx} {k : Nat} {a C : Addr} {oe : Obj} {d : Option Addr} (B : BW X k a C oe d) : X.A.units + 64 < cLine := by have := B.room.un; omega
theorem BW.u65 {X : Cx} {k : Nat} {a C : Addr} {oe : Obj} {d : Option Addr} (B : BW X k a C oe d) : X.A.units + 65 < cLine := by have := B.room.un; omega
abbrev WSp := Addr → Addr → Option Addr → Hp → VK → Prop
structure FnW (P : Program) (w : World) (K : PySem.W.Frag) (mg : Str → Option Value) (base : Heap) (k : Nat) (f : Addr) (fd : FuncData) (y : Str) (sp : WSp) : Prop where
  run : ∀ (A : Around) (callers : List PySem.Env) (s : Shared) (H : Hp) (Q : VK) (p : Addr × Obj) (C : Addr) (d : Option Addr), L2H.RoomH k A → L2H.PinOk callers H s p → Zc (.ref C) d p.2 → (∃ vs, p.2.data = .fields vs) →
    Env0 P w K mg base A callers s H → BindsTo s fd ⟨[.ref p.1], []⟩ ([y].zip [.ref p.1]) → sp p.1 C d H Q → codeAny (model P w) A (.call (.ref f) ⟨[.ref p.1], []⟩) (CR (L2.CX P w) callers P w H s Q E0) s
theorem fnW_of {P : Program} {w : World} {K : PySem.W.Frag} {mg : Str → Option Value} {base : Heap} {x qual y : Str} {st : Stmt} {f : Addr} {fd : FuncData} {N : List Str} {k : Nat} {sp : WSp} (F : Fun K x qual st f fd) (S : FnScope N [y] (defScope st))
    (body : ∀ (cdv : Value) (A : Around) (callers : List PySem.Env) (s : Shared) (H : Hp) (Q : VK) (p : Addr × Obj) (C : Addr) (d : Option Addr), BW (L2H.cxH (L2.CX P w) P w K mg base N qual (defScope st) f cdv A callers s H E0 p) k p.1 C p.2 d → sp p.1 C d H Q →
      ∃ t, PSs (L2H.cxH (L2.CX P w) P w K mg base N qual (defScope st) f cdv A callers s H E0 p) (defBody st) t ∧ t { nx := fun _ H' => Q .non H', rt := Q } (L2.start N [.ref p.1]) H) : FnW P w K mg base (k + 1) f fd y sp := by
  obtain ⟨oc, od, kV, doc, pm, an, cdv, ct, osl, rfl, lk, hcd⟩ := F.ex
  refine ⟨fun A l s H Q p C d hr hpin hz hf e0 hb hsp => ?_⟩
  have inK : K.In s.heap := e0.mod.kin.keeps fun b o q => (e0.bs b o q).1
  have noLim : s.heap.NoLimit := e0.mod.nolimit.keeps fun b o q => (e0.bs b o q).1
  have kinds : ∀ z ∈ [y].zip [Value.ref p.1], (defScope st).names.lookup z.1 = some .local ∨ ((defScope st).names.lookup z.1 = some .cell ∧ ((cellsFrom (s.heap.objs.size + 1) (defScope st).names []).lookup z.1).isSome = true) := by
    rintro ⟨n, v⟩ hy
    rcases S.par n (List.of_mem_zip hy).1 with q | q
    · exact .inl q
    · exact .inr ⟨q, PySem.W.cellsFrom_some _ _ _ (.inl q)⟩
  refine codeAny_call_function hr.depth (inK _ _ lk) rfl S.co S.gen rfl (PySem.W.codeRec_of inK hcd) (hb _ _ _ _ ?_)
  refine wpAny_newFunctionEnv_cells S.kind kinds fun env he s2 entered => ?_
  subst he
  refine ⟨noLim.keeps entered.toInCall.keep, codeAny_func ?_⟩
  obtain ⟨t, ht, q⟩ := body cdv A l s H Q p C d ⟨S.nd, hr.deeper _, List.mem_singleton.mpr rfl, hz, hf⟩ hsp
  have I := L2H.inv_startH (CX := L2.CX P w) (qual := qual) (f := f) (cd := cdv) (E := E0) (vs := [.ref p.1]) S hpin e0 rfl (.cons rfl .nil) entered
  have out : ∀ {σ' : L2.St} {H' : Hp} {s' : Shared} {v : V} {u : Value}, Inv (L2H.cxH (L2.CX P w) P w K mg base N qual (defScope st) f cdv A l s H E0 p) [] σ' H' s' → RelV v u → Q v H' → CE l P w H s Q u s' := by
    intro σ' H' s' v u J r1 r2
    exact ⟨v, H', J.os, J.bare, J.base, J.hok, r1, r2⟩
  refine wpAny_mono (ht.run [] s2 _ H _ I q) (fun fl s' hs => ?_) fun _ _ hs => hs
  cases fl with
  | ret u => obtain ⟨v, σ', H', J, r1, r2⟩ := hs; exact out J r1 r2
  | next => obtain ⟨σ', H', J, r2⟩ := hs; exact out (v := .non) (u := .none) J rfl r2
  | brk => obtain ⟨_, _, _, z⟩ := hs; exact z.elim
  | cont => obtain ⟨_, _, _, z⟩ := hs; exact z.elim
/-! ### over data -/
def xns (e : Exn) : List Str := match e.fs with
  | none => []
  | some fs => fs.map (·.1)
def xds (e : Exn) : List D := match e.fs with
  | none => []
  | some fs => fs.map (·.2)
/-- what the word for an exception is, and what its class answers -/
abbrev WRel := Exn → (Str → Bool) → D → Prop
def spW (K : PySem.W.Frag) (W : WRel) : WSp := fun a C d H Q => ∃ e bs w G, C = e.C ∧ W e bs w ∧ GOk G H ∧ Rep K G H (.ref a) (.exo a d (xns e) (xds e)) ∧ ∀ v G' H', Keep G G' H H' → GOk G' H' → Rep K G' H' v w → Q v H'
/-- what the def asks of a class -/
structure KnX (K : PySem.W.Frag) (mg : Str → Option Value) (bs : Str → Bool) (C : Addr) : Prop where
  ex : L2.ExcC K C
  own : ∀ n ∈ (["NoCourse", "NoItem", "NoSet", "NoState", "NoOrder", "NoAnswers", "NoDurations", "NoNames", "NoPlace", "NoDeed", "OtherCourse", "Clash", "TooMany", "BadText"] : List Str), ∃ D, mg n = some (.ref D) ∧ PySem.W.kitOne K (.ref C) (.ref D) = some (bs n)
  val : PySem.W.kitOne K (.ref C) (.type "ValueError") = some (bs "ValueError")
  few : PySem.W.kitAny K (.ref C) ((["LookupError", "TypeError", "ArithmeticError", "RuntimeError"] : List String).map Value.type) = some (bs "LookupError")
  xf : XfC K C
  fld : ∀ f ∈ (["item", "noes", "limit", "line"] : List Str), PySem.W.findIn K (.ref C) f = some none
structure TxE (mg : Str → Option Value) : Prop where
  ValueError : mg "ValueError" = none
  LookupError : mg "LookupError" = none
  TypeError : mg "TypeError" = none
  ArithmeticError : mg "ArithmeticError" = none
  RuntimeError : mg "RuntimeError" = none
theorem def_okW {P : Program} {w : World} {K : PySem.W.Frag} {mg : Str → Option Value} {base : Heap} {x qual y : Str} {st : Stmt} {f : Addr} {fd : FuncData} {N : List Str} {k : Nat} {W : WRel} {t : Addr → Option Addr → (Str → Bool) → DS} (fn : Fun K x qual st f fd) (S : FnScope N [y] (defScope st))
    (kn : ∀ e bs w, W e bs w → KnX K mg bs e.C)
    (body : ∀ (cdv : Value) (A : Around) (callers : List PySem.Env) (s : Shared) (H : Hp) (p : Addr × Obj) (C : Addr) (d : Option Addr) (bs : Str → Bool), KnX K mg bs C → BW (L2H.cxH (L2.CX P w) P w K mg base N qual (defScope st) f cdv A callers s H E0 p) k p.1 C p.2 d →
      PDSs (L2H.cxH (L2.CX P w) P w K mg base N qual (defScope st) f cdv A callers s H E0 p) E0 (defBody st) (t p.1 d bs))
    (pure : ∀ e bs w, W e bs w → ∀ a d, t a d bs { nx := fun _ => False, rt := fun r => r = w, ex := noX } (startE N.length [.exo a d (xns e) (xds e)])) : FnW P w K mg base (k + 1) f fd y (spW K W) := by
  refine fnW_of fn S ?_
  rintro cdv A l s H Q p C d B ⟨e, bs, wd, G, rfl, hw, g, r, hq⟩
  refine ⟨_, body cdv A l s H p e.C d bs (kn _ _ _ hw) B, G, ⟨H, []⟩, G, startE N.length [.exo p.1 d (xns e) (xds e)], _, startE_ok (vs := [.ref p.1]) g (.cons r .nil), pure e bs wd hw p.1 d, ?_, ?_, fun _ _ _ _ z => z.elim, fun _ _ _ _ z => z.elim, XOk.noX⟩
  · intro env' G' σ' H' z
    exact z.elim
  · rintro d' v G' H' rfl k' g' r'
    exact hq v G' H' k' g' r'
/-! ### the call of such a def in the suite -/
structure CalW (P : Program) (w : World) (K : PySem.W.Frag) (mg : Str → Option Value) (base : Heap) (k : Nat) (x : Str) (W : WRel) : Prop where
  ex : ∃ f fd y, FnW P w K mg base k f fd y (spW K W) ∧ mg x = some (.ref f) ∧ PySem.W.keepIn K (.ref f) = true ∧ Binds K fd [y] []
theorem pe_word {X : Cx} {k i : Nat} {x n : Str} {W : WRel} {a : Addr} {oe : Obj} {cls : Value} {d : Option Addr} {p p1 pos : Pos} (c : CalW X.prog X.w X.K X.mg X.base k x W) (room : L2H.RoomH k X.A) (hp : (a, oe) ∈ X.pn) (hz : Zc cls d oe) (hf : ∃ vs, oe.data = .fields vs) (hg : Gl X x) (hi : X.N[i]? = some n) (hv : Vis X.env.scope n)
    (hdb : (x == ("__debug__" : Str)) = false) (nd : (n == ("__debug__" : Str)) = false) (nc : (n == ("__classdict__" : Str)) = false) :
    PE X (.Call (.Name x p) [.Name n p1] [] pos) (fun σ H Q => σ[i]? = some (some (.ref a)) ∧ ∃ C, cls = .ref C ∧ spW X.K W a C d H Q) := by
  obtain ⟨f, fd, y, F, hm, kp, hb⟩ := c.ex
  refine ⟨fun pins s σ H Q I h => ?_⟩
  obtain ⟨slot, C, rfl, hs⟩ := h
  have arg := (pa_cons (X := X) (es := []) (pe_var (pos := p1) hi hv nd nc) pa_nil).run pos pins s σ H (fun vs H1 => vs = [.ref a] ∧ H1 = H) I ⟨.ref a, slot, rfl, rfl⟩
  refine wpAny_Call_Name_kw (ld_glob I hg hm (PySem.W.callWith_K (h₀ := X.base) I.ok.mod.kin kp (thn arg ?_) rfl rfl) hdb)
  rintro us s1 ⟨vs, H1, I1, r, rfl, rfl⟩
  refine ⟨I1.kIn, ?_⟩
  obtain ⟨u, rfl, ru⟩ := r.one
  obtain rfl : u = Value.ref a := ru
  have at_ := I1.pin (a, oe) (List.mem_append_left _ hp)
  have pin : L2H.PinOk X.stack H1 s1 (a, oe) := ⟨at_.1, at_.2.1, fun hm => (List.mem_cons.mp (I1.stkSub a hm)).elim at_.2.2.1 at_.2.2.2.1, at_.2.2.2.2⟩
  have bnd := hb s1 [.ref a] I1.kIn rfl
  have run := F.run X.A X.stack s1 H1 Q (a, oe) C d room pin hz hf I1.env0 bnd hs
  refine wpAny_call (codeAny_mono run fun res s' q => ?_)
  match res, q with
  | .error ex, ⟨_, _, _, _, _, _, _, _, _, _, _, _, z⟩ => exact z.elim
  | .ok (.ret u), q => exact I1.after q
  | .ok .next, z => exact z.elim
  | .ok .brk, z => exact z.elim
  | .ok .cont, z => exact z.elim
end QD
/-! what a def says of a lambda's call: the value, or the word for the exception -/
namespace QD
open PySem PySem.Spec PyProof.Rows L2
/-- the def that calls what it gets in a try -/
def toldBody (a e x wd : Str) (j j2 : Nat) (p1 p2 p3 p4 p5 p6 p7 p8 p9 p10 p11 p12 : Pos) : List Stmt :=
  [.Try [.Return (some (.Tuple [.Constant (.str "told") j p1, .Call (.Name a p2) [] [] p3] j2 p4)) p5] [.ExceptHandler (some (.Name x p6)) (some e) [.Return (some (.Call (.Name wd p7) [.Name e p8] [] p9)) p10] p11] [] [] p12]
structure SaidG (P : Program) (w : World) (K : PySem.W.Frag) (mg : Str → Option Value) (base : Heap) (k : Nat) (W : WRel) : Prop where
  ex : ∃ (st : Stmt) (g : Addr) (fd : FuncData) (CS : Addr) (j j2 : Nat) (p1 p2 p3 p4 p5 p6 p7 p8 p9 p10 p11 p12 : Pos),
    Fun K "_law_said" "_law_said" st g fd ∧ FnScope ["_law_call", "_law_e"] ["_law_call"] (defScope st) ∧ (defScope st).names.lookup ("LearnError" : Str) = some .globalImplicit ∧ (defScope st).names.lookup ("_law_word" : Str) = some .globalImplicit ∧ (defScope st).names.lookup ("_law_e" : Str) = some .local ∧
    defBody st = toldBody "_law_call" "_law_e" "LearnError" "_law_word" j j2 p1 p2 p3 p4 p5 p6 p7 p8 p9 p10 p11 p12 ∧ mg "_law_said" = some (.ref g) ∧ PySem.W.keepIn K (.ref g) = true ∧ Binds K fd ["_law_call"] [] ∧
    mg "LearnError" = some (.ref CS) ∧ CalW P w K mg base k "_law_word" W ∧ ∀ e bs wd, W e bs wd → PySem.W.exmOne K (.ref e.C) (.ref CS) = some true
/-- the lambda of a context -/
structure LamC (X : Cx) (ar : Arguments) (sc : Scope) (P : Addr) : Prop where
  tb : ∃ c, LamX.TabB X.base X.mg c P ∧ X.env.code = .ref c
  eq : X.env.qual ++ "<lambda>" = lamQ
  nodef : defaultsOf ar X.env = ([], [])
  L : LamX.LamS X.env.scope sc
abbrev lamX (X : Cx) (E : XK) (A : Around) (callers : List PySem.Env) (s : Shared) (H : Hp) (sc : Scope) (f c' : Addr) : Cx := LamX.lamCx X A callers s H E sc f c'
theorem lamX_ctx {X : Cx} {E : XK} {A : Around} {callers : List PySem.Env} {s : Shared} {H : Hp} {sc : Scope} {f c' : Addr} {k : Nat} (nd : X.N.Nodup) (gd : A.guards = some []) (room : Room k (A.deeper (LamX.lamEnv X sc s.heap.objs.size f c'))) : BC (lamX X E A callers s H sc f c') E k := by
  have tk : Takes (lamX X E A callers s H sc f c') (fun cls d _ H => E cls d H) := takes_of rfl rfl rfl rfl
  exact ⟨rfl, room, gd, passes_call tk fun _ _ _ _ z => z, nd, tk⟩
def dSaid (i : Nat) (P : Addr) (W : WRel) (te : DE) : DE := fun env q x => env[i]? = some (.val (.tab P lamQ)) ∧ te env (fun r => ∃ d, r = .val d ∧ q (.val (.tup [.str "told", d]))) (fun e => ∃ bs w, W e bs w ∧ q (.val w))
section
variable {X : Cx} {E : XK} {j k : Nat} {P : Addr} {W : WRel} {ar : Arguments} {bd : Expr} {sc : Scope} {te : DE} {i : Nat} {p lp pos : Pos}
theorem pd_said (i : Nat) (G : SaidG X.prog X.w X.K X.mg X.base k W) (B : BC X E j) (hk : k + 2 ≤ j) (lc : LamC X ar sc P)
    (bnd : ∀ (md cv tv : Value), bindArgs (PySem.W.kla_fn "<lambda>" (X.env.qual ++ "<lambda>") ar bd sc (cloFrom X.env.cells sc.names []) md cv tv) ⟨[], []⟩ = pure [])
    (body : ∀ (E' : XK) (A : Around) (callers : List PySem.Env) (s : Shared) (H : Hp) (f c' : Addr), BC (lamX X E' A callers s H sc f c') E' k → PD (lamX X E' A callers s H sc f c') E' bd te) (hg : Gl X "_law_said" := by rfl) :
    PD X E (.Call (.Name "_law_said" p) [.Lambda ar bd sc lp] [] pos) (dSaid i P W te) := by
  obtain ⟨st, g, fd, CS, j1, j2, p1, p2, p3, p4, p5, p6, p7, p8, p9, p10, p11, p12, fn, S, gle, gwd, lce, eb, hm, kp, bd1, hle, cw, kx⟩ := G.ex
  obtain ⟨c, tb, ec⟩ := lc.tb
  obtain ⟨oc, od, kV, doc, pm, an, cdv, ct, osl, rfl, lk, hcd⟩ := fn.ex
  refine ⟨?_⟩
  rintro pins s σ H Q I ⟨G0, H0, Gh, env, q, x, e0, ⟨slot, h⟩, hq, hx⟩
  obtain ⟨v0, _, r0⟩ := e0.val i _ slot
  have tab : LamX.TabS H P lamQ := by
    cases r0 with
    | tab t => exact t.2
  refine wpAny_Call_Name_kw (ld_glob I hg hm ?_ (by decide))
  refine PySem.W.callWith_K (h₀ := X.base) I.ok.mod.kin kp ?_ (by rfl) (by rfl)
  show wpAny _ _ (spliced ((false, eval (.Lambda ar bd sc lp) X.env) :: backTo pos (starEach [] X.env))) _ _ s
  refine Calls.spliced_cons (lam_new I tb ec lc.eq tab lc.nodef (lc.L.has I.ok) ?_)
  intro f c' md tv H1 s' I1 gr at_f nf sep hco
  refine Calls.spliced_nil ⟨I1.kIn, ?_⟩
  have e1 := e0.step (gr.keep e0.gok) (gr.gok e0.gok)
  have nt : (["_law_call", "_law_e"] : List Str)[0]? = some ("_law_call" : Str) := rfl
  have room : Room (k + 1 + 1) X.A := B.room.mono hk
  have run : codeAny (model X.prog X.w) X.A (.call (.ref g) ⟨[.ref f], []⟩) (CR (L2.CX X.prog X.w) X.stack X.prog X.w H1 s' Q E0) s' := by
    refine LamX.run_ofS (N := ["_law_call", "_law_e"]) (ps := ["_law_call"]) (us := [.ref f]) (vs := [.ref f]) lk hcd S room I1.env0 (bd1 s' [.ref f] I1.kIn rfl) (.cons rfl .nil) rfl fun room' => ?_
    rw [eb]
    have vis : Vis (defScope st) "_law_call" := by
      rcases S.par "_law_call" (by simp) with z | z
      · exact .inl z
      · exact .inr (.inl z)
    refine ⟨_, pss_one (ps_try_as (i := 1) (c := .ref CS) (Wout := fun _ _ _ _ => False)
      (tb := fun Wb D σ2 H2 => σ2 = L2.start ["_law_call", "_law_e"] [.ref f] ∧ H2 c' = some (LamX.CodeO c' (X.env.qual ++ "<lambda>")) ∧ ∃ Ec : XK, (∀ cls d H', Ec cls d H' → Wb cls d (L2.start ["_law_call", "_law_e"] [.ref f]) H') ∧
        lift X.K Ec te σ H2 (fun v H' => [V.str "told", v].length ≤ sizeLine ∧ ∀ t, H' t = none → D.rt (.ref t) (upd H' t (.tup [.str "told", v]))))
      (ts := fun a cls d D σ2 H2 => σ2[1]? = some (some (.ref a)) ∧ ∃ C, cls = .ref C ∧ spW X.K W a C d H2 D.rt)
      rfl rfl S.nd rfl lce ⟨gle, by decide, .inl hle⟩ LamX.takes0 ?_ ?_), ?_⟩
    · intro Wb pn xe tk _
      refine ⟨?_⟩
      rintro pz sz σ2 H2 D I2 ⟨rfl, hc2, Ec, sub, reads⟩
      have act := lam_act (σ0 := L2.start ["_law_call", "_law_e"] [.ref f]) (i := 0) (tb := lift X.K Ec te) (p1 := p2) (p2 := p3) I1 lc.L at_f nf sep (bnd md (.ref c') tv) B.gd tk sub room'
        (fun A callers s H gd rm => body Ec A callers s H f c' (lamX_ctx B.nd gd rm)) nt vis (by decide) (by decide)
      have all := pss_one (ps_ret (pos := p5) (pe_tup (x1 := j2) (pos := p4) (pa_cons (pe_str (x := "told") (j := j1) (pos := p1)) (pa_cons act pa_nil))))
      exact all.run pz sz _ H2 D I2 ⟨rfl, rfl, hc2, reads⟩
    · intro a oe cls d pn hz hf
      have rm := room'.mono (show k ≤ k + 1 by omega)
      exact pss_one (ps_ret (pe_word (X := (cxOf (L2.CX X.prog X.w) X.prog X.w X.K X.mg X.base ["_law_call", "_law_e"] "_law_said" (defScope st) g cdv X.A X.stack s' H1 E0).suite a ((a, oe) :: pn)) (x := "_law_word") (n := "_law_e") (i := 1) cw ⟨rm.dp, rm.un⟩ List.mem_cons_self hz hf gwd rfl (.inl lce) (by decide) (by decide) (by decide)))
    · refine ⟨rfl, hco, fun cls d H' => ∃ C, cls = .ref C ∧ PySem.W.exmOne X.K (.ref C) (.ref CS) = some true ∧ ∀ a, H' a = none → spW X.K W a C d H' Q, ?_, ?_⟩
      · rintro cls d H' ⟨C, rfl, hx1, hx2⟩
        exact ⟨true, hx1, fun _ a na => ⟨rfl, C, rfl, hx2 a na⟩, fun z => (nomatch z)⟩
      · refine ⟨G0, H0, Gh, env, _, _, e1, h, ?_, ?_⟩
        · rintro r v G' H' ⟨d, rfl, qd⟩ k1 g1 rr
          refine ⟨by rw [sizeLine_eq]; simp, fun t ht => ?_⟩
          refine hq _ (.ref t) G' _ qd ((gr.keep e0.gok).trans e0.gok (k1.trans e1.gok (Keep.laid ht))) (g1.laid ht) ?_
          exact Rep.tup (g1.fresh ht) (.inl upd_same) (.cons (.str _) (.cons (Rep.keep (Keep.laid ht) rr) .nil))
        · rintro e G' H' ⟨bs, wd, we, qw⟩ k1 g1
          have fin : ∀ (a : Addr) (d : Option Addr), Rep X.K G' H' (.ref a) (.exo a d (xns e) (xds e)) → spW X.K W a e.C d H' Q := fun a d r =>
            ⟨e, bs, wd, G', rfl, we, g1, r, fun v G2 H2 k2 g2 r2 => hq (.val wd) v G2 H2 qw ((gr.keep e0.gok).trans e0.gok (k1.trans e1.gok k2)) g2 r2⟩
          refine ⟨fun en => ⟨e.C, rfl, kx _ _ _ we, fun a na => fin a none ?_⟩, fun fs ef nl d vs rl hd => ⟨e.C, rfl, kx _ _ _ we, fun a na => fin a (some d) ?_⟩⟩
          · unfold xns xds
            rw [en]
            exact .exo0
          · have gn : G' d = none := by
              cases z : G' d with
              | none => rfl
              | some y =>
                obtain ⟨o, q1, m⟩ := g1.lst d y z
                rw [hd] at q1
                cases q1
                rcases m with ⟨_, m⟩ | ⟨_, _, _, m⟩ | ⟨_, m⟩ <;> cases m
            unfold xns xds
            rw [ef]
            exact .exo gn hd (by rw [rl.length, List.length_map, List.length_map]) rl
  refine wpAny_call (codeAny_mono run fun r s2 hq => ?_)
  match r, hq with
  | .error ex, ⟨_, _, _, _, _, _, _, _, _, _, _, _, z⟩ => exact z.elim
  | .ok (.ret u), q => exact I1.after q
  | .ok .next, z => exact z.elim
  | .ok .brk, z => exact z.elim
  | .ok .cont, z => exact z.elim
end
end QD
/-! a law that makes lambdas: its def, its row -/
namespace QD
open PyProof
open PySem PySem.Spec PyProof.Rows L2
/-- a slot whose name nobody sees may hold anything -/
theorem Inv.unseen {X : Cx} {pins : List (Addr × Obj)} {σ : L2.St} {H : Hp} {s : Shared} {i : Nat} {y : Str} {o : Option V} (I : Inv X pins σ H s) (hi : X.N[i]? = some y) (nv : ¬ Vis X.env.scope y) : Inv X pins (σ.set i o) H s := by
  refine { I with loc := ?_, len := by rw [List.length_set]; exact I.len }
  obtain ⟨m, hn, hl⟩ := I.loc
  refine ⟨m, hn, fun j z v e1 e2 e3 => ?_⟩
  by_cases c : i = j
  · subst c
    rw [hi] at e1
    cases e1
    exact absurd e3 nv
  · rw [List.getElem?_set_ne c] at e2
    exact hl j z v e1 e2 e3
def spT (K : PySem.W.Frag) (P : Addr) (F : DF) : Sp := fun vs H Q E => LamX.TabS H P lamQ ∧ spOf K F vs H Q E
theorem def_okT {P : Program} {w : World} {K : PySem.W.Frag} {mg : Str → Option Value} {base : Heap} {x qual : Str} {st : Stmt} {f c T : Addr} {fd : FuncData} {N ps : List Str} {k : Nat} {F : DF} {t : DS} (i : Nat) (fn : Fun K x qual st f fd) (S : FnScope N ps (defScope st)) (hi : N[i]? = some "#") (nv : ¬ Vis (defScope st) "#") (ec : fd.code = .ref c)
    (body : ∀ (cdv : Value) (A : Around) (callers : List PySem.Env) (s : Shared) (H : Hp) (E : XK), cdv = .ref c → BC (cxOf (L2.CX P w) P w K mg base N qual (defScope st) f cdv A callers s H E) E k →
      PassesOwn (model P w) (cxOf (L2.CX P w) P w K mg base N qual (defScope st) f cdv A callers s H E).A (cxOf (L2.CX P w) P w K mg base N qual (defScope st) f cdv A callers s H E).env (cxOf (L2.CX P w) P w K mg base N qual (defScope st) f cdv A callers s H E).xe →
      PDSs (cxOf (L2.CX P w) P w K mg base N qual (defScope st) f cdv A callers s H E) E (defBody st) t)
    (pure : ∀ ds q x, F ds q x → ds.length = ps.length ∧ t { nx := fun _ => q .non, rt := q, ex := x } ((startE N.length ds).set i (.val (.tab T lamQ)))) : FnG P w K mg base (k + 1) f fd ps (spT K T F) := by
  refine fnG_ofC fn S (fun vs H Q E ⟨_, G, ds, q, x, g, r, h, _⟩ => by rw [r.length]; exact (pure ds q x h).1) ?_
  rintro cdv A l s H vs Q E B po ⟨kV, doc, pm, an, ct, rfl⟩ ⟨tb, G, ds, q, x, g, r, h, hq, hx⟩
  have e1 := (startE_ok (N := N) g r).setVal i (v := .ty "") (d := .tab T lamQ) (Rep.tab ⟨rfl, tb⟩)
  have run := body cdv A l s H E ec B po
  refine ⟨fun Z σ H => liftS K E t Z (σ.set i (some (.ty ""))) H, ⟨fun pins s σ H D I h => ?_⟩, G, ⟨H, []⟩, G, _, _, e1, (pure ds q x h).2, ?_, ?_, fun _ _ _ _ z => z.elim, fun _ _ _ _ z => z.elim, hx⟩
  · exact run.run pins s _ H D (Inv.unseen I hi nv) h
  · intro env' G' σ' H' z e'
    exact hq .non .non G' H' z e'.keep e'.gok .non
  · intro d v G' H' z k' g' r'
    exact hq d v G' H' z k' g' r'
/-! ### the row -/
section
variable {P : Program} {w : World} {K : PySem.W.Frag} {mg mb : Str → Option Value} {a T : Addr} {s : Shared} {H : Hp} {vs : List Value}
/-- the script's list and the table alone are tracked -/
structure TabOnly (K : PySem.W.Frag) (H : Hp) (a T : Addr) : Prop where
  at_ : H T = some (.tbl #[])
  frz : ∀ b, b ≠ T → H b = none ∨ ∃ o xs, H b = some (.frz o (.lst xs))
  one : ∀ b, H b ≠ none → b = a ∨ b = T
  out : H a ≠ none → K.lookup a = none
abbrev tab0 : Obj := { cls := .none, data := .fields #[] }
theorem TabOnly.free {b : Addr} {o : Obj} (S : TabOnly K H a T) (obj : s.heap.get? a = some { cls := .type "list", data := .seq vs.toArray }) (ht : s.heap.get? T = some tab0) (e : s.heap.get? b = some o) (d : (∃ es n, o.data = .dict es n) ∨ o.cls ≠ .type "list" ∧ o.cls ≠ .none) : H b = none := by
  cases q : H b with
  | none => rfl
  | some u =>
    rcases S.one b (by rw [q]; simp) with eb | eb
    · rw [eb, obj] at e
      cases e
      rcases d with ⟨es, n, d⟩ | ⟨d, _⟩
      · cases (show Data.seq vs.toArray _ = Data.dict es n from d)
      · exact absurd rfl d
    · rw [eb, ht] at e
      cases e
      rcases d with ⟨es, n, d⟩ | ⟨_, d⟩
      · cases (show Data.fields #[] = Data.dict es n from d)
      · exact absurd rfl d
theorem script_callT {k : Nat} {fa c : Addr} {fd : FuncData} {x : Str} {sp : Sp} {ns : List Int} (kin : K.In s.heap) (hm : s.heap.Ns mainGlobals mg) (hb : s.heap.Ns builtinsNs mb) (hbb : ∀ y : Str, y ≠ "__name__" → mb y = bootBuiltins y) (nl : s.heap.NoLimit) (ng : s.gens = #[])
    (ht : s.heap.get? T = some tab0) (nT : K.lookup T = none) (ch : PySem.W.codeHdIn K c T = true)
    (bm : ∃ (bm : Addr) (ob : Obj), mg "__builtins__" = some (.ref bm) ∧ bm ≠ builtinsNs ∧ s.heap.get? bm = some ob ∧ ob.cls = .type "module" ∧ ob.dict = some builtinsNs ∧ ob.data = .plain)
    (obj : s.heap.get? a = some { cls := .type "list", data := .seq vs.toArray }) (isI : IntsAre vs ns) (len : ns.length ≤ sizeLine) (hr : Room k callerA)
    (F : ∀ base : Heap, K.In base → base.Ns mainGlobals mg → LamX.TabB base mg c T → FnG P w K mg base k fa fd [x] sp) (bd : ∀ (s : Shared) (u : Value), BindsTo s fd ⟨[u], []⟩ [(x, u)])
    (pr : ∀ H : Hp, H T = some (.tbl #[]) → (∀ b, b ≠ T → H b = none ∨ ∃ o xs, H b = some (.frz o (.lst xs))) → SqL K H a (ns.map V.int) → sp [.ref a] H (fun v _ => v = .bl true) XF) :
    codeAny (model P w) callerA (.call (.ref fa) ⟨[.ref a], []⟩) (fun r s' => r = .ok (.ret (.bool true)) ∧ OldK s.heap s'.heap ∧ s'.os = s.os ∧ AllBare s'.gens) s := by
  have rv := vals_ints isI
  have aT : a ≠ T := fun z => by
    rw [z, ht] at obj
    cases obj
  have gT : mainGlobals ≠ T := fun z => by
    obtain ⟨o, es, n, e, d, _⟩ := hm
    rw [z, ht] at e
    cases e
    cases d
  have go : ∀ H : Hp, TabOnly K H a T → SqL K H a (ns.map V.int) → HOk P w H s.heap →
      codeAny (model P w) callerA (.call (.ref fa) ⟨[.ref a], []⟩) (fun r s' => r = .ok (.ret (.bool true)) ∧ OldK s.heap s'.heap ∧ s'.os = s.os ∧ AllBare s'.gens) s := by
    intro H S sq ok
    have nsK : ∀ {b : Addr} {m : Str → Option Value}, s.heap.Ns b m → (hidT s.heap H).Ns b m := by
      rintro b m ⟨o, es, n, e, d, r⟩
      exact ⟨o, es, n, hidT_get e (S.free obj ht e (.inl ⟨es, n, d⟩)), d, r⟩
    have kb : K.In (hidT s.heap H) := fun b o e => hidT_get (kin b o e) (by
      cases q : H b with
      | none => rfl
      | some u =>
        have nz : H b ≠ none := by rw [q]; simp
        rcases S.one b nz with eb | eb
        · rw [eb] at nz e
          rw [S.out nz] at e
          cases e
        · rw [eb, nT] at e
          cases e)
    have mn := nsK hm
    have md : Mod K mg (hidT s.heap H) := ⟨kb, mn, ⟨mb, nsK hb, hbb⟩, by
      obtain ⟨mc, q1, q2⟩ := nl
      exact ⟨mc, nsK q1, q2⟩⟩
    have bAt : (hidT s.heap H).BuiltinsAt mg T := by
      obtain ⟨bm, ob, b1, b2, b3, b4, b5, b6⟩ := bm
      refine ⟨bm, ob, b1, b2, fun q => ?_, fun q => ?_, hidT_get b3 (S.free obj ht b3 (.inr ?_)), b4, b5, b6⟩
      · obtain ⟨o, es, n, e, d, _⟩ := hm
        rw [q, e] at b3
        cases b3
        rw [d] at b6
        cases b6
      · rw [q, ht] at b3
        cases b3
        cases b6
      · rw [b4]
        exact ⟨by decide, by decide⟩
    have en : Env0 P w K mg (hidT s.heap H) callerA [] s H := ⟨rfl, md, fun b o e => of_hidT e, Nat.le_of_eq (hidT_size _ _), trivial, (fun b hb => absurd (show b ∈ ([] : List Addr) from hb) List.not_mem_nil), ok, .of_eq ng⟩
    have run := (F _ kb mn ⟨PySem.W.codeHd_of_K kb ch, bAt, gT⟩).run callerA [] s H ⟨[.ref a], []⟩ [.ref a] [.ref a] (fun v _ => v = .bl true) XF rfl hr en (bd s (.ref a)) (.cons rfl .nil) (pr H S.at_ S.frz sq)
    refine codeAny_mono run fun res s' q => ?_
    match res, q with
    | .error ex, ⟨_, _, _, _, _, _, _, _, _, _, _, _, z⟩ => exact z.elim
    | .ok (.ret u), ⟨v, H', os, bare, un, ok', rl, ev⟩ =>
      have ev' : v = .bl true := ev
      subst ev'
      obtain rfl : u = Value.bool true := rl
      obtain ⟨more, grown⟩ := un.tbls T #[] S.at_
      have now : s'.heap.get? T = some { cls := .none, data := .fields (#[] ++ more) } := ok' T _ grown
      have same : ∀ b o, b ≠ T → s.heap.get? b = some o → s'.heap.get? b = some o := fun b o n e => by
        rcases S.frz b n with z | ⟨ob, xs, z⟩
        · exact un.keep b o e z (fun m => by cases m) (by simp)
        · obtain ⟨q1, _⟩ := ok b _ z
          obtain ⟨q2, _⟩ := ok' b _ (un.frzs b ob _ z)
          rw [e] at q1
          cases q1
          exact q2
      refine ⟨rfl, ⟨fun b o e => ?_, fun b o e => ?_⟩, os, bare⟩
      · by_cases n : b = T
        · subst n
          rw [ht] at e
          cases e
          exact .inr (.inl ⟨((PySem.W.codeHd_of_K kin ch).tab ht).isCodeTable, rfl, #[], more, rfl, now⟩)
        · exact .inl (same b o n e)
      · by_cases n : b = T
        · subst n
          exact ⟨_, now⟩
        · exact ⟨o, same b o n e⟩
    | .ok .next, z => exact z.elim
    | .ok .brk, z => exact z.elim
    | .ok .cont, z => exact z.elim
  cases known : K.lookup a with
  | some o =>
    have eo := kin a o known
    rw [obj] at eo
    cases eo
    let Hs : Hp := fun b => if b = T then some (.tbl #[]) else none
    have off : ∀ {b}, b ≠ T → Hs b = none := fun n => if_neg n
    refine go Hs ⟨if_pos rfl, fun b n => .inl (off n), fun b z => ?_, fun z => absurd (off aT) z⟩ (.inr ⟨_, vs.toArray, _, known, rfl, rfl, rfl, by rw [List.size_toArray, isI.length]; exact len, by simpa using rv⟩) fun b u z => ?_
    · by_cases n : b = T
      · exact .inr n
      · exact absurd (off n) z
    · by_cases n : b = T
      · subst n
        cases (if_pos rfl : Hs b = _).symm.trans z
        exact ht
      · rw [off n] at z
        cases z
  | none =>
    let Hs : Hp := fun b => if b = a then some (.frz { cls := .type "list", data := .seq vs.toArray } (.lst (ns.map V.int))) else if b = T then some (.tbl #[]) else none
    have at_ : Hs a = some (.frz { cls := .type "list", data := .seq vs.toArray } (.lst (ns.map V.int))) := if_pos rfl
    have atT : Hs T = some (.tbl #[]) := (if_neg (Ne.symm aT)).trans (if_pos rfl)
    have off : ∀ {b}, b ≠ a → b ≠ T → Hs b = none := fun n m => (if_neg n).trans (if_neg m)
    refine go Hs ⟨atT, fun b n => ?_, fun b z => ?_, fun _ => known⟩ (.inl (.inr ⟨_, at_⟩)) fun b u z => ?_
    · by_cases q : b = a
      · rw [q]; exact .inr ⟨_, _, at_⟩
      · exact .inl (off q n)
    · by_cases q : b = a
      · exact .inl q
      · by_cases n : b = T
        · exact .inr n
        · exact absurd (off q n) z
    · by_cases q : b = a
      · subst q
        rw [at_] at z
        cases z
        exact ⟨obj, by rw [List.length_map]; exact len, vs, _, rv, obj⟩
      · by_cases n : b = T
        · subst n
          rw [atT] at z
          cases z
          exact ht
        · rw [off q n] at z
          cases z
end
/-- the law's promise over data: the script as a read-only list -/
theorem law_dataT {K : PySem.W.Frag} {F : DF} {H : Hp} {a T : Addr} {ns : List Int} (hT : H T = some (.tbl #[])) (hO : ∀ b, b ≠ T → H b = none ∨ ∃ o xs, H b = some (.frz o (.lst xs))) (hS : SqL K H a (ns.map V.int)) (h : F [.scr (ns.map D.int)] (fun d => d = .bl true) noX) : spT K T F [.ref a] H (fun v _ => v = .bl true) XF := by
  have rl : ∀ l : List Int, RepL K (fun _ => none) H (l.map V.int) (l.map D.int) := fun l => by
    induction l with
    | nil => exact .nil
    | cons z l ih => exact .cons (.int z) ih
  refine ⟨LamX.TabS.nil hT, fun _ => none, [.scr (ns.map D.int)], _, noX, ⟨fun b g e => (nomatch e), fun b e => (nomatch e), fun b K J e => (nomatch e)⟩, .cons ?_ .nil, h, ?_, XOk.noX⟩
  · rcases hS with (hS | ⟨o, hS⟩) | ⟨o, its, n, k1, k2, k3, k4, k5, k6⟩
    · by_cases c : a = T
      · rw [c, hT] at hS; cases hS
      · rcases hO a c with z | ⟨o, xs, z⟩ <;> (rw [hS] at z; cases z)
    · exact .scr (.inl ⟨rfl, o, hS⟩) (rl ns)
    · exact .scr (.inr ⟨o, its, n, k1, k2, k3, k4, k5, k6⟩) (rl ns)
  · rintro d v G' H' rfl k g r
    cases r
    rfl
/-- the row's goal, from the law's promise over data -/
theorem row_ofT {l : PySem.W.OpenLaw} {n k : Nat} {q : Program} {loose : List Str} {XP : (Str → Option Value) → Heap → Prop} {YP : World → Heap → Prop} {d : DefRec} {K : Params → PySem.W.Frag} {x : Str} (Fl : DF)
    (hn : l.most = some n) (hz : n ≤ sizeLine) (hdf : d.params.defaults = []) (hr : Room k callerA) (hY : ∀ (w : World) (h : Heap), YP w h → (K w.params).In h)
    (pr : ∀ ns : List Int, ns.length ≤ n → (∀ z ∈ ns, Builtin.Int.intBits z ≤ 1048576) → Fl [.scr (ns.map D.int)] (fun d => d = .bl true) noX)
    (F : ∀ (w : World) (mg : Str → Option Value) (fa : Addr) (h : Heap), YP w h → (K w.params).In h → h.Ns mainGlobals mg → mg d.name = some (.ref fa) →
      ∃ (c T : Addr) (fd : FuncData), h.get? T = some tab0 ∧ (K w.params).lookup T = none ∧ PySem.W.codeHdIn (K w.params) c T = true ∧ (∀ (s : Shared) (u : Value), BindsTo s fd ⟨[u], []⟩ [(x, u)]) ∧
        ∀ base : Heap, (K w.params).In base → base.Ns mainGlobals mg → LamX.TabB base mg c T → FnG l.prog w (K w.params) mg base k fa fd [x] (spT (K w.params) T Fl)) :
    PySem.W.WalkO q loose XP YP l.row.toRowW d [] (fun f vs => PySem.call f vs) := by
  refine Att.attach_callB hn hdf fun w s₀ s mg mb fa o pm cd doc a vs ns G Y _ _ _ hmg obj isI len bits ng => ?_
  have kin := hY w _ Y
  obtain ⟨c, T, fd, h1, h2, h3, bd, FF⟩ := F w mg fa _ Y kin G.T.g hmg
  exact script_callT kin G.T.g G.T.b G.T.builtins G.T.nolimit ng h1 h2 h3 G.T.bmain obj isI (Nat.le_trans len hz) hr FF bd fun H hT hO hS => law_dataT hT hO hS (pr ns len bits)
/-! ### what is known of an exception's class -/
section
variable {X : Cx} {E : XK} {e : Expr} {te : DE} {pos p p2 : Pos} {k : Nat} {a C : Addr} {oe : Obj} {d : Option Addr} {bs : Str → Bool}
theorem pd_isW {y : Str} (KX : KnX X.K X.mg bs C) (B : BW X k a C oe d) (hm : X.mg "isinstance" = none) (he : PD X E e te) (hy : y ∈ (["NoCourse", "NoItem", "NoSet", "NoState", "NoOrder", "NoAnswers", "NoDurations", "NoNames", "NoPlace", "NoDeed", "OtherCourse", "Clash", "TooMany", "BadText"] : List Str) := by decide) (hg : Gl X "isinstance" := by rfl) (hg2 : Gl X y := by rfl)
    (hdb : (y == ("__debug__" : Str)) = false := by decide) (hs1 : starEach [e, Expr.Name y p2] X.env = (false, eval e X.env) :: starEach [Expr.Name y p2] X.env := by rfl) :
    PD X E (.Call (.Name "isinstance" p) [e, .Name y p2] [] pos) (dIsP a d (bs y) te) := by
  obtain ⟨D, h1, h2⟩ := KX.own y hy
  exact pd_isP B.pin B.cls B.fld KX.ex hm h1 h2 he hg hg2 hdb (by decide +kernel) hs1
theorem pd_isWV (KX : KnX X.K X.mg bs C) (B : BW X k a C oe d) (TE : TxE X.mg) (hm : X.mg "isinstance" = none) (he : PD X E e te) (hg : Gl X "isinstance" := by rfl) (hg2 : Gl X "ValueError" := by rfl)
    (hs1 : starEach [e, Expr.Name "ValueError" p2] X.env = (false, eval e X.env) :: starEach [Expr.Name "ValueError" p2] X.env := by rfl) :
    PD X E (.Call (.Name "isinstance" p) [e, .Name "ValueError" p2] [] pos) (dIsP a d (bs "ValueError") te) :=
  pd_isPB B.pin B.cls B.fld KX.ex hm TE.ValueError (by decide +kernel) KX.val he hg hg2 (by decide) (by decide) (by decide +kernel) hs1
theorem pd_isWT {q1 q2 q3 q4 q5 : Pos} {j : Nat} (KX : KnX X.K X.mg bs C) (B : BW X k a C oe d) (TE : TxE X.mg) (hm : X.mg "isinstance" = none) (he : PD X E e te) (hg : Gl X "isinstance" := by rfl) (h1 : Gl X "LookupError" := by rfl) (h2 : Gl X "TypeError" := by rfl) (h3 : Gl X "ArithmeticError" := by rfl) (h4 : Gl X "RuntimeError" := by rfl)
    (hs1 : starEach [e, Expr.Tuple [.Name "LookupError" q1, .Name "TypeError" q2, .Name "ArithmeticError" q3, .Name "RuntimeError" q4] j q5] X.env = (false, eval e X.env) :: starEach [Expr.Tuple [.Name "LookupError" q1, .Name "TypeError" q2, .Name "ArithmeticError" q3, .Name "RuntimeError" q4] j q5] X.env := by rfl) :
    PD X E (.Call (.Name "isinstance" p) [e, .Tuple [.Name "LookupError" q1, .Name "TypeError" q2, .Name "ArithmeticError" q3, .Name "RuntimeError" q4] j q5] [] pos) (dIsP a d (bs "LookupError") te) :=
  pd_isPT (ts := ["LookupError", "TypeError", "ArithmeticError", "RuntimeError"]) B.pin B.cls B.fld KX.ex hm
    (blt_tup (blt_cons TE.LookupError (by decide +kernel) (blt_cons TE.TypeError (by decide +kernel) (blt_cons TE.ArithmeticError (by decide +kernel) (blt_cons TE.RuntimeError (by decide +kernel) blt_nil h4) h3) h2) h1) (by decide)) KX.few he hg (by decide +kernel) hs1
theorem pd_xfW {f : Str} (KX : KnX X.K X.mg bs C) (B : BW X k a C oe d) (he : PD X E e te) (hf : f ∈ (["item", "noes", "limit", "line"] : List Str) := by decide) (hb : attributeBase e f X.env (eval e X.env) = eval e X.env := by rfl) : PD X E (.Attribute e f pos) (dXf a d f te) :=
  pd_xf B.pin B.cls B.fld KX.xf (KX.fld f hf) he hb
end
theorem FnW.up {P : Program} {w : World} {K : PySem.W.Frag} {mg : Str → Option Value} {base : Heap} {j k : Nat} {f : Addr} {fd : FuncData} {y : Str} {sp : WSp} (F : FnW P w K mg base j f fd y sp) (h : j ≤ k) : FnW P w K mg base k f fd y sp :=
  ⟨fun A l s H Q p C d hr => F.run A l s H Q p C d (hr.mono h)⟩
/-- the same, to be computed -/
def ownB (K : PySem.W.Frag) (bs : Str → Bool) (C : Addr) (n : Str) : Bool := match PySem.W.nsIn K mainGlobals n with
  | some (some (.ref D)) => decide (PySem.W.kitOne K (.ref C) (.ref D) = some (bs n))
  | _ => false
def excB (K : PySem.W.Frag) (D : Addr) : Bool :=
  decide (PySem.W.findIn K (.ref D) "__class__" = some (some (.builtin "object.__class__"))) && decide (PySem.W.specialIn K (.builtin "object.__class__") "__get__" = some (some (.builtin "getset_descriptor.__get__"))) && decide (PySem.W.takesIn K (.builtin "object.__class__") = some true) && decide (PySem.W.mroIn K D (.type "object") = some true)
def knB (K : PySem.W.Frag) (bs : Str → Bool) (C : Addr) : Bool :=
  xfB K C && excB K C && (["NoCourse", "NoItem", "NoSet", "NoState", "NoOrder", "NoAnswers", "NoDurations", "NoNames", "NoPlace", "NoDeed", "OtherCourse", "Clash", "TooMany", "BadText"] : List Str).all (ownB K bs C) && decide (PySem.W.kitOne K (.ref C) (.type "ValueError") = some (bs "ValueError")) &&
    decide (PySem.W.kitAny K (.ref C) ((["LookupError", "TypeError", "ArithmeticError", "RuntimeError"] : List String).map Value.type) = some (bs "LookupError")) && (["item", "noes", "limit", "line"] : List Str).all fun f => decide (PySem.W.findIn K (.ref C) f = some none)
theorem knX_of {K : PySem.W.Frag} {mg : Str → Option Value} {h : Heap} {bs : Str → Bool} {C : Addr} (X : K.In h) (G : h.Ns mainGlobals mg) (e : knB K bs C = true) : KnX K mg bs C := by
  unfold knB excB at e
  simp only [Bool.and_eq_true, decide_eq_true_eq, List.all_eq_true] at e
  obtain ⟨⟨⟨⟨⟨e1, ⟨⟨c1, c2⟩, c3⟩, c4⟩, e2⟩, e3⟩, e4⟩, e5⟩ := e
  have xf := xfB_ok e1
  refine ⟨⟨xf.ga, xf.gg, xf.exC, xf.hdC, c1, c2, c3, c4⟩, fun n hn => ?_, e3, e4, xf, e5⟩
  have q := e2 n hn
  unfold ownB at q
  split at q
  · rename_i D hD
    exact ⟨D, PySem.W.mg_of X G hD, of_decide_eq_true q⟩
  · cases q
/-- the answers of the class n -/
def bsOf (n : Str) : Str → Bool := fun y => y == n || y == "ValueError"
end QD
namespace QD
open PySem PySem.Spec PyProof.Rows L2
theorem dCntT_app (te : DE) (env : SE) (q : R → Prop) (x : XP) : dCntT te env q x = te env (fun r => ∃ bs : List Bool, r.d = .lst (bs.map .bl) ∧ q (.val (.int ((bs.countP id : Nat) : Int)))) x := rfl
theorem dIdxT_app (te : DE) (env : SE) (q : R → Prop) (x : XP) : dIdxT te env q x = te env (fun r => ∃ (bs : List Bool) (j : Nat), r.d = .lst (bs.map .bl) ∧ bs[j]? = some true ∧ (∀ m < j, bs[m]? = some false) ∧ q (.val (.int (j : Int)))) x := rfl
theorem dIsP_app (a : Addr) (d : Option Addr) (b : Bool) (te : DE) (env : SE) (q : R → Prop) (x : XP) : dIsP a d b te env q x = te env (fun r => (∃ ns ds, r = .val (.exo a d ns ds)) ∧ q (.val (.bl b))) x := rfl
theorem dXf_app (a : Addr) (d : Option Addr) (f : Str) (te : DE) (env : SE) (q : R → Prop) (x : XP) : dXf a d f te env q x = te env (fun r => ∃ ns ds v, r = .val (.exo a d ns ds) ∧ (ns.zip ds).lookup f = some v ∧ q (.val v)) x := rfl
theorem dSaid_app (i : Nat) (P : Addr) (W : WRel) (te : DE) (env : SE) (q : R → Prop) (x : XP) : dSaid i P W te env q x = (env[i]? = some (.val (.tab P lamQ)) ∧ te env (fun r => ∃ d, r = .val d ∧ q (.val (.tup [.str "told", d]))) (fun e => ∃ bs w, W e bs w ∧ q (.val w))) := rfl
end QD
/-! further expressions -/
namespace QD
open PySem PySem.Spec PyProof.Rows L2
section
variable {X : Cx} {E : XK} {a o e : Expr} {te ta : DE} {p p2 pos apos : Pos}
/-- tuple(range(n)) -/
def dTupRg (te : DE) : DE := fun env q x => te env (fun r => ∃ j : Int, r.d = .int j ∧ -(2 ^ 62) ≤ j ∧ j < 2 ^ 62 ∧ j.toNat ≤ 16777216 ∧ q (.val (.tup (rngD 0 j.toNat)))) x
/-- xs.index(v), where it is there -/
def dIndex (te ta : DE) : DE := fun env q x => te env (fun r1 => ∃ ds : List D, r1.d = .lst ds ∧ ta env (fun r2 => ∃ (j : Nat) (c : D), eqB (.lst ds) (.lst ds) ≠ none ∧ ds[j]? = some c ∧ eqB c r2.d = some true ∧ (∀ m c', m < j → ds[m]? = some c' → eqB c' r2.d = some false) ∧ q (.val (.int (j : Int)))) x) x
theorem dTupRg_app (te : DE) (env : SE) (q : R → Prop) (x : XP) : dTupRg te env q x = te env (fun r => ∃ j : Int, r.d = .int j ∧ -(2 ^ 62) ≤ j ∧ j < 2 ^ 62 ∧ j.toNat ≤ 16777216 ∧ q (.val (.tup (rngD 0 j.toNat)))) x := rfl
theorem dIndex_app (te ta : DE) (env : SE) (q : R → Prop) (x : XP) : dIndex te ta env q x = te env (fun r1 => ∃ ds : List D, r1.d = .lst ds ∧ ta env (fun r2 => ∃ (j : Nat) (c : D), eqB (.lst ds) (.lst ds) ≠ none ∧ ds[j]? = some c ∧ eqB c r2.d = some true ∧ (∀ m c', m < j → ds[m]? = some c' → eqB c' r2.d = some false) ∧ q (.val (.int (j : Int)))) x) x := rfl
end
/-! ### a call that leaves a default out -/
/-! ### a comprehension's names, several -/
/-! ### xs[::-1], a list; reversed(range(n)); a number of the module -/
section
variable {X : Cx} {E : XK} {e a o : Expr} {te ta : DE} {p p2 pos apos : Pos} {x : Str} {i : Int} {tg : Expr}
def dRevL (te : DE) : DE := fun env q x => te env (fun r => ∃ ds, r.d = .lst ds ∧ q (.val (.lst ds.reverse))) x
theorem dRevL_app (te : DE) (env : SE) (q : R → Prop) (x : XP) : dRevL te env q x = te env (fun r => ∃ ds, r.d = .lst ds ∧ q (.val (.lst ds.reverse))) x := rfl
/-- a number that the module holds -/
theorem pd_gint (h : ∃ t, X.mg x = some (.int i t)) (hg : Gl X x := by rfl) (hdb : (x == ("__debug__" : Str)) = false := by decide) : PD X E (.Name x p) (dC (.int i)) := by
  obtain ⟨t, h⟩ := h
  exact pd_const (pe_glob hg h (show RelV (.int i) (.int i t) from ⟨t, rfl⟩) hdb) fun _ _ => .int i
/-- from the end of a range -/
def iRevRg (te : DE) : DI := fun env q x => te env (fun r => ∃ j : Int, r.d = .int j ∧ -(2 ^ 62) ≤ j ∧ j < 2 ^ 62 ∧ q (rngD 0 j.toNat).reverse true) x
theorem iRevRg_app (te : DE) (env : SE) (q : List D → Bool → Prop) (x : XP) : iRevRg te env q x = te env (fun r => ∃ j : Int, r.d = .int j ∧ -(2 ^ 62) ≤ j ∧ j < 2 ^ 62 ∧ q (rngD 0 j.toNat).reverse true) x := rfl
end
end QD
namespace QD
open PySem PySem.Spec PyProof.Rows L2
/-! ### tuple * int -/
section
variable {X : Cx}
theorem RepL.rep {K : PySem.W.Frag} {G : Gm} {H : Hp} {vs : List V} {ds : List D} (h : RepL K G H vs ds) : ∀ n, RepL K G H (List.replicate n vs).flatten (List.replicate n ds).flatten
  | 0 => .nil
  | n + 1 => by
    rw [List.replicate_succ, List.replicate_succ, List.flatten_cons, List.flatten_cons]
    exact h.append (RepL.rep h n)
end
end QD
/-! super().__init__("..") in an own exception's __init__; raise C(..) of such a class -/
namespace QD
open PySem PySem.Spec PyProof.Rows L2 NdefX
/-! ### facts -/
/-- the code object at cda names the program's main file -/
def fileB (P : Program) (K : PySem.W.Frag) (cda : Addr) : Bool := match K.lookup cda with
  | some ⟨_, _, .fields vs, _⟩ => (match (vs[2]? : Option Value) with | some (.str file _) => (P.main.file : Str) == file | _ => false)
  | _ => false
theorem fileB_of {P : Program} {K : PySem.W.Frag} {cda : Addr} (h : fileB P K cda = true) : ∃ c d vs sl file tf, K.lookup cda = some ⟨c, d, .fields vs, sl⟩ ∧ (vs[2]? : Option Value) = some (.str file tf) ∧ ((P.main.file : Str) == file) = true := by
  unfold fileB at h
  split at h
  · rename_i c d vs sl e
    split at h
    · rename_i file tf e2
      exact ⟨c, d, vs, sl, file, tf, e, e2, h⟩
    · cases h
  · cases h
/-- the cell at cc holds the class at C -/
def cellB (K : PySem.W.Frag) (cc C : Addr) : Bool := match K.lookup cc with
  | some ⟨_, _, .cell (some (.ref D)), _⟩ => D == C
  | _ => false
theorem cellB_of {K : PySem.W.Frag} {cc C : Addr} (h : cellB K cc C = true) : ∃ c d sl, K.lookup cc = some ⟨c, d, .cell (some (.ref C)), sl⟩ := by
  unfold cellB at h
  split at h
  · rename_i c d D sl e
    have : D = C := by simpa using h
    exact ⟨c, d, sl, by rw [← this]; exact e⟩
  · cases h
/-- what the written part says of C.__init__, the def st whose code names its class's cell -/
structure SupI (P : Program) (K : PySem.W.Frag) (mg : Str → Option Value) (C f : Addr) (qual : Str) (st : Stmt) (fd : FuncData) (cc cda : Addr) : Prop where
  fn : ∃ oc od osl, K.lookup f = some ⟨oc, od, .func fd, osl⟩
  fd : ∃ name dV kV doc pm an ct, fd = PySem.W.ksFn name qual (defArgs st) (defBody st) (defScope st) dV kV doc pm an (.ref cda) ct cc
  code : PySem.W.codeIn K (.ref cda) qual = true
  file : fileB P K cda = true
  cell : cellB K cc C = true
  oex : OexC K C
  sup : PySem.W.ks_superIn K C C "__init__" = some (some (.builtin "ValueError.__init__"))
  val : PySem.W.subIn K (.ref C) (.type "ValueError") = some true
  own : PySem.W.mroIn K C (.ref C) = some true
  nos : mg "super" = none
  top : (P.main.scope.names.lookup ("super" : Str)).isSome = false
  op : PySem.W.nsIn K cStatics "thirdparty.any" = some none
/-- the running frame's words -/
abbrev nfOf (qual : Str) (st : Stmt) (cc cda : Addr) : NF := ⟨"", qual, defArgs st, defBody st, defScope st, [("__class__", cc)], cda⟩
abbrev supX (CX : CXT) (P : Program) (w : World) (K : PySem.W.Frag) (mg : Str → Option Value) (base : Heap) (N : List Str) (qual : Str) (st : Stmt) (cc cda f : Addr) (A : Around) (outer : List PySem.Env) (s : Shared) (H : Hp) (E : XK) : Cx :=
  ncx CX P w K mg base N (nfOf qual st cc cda) f A outer s H E
section
variable {X : Cx} {pins : List (Addr × Obj)} {σ : L2.St} {H : Hp} {s : Shared} {a C u : Addr}
/-- the bound ValueError.__init__ called: nothing of it is told -/
theorem call_mw {us : List Value} {Q : Value → Shared → Prop} {E : Value → Shared → Prop} {A : Around} (T : OexC X.K C) (I : Inv X pins σ H s) (e : H a = some (exo a C none)) (hu : s.heap.get? u = some (PySem.W.kxs_mw "ValueError.__init__" a)) (hl : us.length ≤ sizeLine)
    (h : ∀ s', Inv X pins σ H s' → Q .none s') : wpAny (model X.prog X.w) A (call (.ref u) us) Q E s := by
  obtain ⟨nm, q, N, bs, bm, sn, sub, ab, col, dd, k0, k1, k2, k3, k5, hC, hbm⟩ := T.cls
  obtain ⟨t1, ho⟩ := exo_at I.hok e
  obtain ⟨hp, g, d, t, os⟩ := s
  have FB := F.excBase_ValueError
  refine wpAny_call (codeAny_of_tree ?_)
  show wpAny _ A.in1 (callAny (.ref u) ⟨us, []⟩) _ _ _
  simp only [callAny]
  refine wpAny_bind (wpAny_load hu ?_)
  simp only [PySem.W.kxs_mw, show (Value.type "method-wrapper" == Value.type "method" || Value.type "method-wrapper" == Value.type "builtin_function_or_method" || Value.type "method-wrapper" == Value.type "method-wrapper") = true by decide, if_true]
  refine PySem.W.KFB.if_so (by decide) ?_
  refine wpAny_bind (PySem.W.check_bound_init FB.toExcCallFacts (I.kIn _ _ hC) ho rfl ?_)
  refine wpAny_bind (wpAny_pure (wpAny_pure ?_))
  refine ⟨PySem.plainId_quiet FB.init.plain _, codeAny_builtin FB.initEntry ?_⟩
  refine PySem.W.exc_init_tree (cls := .ref C) (t0 := t1) (dv := none) (c2 := .none) (c3 := .none) (b4 := .bool false) ho hl fun h' k hx _ => ?_
  have J := I.write (t' := t) (x := a) (e := a) (o := exo a C none) (by rw [e]; exact True.intro) (.inl rfl) k ⟨_, hx⟩ (exo_ok hx)
  have eu : upd H a (exo a C none) = H := by
    funext b
    by_cases hb : b = a
    · rw [hb, upd_same, e]
    · rw [upd_ne hb]
  rw [eu] at J
  exact h _ J
end
section
variable {CX : CXT} {P : Program} {w : World} {K : PySem.W.Frag} {mg : Str → Option Value} {base : Heap} {N : List Str} {qual txt y : Str} {st : Stmt} {fd : FuncData} {f cc cda C a : Addr} {A : Around} {outer : List PySem.Env} {s0 s : Shared} {H0 H : Hp} {E : XK} {σ : L2.St} {p0 p1 p2 p3 p4 p5 : Pos} {n : Nat} {ar : Arg}
/-- super().__init__("..") -/
theorem sup_first {Q : Flow → Shared → Prop} {body : List Stmt} {pl : PySem.Env → Sem Bool} (S : SupI P K mg C f qual st fd cc cda)
    (hcall : ∀ env : PySem.Env, eval (.Call (.Attribute (.Call (.Name "super" p0) [] [] p1) "__init__" p2) [.Constant (.str txt) n p3] [] p4) env = (do
      let ov ← attributeBase (.Call (.Name "super" p0) [] [] p1) "__init__" env (eval (.Call (.Name "super" p0) [] [] p1) env)
      standAt p2.atName
      let (f, first) ← holding [ov] (getMethod ov "__init__" (pl env))
      callWith p4 f first (backTo p4 (starEach [.Constant (.str txt) n p3] env)) []))
    (hk : (defScope st).kind = .function) (hs : (defScope st).names.lookup ("super" : Str) = some .globalImplicit) (hc : (defScope st).names.lookup ("__class__" : Str) = some .free) (hl : (defScope st).names.lookup y = some .local)
    (hp : ((defArgs st).posonlyargs ++ (defArgs st).args).head? = some ar) (hy : ar.arg = y) (hN : N[0]? = some y) (I : Inv (supX CX P w K mg base N qual st cc cda f A outer s0 H0 E) [] σ H s) (h0 : σ[0]? = some (some (.ref a))) (ea : H a = some (exo a C none))
    (q : ∀ s', Inv (supX CX P w K mg base N qual st cc cda f A outer s0 H0 E) [] σ H s' → Q .next s') :
    _root_.PySem.wpAt (model P w) (supX CX P w K mg base N qual st cc cda f A outer s0 H0 E).A (.func body (supX CX P w K mg base N qual st cc cda f A outer s0 H0 E).env)
      (exec (.Expr (.Call (.Attribute (.Call (.Name "super" p0) [] [] p1) "__init__" p2) [.Constant (.str txt) n p3] [] p4) p5) (supX CX P w K mg base N qual st cc cda f A outer s0 H0 E).env) Q (supX CX P w K mg base N qual st cc cda f A outer s0 H0 E).xe s := by
  obtain ⟨nm, qn, NN, bs, bm, sn, sub, ab, col, dd, k0, k1, k2, k3, k5, hC, hbm⟩ := S.oex.cls
  obtain ⟨oc, od, osl, lkf⟩ := S.fn
  obtain ⟨c1, d1, vs, sl1, file, tf, lkc, hvs, hfile⟩ := fileB_of S.file
  obtain ⟨c2, d2, sl2, lkx⟩ := cellB_of S.cell
  have hfd : ∃ name dV kV doc pm an ct, fd = PySem.W.ksFn name qual (defArgs st) (defBody st) (defScope st) dV kV doc pm an (.ref cda) ct cc := S.fd
  have hpar : (fd.params.posonlyargs ++ fd.params.args).head? = some ar := by
    obtain ⟨_, _, _, _, _, _, _, rfl⟩ := hfd
    exact hp
  subst hy
  obtain ⟨m, hns, lk⟩ := I.loc
  obtain ⟨u, ru, lku⟩ := lk 0 ar.arg (.ref a) hN h0 (.inl hl)
  obtain rfl : u = Value.ref a := ru
  have hm : m ar.arg = some (.ref a) := by
    rcases lku with ⟨_, z⟩ | ⟨z, _⟩
    · exact z
    · have z : (defScope st).names.lookup ar.arg = some .cell ∨ (defScope st).names.lookup ar.arg = some .free := z
      rcases z with z | z <;> · rw [hl] at z; cases z
  obtain ⟨t1, ho⟩ := exo_at I.hok ea
  obtain ⟨mb, hb1, hb2⟩ := I.mod.blt
  have glob := I.mod.glob.keeps I.bk
  have bltn := hb1.keeps I.bk
  have kin := I.kIn
  have hcl : PySem.W.clsIn K C = some { name := nm, bases := bs, mro := .ref C :: bm, ns := NN, qualname := qn, hasDict := true, slotNames := sn, subclasses := sub, abstract := ab, collection := col, hasDel := false } := by unfold PySem.W.clsIn; rw [hC] <;> rfl
  refine ks_wpAt_Expr_any (ks_wpAt_MethodCall ?_ (hcall _)) I.quiet
  obtain ⟨hp, g, d, t, os⟩ := s
  refine ks_wpAt_super_base hs hc (by decide) rfl (kin _ _ lkf) rfl hpar rfl (kin _ _ lkc) rfl hvs hfile S.top ?_
  refine PySem.W.ks_loadName_global hk hs (Calls.loadGlobal_builtin (mg := mg) glob S.nos bltn ((hb2 _ (by decide)).trans PyProof.Rows.Boot.«super») ⟨rfl, ?_⟩)
  refine wpAny_loadName_free hk hc rfl ⟨_, kin _ _ lkx, rfl⟩ ?_
  refine wpAny_loadName_local hk hl hns hm ?_
  refine ks_wpAny_isType_cls (kin _ _ hC) rfl ⟨rfl, ?_⟩
  refine ks_wpAny_call_super (kin _ _ hC) rfl ho rfl nofun (PySem.W.looks_mroIn kin S.own) fun h1 e1 k1 => ?_
  have I1 : Inv (supX CX P w K mg base N qual st cc cda f A outer s0 H0 E) [] σ H ⟨h1, g, d, t, os⟩ := I.kept k1
  have hsup := S.sup
  unfold PySem.W.ks_superIn at hsup
  rw [hcl] at hsup
  obtain ⟨t2, ho1⟩ := exo_at I1.hok ea
  have IA : PySem.W.InstAt h1 a _ C none := ⟨ho1, rfl, rfl, trivial⟩
  have hI : PySem.W.Looks (model P w) h1 (isInstance (.ref a) (.type "ValueError")) true := IA.type.andThen (PySem.W.looks_subIn I1.kIn S.val)
  refine PySem.W.kxs_getMethod PySem.W.kxs_ValueError e1 (PySem.W.looks_opaque I1.kIn S.op) (l₀ := .ref C :: bm) ?_ rfl I1.kIn hsup hI (PySem.W.ks_ne I1.kIn IA hcl) (by decide) ?_
  · exact fun A Q E s k q => wpAny_bind ((PySem.W.looks_clsIn I1.kIn hcl) A _ E s k (wpAny_pure q))
  have I2 : Inv (supX CX P w K mg base N qual st cc cda f A outer s0 H0 E) [] σ H ⟨h1.push (PySem.W.kxs_mw "ValueError.__init__" a), g, d, t + 1, os⟩ := I1.kept fun b o e => Heap.get?_push_of_some _ e
  have I3 : Inv (supX CX P w K mg base N qual st cc cda f A outer s0 H0 E) [(h1.objs.size, PySem.W.kxs_mw "ValueError.__init__" a)] σ H ⟨h1.push (PySem.W.kxs_mw "ValueError.__init__" a), g, d, t + 1, os⟩ := I2.pins_of fun p hp => by
    obtain rfl : p = (h1.objs.size, PySem.W.kxs_mw "ValueError.__init__" a) := by simpa using hp
    exact ⟨Heap.get?_push_at rfl rfl, I1.hok.fresh (Nat.le_refl _), Nat.ne_of_gt I1.lt, I1.nofs (Nat.le_refl _), nofun⟩
  refine PySem.W.kxs_callWith (i := "ValueError.__init__") (x := a) rfl (Calls.evalArgs_plain ?_)
  have ha := (pa_cons (X := supX CX P w K mg base N qual st cc cda f A outer s0 H0 E) (pe_str (x := txt) (j := n) (pos := p3)) pa_nil).run p4 [(h1.objs.size, PySem.W.kxs_mw "ValueError.__init__" a)] _ σ H (fun vs H' => vs.length ≤ 1000 ∧ H' = H) I3 ⟨by simp, rfl⟩
  refine wpAny_mono ha (fun us s4 hu => ?_) fun _ _ x => x
  obtain ⟨vs4, H4, I4, r4, hl4, rfl⟩ := hu
  have hu4 := (I4.pin (h1.objs.size, PySem.W.kxs_mw "ValueError.__init__" a) (by simp)).1
  have hlen : us.length ≤ sizeLine := by
    rw [← Paired.length r4, sizeLine_eq]
    omega
  refine ⟨hu4, ?_⟩
  exact call_mw S.oex I4 ea hu4 hlen fun s' J => q s' (J.pins_of (pins' := []) fun p hp => absurd hp (by simp))
end

/-! ### the def's promise -/
/-- the attributes gs hold what is given -/
def spSup (C : Addr) (gs : List Str) : Sp := fun vs H Q _ => ∃ (a : Addr) (us : List V), vs = .ref a :: us ∧ us.length = gs.length ∧ H a = some (exo a C none) ∧
  ∀ (d : Addr) (H' : Hp), H d = none → d ≠ a → H' a = some (exo a C (some d)) → H' d = some (exd d ((gs.zip us).reverse)) → (∀ b, b ≠ a → b ≠ d → H' b = H b) → Q .non H'
section
variable {CX : CXT} {P : Program} {w : World} {K : PySem.W.Frag} {mg : Str → Option Value} {base : Heap} {N ps : List Str} {qual txt y : Str} {st : Stmt} {fd : FuncData} {f cc cda C : Addr} {p0 p1 p2 p3 p4 p5 : Pos} {n k : Nat} {rest : List Stmt} {sp : Sp}
theorem fnOk_sup {pl : PySem.Env → Sem Bool} (S : SupI P K mg C f qual st fd cc cda)
    (hcall : ∀ env : PySem.Env, eval (.Call (.Attribute (.Call (.Name "super" p0) [] [] p1) "__init__" p2) [.Constant (.str txt) n p3] [] p4) env = (do
      let ov ← attributeBase (.Call (.Name "super" p0) [] [] p1) "__init__" env (eval (.Call (.Name "super" p0) [] [] p1) env)
      standAt p2.atName
      let (f, first) ← holding [ov] (getMethod ov "__init__" (pl env))
      callWith p4 f first (backTo p4 (starEach [.Constant (.str txt) n p3] env)) []))
    (SN : NScope N ps ["__class__"] (defScope st)) (hs : (defScope st).names.lookup ("super" : Str) = some .globalImplicit)
    (hpar : (((defArgs st).posonlyargs ++ (defArgs st).args).head?.map (·.arg)) = some y) (hy : ps[0]? = some y)
    (hb : defBody st = .Expr (.Call (.Attribute (.Call (.Name "super" p0) [] [] p1) "__init__" p2) [.Constant (.str txt) n p3] [] p4) p5 :: rest)
    (hsp : ∀ vs H Q E, sp vs H Q E → vs.length = ps.length ∧ ∃ a us, vs = .ref a :: us ∧ H a = some (exo a C none))
    (hrest : ∀ (A : Around) (outer : List PySem.Env) (s0 : Shared) (H0 : Hp) (E : XK) (vs : List V) (Q : VK), sp vs H0 Q E → ∃ t, PSs (supX CX P w K mg base N qual st cc cda f A outer s0 H0 E) rest t ∧ t { nx := fun _ H' => Q .non H', rt := Q } (startF N vs [none]) H0) :
    FnOk P w K mg base CX (k + 1) f fd ps sp := by
  obtain ⟨oc, od, osl, lkf⟩ := S.fn
  obtain ⟨c2, d2, sl2, lkx⟩ := cellB_of S.cell
  have hfd := S.fd
  refine ⟨fun vs H Q E h => (hsp vs H Q E h).1, fun A outer s H args us vs Q E hr e0 hbd rv h => ?_⟩
  obtain ⟨hlen, a, us', rfl, ea⟩ := hsp _ _ _ _ h
  have inK : K.In s.heap := e0.mod.kin.keeps fun b o q => (e0.bs b o q).1
  have noLim : s.heap.NoLimit := e0.mod.nolimit.keeps fun b o q => (e0.bs b o q).1
  obtain ⟨ar, hp, har⟩ : ∃ ar, ((defArgs st).posonlyargs ++ (defArgs st).args).head? = some ar ∧ ar.arg = y := by
    cases z : ((defArgs st).posonlyargs ++ (defArgs st).args).head? with
    | none => rw [z] at hpar; cases hpar
    | some ar => rw [z] at hpar; exact ⟨ar, rfl, Option.some.inj hpar⟩
  have hcl : (defScope st).names.lookup ("__class__" : Str) = some .free := SN.frk _ (by simp)
  have hl : (defScope st).names.lookup y = some .local := SN.par y (List.mem_of_getElem? hy)
  have hps : 0 < ps.length := (List.getElem?_eq_some_iff.mp hy).1
  have hN : N[0]? = some y := by
    have q : (N.take (ps.length + [("__class__" : Str)].length))[0]? = (ps ++ [("__class__" : Str)])[0]? := by rw [SN.pre]
    rw [List.getElem?_take_of_lt (by simp)] at q
    rw [q, List.getElem?_append_left hps]
    exact hy
  have S' := S
  obtain ⟨name, dV, kV, doc, pm, an, ct, rfl⟩ := hfd
  refine ks_codeAny_call_defAt (fd := PySem.W.ksFn name qual (defArgs st) (defBody st) (defScope st) dV kV doc pm an (.ref cda) ct cc) (body := defBody st) (binds := ps.zip us) hr.depth (inK _ _ lkf) rfl noLim (PySem.W.codeRec_of inK S.code) rfl hbd SN.nocell
    (fun x hx => SN.par x.1 (List.of_mem_zip (show (x.1, x.2) ∈ ps.zip us from hx)).1) (fun h₁ hns kp => ?_) SN.co SN.gen SN.kind
  have cells : CellsAt (nfOf qual st cc cda).cl ["__class__"] [none] s.heap H := by
    have lk1 : ∀ {z : Str} {c : Addr}, ([("__class__", cc)] : List (Str × Addr)).lookup z = some c → z = "__class__" ∧ c = cc := fun {z c} e => by
      have m := PySem.mem_of_lookup e
      simp only [List.mem_singleton, Prod.mk.injEq] at m
      exact m
    refine ⟨rfl, fun z c e => ?_, fun x z c e1 e2 => ?_, fun i z e => ?_⟩
    · obtain ⟨_, rfl⟩ := lk1 e
      exact ⟨(e0.bs _ _ (e0.mod.kin _ _ lkx)).2, _, _, inK _ _ lkx, rfl⟩
    · rw [(lk1 e1).1, (lk1 e2).1]
    · have hz : z = "__class__" := by
        have m := List.mem_of_getElem? e
        simpa using m
      subst hz
      refine ⟨cc, rfl, fun v hv => ?_⟩
      cases i with
      | zero => cases hv
      | succ i => cases hv
  have I : Inv (supX CX P w K mg base N qual st cc cda f A outer s H E) [] (startF N (.ref a :: us') [none]) H { s with heap := h₁, toks := s.toks + (ps.zip us).length } := inv_startN SN hr.hd e0 hlen rv cells hns kp
  obtain ⟨t, ht, hq⟩ := hrest A outer s H E _ Q h
  show _root_.PySem.wpAt (model P w) (supX CX P w K mg base N qual st cc cda f A outer s H E).A (.func (defBody st) (supX CX P w K mg base N qual st cc cda f A outer s H E).env) (execs (defBody st) (supX CX P w K mg base N qual st cc cda f A outer s H E).env)
    (fun fl s' => CE outer P w H s Q (match fl with | .ret v => v | _ => .none) s') (supX CX P w K mg base N qual st cc cda f A outer s H E).xe { s with heap := h₁, toks := s.toks + (ps.zip us).length }
  rw [hb]
  refine ks_wpAt_execs_cons (sup_first S hcall SN.kind hs hcl hl hp har hN I (by unfold startF; rfl) ea fun s' J => ?_)
  refine _root_.PySem.wpAt_of_wpAny (wpAny_mono (ht.run [] s' _ H _ J hq) (fun fl s2 h2 => ?_) fun _ _ z => z)
  cases fl with
  | ret u => obtain ⟨v, σ', H', J, r1, r2⟩ := h2; exact ⟨v, H', J.os, J.bare, J.base, J.hok, r1, r2⟩
  | next => obtain ⟨σ', H', J, r2⟩ := h2; exact ⟨.non, H', J.os, J.bare, J.base, J.hok, rfl, r2⟩
  | brk => obtain ⟨_, _, _, z⟩ := h2; exact z.elim
  | cont => obtain ⟨_, _, _, z⟩ := h2; exact z.elim
end

section
variable {CX : CXT} {P : Program} {w : World} {K : PySem.W.Frag} {mg : Str → Option Value} {base : Heap} {qual txt y g1 g2 : Str} {st : Stmt} {fd : FuncData} {f cc cda C : Addr} {p0 p1 p2 p3 p4 p5 q1 q2 q3 q4 q5 q6 q7 q8 : Pos} {n k : Nat}
theorem sup_ok1 {pl : PySem.Env → Sem Bool} (S : SupI P K mg C f qual st fd cc cda)
    (hcall : ∀ env : PySem.Env, eval (.Call (.Attribute (.Call (.Name "super" p0) [] [] p1) "__init__" p2) [.Constant (.str txt) n p3] [] p4) env = (do
      let ov ← attributeBase (.Call (.Name "super" p0) [] [] p1) "__init__" env (eval (.Call (.Name "super" p0) [] [] p1) env)
      standAt p2.atName
      let (f, first) ← holding [ov] (getMethod ov "__init__" (pl env))
      callWith p4 f first (backTo p4 (starEach [.Constant (.str txt) n p3] env)) []))
    (SN : NScope [y, g1, "__class__"] [y, g1] ["__class__"] (defScope st)) (hs : (defScope st).names.lookup ("super" : Str) = some .globalImplicit)
    (hpar : (((defArgs st).posonlyargs ++ (defArgs st).args).head?.map (·.arg)) = some y)
    (hb : defBody st = [.Expr (.Call (.Attribute (.Call (.Name "super" p0) [] [] p1) "__init__" p2) [.Constant (.str txt) n p3] [] p4) p5, .Assign [.Attribute (.Name y q1) g1 q2] (.Name g1 q3) q4])
    (hy : (y == ("__debug__" : Str)) = false ∧ (y == ("__classdict__" : Str)) = false ∧ (g1 == ("__debug__" : Str)) = false ∧ (g1 == ("__classdict__" : Str)) = false) (hf : PySem.W.findIn K (.ref C) g1 = some none) :
    FnOk P w K mg base CX (k + 1) f fd [y, g1] (spSup C [g1]) := by
  refine fnOk_sup (y := y) S hcall SN hs hpar rfl hb (fun vs H Q E ⟨a, us, e, l, ea, _⟩ => ⟨by rw [e, List.length_cons, l]; rfl, a, us, e, ea⟩) fun A outer s0 H0 E vs Q ⟨a, us, e, l, ea, q⟩ => ?_
  subst e
  match us, l with
  | [u1], _ =>
    refine ⟨_, pss_cons (ps_ost (pe_var (i := 0) rfl (.inl (SN.par _ (by simp))) hy.1 hy.2.1) (pe_var (i := 1) rfl (.inl (SN.par _ (by simp))) hy.2.2.1 hy.2.2.2)) pss_nil, ?_⟩
    exact ⟨u1, rfl, .ref a, rfl, a, C, rfl, S.oex, hf, .inl ⟨ea, fun dx hdx hne => q dx _ hdx hne upd_same ((upd_ne hne).trans upd_same) fun b hb hd => (upd_ne hb).trans (upd_ne hd)⟩⟩
end
/-! ### raise C(e, ..) -/
/-- raise C(..): the attributes gs, the last written first -/
def dRaiseF (C : Addr) (gs : List Str) (ta : DA) : DS := fun J env => ta env (fun rs => ∃ ds, rs = ds.map R.val ∧ ds.length = gs.length ∧ gs.length ≤ 1000 ∧ noLsts ds = true ∧ J.ex ⟨C, some (gs.zip ds).reverse⟩) J.ex
structure RaiF (P : Program) (w : World) (K : PySem.W.Frag) (mg : Str → Option Value) (base : Heap) (k : Nat) (x : Str) (C : Addr) (gs : List Str) : Prop where
  g : mg x = some (.ref C)
  ox : OexC K C
  ini : ∃ f fd ps, FnOk P w K mg base (L2.CX P w) k f fd ps (spSup C gs) ∧ PySem.W.findIn K (.ref C) "__init__" = some (some (.ref f)) ∧ PySem.W.typeIn K (.ref f) = some (.type "function") ∧ Binds K fd ps []
theorem noLsts_append {ds es : List D} : noLsts (ds ++ es) = (noLsts ds && noLsts es) := by
  induction ds with
  | nil => rfl
  | cons d ds ih =>
    show (noLst d && noLsts (ds ++ es)) = ((noLst d && noLsts ds) && noLsts es)
    rw [ih, Bool.and_assoc]
theorem noLsts_rev {ds : List D} (h : noLsts ds = true) : noLsts ds.reverse = true := by
  induction ds with
  | nil => rfl
  | cons d ds ih =>
    have h' : (noLst d && noLsts ds) = true := h
    rw [Bool.and_eq_true] at h'
    rw [List.reverse_cons, noLsts_append, ih h'.2]
    show (true && (noLst d && true)) = true
    rw [h'.1]; rfl
section
variable {X : Cx} {E : XK} {e : Expr} {es : List Expr} {sA : DA} {k j : Nat} {C : Addr} {x : Str} {p pos apos : Pos} {gs : List Str}
theorem zip_fst : ∀ {gs : List Str} {ds : List D}, ds.length = gs.length → (gs.zip ds).map (·.1) = gs
  | [], [], _ => rfl
  | g :: gs, d :: ds, h => by rw [List.zip_cons_cons, List.map_cons, zip_fst (by simpa using h)]
theorem zip_snd : ∀ {gs : List Str} {ds : List D}, ds.length = gs.length → (gs.zip ds).map (·.2) = ds
  | [], [], _ => rfl
  | g :: gs, d :: ds, h => by rw [List.zip_cons_cons, List.map_cons, zip_snd (by simpa using h)]
theorem zip_rev {α : Type} : ∀ {gs : List Str} {vs : List α}, vs.length = gs.length → (gs.zip vs).reverse = gs.reverse.zip vs.reverse
  | [], [], _ => rfl
  | g :: gs, v :: vs, h => by
    have h' : vs.length = gs.length := by simpa using h
    rw [List.zip_cons_cons, List.reverse_cons, zip_rev h', List.reverse_cons, List.reverse_cons, List.zip_append (by simp [h'])]
    rfl
theorem pd_raiseF (M : RaiF X.prog X.w X.K X.mg X.base k x C gs) (B : BC X E j) (hk : k + 1 ≤ j) (ha : PDA X E (e :: es) sA) (hg : Gl X x := by rfl) (hdb : (x == ("__debug__" : Str)) = false := by decide)
    (he : starEach (e :: es) X.env = (false, eval e X.env) :: starEach es X.env := by rfl) (hpl : (backTo apos (starEach es X.env)).any (·.1) = false := by rfl) :
    PDS X E (.Raise (some (.Call (.Name x p) (e :: es) [] apos)) none pos) (dRaiseF C gs sA) := by
  obtain ⟨f, fd, ps, F, iC, tI, hb⟩ := M.ini
  refine PS.wk (ps_raise B.calm B.tk (pmk_oex (dvs := []) M.ox iC tI F (B.room.mono hk) hb .nil (passes_call B.tk fun _ _ _ _ z => z.elim) hg M.g (show PA X (e :: es) (liftA X.K E sA) from ha) hdb he hpl)) ?_
  rintro Z σ H ⟨G0, H0, G, env, J, e0, h, hn, hr, hbk, hct, hx⟩
  refine ⟨G0, H0, G, env, _, J.ex, e0, h, ?_, hx.now e0⟩
  rintro rs vs G1 H1 ⟨ds, rfl, hl, hg1, nl, q⟩ k1 g1 rl
  have rl' : RepL X.K G1 H1 vs ds := RRepL.vals rl
  have hvl : vs.length = gs.length := by rw [rl'.length, hl]
  refine ⟨by omega, fun a ha1 => ⟨a, vs, by rw [List.append_nil], hvl, upd_same, fun d H' hd hda e1 e2 e3 => ⟨rfl, d, _, e1, e2, ?_, ?_⟩⟩⟩
  · rw [upd_ne hda] at hd
    exact hd
  · rw [upd_ne hda] at hd
    have hH : ∀ b, b ≠ d → upd (del H' a) d (.xd (gs.zip vs).reverse) b = H1 b := fun b hb => by
      rw [upd_ne hb]
      by_cases z : b = a
      · subst z
        rw [del_same, ha1]
      · rw [del_ne z, e3 b z hb, upd_ne z]
    have nd : ∀ {b o}, H1 b = some o → b ≠ d := fun h => ne_of_none h hd
    have k2 : Keep G1 G1 H1 (upd (del H' a) d (.xd (gs.zip vs).reverse)) := ⟨fun b ob hb _ _ => by rw [hH b (nd hb)]; exact hb, fun b gb ⟨i, j, k, e, z⟩ => ⟨i, j, k, by rw [hH b (nd e)]; exact e, z⟩, fun b K J _ m => m.big fun c o x => by rw [hH c (nd x)]; exact x, fun _ _ => rfl, fun b ps e => ⟨ps, by rw [hH b (nd e)]; exact e, fun q t => t.ext fun b o x => by rw [hH b (nd x)]; exact x⟩⟩
    have g2 : GOk G1 (upd (del H' a) d (.xd (gs.zip vs).reverse)) := ⟨fun b y gy => by
      obtain ⟨ob, q1, q2⟩ := g1.lst b y gy
      exact ⟨ob, by rw [hH b (nd q1)]; exact q1, q2⟩, fun b gy => by
      obtain ⟨i, j, k, e, z⟩ := g1.pen b gy
      exact ⟨i, j, k, by rw [hH b (nd e)]; exact e, z⟩, fun b K J gy => (g1.memo b K J gy).big fun c o x => by rw [hH c (nd x)]; exact x⟩
    have rk := RepL.keep k2 rl'
    have fin := (hx.now e0) _ G1 _ q (k1.trans e0.gok k2) g2
    refine fin.2 _ rfl ?_ d vs.reverse ?_ ?_
    · rw [List.map_reverse, zip_snd hl]
      exact noLsts_rev nl
    · rw [List.map_reverse, zip_snd hl]
      exact rk.reverse
    · rw [upd_same, List.map_reverse, zip_fst hl, zip_rev hvl]
end
theorem dRaiseF_app (C : Addr) (gs : List PySem.Str) (ta : DA) (J : DEnds) (env : SE) : dRaiseF C gs ta J env = ta env (fun rs => ∃ ds, rs = ds.map R.val ∧ ds.length = gs.length ∧ gs.length ≤ 1000 ∧ noLsts ds = true ∧ J.ex ⟨C, some (gs.zip ds).reverse⟩) J.ex := rfl
end QD
/-! own objects compared, joined by signs; isinstance of an own class; a statement that is not reached -/
namespace QD
open PySem PySem.Spec PyProof.Rows L2
def cTys : List String := ["NoneType", "bool", "int", "str", "tuple", "list", "dict"]
/-- what is asked of an own class -/
def clB (K : PySem.W.Frag) (C : Addr) : Bool := (cTys.all fun T => PySem.W.notFirst K C (.type T) && (PySem.W.kitOne K (.type T) (.ref C) == some false)) && (PySem.W.kitOne K (.ref C) (.ref C) == some true)
structure KitC (K : PySem.W.Frag) (C : Addr) : Prop where
  cl : Cls K C
  ha : PySem.W.findIn K (.ref C) "__class__" = some (some (.builtin "object.__class__"))
  hn : PySem.W.specialIn K (.builtin "object.__class__") "__get__" = some (some (.builtin "getset_descriptor.__get__"))
  ht : PySem.W.takesIn K (.builtin "object.__class__") = some true
  hm : PySem.W.mroIn K C (.type "object") = some true
  ty : ∀ T ∈ cTys, PySem.W.notFirst K C (.type T) = true ∧ PySem.W.kitOne K (.type T) (.ref C) = some false
  own : PySem.W.kitOne K (.ref C) (.ref C) = some true
theorem KitC.of {K : PySem.W.Frag} {C : Addr} (cl : Cls K C) (ha : PySem.W.findIn K (.ref C) "__class__" = some (some (.builtin "object.__class__")))
    (hn : PySem.W.specialIn K (.builtin "object.__class__") "__get__" = some (some (.builtin "getset_descriptor.__get__"))) (ht : PySem.W.takesIn K (.builtin "object.__class__") = some true) (hm : PySem.W.mroIn K C (.type "object") = some true) (h : clB K C = true) : KitC K C := by
  unfold clB at h
  rw [Bool.and_eq_true, List.all_eq_true] at h
  refine ⟨cl, ha, hn, ht, hm, fun T hT => ?_, beq_iff_eq.mp h.2⟩
  have := h.1 T hT
  rw [Bool.and_eq_true] at this
  exact ⟨this.1, beq_iff_eq.mp this.2⟩
def tyD : D → Option String
  | .non => some "NoneType"
  | .bl _ => some "bool"
  | .int _ => some "int"
  | .str _ => some "str"
  | .tup _ => some "tuple"
  | .lst _ => some "list"
  | .dct _ _ => some "dict"
  | _ => none
def isC (C : Addr) (d : D) : Option Bool := match d with
  | .ins C' _ _ => if C' = C then some true else none
  | d => if (tyD d).isSome then some false else none
section
variable {X : Cx} {E : XK} {k j : Nat} {C : Addr} {a b o : Expr} {ta tb te : DE} {pos apos p : Pos} {y : Str}
/-! ### isinstance(x, C) -/
def dIsC (C : Addr) (ta : DE) : DE := fun env q x => ta env (fun r => ∃ b, isC C r.d = some b ∧ q (.val (.bl b))) x
/-! ### o == x, o <= x .. by the method of the class -/
def dCmpC (C : Addr) (F : DF) (ta tb : DE) : DE := fun env q x => ta env (fun r1 => tb env (fun r2 => r1.isVal = true ∧ r2.isVal = true ∧ (isC C r2.d).isSome = true ∧ F [r1.d, r2.d] (fun d => q (.val d)) noX) x) x
/-! ### o & x, o | x, o + x -/
def dBinC (C : Addr) (F : DF) (ta tb : DE) : DE := fun env q x => ta env (fun r1 => tb env (fun r2 => r1.isVal = true ∧ r2.isVal = true ∧ isC C r2.d = some true ∧ F [r1.d, r2.d] (fun d => q (.val d)) noX) x) x
end
theorem dCmpC_app (C : Addr) (F : DF) (ta tb : DE) (env : SE) (q : R → Prop) (x : XP) : dCmpC C F ta tb env q x = ta env (fun r1 => tb env (fun r2 => r1.isVal = true ∧ r2.isVal = true ∧ (isC C r2.d).isSome = true ∧ F [r1.d, r2.d] (fun d => q (.val d)) noX) x) x := rfl
theorem dBinC_app (C : Addr) (F : DF) (ta tb : DE) (env : SE) (q : R → Prop) (x : XP) : dBinC C F ta tb env q x = ta env (fun r1 => tb env (fun r2 => r1.isVal = true ∧ r2.isVal = true ∧ isC C r2.d = some true ∧ F [r1.d, r2.d] (fun d => q (.val d)) noX) x) x := rfl
theorem dIsC_app (C : Addr) (ta : DE) (env : SE) (q : R → Prop) (x : XP) : dIsC C ta env q x = ta env (fun r => ∃ b, isC C r.d = some b ∧ q (.val (.bl b))) x := rfl
theorem isC_ins (C : Addr) (ns : List Str) (ds : List D) : isC C (.ins C ns ds) = some true := by
  show (if C = C then some true else none) = some true
  rw [if_pos rfl]
/-- a promise that asks for nothing -/
theorem FnG.no {P : Program} {w : World} {K : PySem.W.Frag} {mg : Str → Option Value} {base : Heap} {k : Nat} {x qual : Str} {st : Stmt} {f : Addr} {fd : FuncData} {ps : List Str} {F : DF} (_ : Fun K x qual st f fd) (h : ∀ ds q x, ¬ F ds q x) : FnG P w K mg base k f fd ps (spOf K F) := by
  refine ⟨fun vs H Q E z => ?_, fun A callers s H a us vs Q E hg hr e0 bt r z => ?_⟩
  · obtain ⟨_, _, _, _, _, _, hF, _⟩ := z
    exact absurd hF (h _ _ _)
  · obtain ⟨_, _, _, _, _, _, hF, _⟩ := z
    exact absurd hF (h _ _ _)
end QD
namespace QD
open PySem PySem.Spec PyProof.Rows L2
section
variable {X : Cx} {E : XK} {a o e : Expr} {te ta : DE} {p p2 pos apos : Pos}
/-- list(range(n)) -/
def dLstRg (te : DE) : DE := fun env q x => te env (fun r => ∃ j : Int, r.d = .int j ∧ -(2 ^ 62) ≤ j ∧ j < 2 ^ 62 ∧ j.toNat ≤ 16777216 ∧ q (.val (.lst (rngD 0 j.toNat)))) x
end
theorem dLstRg_app (te : DE) (env : SE) (q : R → Prop) (x : XP) : dLstRg te env q x = te env (fun r => ∃ j : Int, r.d = .int j ∧ -(2 ^ 62) ≤ j ∧ j < 2 ^ 62 ∧ j.toNat ≤ 16777216 ∧ q (.val (.lst (rngD 0 j.toNat)))) x := rfl
/-! ### an own list: pop -/
theorem RepL.eraseIdx {K : PySem.W.Frag} {G : Gm} {H : Hp} : ∀ {vs : List V} {ds : List D} (k : Nat), RepL K G H vs ds → RepL K G H (vs.eraseIdx k) (ds.eraseIdx k)
  | _, _, _, .nil => .nil
  | _, _, 0, .cons _ r => r
  | _, _, k + 1, .cons a r => .cons a (RepL.eraseIdx k r)
section
variable {X : Cx} {E : XK} {a e : Expr} {ta te : DE} {pos p : Pos} {x y : Str}
def dFLstRg (te : DE) : DFr := fun env q x => te env (fun r => ∃ j : Int, r.d = .int j ∧ -(2 ^ 62) ≤ j ∧ j < 2 ^ 62 ∧ j.toNat ≤ 16777216 ∧ q (rngD 0 j.toNat)) x
def dSetPopAt (i j : Nat) (te : DE) : DS := fun J env => ∃ ds, env[j]? = some (.own ds) ∧ te env (fun r => ∃ (k : Int) (m : Nat) (d : D), r.d = .int k ∧ -(2 ^ 63) ≤ k ∧ k < 2 ^ 63 ∧ seqIndex? k ds.length = some m ∧ ds[m]? = some d ∧ J.nx ((env.set j (.own (ds.eraseIdx m))).set i (.val d))) J.ex
end
theorem dSetPopAt_app (i j : Nat) (te : DE) (J : DEnds) (env : SE) : dSetPopAt i j te J env = ∃ ds, env[j]? = some (.own ds) ∧ te env (fun r => ∃ (k : Int) (m : Nat) (d : D), r.d = .int k ∧ -(2 ^ 63) ≤ k ∧ k < 2 ^ 63 ∧ seqIndex? k ds.length = some m ∧ ds[m]? = some d ∧ J.nx ((env.set j (.own (ds.eraseIdx m))).set i (.val d))) J.ex := rfl
theorem dFLstRg_app (te : DE) (env : SE) (q : List D → Prop) (x : XP) : dFLstRg te env q x = te env (fun r => ∃ j : Int, r.d = .int j ∧ -(2 ^ 62) ≤ j ∧ j < 2 ^ 62 ∧ j.toNat ≤ 16777216 ∧ q (rngD 0 j.toNat)) x := rfl
end QD
/-! texts made of parts; repr of an own object -/
namespace QD
open PySem PySem.Spec PyProof.Rows L2
def dJs : List DE → Str → DE
  | [], acc => fun _ q _ => q (.val (.str acc))
  | t :: ts, acc => fun env q x => t env (fun r => ∃ y : Str, r.d = .str y ∧ (acc ++ y).length ≤ 16777216 ∧ dJs ts (acc ++ y) env q x) x
inductive PDJ (X : Cx) (E : XK) : List Expr → List DE → Prop where
  | nil : PDJ X E [] []
  | cons {e : Expr} {t : DE} {es : List Expr} {ts : List DE} (h : PD X E e t) (r : PDJ X E es ts) : PDJ X E (e :: es) (t :: ts)
section
variable {X : Cx} {E : XK} {k j : Nat} {C : Addr} {a e : Expr} {te : DE} {pos p : Pos}
def dFmt (te : DE) : DE := fun env q x => te env (fun r => ∃ i : Int, r.d = .int i ∧ i.natAbs.log2 < 1920 ∧ q (.val (.str (toString i)))) x
/-- repr(o) of an own class -/
def dReprC (F : DF) (te : DE) : DE := fun env q x => te env (fun r => F [r.d] (fun d => r.isVal = true ∧ ∃ s : Str, d = .str s ∧ q (.val d)) noX) x
end
theorem dReprC_app (F : DF) (te : DE) (env : SE) (q : R → Prop) (x : XP) : dReprC F te env q x = te env (fun r => F [r.d] (fun d => r.isVal = true ∧ ∃ s : Str, d = .str s ∧ q (.val d)) noX) x := rfl
theorem dFmt_app (te : DE) (env : SE) (q : R → Prop) (x : XP) : dFmt te env q x = te env (fun r => ∃ i : Int, r.d = .int i ∧ i.natAbs.log2 < 1920 ∧ q (.val (.str (toString i)))) x := rfl
theorem dJs_nil (acc : Str) (env : SE) (q : R → Prop) (x : XP) : dJs [] acc env q x = q (.val (.str acc)) := rfl
theorem dJs_cons (t : DE) (ts : List DE) (acc : Str) (env : SE) (q : R → Prop) (x : XP) : dJs (t :: ts) acc env q x = t env (fun r => ∃ y : Str, r.d = .str y ∧ (acc ++ y).length ≤ 16777216 ∧ dJs ts (acc ++ y) env q x) x := rfl
end QD
/-! o & x, o | x, o + x where x may be no such object, and the method may raise -/
namespace QD
open PySem PySem.Spec PyProof.Rows L2 PySem.Calls
section
open PySem.W
variable {prog : Program} {w : World} {A : Around} {E : Value → Shared → Prop} {s : Shared} {K : Frag} {x C L f : Addr} {h₀ : Heap} {m : Str → Option Value} {ox : Obj} {od : Option Obj} {T : String}
end
section
variable {X : Cx} {E : XK} {k j : Nat} {C : Addr} {a b o : Expr} {ta tb te : DE} {pos apos p : Pos} {y : Str}
end
end QD
/-! classmethods: C.m(..), cls(..); a starred list in a display -/
namespace QD
open PySem PySem.Spec PyProof.Rows L2 ClX StX
def dStar (te : DE) (ta : DA) : DA := fun env q x => te env (fun r => ∃ ds, r = .val (.lst ds) ∧ ta env (fun rs => q (ds.map R.val ++ rs)) x) x
structure CmtG (P : Program) (w : World) (K : PySem.W.Frag) (mg : Str → Option Value) (base : Heap) (k : Nat) (x : Str) (C : Addr) (m : Str) (F : DF) : Prop where
  g : mg x = some (.ref C)
  ex : ∃ mc p f fd ps, FnG P w K mg base k f fd ps (spOf K F) ∧ CRead K C mc ∧ CMet K C mc m p f ∧ Binds K fd ps []
section
variable {X : Cx} {E : XK} {e a b c o : Expr} {te ta tb : DE} {pos p apos : Pos} {es : List Expr} {sA : DA} {k j : Nat} {C : Addr} {x m f y : Str}
theorem RRepL.app {K : PySem.W.Frag} {G : Gm} {H : Hp} : ∀ {vs us : List V} {ds es : List R}, RRepL K G H vs ds → RRepL K G H us es → RRepL K G H (vs ++ us) (ds ++ es)
  | _, _, _, _, .nil, h => h
  | _, _, _, _, .cons a b, h => .cons a (RRepL.app b h)
theorem dStar_app (te : DE) (ta : DA) (env : SE) (q : List R → Prop) (x : XP) : dStar te ta env q x = te env (fun r => ∃ ds, r = .val (.lst ds) ∧ ta env (fun rs => q (ds.map R.val ++ rs)) x) x := rfl
end
end QD
/-! an own list as a stack: whether anything is in it, pop(), extend; lists joined to a new own one -/
namespace QD
open PySem PySem.Spec PyProof.Rows L2
theorem RepL.dropLast {K : PySem.W.Frag} {G : Gm} {H : Hp} {vs : List V} {ds : List D} (r : RepL K G H vs ds) : RepL K G H vs.dropLast ds.dropLast := by
  rw [List.dropLast_eq_take, List.dropLast_eq_take, r.length]
  exact r.take _
section
variable {X : Cx} {E : XK} {a e : Expr} {ta te tb : DE} {pos p p2 p3 p4 : Pos} {x y : Str}
end
end QD
/-! list * int -/
namespace QD
open PySem PySem.Spec PyProof.Rows L2
section
variable {X : Cx} {E : XK} {a b : Expr} {ta tb : DE} {pos : Pos}
def dFRep (ta tb : DE) : DFr := fun env q x => ta env (fun r1 => tb env (fun r2 => ∃ xs k, r1.d = .lst xs ∧ r2.d = .int k ∧ -(2 ^ 63) ≤ k ∧ k < 2 ^ 63 ∧ xs.length * k.toNat ≤ 16777216 ∧ q (List.replicate k.toNat xs).flatten) x) x
theorem dFRep_app (ta tb : DE) (env : SE) (q : List D → Prop) (x : XP) : dFRep ta tb env q x = ta env (fun r1 => tb env (fun r2 => ∃ xs k, r1.d = .lst xs ∧ r2.d = .int k ∧ -(2 ^ 63) ≤ k ∧ k < 2 ^ 63 ∧ xs.length * k.toNat ≤ 16777216 ∧ q (List.replicate k.toNat xs).flatten) x) x := rfl
end
end QD
/-! how many different texts a tuple holds -/
namespace QD
open PySem PySem.Spec PyProof.Rows L2
/-- how many different texts -/
def difN : List Str → Nat → Nat
  | _, 0 => 0
  | xs, i + 1 => if (xs.take i).any (· == xs.getD i Str.empty) then difN xs i else difN xs i + 1
theorem difN_le (xs : List Str) : ∀ i, difN xs i ≤ i
  | 0 => Nat.le_refl _
  | i + 1 => by
    have := difN_le xs i
    unfold difN
    split <;> omega
theorem any_next {xs : List Str} {i : Nat} (h : i < xs.length) (k : Str) : ((xs.take i).any (· == k) || decide (k = xs.getD i Str.empty)) = (xs.take (i + 1)).any (· == k) := by
  have e : xs.take (i + 1) = xs.take i ++ [xs.getD i Str.empty] := by rw [List.take_add_one, List.getElem?_eq_getElem h, List.getD, List.getElem?_eq_getElem h]; rfl
  rw [e, List.any_append, List.any_cons, List.any_nil, Bool.or_false]
  congr 1
  rw [Bool.eq_iff_iff, decide_eq_true_eq, beq_iff_eq]
  exact eq_comm
section
variable {prog : Program} {w : World} {A : Around} {R : Result → Shared → Prop} {I : Addr} {fp wr : List Addr} {G : Array GenState → Array GenState → Prop} {n : Nat} {P : Nat → Value → Prop} {St : Nat → Shared → Prop}
/-- the loop that fills the set; c texts stand in it -/
theorem fillT (Wk : WalksS prog w A.in1 I fp wr G n P St) (Z : Addr) (off : Z ∉ fp) (xs : List Str) (len : xs.length = n) (few : n + 1 < scanBound) (txt : ∀ i v, P i v → ∃ t, v = .str (xs.getD i Str.empty) t) :
    ∀ (k i : Nat) (s : Shared), n - i = k → i ≤ n → St i s → s.heap.SetOf (PySem.strKind prog w) Z (fun z => (xs.take i).any (· == z)) (difN xs i) →
      (∀ s', Moved (Z :: wr) G s s' → s'.heap.SetOf (PySem.strKind prog w) Z (fun z => (xs.take n).any (· == z)) (difN xs n) → R (.ok (.ret .none)) s') → codeAny (model prog w) A (.builtin "set.update.loop" ⟨[.ref Z, .ref I], []⟩) R s := by
  have offW : Z ∉ wr := fun z => off (Wk.sub _ z)
  have inc : ∀ b ∈ wr, b ∈ Z :: wr := fun _ z => List.mem_cons_of_mem _ z
  have moved : ∀ {s s' : Shared} {i : Nat}, Moved wr G s s' → s.heap.SetOf (PySem.strKind prog w) Z (fun z => (xs.take i).any (· == z)) (difN xs i) → s'.heap.SetOf (PySem.strKind prog w) Z (fun z => (xs.take i).any (· == z)) (difN xs i) := fun m => fun ⟨o, es, ep, t, ho, r⟩ => ⟨o, es, ep, t, m.heap Z _ offW ho, r⟩
  intro k
  induction k with
  | zero =>
    intro i s hk hi st hz done
    obtain rfl : i = n := by omega
    refine codeAny_builtin PyProof.Rows.F.entry_set_update_loop ?_
    rw [Around.under_plainId PyProof.Rows.F.plain_set_update_loop _]
    refine (show wpAny _ A.in1 (pyNext (.ref I) >>= _) _ _ s from wpAny_bind (Wk.done s _ _ st fun s' m => ?_))
    exact (show wpAny _ A.in1 (ret Value.none) _ _ s' from wpAny_pure (done s' (m.mono inc) (moved m hz)))
  | succ k ih =>
    intro i s hk hi st hz done
    have lt : i < n := by omega
    refine codeAny_builtin PyProof.Rows.F.entry_set_update_loop ?_
    rw [Around.under_plainId PyProof.Rows.F.plain_set_update_loop _]
    refine (show wpAny _ A.in1 (pyNext (.ref I) >>= _) _ _ s from wpAny_bind (Wk.item i s _ _ lt st fun v s' hv st' m => ?_))
    obtain ⟨t, rfl⟩ := txt i v hv
    have hz' := moved m hz
    refine (show wpAny _ A.in1 (holding [Value.str (xs.getD i Str.empty) t] (setAdd Z (.str (xs.getD i Str.empty) t)) >>= _) _ _ s' from wpAny_bind (wpAny_holding ?_))
    unfold setAdd
    refine wpAny_holding (wpAny_bind ((PySem.strKind prog w).pyHash (k := xs.getD i Str.empty) (strKind_is _ _ _ _) ?_))
    have le := difN_le xs i
    refine wpAny_setAddHashed_of (knd := PySem.strKind prog w) (s := { s' with toks := s'.toks + 1 }) (strKind_is _ _ _ _) rfl hz' (by omega) fun h' same hz2 => ?_
    have hz3 : h'.SetOf (PySem.strKind prog w) Z (fun z => (xs.take (i + 1)).any (· == z)) (difN xs (i + 1)) := SetOf_congr hz2 (fun z => any_next (by omega) z) rfl
    refine wpAny_pure ⟨plainId_quiet PyProof.Rows.F.plain_set_update_loop _, ih (i + 1) _ (by omega) lt (Wk.frame _ s' _ _ st' (Nat.le_succ _) fun b hb o e => ?_) hz3 fun s2 m2 hz4 => ?_⟩
    · rw [same.2 b fun z => off (by rw [← z]; exact hb)]
      exact e
    · refine done s2 (Moved.trans Wk.gtrans ((m.mono inc).then_heap (Nat.le_succ _) fun b o hb e => ?_) m2) hz4
      rw [same.2 b fun z => hb (by rw [z]; exact List.mem_cons_self)]
      exact e
end
section
variable {prog : Program} {w : World} {A : Around} {E : Value → Shared → Prop} {s : Shared}
set_option maxHeartbeats 3200000 in
end
end QD
/-! texts: signs, slices, sets of texts -/
namespace QD
open PySem PySem.Spec PyProof.Rows L2
section
variable {X : Cx} {E : XK} {tg e a b c o : Expr} {te ta tb : DE} {pos p p2 : Pos} {x : Str} {z : Str}
/-- a text that the module holds -/
theorem pd_gstr (h : ∃ t, X.mg x = some (.str z t)) (hg : Gl X x := by rfl) (hdb : (x == ("__debug__" : Str)) = false := by decide) : PD X E (.Name x p) (dC (.str z)) := by
  obtain ⟨t, h⟩ := h
  exact pd_const (pe_glob hg h (show RelV (.str z) (.str z t) from ⟨t, rfl⟩) hdb) fun _ _ => .str z
/-- the signs of a text -/
def sgs (z : Str) : List D := z.cps.toList.map fun c => .str ⟨#[c]⟩
theorem walk_str {K : PySem.W.Frag} {z : Str} : WalkR K (Its z) .non (.val .non) (sgs z) := by
  intro G H g rr i
  have hl : (sgs z).length = z.cps.size := by rw [sgs, List.length_map, Array.length_toList]
  rw [hl]
  refine ⟨fun hi => ⟨hi, fun y H' h => ?_⟩, id⟩
  obtain ⟨rfl, c, hc, rfl⟩ := h
  refine ⟨.str ⟨#[c]⟩, ?_, G, Keep.refl G H', g, .str _⟩
  rw [sgs, List.getElem?_map, Array.getElem?_toList, hc]
  rfl
def iStrD (te : DE) : DI := fun env q x => te env (fun r => ∃ z, r.d = .str z ∧ q (sgs z) true) x
theorem iStrD_app (te : DE) (env : SE) (q : List D → Bool → Prop) (x : XP) : iStrD te env q x = te env (fun r => ∃ z, r.d = .str z ∧ q (sgs z) true) x := rfl
theorem pdi_str (h : PD X E e te) : PDI X E tg e (iStrD te) := by
  refine PI.wk (pi_str (tg := tg) (show PE X e (lift X.K E te) from h)) ?_
  rintro σ H Q ⟨G0, H0, G, env, q, x, ev, h, hq, hx⟩
  refine ⟨G0, H0, G, env, _, x, ev, h, ?_, hx⟩
  rintro r v G' H' ⟨z, e1, qd⟩ k g rr
  exact ⟨z, rr.str e1, hq _ .non (.val .non) G' H' _ qd k g Rep.non walk_str⟩
/-- one sign in a text -/
def inSD (x y : D) : Option D := match x, y with
  | .str c, .str z => match c.cps.toList with
    | [a] => some (.bl (decide (a ∈ z.cps.toList)))
    | _ => none
  | _, _ => none
theorem ok_inS : OpR X (compareOp .In) (rD X.K inSD) := by
  refine OpR.wk op_in_sign ?_
  rintro x y H Q ⟨G, r1, r2, d, g0, h1, h2, e, q⟩
  generalize hd1 : r1.d = d1 at e
  generalize hd2 : r2.d = d2 at e
  unfold inSD at e
  split at e
  · rename_i cs z
    split at e
    · rename_i a ha
      cases e
      obtain ⟨⟨cs⟩⟩ := cs
      cases ha
      exact ⟨a, z, h1.str hd1, h2.str hd2, q _ G H (Keep.refl G H) g0 (.bl _)⟩
    · cases e
  · cases e
/-- text[i] -/
def ixSD (x y : D) : Option D := match x, y with
  | .str z, .int i => if z.length ≤ 16777216 then (atI z.cps.toList i).map fun c => .str ⟨#[c]⟩ else none
  | _, _ => none
theorem ok_ixS : IxR X (rD X.K ixSD) := by
  intro value slice pins s σ H x y v u Q I rx ry h hs
  obtain ⟨G, r1, r2, d, g0, h1, h2, e, q⟩ := h
  generalize hd1 : r1.d = d1 at e
  generalize hd2 : r2.d = d2 at e
  unfold ixSD at e
  split at e
  · rename_i z i
    split at e
    · rename_i hz
      obtain ⟨c, e1, e2⟩ := Option.map_eq_some_iff.mp e
      subst e2
      exact ix_str value slice pins s σ H x y v u Q I rx ry ⟨z, i, c, h1.str hd1, h2.int hd2, by rw [sizeLine_eq]; exact hz, e1, q _ G H (Keep.refl G H) g0 (.str _)⟩ hs
    · cases e
  · cases e
theorem pd_ixS (ha : PD X E a ta) (hb : PD X E b tb) (hs : PlainIx b := by exact fun _ _ => rfl) : PD X E (.Subscript a b pos) (dOp ixSD ta tb) :=
  PE.wk (pe_ix ok_ixS ha hb hs) fun _ _ _ h => lift_op h
/-- text[lo:hi] -/
def dSlS (ta : DE) (tl th : DO) : DE := fun env q x => ta env (fun r => tl env (fun lo => th env (fun hi => ∃ z, r.d = .str z ∧ z.length ≤ 16777216 ∧ q (.val (.str (cutS z lo hi)))) x) x) x
theorem dSlS_app (ta : DE) (tl th : DO) (env : SE) (q : R → Prop) (x : XP) : dSlS ta tl th env q x = ta env (fun r => tl env (fun lo => th env (fun hi => ∃ z, r.d = .str z ∧ z.length ≤ 16777216 ∧ q (.val (.str (cutS z lo hi)))) x) x) x := rfl
theorem pd_sliceS {lo hi : Option Expr} {tl th : DO} (ha : PD X E a ta) (hl : PO X lo (liftO X.K E tl)) (hh : PO X hi (liftO X.K E th)) : PD X E (.Subscript a (.Slice lo hi none p2) pos) (dSlS ta tl th) := by
  refine PE.wk (pe_slice (sl_str (X := X)) ha hl hh) ?_
  rintro σ H Q ⟨G0, H0, G, env, q, x, e, h, hq, hx⟩
  refine ⟨G0, H0, G, env, _, x, e, h, ?_, hx⟩
  intro r v G1 H1 q1 k1 g1 rr
  refine ⟨G0, H0, G1, env, _, x, e.step k1 g1, q1, ?_, hx.keep e.gok k1⟩
  intro lo' G2 H2 q2 k2 g2
  have k12 := k1.trans e.gok k2
  refine ⟨G0, H0, G2, env, _, x, e.step k12 g2, q2, ?_, hx.keep e.gok k12⟩
  rintro hi' G3 H3 ⟨z, ed, hz, qd⟩ k3 g3
  exact ⟨z, ((rr.keep k2).keep k3).str ed, by rw [sizeLine_eq]; exact hz, hq _ _ G3 H3 qd (k12.trans e.gok k3) g3 (Rep.str _)⟩
/-! ### len(set(a tuple of texts)) -/
def dLenSet (ta : DE) : DE := fun env q x => ta env (fun r => ∃ xs : List Str, r.d = .tup (xs.map D.str) ∧ xs.length ≤ 1000 ∧ q (.val (.int (difN xs xs.length)))) x
theorem dLenSet_app (ta : DE) (env : SE) (q : R → Prop) (x : XP) : dLenSet ta env q x = ta env (fun r => ∃ xs : List Str, r.d = .tup (xs.map D.str) ∧ xs.length ≤ 1000 ∧ q (.val (.int (difN xs xs.length)))) x := rfl
theorem strsOf_mapT : ∀ xs : List Str, strsOf (xs.map D.str) = some xs
  | [] => rfl
  | x :: xs => by
    show (strsOf (xs.map D.str)).map (x :: ·) = _
    rw [strsOf_mapT xs]
    rfl
def dFmtS (te : DE) : DE := fun env q x => te env (fun r => ∃ y : Str, r.d = .str y ∧ y.length ≤ 16777216 ∧ q (.val (.str y))) x
theorem dFmtS_app (te : DE) (env : SE) (q : R → Prop) (x : XP) : dFmtS te env q x = te env (fun r => ∃ y : Str, r.d = .str y ∧ y.length ≤ 16777216 ∧ q (.val (.str y))) x := rfl
end
theorem join_len (sep : Str) (ys : List Str) : (Txt.join sep ys).length ≤ (ys.map (·.length)).sum + ys.length * sep.length := by
  show (Builtin.Str.glued sep ys).length ≤ _
  rw [size_glued]
  have : (ys.length - 1) * sep.length ≤ ys.length * sep.length := Nat.mul_le_mul_right _ (by omega)
  omega
theorem join_mem {sep : Str} {P : Nat → Prop} (hs : ∀ c ∈ sep.cps.toList, P c) {ys : List Str} (hy : ∀ y ∈ ys, ∀ c ∈ y.cps.toList, P c) : ∀ c ∈ (Txt.join sep ys).cps.toList, P c := by
  have fold : ∀ (rest : List Str) (acc : Array Nat), (∀ c ∈ acc.toList, P c) → (∀ y ∈ rest, ∀ c ∈ y.cps.toList, P c) → ∀ c ∈ (rest.foldl (fun acc p => acc ++ sep.cps ++ p.cps) acc).toList, P c := by
    intro rest
    induction rest with
    | nil => intro acc h _; exact h
    | cons y rest ih =>
      intro acc h h2
      rw [List.foldl_cons]
      refine ih _ (fun c hc => ?_) fun z hz => h2 z (List.mem_cons_of_mem _ hz)
      rw [Array.toList_append, Array.toList_append] at hc
      rcases List.mem_append.mp hc with hc | hc
      · rcases List.mem_append.mp hc with hc | hc
        · exact h c hc
        · exact hs c hc
      · exact h2 y List.mem_cons_self c hc
  cases ys with
  | nil => intro c hc; cases hc
  | cons y ys => exact fold ys y.cps (hy y List.mem_cons_self) fun z hz => hy z (List.mem_cons_of_mem _ hz)
end QD
/-! (i, t) < (j, u): an int and a tuple of ints -/
namespace QD
open PySem PySem.Spec PyProof.Rows L2
section
variable {X : Cx}
end
end QD
/-! for f in [lambda: .., ..]: if _law_said(f) != ..: return .. -/
namespace QD
open PySem PySem.Spec PyProof.Rows L2
theorem Grow.trans {P : Addr} {H H1 H2 : Hp} (a : Grow P H H1) (b : Grow P H1 H2) : Grow P H H2 := ⟨fun c o n e => b.old c o n (a.old c o n e), b.tab, a.was⟩
theorem TabS.up {P f : Addr} {H : Hp} {q : Str} {o : HO} (t : LamX.TabS H P q) (n : H f = none) : LamX.TabS (upd H f o) P q := by
  obtain ⟨ps, h1, h2, h3⟩ := t
  refine ⟨ps, by rw [upd_ne (ne_of_none h1 n)]; exact h1, h2, fun pos cv z => ?_⟩
  obtain ⟨c, c1, c2⟩ := h3 pos cv z
  exact ⟨c, c1, by rw [upd_ne (ne_of_none c2 n)]; exact c2⟩
theorem Grow.up {P f : Addr} {H H1 : Hp} {o : HO} (a : Grow P H H1) (n : H1 f = none) : Grow P H (upd H1 f o) := ⟨fun c u z e => by rw [upd_ne (ne_of_none (a.old c u z e) n)]; exact a.old c u z e, TabS.up a.tab n, a.was⟩
section
variable {X : Cx} {pins : List (Addr × Obj)} {σ : L2.St} {H : Hp} {s : Shared}
/-- a lambda's function object, tracked -/
def LamO (X : Cx) (ar : Arguments) (bd : Expr) (sc : Scope) (c' f : Addr) : HO := .ext fun h => ∃ md tv : Value, h.get? f = some (lamObj X ar bd sc md c' tv)
theorem lamO_tbl {ar : Arguments} {bd : Expr} {sc : Scope} {c' f : Addr} (ps : Array Value) : LamO X ar bd sc c' f ≠ .tbl ps := fun z => by
  have z' : HO.ext _ = HO.tbl ps := z
  cases z'
/-- the lambda as it is derived -/
structure LamD (X : Cx) (k : Nat) (ar : Arguments) (bd : Expr) (sc : Scope) (te : DE) : Prop where
  nodef : defaultsOf ar X.env = ([], [])
  L : LamX.LamS X.env.scope sc
  bnd : ∀ md cv tv : Value, bindArgs (PySem.W.kla_fn "<lambda>" (X.env.qual ++ "<lambda>") ar bd sc (cloFrom X.env.cells sc.names []) md cv tv) ⟨[], []⟩ = pure []
  body : ∀ (E' : XK) (A : Around) (callers : List PySem.Env) (s : Shared) (H : Hp) (f c' : Addr), BC (lamX X E' A callers s H sc f c') E' k → PD (lamX X E' A callers s H sc f c') E' bd te
inductive Lams (X : Cx) (k : Nat) : List Expr → List (Arguments × Expr × Scope × DE) → Prop
  | nil : Lams X k [] []
  | cons {ar : Arguments} {bd : Expr} {sc : Scope} {te : DE} {lp : Pos} {es : List Expr} {ls : List (Arguments × Expr × Scope × DE)} : LamD X k ar bd sc te → Lams X k es ls → Lams X k (.Lambda ar bd sc lp :: es) ((ar, bd, sc, te) :: ls)
theorem Lams.get {X : Cx} {k : Nat} {es : List Expr} {ls : List (Arguments × Expr × Scope × DE)} (h : Lams X k es ls) {m : Nat} {ar : Arguments} {bd : Expr} {sc : Scope} {te : DE} (e : ls[m]? = some (ar, bd, sc, te)) : LamD X k ar bd sc te := by
  induction h generalizing m with
  | nil => simp at e
  | cons d _ ih =>
    cases m with
    | zero => cases e; exact d
    | succ m => exact ih e
/-- v is the function of the lambda -/
def LamAt (X : Cx) (H : Hp) (p : Arguments × Expr × Scope × DE) (v : V) : Prop := ∃ f c' : Addr, v = .ref f ∧ H f = some (LamO X p.1 p.2.1 p.2.2.1 c' f) ∧ H c' = some (LamX.CodeO c' (X.env.qual ++ "<lambda>"))
inductive LamsAt (X : Cx) (H : Hp) : List (Arguments × Expr × Scope × DE) → List V → Prop
  | nil : LamsAt X H [] []
  | cons {p : Arguments × Expr × Scope × DE} {v : V} {ls : List (Arguments × Expr × Scope × DE)} {vs : List V} : LamAt X H p v → LamsAt X H ls vs → LamsAt X H (p :: ls) (v :: vs)
theorem LamAt.keep {G G' : Gm} {H H' : Hp} {p : Arguments × Expr × Scope × DE} {v : V} (k : Keep G G' H H') (g : GOk G H) (h : LamAt X H p v) : LamAt X H' p v := by
  obtain ⟨f, c', e, a, b⟩ := h
  have np : ∀ {b : Addr} {o : HO}, H b = some o → (∀ vs, o ≠ .lst vs) → (∀ kvs, o ≠ .dK kvs) → Fix (G b) := fun h n n2 => ⟨fun z => by
    obtain ⟨_, _, _, q, _⟩ := g.pen _ z
    rw [h] at q
    exact n _ (Option.some.inj q), fun K J z => by
    obtain ⟨_, q, _⟩ := g.memo _ K J z
    rw [h] at q
    exact n2 _ (Option.some.inj q)⟩
  refine ⟨f, c', e, k.obj f _ a (np a (fun vs z => ?_) fun vs z => ?_) fun ps => lamO_tbl ps, k.obj c' _ b (np b (fun vs z => ?_) fun vs z => ?_) LamX.codeO_ne⟩
  · have z' : HO.ext _ = HO.lst vs := z
    cases z'
  · have z' : HO.ext _ = HO.dK vs := z
    cases z'
  · unfold LamX.CodeO at z
    cases z
  · unfold LamX.CodeO at z
    cases z
theorem LamsAt.length {H : Hp} {ls : List (Arguments × Expr × Scope × DE)} {vs : List V} (h : LamsAt X H ls vs) : vs.length = ls.length := by
  induction h with
  | nil => rfl
  | cons _ _ ih => rw [List.length_cons, List.length_cons, ih]
theorem LamsAt.get {H : Hp} {ls : List (Arguments × Expr × Scope × DE)} {vs : List V} (h : LamsAt X H ls vs) {j : Nat} {v : V} (e : vs[j]? = some v) : ∃ p, ls[j]? = some p ∧ LamAt X H p v := by
  induction h generalizing j with
  | nil => simp at e
  | cons a _ ih =>
    cases j with
    | zero => cases e; exact ⟨_, rfl, a⟩
    | succ j => exact ih e
/-- the call of _law_said, where the slot i holds the lambda's function -/
def dSaidV (W : WRel) (te : DE) : DE := fun env q x => te env (fun r => ∃ d, r = .val d ∧ q (.val (.tup [.str "told", d]))) (fun e => ∃ bs w, W e bs w ∧ q (.val w))
section
variable {E : XK} {j k : Nat} {P : Addr} {W : WRel}
/-- one after the other: what is told of each -/
def dLamL (W : WRel) (sb : DE) (tb : DS) : List DE → DS
  | [], J, env => J.nx env
  | te :: r, J, env => dSaidV W te env (fun r1 => sb env (fun r2 => ∃ b, neD r1.d r2.d = some (.bl b) ∧ if b = true then tb { nx := fun _ => False, rt := J.rt, bk := fun _ => False, ct := fun _ => False, ex := J.ex } env else dLamL W sb tb r J env) noX) noX
def dForLam (it i : Nat) (P : Addr) (W : WRel) (sb : DE) (tb : DS) (tes : List DE) : DS := fun J env => env[it]? = some (.val (.tab P lamQ)) ∧ i < env.length ∧ dLamL W sb tb tes J (env.set i .no)
end
end
theorem dForLam_app (it i : Nat) (P : Addr) (W : WRel) (sb : DE) (tb : DS) (tes : List DE) (J : DEnds) (env : SE) : dForLam it i P W sb tb tes J env = (env[it]? = some (.val (.tab P lamQ)) ∧ i < env.length ∧ dLamL W sb tb tes J (env.set i .no)) := rfl
theorem dLamL_nil (W : WRel) (sb : DE) (tb : DS) (J : DEnds) (env : SE) : dLamL W sb tb [] J env = J.nx env := rfl
theorem dLamL_cons (W : WRel) (sb : DE) (tb : DS) (te : DE) (r : List DE) (J : DEnds) (env : SE) : dLamL W sb tb (te :: r) J env =
  te env (fun r1 => ∃ d, r1 = .val d ∧ sb env (fun r2 => ∃ b, neD (D.tup [.str "told", d]) r2.d = some (.bl b) ∧ if b = true then tb { nx := fun _ => False, rt := J.rt, bk := fun _ => False, ct := fun _ => False, ex := J.ex } env else dLamL W sb tb r J env) noX)
    (fun e => ∃ bs w, W e bs w ∧ sb env (fun r2 => ∃ b, neD w r2.d = some (.bl b) ∧ if b = true then tb { nx := fun _ => False, rt := J.rt, bk := fun _ => False, ct := fun _ => False, ex := J.ex } env else dLamL W sb tb r J env) noX) := rfl
end QD
/-! zip of two tuples -/
namespace QD
open PySem PySem.Spec PyProof.Rows L2
section
variable {X : Cx} {E : XK} {e e2 : Expr} {te tb : DE} {pos p tpos : Pos} {kk : Nat} {elts : List Expr}
end
end QD
/-! an item of an own list is set -/
namespace QD
open PySem PySem.Spec PyProof.Rows L2
theorem RepL.setAt {K : PySem.W.Frag} {G : Gm} {H : Hp} {v : V} {d : D} (r : Rep K G H v d) : ∀ {vs : List V} {ds : List D} {m : Nat}, RepL K G H vs ds → RepL K G H (vs.set m v) (ds.set m d)
  | _, _, _, .nil => .nil
  | _, _, 0, .cons _ l => .cons r l
  | _, _, m + 1, .cons a l => .cons a (RepL.setAt r l)
section
variable {X : Cx} {E : XK} {value idx : Expr} {te tk : DE} {p pos pos' : Pos} {y : Str}
def dSetIx (i : Nat) (te tk : DE) : DS := fun J env => ∃ ds, env[i]? = some (.own ds) ∧ te env (fun r => ∃ d, r = .val d ∧ tk env (fun rk => ∃ m : Nat, rk.d = .int (m : Nat) ∧ m < ds.length ∧ J.nx (env.set i (.own (ds.set m d)))) J.ex) J.ex
theorem pd_setIx (i : Nat) (hv : PD X E value te) (hk : PD X E idx tk) (hi : X.N[i]? = some y := by rfl) (hx : Vis X.env.scope y := by first | exact Or.inl rfl | exact Or.inr (Or.inl rfl)) (hd : (y == ("__debug__" : Str)) = false := by decide) (hcd : (y == ("__classdict__" : Str)) = false := by decide)
    (ha : ∀ v, assign (.Subscript (.Name y p) idx pos') X.env v = (do
      let ov ← holding [v] (eval (.Name y p) X.env)
      let iv ← holding [v, ov] (eval idx X.env)
      standAt pos'
      holding [v, ov, iv] (setItem ov iv v)
      release [v, ov, iv] []) := by intro _; rfl) (hs : swapsWithSole [.Subscript (.Name y p) idx pos'] value pos.line X.env = pure false := by rfl) (hw : swappedStores [.Subscript (.Name y p) idx pos'] value X.env = pure none := by rfl)
    (h1 : (assignEach [.Subscript (.Name y p) idx pos'] X.env).map (·.2) = [assign (.Subscript (.Name y p) idx pos') X.env] := by rfl) :
    PDS X E (.Assign [.Subscript (.Name y p) idx pos'] value pos) (dSetIx i te tk) := by
  refine PS.wk (ps_asg (show PE X value (lift X.K E te) from hv) (pg_sub (pe_var hi hx hd hcd) (show PE X idx (lift X.K E tk) from hk) set_list ha) hs hw h1) ?_
  rintro Z σ H ⟨G0, H0, G, env, J, e, ⟨ds, hi, h⟩, hn, hr, hb, hct, hxx⟩
  refine ⟨G0, H0, G, env, _, _, e, h, ?_, hxx.now e⟩
  rintro r v G1 H1 ⟨d, rfl, q1⟩ k1 g1 rr
  have e1 := e.step k1 g1
  obtain ⟨l, vs, f1, f2, f3, f4, f5⟩ := e1.own i ds hi
  refine ⟨.ref l, f1, G0, H0, G1, env, _, _, e1, q1, ?_, hxx.now e1⟩
  rintro rk w G2 H2 ⟨m, hm, hml, q2⟩ k2 g2 rr2
  have e2 := e1.step k2 g2
  obtain ⟨l', us, u1, u2, u3, u4, u5⟩ := e2.own i ds hi
  rw [f1] at u1
  cases u1
  have hw := rr2.int hm
  subst hw
  refine ⟨l, us, m, m, rfl, rfl, u4, ?_, hn _ G2 σ _ q2 (e2.write hi f1 (RepL.setAt (rr.keep k2) u5))⟩
  have := u5.length
  unfold ixN
  rw [if_pos (by omega), if_pos (by omega)]
  rfl
end
theorem dSetIx_app (i : Nat) (te tk : DE) (J : DEnds) (env : SE) : dSetIx i te tk J env = ∃ ds, env[i]? = some (.own ds) ∧ te env (fun r => ∃ d, r = .val d ∧ tk env (fun rk => ∃ m : Nat, rk.d = .int (m : Nat) ∧ m < ds.length ∧ J.nx (env.set i (.own (ds.set m d)))) J.ex) J.ex := rfl
end QD
/-! a dict of plain values by ints that defs pass on and write -/
namespace QD
open PySem PySem.Spec PyProof.Rows L2
mutual
def plD : Pl → D
  | .non => .non
  | .bl b => .bl b
  | .int i => .int i
  | .str x => .str x
  | .tup xs => .tup (plDs xs)
def plDs : List Pl → List D
  | [] => []
  | x :: xs => plD x :: plDs xs
end
theorem rd_tup_non {G : Gm} {H : Hp} (g : GOk G H) {a : Addr} {xs : List V} (r : Rd H a (.tup xs)) : G a = none := by
  cases e : G a with
  | none => rfl
  | some x =>
    obtain ⟨o, q, m⟩ := g.lst a x e
    exact absurd r (m.nrd q xs)
mutual
theorem PlT.rep {K : PySem.W.Frag} {G : Gm} {H : Hp} (g : GOk G H) : ∀ {v : V} {t : Pl}, PlT K H v t → Rep K G H v (plD t)
  | _, _, .non => .non
  | _, _, .bl b => .bl b
  | _, _, .int i => .int i
  | _, _, .str x => .str x
  | _, _, .tup r l => .tup (rd_tup_non g r) r (PlTs.rep g l)
  | _, _, .knil z => .knil z
theorem PlTs.rep {K : PySem.W.Frag} {G : Gm} {H : Hp} (g : GOk G H) : ∀ {vs : List V} {ts : List Pl}, PlTs K H vs ts → RepL K G H vs (plDs ts)
  | _, _, .nil => .nil
  | _, _, .cons a b => .cons (PlT.rep g a) (PlTs.rep g b)
end
mutual
theorem PlT.of {K : PySem.W.Frag} {G : Gm} {H : Hp} : ∀ {v : V} (t : Pl), Rep K G H v (plD t) → PlT K H v t
  | _, .non, r => by cases r; exact .non
  | _, .bl b, r => by cases r; exact .bl b
  | _, .int i, r => by cases r; exact .int i
  | _, .str x, r => by cases r; exact .str x
  | _, .tup [], r => by
    cases r with
    | tup e q l => cases l; exact .tup q .nil
    | knil z => exact .knil z
  | _, .tup (x :: xs), r => by
    cases r with
    | tup e q l => cases l with
      | cons a b => exact .tup q (.cons (PlT.of x a) (PlTs.of xs b))
theorem PlTs.of {K : PySem.W.Frag} {G : Gm} {H : Hp} : ∀ {vs : List V} (ts : List Pl), RepL K G H vs (plDs ts) → PlTs K H vs ts
  | _, [], r => by cases r; exact .nil
  | _, x :: xs, r => by
    cases r with
    | cons a b => exact .cons (PlT.of x a) (PlTs.of xs b)
end
theorem MemoAt.get {K : PySem.W.Frag} {J : Int → Pl → Prop} {H : Hp} {a : Addr} {kvs : List (Key × V)} (m : MemoAt K J H a) (h : H a = some (.dK kvs)) {i : Int} {v : V} (e : valV kvs (.inl i) = some v) : ∃ t, J i t ∧ PlT K H v t := by
  obtain ⟨kvs', h', _, h2⟩ := m
  rw [h] at h'
  cases h'
  unfold valV at e
  rw [Option.map_eq_some_iff] at e
  obtain ⟨p, hp, rfl⟩ := e
  obtain ⟨j, t, _, e1, e2, e3⟩ := h2 p (List.mem_of_find?_eq_some hp)
  have := List.find?_some hp
  rw [decide_eq_true_eq, e1] at this
  cases this
  exact ⟨t, e2, e3⟩
theorem nodup_lt : ∀ (n : Nat) (L : List Nat), L.Nodup → (∀ i ∈ L, i < n) → L.length ≤ n
  | 0, [], _, _ => Nat.le_refl 0
  | 0, x :: L, _, h => absurd (h x List.mem_cons_self) (by omega)
  | n + 1, L, nd, h => by
    have e := nodup_lt n (L.erase n) (nd.erase n) fun i hi => by
      have h1 := h i (List.mem_of_mem_erase hi)
      have h2 : i ≠ n := fun z => by
        rw [z] at hi
        exact nd.not_mem_erase hi
      omega
    by_cases c : n ∈ L
    · rw [List.length_erase_of_mem c] at e
      omega
    · rw [List.erase_of_not_mem c] at e
      omega
theorem MemoAt.len {K : PySem.W.Frag} {J : Int → Pl → Prop} {H : Hp} {a : Addr} {kvs : List (Key × V)} (m : MemoAt K J H a) (h : H a = some (.dK kvs)) : kvs.length < sizeLine := by
  obtain ⟨kvs', h', nd, h2⟩ := m
  rw [h] at h'
  cases h'
  have hk : ∃ L : List Nat, kvs.map (·.1) = L.map (fun n : Nat => (Sum.inl (n : Int) : Key)) ∧ ∀ i ∈ L, i < 16777215 := by
    clear nd h
    induction kvs with
    | nil => exact ⟨[], rfl, by simp⟩
    | cons p kvs ih =>
      obtain ⟨L, e, hL⟩ := ih fun q hq => h2 q (List.mem_cons_of_mem _ hq)
      obtain ⟨i, _, lt, e1, _⟩ := h2 p List.mem_cons_self
      exact ⟨i :: L, by rw [List.map_cons, List.map_cons, e, e1], fun j hj => by
        rcases List.mem_cons.mp hj with rfl | hj
        · exact lt
        · exact hL j hj⟩
  obtain ⟨L, e, hL⟩ := hk
  have ndL : L.Nodup := by
    rw [e] at nd
    exact (List.pairwise_map.mp nd).imp fun h z => h (by rw [z])
  have := nodup_lt _ L ndL hL
  have l2 : kvs.length = L.length := by
    have := congrArg List.length e
    rwa [List.length_map, List.length_map] at this
  rw [sizeLine_eq, l2]
  omega
theorem MemoAt.put {K : PySem.W.Frag} {J : Int → Pl → Prop} {H : Hp} {a : Addr} {kvs : List (Key × V)} (m : MemoAt K J H a) (h : H a = some (.dK kvs)) {i : Nat} {v : V} {t : Pl} (hi : i < 16777215) (hj : J (i : Int) t) (p : PlT K H v t) : MemoAt K J (upd H a (.dK (putK kvs (.inl (i : Int)) v))) a := by
  have ts : TupS H (upd H a (.dK (putK kvs (.inl (i : Int)) v))) := TupS.off (MutO.nrd h (.inr (.inr ⟨_, rfl⟩))) fun b n => upd_ne n
  obtain ⟨kvs', h', nd, h2⟩ := m
  rw [h] at h'
  cases h'
  refine ⟨_, upd_same, ?_, fun q hq => ?_⟩
  · unfold putK
    split
    · rw [List.map_map]
      have : ((fun x : Key × V => x.1) ∘ fun kv : Key × V => if kv.1 = Sum.inl (i : Int) then (kv.1, v) else kv) = (·.1) := by
        funext kv
        show (if kv.1 = Sum.inl (i : Int) then (kv.1, v) else kv).1 = kv.1
        split <;> rfl
      rw [this]
      exact nd
    · rename_i c
      rw [List.map_append, List.nodup_append]
      refine ⟨nd, by simp, fun x hx y hy z => ?_⟩
      rw [List.map_cons, List.map_nil, List.mem_singleton] at hy
      subst hy
      subst z
      obtain ⟨w, hw, e⟩ := List.mem_map.mp hx
      exact c (List.any_eq_true.mpr ⟨w, hw, decide_eq_true e⟩)
  · unfold putK at hq
    split at hq
    · obtain ⟨w, hw, e⟩ := List.mem_map.mp hq
      subst e
      by_cases c : w.1 = Sum.inl (i : Int)
      · rw [if_pos c]
        exact ⟨i, t, hi, c, hj, p.ext ts⟩
      · rw [if_neg c]
        obtain ⟨j, u, lt, e1, e2, e3⟩ := h2 w hw
        exact ⟨j, u, lt, e1, e2, e3.ext ts⟩
    · rcases List.mem_append.mp hq with z | z
      · obtain ⟨j, u, lt, e1, e2, e3⟩ := h2 q z
        exact ⟨j, u, lt, e1, e2, e3.ext ts⟩
      · rw [List.mem_singleton.mp z]
        exact ⟨i, t, hi, rfl, hj, p.ext ts⟩
section
variable {X : Cx} {E : XK} {value : Expr} {tv : DE} {pos p1 p2 p3 p4 p5 p6 p7 p8 : Pos} {x y z : Str} {k : Nat}
end
end QD
/-! the one own dict of a frame: made, written, asked, returned -/
namespace QD
open PySem PySem.Spec PyProof.Rows L2
def noDicB (env : SE) : Bool := env.all fun | .dic _ _ => false | _ => true
theorem noDic_of {env : SE} (h : noDicB env = true) {i : Nat} {ks : List Key} {ds : List D} : env[i]? ≠ some (.dic ks ds) := fun z => by
  have := List.all_eq_true.mp h _ (List.mem_of_getElem? z)
  cases this
section
variable {K : PySem.W.Frag} {G0 G : Gm} {H0 : HB} {H : Hp} {σ : L2.St} {env : SE}
theorem EnvOk.setDic (e : EnvOk K G0 H0 G H σ env) {a : Addr} {kvs : List (Key × V)} {ks : List Key} {ds : List D} (i : Nat) (g : G a = some .hid) (h0 : H0.hp a = none) (h : H a = some (.dK kvs)) (hk : kvs.map (·.1) = ks) (r : RepL K G H (kvs.map (·.2)) ds)
    (no : ∀ (j : Nat) (ls : List Key) (es : List D), i ≠ j → env[j]? ≠ some (.dic ls es)) : EnvOk K G0 H0 G H (σ.set i (some (.ref a))) (env.set i (.dic ks ds)) := by
  have e1 := e.setNo i (some (.ref a))
  have back : ∀ {j : Nat} {x : EV}, (env.set i (.dic ks ds))[j]? = some x → (∀ (ls : List Key) (es : List D), x ≠ .dic ls es) → (env.set i .no)[j]? = some x := fun {j x} hj hx => by
    by_cases q : i = j
    · subst q
      rw [List.getElem?_set] at hj
      simp only [if_true] at hj
      split at hj
      · exact absurd (Option.some.inj hj).symm (hx ks ds)
      · cases hj
    · rw [List.getElem?_set_ne q] at hj ⊢
      exact hj
  have dicj : ∀ {j : Nat} {ls : List Key} {es : List D}, (env.set i (.dic ks ds))[j]? = some (.dic ls es) → i = j ∧ i < env.length ∧ ls = ks ∧ es = ds := fun {j ls es} hj => by
    by_cases q : i = j
    · subst q
      rw [List.getElem?_set] at hj
      simp only [if_true] at hj
      split at hj
      · rename_i hl
        cases hj
        exact ⟨rfl, hl, rfl, rfl⟩
      · cases hj
    · rw [List.getElem?_set_ne q] at hj
      exact absurd hj (no j ls es q)
  refine ⟨e1.g0, e1.keep, e1.gok, by simp [e.len], e1.tmp, fun j d hj => e1.val j d (back hj nofun), fun j es hj => e1.own j es (back hj nofun), fun j k es fs b n h1 h2 h3 h4 => e1.sep j k es fs b n (back h1 nofun) (back h2 nofun) h3 h4, ⟨fun j ls es hj => ?_, fun j k ls ms es fs h1 h2 => (dicj h1).1.symm.trans (dicj h2).1⟩⟩
  obtain ⟨rfl, hl, rfl, rfl⟩ := dicj hj
  exact ⟨a, kvs, by rw [List.getElem?_set_self (by rw [← e.len]; exact hl)], g, h0, h, hk, r⟩
/-- the dict written -/
theorem EnvOk.writeDic (e : EnvOk K G0 H0 G H σ env) {i : Nat} {a : Addr} {ks ls : List Key} {ds es : List D} {kvs : List (Key × V)} (h : env[i]? = some (.dic ks ds)) (hσ : σ[i]? = some (some (.ref a))) (hk : kvs.map (·.1) = ls) (r : RepL K G H (kvs.map (·.2)) es) :
    EnvOk K G0 H0 G (upd H a (.dK kvs)) σ (env.set i (.dic ls es)) := by
  obtain ⟨a', kv0, e1, e2, e3, e4, e5, e6⟩ := e.dic.at_ i ks ds h
  rw [hσ] at e1
  cases e1
  have w : Wr G a H (upd H a (.dK kvs)) := ⟨e2, fun b n => upd_ne n, _, e4, .inr (.inr ⟨_, rfl⟩)⟩
  have e9 : EnvOk K G0 H0 G (upd H a (.dK kvs)) σ (env.set i .no) := by
    have ee := e.setNo i (some (.ref a))
    rw [hset_id hσ] at ee
    refine ⟨e.g0, ⟨fun b o q n nt => ?_, fun b g p => w.pen ?_ (e.keep.pen b g p), fun b K J g p => w.memo ?_ (e.keep.memo b K J g p), e.keep.gh, fun b ps q => w.tab e.keep.tab b ps q⟩, ⟨fun b x g => ?_, fun b g => w.pen g (e.gok.pen b g), fun b K J g => w.memo g (e.gok.memo b K J g)⟩, ee.len, fun p hp => Rep.wr w (e.tmp p hp), fun j d' h' => ?_, fun j ds' h' => ?_, ee.sep, DicOk.non fun j ks' ds' h' => ?_⟩
    · have nb : b ≠ a := fun z => by rw [z, e3] at q; cases q
      rw [upd_ne nb]
      exact e.keep.obj b o q n nt
    · rw [e.keep.gh b (by obtain ⟨_, _, _, q, _⟩ := p; rw [q]; simp)]; exact g
    · rw [e.keep.gh b p.ne]; exact g
    · by_cases nb : b = a
      · subst nb; exact ⟨_, upd_same, .inr (.inr ⟨_, rfl⟩)⟩
      · obtain ⟨zs, q, m⟩ := e.gok.lst b x g
        exact ⟨zs, by rw [upd_ne nb]; exact q, m⟩
    · obtain ⟨v, q1, q2⟩ := ee.val j d' h'
      exact ⟨v, q1, Rep.wr w q2⟩
    · obtain ⟨b, ws, q1, q2, q3, q4, q5⟩ := ee.own j ds' h'
      have nb : b ≠ a := fun z => by rw [z, e4] at q4; cases q4
      exact ⟨b, ws, q1, q2, q3, by rw [upd_ne nb]; exact q4, RepL.wr w q5⟩
    · by_cases q : i = j
      · subst q
        rw [List.getElem?_set] at h'
        simp only [if_true] at h'
        split at h' <;> cases h'
      · rw [List.getElem?_set_ne q] at h'
        exact q (e.dic.one i j ks ks' ds ds' h h')
  have := e9.setDic i e2 e3 upd_same hk (RepL.wr w r) fun j ls' es' n h' => by
    rw [List.getElem?_set_ne n] at h'
    exact n (e.dic.one i j ks ls' ds es' h h')
  rw [hset_id hσ] at this
  have se : (env.set i .no).set i (.dic ls es) = env.set i (.dic ls es) := by simp
  rwa [se] at this
/-- no longer written: from now on a value -/
theorem EnvOk.freezeDic (e : EnvOk K G0 H0 G H σ env) {i : Nat} {ks : List Key} {ds : List D} (h : env[i]? = some (.dic ks ds)) : ∃ G' v, σ[i]? = some (some v) ∧ Keep G0 G' H0.hp H ∧ GOk G' H ∧ Rep K G' H v (.dct ks ds) := by
  obtain ⟨a, kvs, e1, e2, e3, e4, e5, e6⟩ := e.dic.at_ i ks ds h
  have np : Fix (G a) := by rw [e2]; simp
  have le := unh_le (G := G) np
  have ne : ∀ {b : Addr}, b ≠ a → unh G a b = G b := fun {b} n => by unfold unh; rw [if_neg n]
  refine ⟨unh G a, .ref a, e1, ⟨e.keep.obj, e.keep.pen, e.keep.memo, fun b hb => ?_, e.keep.tab⟩, ⟨fun b x g => ?_, fun b g => ?_, fun b K J g => ?_⟩, .dct (by unfold unh; rw [if_pos rfl]) (.inl e4) e5 (RepL.le le e6)⟩
  · rw [ne (fun z => hb (by rw [z]; exact e3))]; exact e.keep.gh b hb
  · by_cases z : b = a
    · subst z; unfold unh at g; rw [if_pos rfl] at g; cases g
    · rw [ne z] at g; exact e.gok.lst b x g
  · by_cases z : b = a
    · subst z; unfold unh at g; rw [if_pos rfl] at g; cases g
    · rw [ne z] at g; exact e.gok.pen b g
  · by_cases z : b = a
    · subst z; unfold unh at g; rw [if_pos rfl] at g; cases g
    · rw [ne z] at g; exact e.gok.memo b K J g
end
theorem valV_none {kvs : List (Key × V)} {k : Key} (h : k ∉ kvs.map (·.1)) : valV kvs k = none := by
  unfold valV
  rw [Option.map_eq_none_iff, List.find?_eq_none]
  intro p hp z
  rw [decide_eq_true_eq] at z
  exact h (z ▸ List.mem_map_of_mem hp)
theorem valV_some {kvs : List (Key × V)} {k : Key} (h : k ∈ kvs.map (·.1)) : (valV kvs k).isSome = true := by
  obtain ⟨p, hp, e⟩ := List.mem_map.mp h
  unfold valV
  rw [Option.isSome_map, List.find?_isSome]
  exact ⟨p, hp, decide_eq_true e⟩
def inK (k : Key) (ks : List Key) : Bool := ks.any fun y => decide (y = k)
theorem inK_iff {k : Key} {ks : List Key} : inK k ks = true ↔ k ∈ ks := by
  unfold inK
  rw [List.any_eq_true]
  exact ⟨fun ⟨y, hy, e⟩ => of_decide_eq_true e ▸ hy, fun h => ⟨k, h, decide_eq_true rfl⟩⟩
theorem valV_in {kvs : List (Key × V)} {k : Key} : (valV kvs k).isSome = inK k (kvs.map (·.1)) := by
  cases h : inK k (kvs.map (·.1)) with
  | true => exact valV_some (inK_iff.mp h)
  | false => rw [valV_none fun z => by rw [inK_iff.mpr z] at h; cases h]; rfl
theorem putK_new {kvs : List (Key × V)} {k : Key} {v : V} (h : k ∉ kvs.map (·.1)) : putK kvs k v = kvs ++ [(k, v)] := by
  unfold putK
  rw [if_neg]
  intro z
  obtain ⟨p, hp, e⟩ := List.any_eq_true.mp z
  exact h (of_decide_eq_true e ▸ List.mem_map_of_mem hp)
section
variable {X : Cx} {E : XK} {value key : Expr} {tv tk ta tb : DE} {pos p p1 p2 p3 p4 p5 : Pos} {x y : Str} {k : Nat}
/-- x = {} -/
def dSetDic (i : Nat) : DS := fun J env => noDicB (env.set i .no) = true ∧ J.nx (env.set i (.dic [] []))
theorem dSetDic_app (i : Nat) (J : DEnds) (env : SE) : dSetDic i J env = (noDicB (env.set i .no) = true ∧ J.nx (env.set i (.dic [] []))) := rfl
theorem pd_setDic (i : Nat) (hN : X.N.Nodup) (hi : X.N[i]? = some x := by rfl) (hx : Loc X.env.scope x := by first | exact Or.inl rfl | exact Or.inr rfl) (hs : swapsWith (.Dict [] [] p1) (some (.Name x p)) pos.line X.env = pure false := by rfl)
    (hf : X.fn x = true ∨ X.env.scope.names.lookup x = some .local := by first | exact .inl rfl | exact .inr rfl) : PDS X E (.Assign [.Name x p] (.Dict [] [] p1) pos) (dSetDic i) := by
  refine PS.wk (ps_set hN hi hx pe_dnewK hs hf) ?_
  rintro Z σ H ⟨G0, H0, G, env, J, e, ⟨no, h⟩, hn, hr, hb, hc, hxx⟩
  intro q hq
  have gs : hide G q q = some .hid := hide_same
  have gn : ∀ {b : Addr}, b ≠ q → hide G q b = G b := fun n => by unfold hide; rw [if_neg n]
  have k2 : Keep G (hide G q) H (upd H q (.dK [])) := ⟨(Keep.laid (G := G) hq).obj, (Keep.laid (G := G) hq).pen, (Keep.laid (G := G) hq).memo, fun b hb => gn fun z => hb (by rw [z]; exact hq), (Keep.laid (G := G) hq).tab⟩
  have g2 : GOk (hide G q) (upd H q (.dK [])) := ⟨fun b x gb => by
    by_cases z : b = q
    · rw [z]; exact ⟨_, upd_same, .inr (.inr ⟨_, rfl⟩)⟩
    · rw [gn z] at gb; exact (e.gok.laid hq).lst b x gb, fun b gb => by
    by_cases z : b = q
    · rw [z, gs] at gb; cases gb
    · rw [gn z] at gb; exact (e.gok.laid hq).pen b gb, fun b K' J' gb => by
    by_cases z : b = q
    · rw [z, gs] at gb; cases gb
    · rw [gn z] at gb; exact (e.gok.laid hq).memo b K' J' gb⟩
  have h0 : H0.hp q = none := by
    cases z : H0.hp q with
    | none => rfl
    | some o => exact absurd hq (e.keep.dom e.g0 (by rw [z]; simp))
  exact hn _ (hide G q) _ _ h ((e.step k2 g2).setDic i gs h0 upd_same rfl .nil fun j ls es n z => noDic_of no (by rw [List.getElem?_set_ne n]; exact z))
/-- x[k] = v, k new -/
def dPutDic (i : Nat) (tk tv : DE) : DS := fun J env => ∃ ks ds, env[i]? = some (.dic ks ds) ∧ tv env (fun r1 => tk env (fun r2 => r1.isVal = true ∧ ∃ k, keyD r2.d = some k ∧ k ∉ ks ∧ ks.length < 16777216 ∧ J.nx (env.set i (.dic (ks ++ [k]) (ds ++ [r1.d])))) J.ex) J.ex
theorem dPutDic_app (i : Nat) (tk tv : DE) (J : DEnds) (env : SE) : dPutDic i tk tv J env = ∃ ks ds, env[i]? = some (.dic ks ds) ∧ tv env (fun r1 => tk env (fun r2 => r1.isVal = true ∧ ∃ k, keyD r2.d = some k ∧ k ∉ ks ∧ ks.length < 16777216 ∧ J.nx (env.set i (.dic (ks ++ [k]) (ds ++ [r1.d])))) J.ex) J.ex := rfl
theorem pd_putDic (i : Nat) (B : BC X E k) (hk : PD X E key tk) (hv : PD X E value tv) (hi : X.N[i]? = some x := by rfl) (hvi : Vis X.env.scope x := by first | exact Or.inl rfl | exact Or.inr (Or.inl rfl)) (hdi : (x == ("__debug__" : Str)) = false := by decide) (hci : (x == ("__classdict__" : Str)) = false := by decide)
    (hs : swapsWith value (some (.Subscript (.Name x p3) key p5)) pos.line X.env = pure false := by rfl) : PDS X E (.Assign [.Subscript (.Name x p3) key p5] value pos) (dPutDic i tk tv) := by
  have hu : X.A.units + 1 < cLine := by have := B.u65; omega
  refine PS.wk (ps_dput hu (pe_var (i := i) hi hvi hdi hci) (show PE X key (lift X.K E tk) from hk) (show PE X value (lift X.K E tv) from hv) hs) ?_
  rintro Z σ H ⟨G0, H0, G, env, J, e, ⟨ks, ds, hd, h⟩, hn, hr, hb, hct, hxx⟩
  obtain ⟨a, kv0, q1, q2, q3, q4, q5, q6⟩ := e.dic.at_ i ks ds hd
  refine ⟨G0, H0, G, env, _, _, e, h, ?_, hxx.now e⟩
  rintro r1 v G1 H1 h1 k1 g1 rr1
  have e1 := e.step k1 g1
  refine ⟨.ref a, q1, G0, H0, G1, env, _, _, e1, h1, ?_, (hxx.now e1)⟩
  rintro r2 y G2 H2 ⟨iv, kk, ek, nk, lt, hnx⟩ k2 g2 rr2
  have e2 := e1.step k2 g2
  obtain ⟨a2, kvs, z1, z2, z3, z4, z5, z6⟩ := e2.dic.at_ i ks ds hd
  rw [q1] at z1
  cases z1
  have ey : y = kV kk := rr2.key ek
  subst ey
  have nk' : kk ∉ kvs.map (·.1) := by rw [z5]; exact nk
  have hl : kvs.length < sizeLine := by
    have := congrArg List.length z5
    rw [List.length_map] at this
    rw [sizeLine_eq, this]; exact lt
  refine ⟨a, _, rfl, DPut.k z4 hl, ?_⟩
  rw [putK_new nk']
  refine hn _ G2 σ _ hnx (e2.writeDic hd q1 (by rw [List.map_append, z5]; rfl) ?_)
  rw [List.map_append]
  have rv : Rep X.K G2 H2 v r1.d := by
    have z := RRep.keep k2 rr1
    cases r1 with
    | val d => exact z
    | brw es => cases iv
  exact z6.append (.cons rv .nil)
/-- k in x, k not in x -/
def dInDic (neg : Bool) (i : Nat) (tk : DE) : DE := fun env q x => tk env (fun r => ∃ ks ds k, env[i]? = some (.dic ks ds) ∧ keyD r.d = some k ∧ q (.val (.bl (inK k ks != neg)))) x
theorem dInDic_app (neg : Bool) (i : Nat) (tk : DE) (env : SE) (q : R → Prop) (x : XP) : dInDic neg i tk env q x = tk env (fun r => ∃ ks ds k, env[i]? = some (.dic ks ds) ∧ keyD r.d = some k ∧ q (.val (.bl (inK k ks != neg)))) x := rfl
theorem lift_notInDic {i : Nat} {σ : L2.St} {H : Hp} {Q : VK} (h : lift X.K E (dInDic true i tk) σ H Q) : tDNotIn (lift X.K E tk) (tVar i) σ H Q := by
  obtain ⟨G0, H0, G, env, q, xx, e, h, hq, hx⟩ := h
  refine ⟨G0, H0, G, env, _, xx, e, h, ?_, hx⟩
  rintro r y G1 H1 ⟨ks, ds, kk, hd, ek, qd⟩ k1 g1 rr
  have e1 := e.step k1 g1
  obtain ⟨a, kvs, z1, z2, z3, z4, z5, z6⟩ := e1.dic.at_ i ks ds hd
  have ey : y = kV kk := rr.key ek
  subst ey
  refine ⟨.ref a, z1, a, valV kvs kk, rfl, DGet.k z4, ?_⟩
  rw [valV_in, z5]
  refine hq _ _ G1 H1 qd k1 g1 ?_
  rw [Bool.bne_true]
  exact Rep.bl _
theorem pdt_notInDic (i : Nat) (B : BC X E k) (hk : PD X E key tk) (hi : X.N[i]? = some x := by rfl) (hvi : Vis X.env.scope x := by first | exact Or.inl rfl | exact Or.inr (Or.inl rfl)) (hdi : (x == ("__debug__" : Str)) = false := by decide) (hci : (x == ("__classdict__" : Str)) = false := by decide)
    (hm : behindInMarks .NotIn (.Name x p3) = false := by with_unfolding_all rfl) : PDT X E (.Compare key [.NotIn] [.Name x p3] pos) (dTest (dInDic true i tk)) := by
  have hu : X.A.units + 1 < cLine := by have := B.u65; omega
  exact PT.wk (pt_cmp (pc_dnotin hu (show PE X key (lift X.K E tk) from hk) (pe_var (i := i) hi hvi hdi hci)) hm) fun _ _ _ h => lift_test (fun _ h => lift_notInDic h) h
/-- return x -/
def dRetDic (i : Nat) : DS := fun J env => ∃ ks ds, env[i]? = some (.dic ks ds) ∧ J.rt (.dct ks ds)
theorem dRetDic_app (i : Nat) (J : DEnds) (env : SE) : dRetDic i J env = ∃ ks ds, env[i]? = some (.dic ks ds) ∧ J.rt (.dct ks ds) := rfl
theorem pd_retDic (i : Nat) (hN : X.N[i]? = some x := by rfl) (hv : Vis X.env.scope x := by first | exact Or.inl rfl | exact Or.inr (Or.inl rfl) | exact Or.inr (Or.inr rfl)) (hd : (x == ("__debug__" : Str)) = false := by decide)
    (hcd : (x == ("__classdict__" : Str)) = false := by decide) : PDS X E (.Return (some (.Name x p)) pos) (dRetDic i) := by
  refine PS.wk (ps_ret (pv i hN hv hd hcd)) ?_
  rintro Z σ H ⟨G0, H0, G, env, J, e, ⟨ks, ds, h, q⟩, hn, hr, hb, hc, hx⟩
  obtain ⟨G', v, e1, e2, e3, e4⟩ := e.freezeDic h
  exact ⟨v, e1, hr _ v G' H q e2 e3 e4⟩
/-! ### a dict that is a value -/
/-- k in x, k not in x -/
def dInDct (neg : Bool) (tk td : DE) : DE := fun env q x => tk env (fun r1 => td env (fun r2 => ∃ ks ds k, r2.d = .dct ks ds ∧ keyD r1.d = some k ∧ q (.val (.bl (inK k ks != neg)))) x) x
theorem dInDct_app (neg : Bool) (tk td : DE) (env : SE) (q : R → Prop) (x : XP) : dInDct neg tk td env q x = tk env (fun r1 => td env (fun r2 => ∃ ks ds k, r2.d = .dct ks ds ∧ keyD r1.d = some k ∧ q (.val (.bl (inK k ks != neg)))) x) x := rfl
theorem pd_inDct {dict : Expr} {td : DE} (B : BC X E k) (hk : PD X E key tk) (hd : PD X E dict td) (hm : behindInMarks .In dict = false := by with_unfolding_all rfl) : PD X E (.Compare key [.In] [dict] pos) (dInDct false tk td) := by
  have hu : X.A.units + 1 < cLine := by have := B.u65; omega
  refine PE.wk (pe_cmp (pc_din hu (show PE X key (lift X.K E tk) from hk) (show PE X dict (lift X.K E td) from hd)) hm) ?_
  rintro σ H Q ⟨G0, H0, G, env, q, xx, e, h, hq, hx⟩
  refine ⟨G0, H0, G, env, _, xx, e, h, ?_, hx⟩
  rintro r1 y G1 H1 h1 k1 g1 rr1
  refine ⟨G0, H0, G1, env, _, xx, e.step k1 g1, h1, ?_, hx.keep e.gok k1⟩
  rintro r2 u G2 H2 ⟨ks, ds, kk, e1, e2, qd⟩ k2 g2 rr2
  obtain ⟨a, kvs, rfl, rd, rfl, rl⟩ := rr2.dct e1
  have ey : y = kV kk := (rr1.keep k2).key e2
  subst ey
  refine ⟨a, valV kvs kk, rfl, .inl ⟨kvs, kk, rd, rfl, rfl⟩, ?_⟩
  rw [valV_in]
  refine hq _ _ G2 H2 qd (k1.trans e.gok k2) g2 ?_
  rw [Bool.bne_false]
  exact Rep.bl _
end
end QD
/-! tuple(d) of a dict: its keys -/
namespace QD
open PySem PySem.Spec PyProof.Rows L2
section
variable {prog : Program} {w : World} {A : Around} {E : Value → Shared → Prop} {s : Shared} {T : String} {r d : Addr} {n : Nat} {P : Nat → Value → Prop} {OK : Heap → Prop}
theorem collect_src {Q : List Value → Shared → Prop} (src : PySem.W.KdlSrc prog w T r d n P OK) (calm : A.handled = none) (ok : OK s.heap) (fit : n ≤ sizeLine) (out : ∀ (h' : Heap) (tk : Nat) (acc : Array Value), (∀ b o, s.heap.get? b = some o → h'.get? b = some o) → ItemsOf P acc n → Q acc.toList { s with heap := h', toks := tk }) :
    wpAny (model prog w) A (collect (.ref r)) Q E s := by
  have lt := src.there _ ok
  unfold collect
  refine wpAny_bind (wpAny_runValue (codeAny_builtin F.entry_proto_collect ?_))
  rw [Around.under_plainId F.plain_proto_collect _]
  refine (show wpAny _ A.in1 (newList [] >>= fun l => again (.builtin "list.__iadd__" ⟨[l, .ref r], []⟩)) _ _ s from wpAny_bind (wpAny_newObj_type (wpAny_pure ⟨plainId_quiet F.plain_list_iadd _, codeAny_builtin F.entry_list_iadd ?_⟩)))
  rw [Around.under_plainId F.plain_list_iadd _]
  have at0 : (s.heap.push { cls := .type "list", data := .seq ([] : List Value).toArray }).get? s.heap.objs.size = some { cls := .type "list", data := .seq #[] 0 } := Heap.get?_push_size _ rfl
  refine (show wpAny _ A.in1 (Builtin.List.listExtendWith (.ref s.heap.objs.size) (.ref r) (.ref s.heap.objs.size)) _ _ _ from ?_)
  refine wpAny_mono (PySem.W.kdl_extend (A := A) (s := { s with heap := s.heap.push { cls := .type "list", data := .seq ([] : List Value).toArray } }) (R := fun rr s' => rr = .ok (.ret (.ref s.heap.objs.size)) ∧ ∃ (h' : Heap) (tk : Nat) (acc : Array Value) (c' : Nat), s' = { s with heap := h', toks := tk } ∧ (∀ b o, s.heap.get? b = some o → h'.get? b = some o) ∧
      h'.get? s.heap.objs.size = some { cls := .type "list", dict := none, data := .seq acc c', slots := #[] } ∧ ItemsOf P acc n) src calm (src.keep _ _ ok fun b _ o e => Heap.get?_push_of_some _ e) _ (Nat.ne_of_gt lt.1) (Nat.ne_of_gt lt.2) _ 0 at0
    (fun h' tk acc c' kp e it => ⟨rfl, h', tk, acc, c', rfl, fun b o q => kp b o (Nat.ne_of_lt (Heap.lt_size q)) (Heap.get?_push_of_some _ q), e, it⟩) fit) (fun fin s' hf => ?_) fun e s' hf => absurd hf.1 (by simp)
  cases fin with
  | done f =>
    obtain ⟨e, h', tk, acc, c', rfl, kp, at1, it⟩ := hf
    cases e
    exact (show wpAny _ A (load s.heap.objs.size >>= _) _ _ _ from wpAny_bind (wpAny_load at1 (wpAny_pure (out h' tk acc kp it))))
  | again c2 =>
    refine ⟨hf.1, codeAny_mono hf.2 fun rr s2 hr => ?_⟩
    obtain ⟨rfl, h', tk, acc, c', rfl, kp, at1, it⟩ := hr
    exact (show wpAny _ A (load s.heap.objs.size >>= _) _ _ _ from wpAny_bind (wpAny_load at1 (wpAny_pure (out h' tk acc kp it))))
theorem new_tuple_src {Q1 : Value → Shared → Prop} (src : PySem.W.KdlSrc prog w T r d n P OK) (calm : A.handled = none) (ok : OK s.heap) (fit : n ≤ sizeLine) (hT : T = "dict")
    (out : ∀ (h' : Heap) (tk : Nat) (acc : Array Value), (∀ b o, s.heap.get? b = some o → h'.get? b = some o) → ItemsOf P acc n → Q1 (.ref h'.objs.size) { s with heap := h'.push { cls := .type "tuple", data := .seq acc }, toks := tk }) :
    codeAny (model prog w) A (.call (.builtin "tuple.__new__") ⟨[.type "tuple", .ref r], []⟩) (wants Q1 E) s := by
  subst hT
  refine codeAny_of_tree (show wpAny _ A.in1 (do checkBuiltinCall "tuple.__new__" ⟨[.type "tuple", .ref r], []⟩; again (.builtin "tuple.__new__" ⟨[.type "tuple", .ref r], []⟩)) _ _ s from ?_)
  refine wpAny_bind (wpAny_of_eq (F.newCall_tuple_1 _) (wpAny_pure ⟨plainId_quiet F.plain_tuple_new _, codeAny_builtin F.entry_tuple_new ?_⟩))
  rw [Around.under_plainId F.plain_tuple_new _]
  have hT := src.type s ok
  have l1 := sub_tuple_self
  have l2 := init_tuple_lookup
  have l3 := madeHere_tuple
  have calm1 : A.in1.handled = none := calm
  wp_walk using wpAny_typeOf hT, collect_src (A := A.in1) src calm1 ok fit
  intro h' tk acc kp it
  refine (show wpAny _ _ (Builtin.Tuple.tupleExact acc.toList.toArray >>= fun v => ret v) _ _ _ from ?_)
  unfold Builtin.Tuple.tupleExact
  have e : acc.toList.toArray = acc := by simp
  refine wpAny_bind (wpAny_newObj_type ?_ (by show acc.toList.toArray.size ≤ sizeLine; rw [e, it.1]; exact fit))
  refine wpAny_pure ?_
  rw [e]
  exact out h' tk acc kp it
theorem call_tuple_src {Q : Value → Shared → Prop} (src : PySem.W.KdlSrc prog w T r d n P OK) (calm : A.handled = none) (ok : OK s.heap) (fit : n ≤ sizeLine) (hT : T = "dict")
    (out : ∀ (h' : Heap) (tk : Nat) (acc : Array Value), (∀ b o, s.heap.get? b = some o → h'.get? b = some o) → ItemsOf P acc n → Q (.ref h'.objs.size) { s with heap := h'.push { cls := .type "tuple", data := .seq acc }, toks := tk }) : wpAny (model prog w) A (call (.type "tuple") [.ref r]) Q E s := by
  refine callType_codes (Q₁ := fun ob st => st.TypeIs ob "tuple" ∧ Q ob st) F.called_tuple (F.typeCall_tuple_1 _) F.entry_object_init (new_tuple_src (A := A.in1) src calm ok fit hT fun h' tk acc kp it => ⟨⟨_, Heap.get?_push_size _ rfl, rfl⟩, out h' tk acc kp it⟩) fun ob st z => ?_
  exact ⟨z.1, F.args_object_init_2 ob _, object_init_meets F.called_tuple.init.lookup F.called_tuple.made (by decide) prog w A.in1 _ st ⟨z.1, rfl, z.2⟩⟩
end
section
variable {X : Cx}
theorem call_tupleK (hc : X.calm = true) : CallR X (.type "tuple") (fun xs H Q => ∃ p kvs, xs = [V.ref p] ∧ Rd H p (.dK kvs) ∧ ∀ q, H q = none → Q (.ref q) (upd H q (.tup (kvs.map fun kv => kV kv.1)))) := by
  intro pins s σ H xs us Q I r h
  obtain ⟨p, kvs, rfl, hk, q⟩ := h
  obtain ⟨u, rfl, rx⟩ := r.one
  cases rx
  obtain ⟨z, lo, vs, rk, hd⟩ := dk_rd I.hok hk
  obtain ⟨ep, hat⟩ := hd.dictAt
  have hl : kvs.length = vs.length := Paired.length rk
  refine call_tuple_src (PySem.W.kdl_dict (knd := mixKind X.prog X.w) (kvs := vs) (ep := ep) lo) (I.ok.hd hc) hat (by rw [← hl]; exact z) rfl fun h' tk acc kp it => ?_
  have I1 : Inv X pins σ H { s with heap := h', toks := tk } := I.kept kp
  have hv : Vals (kvs.map fun kv => kV kv.1) acc.toList := by
    refine vals_of_at (by have ez := it.1; rw [List.length_map, hl, ← ez]; simp) fun j x w h1 h2 => ?_
    obtain ⟨k, y, hky, hi⟩ := it.2 j w (by rw [← Array.getElem?_toList]; exact h2)
    have e1 : (kvs.map (·.1))[j]? = some k := by
      rw [KV.keys rk, List.getElem?_map, hky]; rfl
    have e3 : (kvs.map fun kv => kV kv.1) = (kvs.map (·.1)).map kV := by rw [List.map_map]; rfl
    rw [e3, List.getElem?_map, e1] at h1
    cases h1
    exact keyIs_rel hi
  have hz : (kvs.map fun kv => kV kv.1).length ≤ sizeLine := by rw [List.length_map]; exact z
  exact ⟨.ref h'.objs.size, _, I1.laid (t' := tk) (o := .tup (kvs.map fun kv => kV kv.1)) (fun c o e => Heap.get?_push_of_some _ e) (Nat.le_refl _) ⟨hz, acc.toList, hv, by rw [Array.toArray_toList]; exact IsTup.new _ _⟩, rfl, q _ (I1.hok.fresh (Nat.le_refl _))⟩
variable {Ex : XK} {e : Expr} {te : DE} {pos p : Pos}
def dTupK (te : DE) : DE := fun env q x => te env (fun r => ∃ ks ds, r.d = .dct ks ds ∧ q (.val (.tup (ks.map dKey)))) x
theorem dTupK_app (te : DE) (env : SE) (q : R → Prop) (x : XP) : dTupK te env q x = te env (fun r => ∃ ks ds, r.d = .dct ks ds ∧ q (.val (.tup (ks.map dKey)))) x := rfl
theorem keys_rep {K : PySem.W.Frag} {G : Gm} {H : Hp} : ∀ ks : List Key, RepL K G H (ks.map kV) (ks.map dKey)
  | [] => .nil
  | k :: ks => .cons (rep_key k) (keys_rep ks)
theorem pd_tupK (hc : X.calm = true) (hm : X.mg "tuple" = none) (he : PD X Ex e te) (hg : Gl X "tuple" := by rfl) (hs : starEach [e] X.env = [(false, eval e X.env)] := by rfl) : PD X Ex (.Call (.Name "tuple" p) [e] [] pos) (dTupK te) := by
  refine PE.wk (pe_callTy (call_tupleK hc) hg hm boot_tuple_ (pa_cons (show PE X e (lift X.K Ex te) from he) pa_nil hs) (by decide) (by decide) hs rfl) ?_
  rintro σ H Q ⟨G0, H0, G, env, q, x, ev, h, hq, hx⟩
  refine ⟨G0, H0, G, env, _, x, ev, h, ?_, hx⟩
  rintro r v G' H' ⟨ks, ds, e1, qd⟩ kk g rr
  obtain ⟨a, kvs, rfl, rd, rfl, rl⟩ := rr.dct e1
  refine ⟨a, kvs, rfl, rd, fun q0 hq0 => ?_⟩
  have e2 : (kvs.map fun kv => kV kv.1) = (kvs.map (·.1)).map kV := by rw [List.map_map]; rfl
  rw [e2]
  exact hq _ _ G' _ qd (kk.trans ev.gok (Keep.laid hq0)) (g.laid hq0) (Rep.newT g hq0 (keys_rep _))
end
end QD
/-! split, partition -/
namespace QD
open PySem PySem.Spec PyProof.Rows L2
section
variable {X : Cx} {E : XK} {o e : Expr} {ta tb : DE} {apos pos : Pos}
def dSplit (ta tb : DE) : DE := fun env q x => ta env (fun r1 => ∃ a : Str, r1.d = .str a ∧ tb env (fun r2 => ∃ b : Str, r2.d = .str b ∧ (b.length == 0) = false ∧ a.length ≤ 16000000 ∧ q (.val (.lst ((Txt.split a b).map D.str)))) x) x
theorem dSplit_app (ta tb : DE) (env : SE) (q : R → Prop) (x : XP) : dSplit ta tb env q x = ta env (fun r1 => ∃ a : Str, r1.d = .str a ∧ tb env (fun r2 => ∃ b : Str, r2.d = .str b ∧ (b.length == 0) = false ∧ a.length ≤ 16000000 ∧ q (.val (.lst ((Txt.split a b).map D.str)))) x) x := rfl
theorem strs_repL {K : PySem.W.Frag} {G : Gm} {H : Hp} : ∀ ys : List Str, RepL K G H (ys.map V.str) (ys.map D.str)
  | [] => .nil
  | y :: ys => .cons (.str y) (strs_repL ys)
theorem pd_split (ho : PD X E o ta) (he : PD X E e tb) (hs : starEach [e] X.env = [(false, eval e X.env)] := by rfl) (hbase : attributeBase o "split" X.env (eval o X.env) = eval o X.env := by rfl) (hline : (apos.endLine == pos.line) = true := by rfl) :
    PD X E (.Call (.Attribute o "split" apos) [e] [] pos) (dSplit ta tb) := by
  refine PE.wk (pe_split (show PE X o (lift X.K E ta) from ho) (show PE X e (lift X.K E tb) from he) hs hbase hline) ?_
  rintro σ H Q ⟨G0, H0, G, env, q, x, ev, h, hq, hx⟩
  refine ⟨G0, H0, G, env, _, x, ev, h, ?_, hx⟩
  rintro r1 v1 G1 H1 ⟨a, ea, h1⟩ k1 g1 rr1
  have e1 := rr1.str ea
  subst e1
  refine ⟨⟨a, rfl⟩, G0, H0, G1, env, _, x, ev.step k1 g1, h1, ?_, hx.keep ev.gok k1⟩
  rintro r2 v2 G2 H2 ⟨b, eb, nb, la, qd⟩ k2 g2 rr2
  have e2 := rr2.str eb
  subst e2
  exact ⟨a, b, rfl, rfl, nb, by rw [sizeLine_eq]; omega, fun p hp => hq _ _ G2 _ qd ((k1.trans ev.gok k2).trans ev.gok (Keep.laid hp)) (g2.laid hp) (Rep.newL g2 hp (strs_repL _))⟩
def dPartn (ta tb : DE) : DE := fun env q x => ta env (fun r1 => ∃ a : Str, r1.d = .str a ∧ tb env (fun r2 => ∃ b : Str, r2.d = .str b ∧ (b.length == 0) = false ∧ a.length ≤ 16000000 ∧ q (.val (.tup [.str (Txt.partition a b).1, .str (Txt.partition a b).2.1, .str (Txt.partition a b).2.2]))) x) x
theorem dPartn_app (ta tb : DE) (env : SE) (q : R → Prop) (x : XP) : dPartn ta tb env q x = ta env (fun r1 => ∃ a : Str, r1.d = .str a ∧ tb env (fun r2 => ∃ b : Str, r2.d = .str b ∧ (b.length == 0) = false ∧ a.length ≤ 16000000 ∧ q (.val (.tup [.str (Txt.partition a b).1, .str (Txt.partition a b).2.1, .str (Txt.partition a b).2.2]))) x) x := rfl
theorem pd_partn (ho : PD X E o ta) (he : PD X E e tb) (hs : starEach [e] X.env = [(false, eval e X.env)] := by rfl) (hbase : attributeBase o "partition" X.env (eval o X.env) = eval o X.env := by rfl) (hline : (apos.endLine == pos.line) = true := by rfl) :
    PD X E (.Call (.Attribute o "partition" apos) [e] [] pos) (dPartn ta tb) := by
  refine PE.wk (pe_partition (show PE X o (lift X.K E ta) from ho) (show PE X e (lift X.K E tb) from he) hs hbase hline) ?_
  rintro σ H Q ⟨G0, H0, G, env, q, x, ev, h, hq, hx⟩
  refine ⟨G0, H0, G, env, _, x, ev, h, ?_, hx⟩
  rintro r1 v1 G1 H1 ⟨a, ea, h1⟩ k1 g1 rr1
  have e1 := rr1.str ea
  subst e1
  refine ⟨⟨a, rfl⟩, G0, H0, G1, env, _, x, ev.step k1 g1, h1, ?_, hx.keep ev.gok k1⟩
  rintro r2 v2 G2 H2 ⟨b, eb, nb, la, qd⟩ k2 g2 rr2
  have e2 := rr2.str eb
  subst e2
  exact ⟨a, b, rfl, rfl, nb, by rw [sizeLine_eq]; omega, fun p hp => hq _ _ G2 _ qd ((k1.trans ev.gok k2).trans ev.gok (Keep.laid hp)) (g2.laid hp) (Rep.newT g2 hp (.cons (.str _) (.cons (.str _) (.cons (.str _) .nil))))⟩
end
end QD
/-! how many different texts a list holds -/
namespace QD
open PySem PySem.Spec PyProof.Rows L2
section
variable {prog : Program} {w : World} {A : Around} {E : Value → Shared → Prop} {s : Shared}
set_option maxHeartbeats 3200000 in
/-- set(l) of a list of texts -/
theorem setT_lst {l : Addr} {items : Array Value} {xs : List Str} {Q : Value → Shared → Prop} (hh : A.handled = none) (hl : s.heap.IsList l items) (hi : PyProof.Rows.StrsAre items.toList xs) (few : xs.length + 1 < scanBound)
    (fin : ∀ (h' : Heap) (tk : Nat), h'.SetOf (PySem.strKind prog w) s.heap.objs.size (fun z => (xs.take xs.length).any (· == z)) (difN xs xs.length) → (∀ b o, b < s.heap.objs.size → s.heap.get? b = some o → h'.get? b = some o) → Q (.ref s.heap.objs.size) { s with heap := h', toks := tk }) :
    wpAny (model prog w) A (call (.type "set") [.ref l]) Q E s := by
  obtain ⟨mr, mt, hmro⟩ := PySem.F.called_set.mro
  have c1 := PySem.F.called_set.made; have c2 := PySem.F.called_set.sub; have c3 := PySem.F.called_set.notType; have c4 := PySem.F.called_set.canCreate; have c5 := PySem.F.typeCall_set_1 (.ref l)
  refine wpAny_call (codeAny_of_tree (show wpAny _ _ (callAny (.type "set") _) _ _ _ from wpAny_pure ⟨Code.quiet_builtin _ (by decide +kernel), codeAny_builtin PySem.F.entry_type_call ?_⟩))
  rw [Around.under_plain (weight_type_call_type "set" [.ref l] []) rfl]
  repeat (any_goals (first | assumption | wp_step))
  refine codeAny_mono (code_set_new_1 (.ref l) (E := E) (Q₁ := fun u s1 => ∃ b : Bool, u = .ref s.heap.objs.size ∧ s1 = { s with heap := s.heap.push { cls := .type "set", dict := none, data := .set #[] 0 (.fresh 0 0 b) } }) fun b => ⟨b, rfl, rfl⟩) fun r s1 hr => ?_
  cases r with
  | error e => exact hr
  | ok fl =>
    cases fl with
    | ret u =>
      obtain ⟨b, rfl, rfl⟩ := hr
      have new : (s.heap.push { cls := .type "set", dict := none, data := .set #[] 0 (.fresh 0 0 b) }).get? s.heap.objs.size = some { cls := .type "set", dict := none, data := .set #[] 0 (.fresh 0 0 b) } := Heap.get?_push_size _ rfl
      have ty : Shared.TypeIs { s with heap := s.heap.push { cls := .type "set", dict := none, data := .set #[] 0 (.fresh 0 0 b) } } (.ref s.heap.objs.size) "set" := ⟨_, new, rfl⟩
      have c6 := PySem.F.called_set.init.lookup; have c7 := PySem.F.called_set.init.bind (.ref s.heap.objs.size)
      repeat (any_goals (first | assumption | wp_step))
      refine codeAny_mono (codeAny_call_builtin (R := wants (fun r s2 => r = .none ∧ ∃ h' tk, s2 = { s with heap := h', toks := tk } ∧ h'.SetOf (PySem.strKind prog w) s.heap.objs.size (fun z => (xs.take xs.length).any (· == z)) (difN xs xs.length) ∧ (∀ b o, b < s.heap.objs.size → s.heap.get? b = some o → h'.get? b = some o)) E)
        PySem.F.called_set.init.plain PySem.F.entry_set_init (check_set_init_1 ty ?_)) fun r2 s2 hr2 => ?_
      · obtain ⟨⟨cl, od, dt, sl⟩, ho, hc, nl, hd⟩ := hl
        simp only at hc hd
        subst hc hd
        have ho1 : (s.heap.push { cls := .type "set", dict := none, data := .set #[] 0 (.fresh 0 0 b) }).get? l = some { cls := .type "list", dict := od, data := .seq items nl, slots := sl } := Heap.get?_push_of_some _ ho
        have d1 := PySem.F.sub_list_set; have d2 := PySem.F.sub_list_frozenset; have d3 : (Value.type "list" == Value.type "dict") = false := by decide
        have ht : (s.heap.push { cls := .type "set", dict := none, data := .set #[] 0 (.fresh 0 0 b) }).IsList l items := ⟨_, ho1, rfl, nl, rfl⟩
        unfold Builtin.«set.__init__» noKeywords Builtin.Frozenset.updateFrom
        generalize hPI : pyIter = PI
        wp_walk
        subst hPI
        refine wpAny_pyIter_list ht (wpAny_bind (wpAny_runValue ?_))
        have lS : l < s.heap.objs.size := Heap.lt_size ho
        have h3 : A.in1.in1.in1.handled = none := by simp [hh]
        have neI : l ≠ (s.heap.push { cls := .type "set", dict := none, data := .set #[] 0 (.fresh 0 0 b) }).objs.size := by rw [Heap.size_push]; exact Nat.ne_of_lt (Nat.lt_succ_of_lt lS)
        have nS : s.heap.objs.size ∉ [(s.heap.push { cls := .type "set", dict := none, data := .set #[] 0 (.fresh 0 0 b) }).objs.size, l] := by
          rw [Heap.size_push]; simp only [List.mem_cons, List.not_mem_nil, or_false, not_or]; exact ⟨Nat.ne_of_lt (Nat.lt_succ_self _), Nat.ne_of_gt lS⟩
        have sz : xs.length = items.size := by rw [← StrsAre.len_eq hi, Array.length_toList]
        have tx : ∀ (i : Nat) (v : Value), items[i]? = some v → ∃ t, v = .str (xs.getD i Str.empty) t := fun i v hv => SS.strs_at hi i v (by rw [Array.getElem?_toList]; exact hv)
        refine fillT ((Walks.list h3 _ l neI items).toS) s.heap.objs.size nS xs sz (by rw [← sz]; exact few) tx (items.size - 0) 0 _ (by omega) (Nat.zero_le _) ⟨⟨_, Heap.get?_push_size _ rfl, rfl, rfl⟩, (ht.push _)⟩ ?first ?last
        case first =>
          have g0 : ((s.heap.push { cls := .type "set", dict := none, data := .set #[] 0 (.fresh 0 0 b) }).push { cls := .type "list_iterator", data := .fields #[.ref l, .int 0 0] }).get? s.heap.objs.size = some { cls := .type "set", dict := none, data := .set #[] 0 (.fresh 0 0 b) } := Heap.get?_push_of_some _ new
          exact SetOf_congr ((PyProof.Rows.setObjOf_fresh (knd := PySem.strKind prog w) b).setOf g0 (by unfold scanBound; omega)) (fun _ => rfl) rfl
        case last =>
          intro s' m hz
          obtain ⟨h', g', d', tk', os'⟩ := s'
          obtain ⟨eg, ed, eo⟩ : g' = s.gens ∧ d' = s.drawn ∧ os' = s.os := ⟨m.gens, m.drawn, m.os⟩
          subst eg ed eo
          rw [← sz] at hz
          refine (show wpAny _ _ _ _ _ _ from wpAny_pure (show wpAny _ _ (ret Value.none) _ _ _ from wpAny_pure ⟨rfl, h', tk', rfl, hz, fun b o hb e => ?_⟩))
          refine m.heap b o ?_ (Heap.get?_push_of_some _ (Heap.get?_push_of_some _ e))
          simp only [List.mem_cons, List.not_mem_nil, or_false, not_or, Heap.size_push]
          exact ⟨Nat.ne_of_lt hb, Nat.ne_of_lt (Nat.lt_succ_of_lt hb)⟩
      · cases r2 with
        | error e => exact hr2
        | ok fl2 =>
          cases fl2 with
          | ret r =>
            obtain ⟨rfl, h', tk, rfl, hz, kp⟩ := hr2
            repeat (any_goals (first | assumption | wp_step))
            exact fin _ _ hz kp
          | _ => exact hr2.elim
    | _ => exact hr.elim
end
section
variable {X : Cx} {E : XK} {a : Expr} {ta : DE} {p p2 pos : Pos}
def tLenTL (K : PySem.W.Frag) (ta : TE) : TE := fun σ H Q => ta σ H fun x H1 => ∃ l, ∃ xs : List Str, x = .ref l ∧ SqL K H1 l (xs.map V.str) ∧ xs.length ≤ 1000 ∧ Q (.int (difN xs xs.length)) H1
theorem pe_lenTL {q : Pos} (hc : X.calm = true) (hg : Gl X "len") (hm : X.mg "len" = none) (hg2 : Gl X "set") (hm2 : X.mg "set" = none) {ta : TE} (ha : PE X a ta) (na : starEach [a] X.env = (false, eval a X.env) :: starEach [] X.env) :
    PE X (.Call (.Name "len" p) [.Call (.Name "set" p2) [a] [] q] [] pos) (tLenTL X.K ta) := by
  refine ⟨fun pins s σ H Q I h => Call_ (ld_blt I hg hm boot_len (PyProof.Rows.callWith_builtin1 (PyProof.Rows.args_cons (Call_ (ld_blt I hg2 hm2 boot_set (PyProof.Rows.callWith_type1 (PyProof.Rows.args_cons (thn (ha.run pins s σ H _ I h) fun v s1 ⟨x, H1, I1, r1, q1⟩ => PyProof.Rows.args_nil ?_) na) na rfl))) rfl) rfl rfl))⟩
  obtain ⟨l, xs, rfl, hq, few, q1⟩ := q1
  cases r1
  obtain ⟨its, r, pl, hz⟩ := I1.list hq
  refine setT_lst (I1.ok.hd hc) pl.isList (by simpa using strsAre_of r) (by unfold scanBound; omega) fun h' tk hS hk => PyProof.Rows.args_nil ?_
  obtain ⟨o, es, ep, t, ho, hex, hd, _, _, _, hf, hn⟩ := hS
  have I2 : Inv X pins σ H1 { s1 with heap := h', toks := tk } := I1.kept fun b o e => hk b o (Heap.lt_size e) e
  have le := difN_le xs xs.length
  exact call_len_set ho hex hd hf (by rw [hn]; omega) ⟨.int (difN xs xs.length), H1, I2.tok _, ⟨_, by rw [hn]⟩, q1⟩
def dLenSetL (ta : DE) : DE := fun env q x => ta env (fun r => ∃ xs : List Str, r.d = .lst (xs.map D.str) ∧ xs.length ≤ 1000 ∧ q (.val (.int (difN xs xs.length)))) x
theorem dLenSetL_app (ta : DE) (env : SE) (q : R → Prop) (x : XP) : dLenSetL ta env q x = ta env (fun r => ∃ xs : List Str, r.d = .lst (xs.map D.str) ∧ xs.length ≤ 1000 ∧ q (.val (.int (difN xs xs.length)))) x := rfl
theorem pd_lenSetL {q : Pos} (hc : X.calm = true) (hm : X.mg "len" = none) (hm2 : X.mg "set" = none) (ha : PD X E a ta) (hg : Gl X "len" := by rfl) (hg2 : Gl X "set" := by rfl) (na : starEach [a] X.env = (false, eval a X.env) :: starEach [] X.env := by rfl) :
    PD X E (.Call (.Name "len" p) [.Call (.Name "set" p2) [a] [] q] [] pos) (dLenSetL ta) := by
  refine PE.wk (pe_lenTL hc hg hm hg2 hm2 (show PE X a (lift X.K E ta) from ha) na) ?_
  rintro σ H Q ⟨G0, H0, G, env, q, x, ev, h, hq, hx⟩
  refine ⟨G0, H0, G, env, _, x, ev, h, ?_, hx⟩
  rintro r v G1 H1 ⟨xs, ed, few, qd⟩ k1 g1 rr
  obtain ⟨l, vs, rfl, sq, _, rl⟩ := rr.lst ed
  have ev := strs_rep rl (strsOf_mapT xs)
  subst ev
  exact ⟨l, xs, rfl, .inl (.inl sq), few, hq _ _ G1 H1 qd k1 g1 (Rep.int _)⟩
end
end QD
/-! a.append(b.pop(i)) -/
namespace QD
open PySem PySem.Spec PyProof.Rows L2
section
variable {X : Cx} {E : XK} {a : Expr} {ta : DE} {pos p p1 p2 p3 p4 p5 : Pos} {x y : Str}
def dAppPop (i j : Nat) (te : DE) : DS := fun J env => i ≠ j ∧ ∃ fs ds, env[i]? = some (.own fs) ∧ fs.length < 16777216 ∧ env[j]? = some (.own ds) ∧ te env (fun r => ∃ (k : Int) (m : Nat) (d : D), r.d = .int k ∧ -(2 ^ 63) ≤ k ∧ k < 2 ^ 63 ∧ seqIndex? k ds.length = some m ∧ ds[m]? = some d ∧ J.nx ((env.set j (.own (ds.eraseIdx m))).set i (.own (fs ++ [d])))) J.ex
theorem dAppPop_app (i j : Nat) (te : DE) (J : DEnds) (env : SE) : dAppPop i j te J env = (i ≠ j ∧ ∃ fs ds, env[i]? = some (.own fs) ∧ fs.length < 16777216 ∧ env[j]? = some (.own ds) ∧ te env (fun r => ∃ (k : Int) (m : Nat) (d : D), r.d = .int k ∧ -(2 ^ 63) ≤ k ∧ k < 2 ^ 63 ∧ seqIndex? k ds.length = some m ∧ ds[m]? = some d ∧ J.nx ((env.set j (.own (ds.eraseIdx m))).set i (.own (fs ++ [d])))) J.ex) := rfl
/-- list(x), fresh -/
def dFList (te : DE) : DFr := fun env q x => te env (fun r => ∃ ds, seqOf r.d = some ds ∧ q ds) x
theorem dFList_app (te : DE) (env : SE) (q : List D → Prop) (x : XP) : dFList te env q x = te env (fun r => ∃ ds, seqOf r.d = some ds ∧ q ds) x := rfl
end
end QD
/-! x.replace(y, z) of written y, z behind a written text in the same display -/
namespace QD
open PySem PySem.Spec PyProof.Rows L2
section
variable {X : Cx} {E : XK} {a o e : Expr} {es : List Expr} {ta to te : DE} {sA : DA} {y z : Str} {j k : Nat} {c0 c1 c apos pos : Pos}
def PDAT (X : Cx) (E : XK) (es : List Expr) (t : DA) : Prop := PAT X es (liftA X.K E t)
theorem PAT.wk {t u : TA} (h : PAT X es t) (i : ∀ σ H Q, u σ H Q → t σ H Q) : PAT X es u := fun p pins s σ H Q h0 I q => h p pins s σ H Q h0 I (i _ _ _ q)
theorem PET.wk {t u : TE} (h : PET X e t) (i : ∀ σ H Q, u σ H Q → t σ H Q) : PET X e u := fun pins s σ H Q h0 I q => h pins s σ H Q h0 I (i _ _ _ q)
theorem lift_cons {te : DE} {sA : DA} {σ : L2.St} {H : Hp} {Q : List V → Hp → Prop} (h : liftA X.K E (dCons te sA) σ H Q) : tCons (lift X.K E te) (liftA X.K E sA) σ H Q := by
  obtain ⟨G0, H0, G, env, q, x, e, h, hq, hx⟩ := h
  refine ⟨G0, H0, G, env, _, x, e, h, ?_, hx⟩
  rintro r v G' H' qk kk g rr
  refine ⟨G0, H0, G', env, _, x, e.step kk g, qk, ?_, hx.keep e.gok kk⟩
  rintro rs vs G2 H2 q2 k2 g2 rl
  exact hq _ _ G2 H2 q2 (kk.trans e.gok k2) g2 (.cons (rr.keep k2) rl)
theorem pdat_of (h : PDA X E es sA) : PDAT X E es sA := fun p pins s σ H Q _ I q => PA.run h p pins s σ H Q I q
theorem pdat_cons (ha : PET X a (lift X.K E te)) (hr : PDAT X E es sA) (hs : starEach (a :: es) X.env = (false, eval a X.env) :: starEach es X.env := by rfl) : PDAT X E (a :: es) (dCons te sA) :=
  PAT.wk (pat_cons ha hr hs) fun _ _ _ h => lift_cons h
/-- a + a written text: one token is out behind it -/
theorem pda_tok {op : Operator} {f : D → D → Option D} (ho : OpR X (binaryOp op) (rD X.K f)) (ha : PD X E a ta) (hr : PDAT X E es sA) (hs : starEach (Expr.BinOp a op (.Constant (.str y) j c) pos :: es) X.env = (false, eval (Expr.BinOp a op (.Constant (.str y) j c) pos) X.env) :: starEach es X.env := by rfl) :
    PDA X E (Expr.BinOp a op (.Constant (.str y) j c) pos :: es) (dCons (dOp f ta (dC (.str y))) sA) := by
  refine PA.wk (t := tCons (tOp (rD X.K f) (lift X.K E ta) (lift X.K E (dC (.str y)))) (liftA X.K E sA)) ⟨fun p pins s σ H Q I h => ?_⟩ fun σ H Q h => ?_
  · rw [hs]
    show wpAny _ _ (spliced ((false, _) :: backTo p (starEach es X.env))) _ _ s
    refine Calls.spliced_cons ?_
    refine wpAny_mono (Q := fun v s1 => 1 ≤ s1.toks ∧ EP X pins σ (fun v H1 => liftA X.K E sA σ H1 fun vs => Q (v :: vs)) v s1) ?_ (fun v s1 ⟨h1, x, H1, I1, r1, q1⟩ => ?_) fun _ _ z => z
    · refine wpAny_BinOp (thn (PE.run ha pins s σ H _ I h) fun v s1 ⟨x, H1, I1, r1, q1⟩ => ?_)
      refine Calls.Constant_str ?_
      refine wpAny_mono (PySem.wpAny_toks (ho pins _ σ H1 x (.str y) v _ _ (I1.tok _) r1 ⟨_, rfl⟩ ?_)) (fun u s2 q => ⟨?_, q.2⟩) fun _ _ z => z.2
      · obtain ⟨G0, H0, G, env, q, xx, e, hc, hq, hx⟩ := q1
        have := hq (.val (.str y)) (.str y) G H1 hc (Keep.refl G H1) e.gok (Rep.str y)
        exact this
      · have := q.1
        have h2 : s1.toks + 1 ≤ s2.toks := this
        omega
    · exact thn (hr p pins s1 σ H1 _ h1 I1 q1) fun us s2 ⟨xs, H2, I2, r2, q2⟩ => ⟨x :: xs, H2, I2, .cons r1 r2, q2⟩
  · have h1 := lift_cons h
    exact lift_op h1
def dReplC (to : DE) (y z : Str) : DE := fun env q x => to env (fun r => ∃ s : Str, r.d = .str s ∧ s.length + (s.length + 1) * z.length ≤ 16777216 ∧ q (.val (.str (Txt.replace s y z)))) x
theorem dReplC_app (to : DE) (y z : Str) (env : SE) (q : R → Prop) (x : XP) : dReplC to y z env q x = to env (fun r => ∃ s : Str, r.d = .str s ∧ s.length + (s.length + 1) * z.length ≤ 16777216 ∧ q (.val (.str (Txt.replace s y z)))) x := rfl
theorem pet_replD (ho : PD X E o to) (hyz : (y == z) = false := by decide)
    (hst : starEach [.Constant (.str y) j c0, .Constant (.str z) k c1] X.env = [(false, eval (.Constant (.str y) j c0) X.env), (false, eval (.Constant (.str z) k c1) X.env)] := by rfl)
    (hbase : attributeBase o "replace" X.env (eval o X.env) = eval o X.env := by rfl) (hline : (apos.endLine == pos.line) = true := by rfl) :
    PET X (.Call (.Attribute o "replace" apos) [.Constant (.str y) j c0, .Constant (.str z) k c1] [] pos) (lift X.K E (dReplC to y z)) := by
  refine PET.wk (CwR.pet_replC (show PE X o (lift X.K E to) from ho) hyz hst hbase hline) ?_
  rintro σ H Q ⟨G0, H0, G, env, q, x, ev, h, hq, hx⟩
  refine ⟨G0, H0, G, env, _, x, ev, h, ?_, hx⟩
  rintro r v G' H' ⟨s, es, bs, qs⟩ k g rr
  exact ⟨s, rr.str es, bs, hq _ _ G' H' qs k g (Rep.str _)⟩
end
/-! an own list of a split -/
section
variable {X : Cx} {E : XK} {o e : Expr} {ta tb : DE} {apos pos : Pos}
def dFSplit (ta tb : DE) : DFr := fun env q x => ta env (fun r1 => ∃ a : Str, r1.d = .str a ∧ tb env (fun r2 => ∃ b : Str, r2.d = .str b ∧ (b.length == 0) = false ∧ a.length ≤ 16000000 ∧ q ((Txt.split a b).map D.str)) x) x
theorem dFSplit_app (ta tb : DE) (env : SE) (q : List D → Prop) (x : XP) : dFSplit ta tb env q x = ta env (fun r1 => ∃ a : Str, r1.d = .str a ∧ tb env (fun r2 => ∃ b : Str, r2.d = .str b ∧ (b.length == 0) = false ∧ a.length ≤ 16000000 ∧ q ((Txt.split a b).map D.str)) x) x := rfl
theorem pf_split (ho : PD X E o ta) (he : PD X E e tb) (hs : starEach [e] X.env = [(false, eval e X.env)] := by rfl) (hbase : attributeBase o "split" X.env (eval o X.env) = eval o X.env := by rfl) (hline : (apos.endLine == pos.line) = true := by rfl) :
    PFL X E (.Call (.Attribute o "split" apos) [e] [] pos) (dFSplit ta tb) := by
  refine PE.wk (pe_split (show PE X o (lift X.K E ta) from ho) (show PE X e (lift X.K E tb) from he) hs hbase hline) ?_
  rintro σ H Q ⟨G0, H0, G, env, q, x, ev, h, hq, hx⟩
  refine ⟨G0, H0, G, env, _, x, ev, h, ?_, hx⟩
  rintro r1 v1 G1 H1 ⟨a, ea, h1⟩ k1 g1 rr1
  have e1 := rr1.str ea
  subst e1
  refine ⟨⟨a, rfl⟩, G0, H0, G1, env, _, x, ev.step k1 g1, h1, ?_, hx.keep ev.gok k1⟩
  rintro r2 v2 G2 H2 ⟨b, eb, nb, la, qd⟩ k2 g2 rr2
  have e2 := rr2.str eb
  subst e2
  refine ⟨a, b, rfl, rfl, nb, by rw [sizeLine_eq]; omega, fun p hp => ?_⟩
  have k12 := k1.trans ev.gok k2
  exact hq _ _ _ _ qd (k12.trans ev.gok (Keep.hide hp)) (g2.hide hp) (FreshL.new ev.gok k12 hp (strs_repL _))
end
end QD
namespace QD
open PySem PySem.Spec PyProof.Rows L2
def t_is_integer  : DS := (dRet (dAnd (dIsi "int" (dVar 0)) (dNot (dIsi "bool" (dVar 0)))))
def t_is_item (F_is_integer : DF) : DS := (dRet (dAnd (dCall F_is_integer (dCons (dVar 0) dNil)) (dChain leI ltA (dC (.int 0)) (dVar 0) (dVar 1))))
def t_is_set (F_is_item : DF) : DS := (dSeq (dIfS (dNotT (dTest (dIsi "tuple" (dVar 0)))) (dRet (dC (.bl false))) dNext) (dSeq (dSet 2 (dC (.int 0))) (dSeq (dFor (iSeq (dVar 0)) (gN 3) (dSeq (dIfS (dOrT (dNotT (dTest (dCall F_is_item (dCons (dVar 3) (dCons (dVar 1) dNil))))) (dTest (dOp ltA (dVar 3) (dVar 2)))) (dRet (dC (.bl false))) dNext) (dSet 2 (dOp addA (dVar 3) (dC (.int 1)))))) (dRet (dC (.bl true))))))
def t_is_entry (F_is_set : DF) : DS := (dSeq (dIfS (dNotT (dTest (dIsi "tuple" (dVar 0)))) (dRet (dC (.bl false))) dNext) (dSeq (dFor (iSeq (dVar 0)) (gN 3) (dIfS (dOrT (dNotT (dTest (dCall F_is_set (dCons (dVar 3) (dCons (dVar 2) dNil))))) (dTest (dOp inD (dVar 1) (dVar 3)))) (dRet (dC (.bl false))) dNext)) (dRet (dC (.bl true)))))
def t_is_ways (F_is_entry : DF) : DS := (dSeq (dIfS (dOrT (dNotT (dTest (dIsi "tuple" (dVar 0)))) (dNotT (dTest (dChain leI leI (dC (.int 1)) (dBlt lenF (dCons (dVar 0) dNil)) (dVar 1))))) (dRet (dC (.bl false))) dNext) (dSeq (dFor (iEnumD (dVar 0)) (gTupN [2, 3]) (dIfS (dNotT (dTest (dCall F_is_entry (dCons (dVar 3) (dCons (dVar 2) (dCons (dBlt lenF (dCons (dVar 0) dNil)) dNil)))))) (dRet (dC (.bl false))) dNext)) (dRet (dC (.bl true)))))
def t_mask_of  : DS := (dSeq (dSet 1 (dC (.int 0))) (dSeq (dFor (iSeq (dVar 0)) (gN 2) (dSet 1 (dOp orD (dVar 1) (dOp shlD (dC (.int 1)) (dVar 2))))) (dRet (dVar 1))))
def t_lies_within  : DS := (dRet (dOp eqD (dOp andD (dVar 0) (dVar 1)) (dVar 0)))
def t_first_way (F_lies_within : DF) : DS := (dSeq (dFor (iSeq (dVar 0)) (gN 2) (dIfS (dTest (dCall F_lies_within (dCons (dVar 2) (dCons (dVar 1) dNil)))) (dRet (dVar 2)) dNext)) (dRet (dC .non)))
def t_has_way (F_first_way : DF) : DS := (dRet (dOp isNotA (dCall F_first_way (dCons (dVar 0) (dCons (dVar 1) dNil))) (dC .non)))
def t_rank_of (C : Addr) : DS := (dSeq (dSet 1 (dBlt lenF (dCons (dVar 0) dNil))) (dSeq (dFor (iSeq (dVar 0)) (gN 2) (dSet 1 (dOp addA (dOp mulA (dVar 1) (dC (.int 24))) (dVar 2)))) (dRet (dVar 1))))
def t_in_order (F_rank_of : DF) : DS := (dSeq (dSet 1 (dDc [2] (iSeq (dVar 0)) (gN 2) (dCall F_rank_of (dCons (dVar 2) dNil)) (dVar 2))) (dRet (dOfF (dLc [3] (iSeq (dBlt sortedF (dCons (dLocked 1 (dOfF (dLc [3] (iKeysD (dVar 1)) (gN 3) dYes (dBlt intF (dCons (dVar 3) dNil))))) dNil))) (gN 3) dYes (dDGet (dVar 1) (dVar 3))))))
def t_tidy (F_in_order : DF) (F_has_way : DF) (F_mask_of : DF) : DS := (dSeq (dSetOwn 1 (dFLst dNil)) (dSeq (dSetOwn 2 (dFLst dNil)) (dSeq (dFor (iSeq (dCall F_in_order (dCons (dVar 0) dNil))) (gN 3) (dIfS (dNotT (dTest (dCall F_has_way (dCons (dVar 2) (dCons (dCall F_mask_of (dCons (dVar 3) dNil)) dNil))))) (dSeq (dAppend 1 (dVar 3)) (dAppend 2 (dCall F_mask_of (dCons (dVar 3) dNil)))) dNext)) (dRet (dBlt tupF (dCons (dVar 1) dNil))))))
def t_masks_of (F_mask_of : DF) : DS := (dRet (dBlt tupF (dCons (dOfF (dLc [1] (iSeq (dVar 0)) (gN 1) dYes (dCall F_mask_of (dCons (dVar 1) dNil)))) dNil)))
def t_Course___init__ (C : Addr) (X_NoCourse : Addr) (F_is_ways : DF) (F_tidy : DF) (F_masks_of : DF) : DN := (dnIf (dNotT (dTest (dCall F_is_ways (dCons (dVar 1) (dCons (dC (.int 24)) dNil))))) (dRaise X_NoCourse) (dnSet (C := C) "_ways" (dBlt tupF (dCons (dOfF (dLc [2] (iSeq (dVar 1)) (gN 2) dYes (dCall F_tidy (dCons (dVar 2) dNil)))) dNil)) (dnSet (C := C) "book" (dBlt tupF (dCons (dOfF (dLc [2] (iSeq (dFld C "_ways" (dVar 0))) (gN 2) dYes (dCall F_masks_of (dCons (dVar 2) dNil)))) dNil)) dnNil)))
def t__law_cell_at  : DS := (dSeq (dIfS (dTest (dOp ltA (dVar 1) (dBlt lenF (dCons (dVar 0) dNil)))) (dRet (dOp ixD (dVar 0) (dVar 1))) dNext) (dRet (dC (.int 0))))
def t__law_next  : DS := (dSeq (dSet 0 (dOp modD (dOp addA (dVar 0) (dC (.int 7919))) (dC (.int 2147483647)))) (dRet (dOp modD (dOp addA (dOp addA (dOp mulA (dVar 0) (dVar 0)) (dOp mulA (dC (.int 48271)) (dVar 0))) (dC (.int 12345))) (dC (.int 2147483629)))))
def t__law_pen_of  : DS := (dSeq (dSet 1 (dBlt max2F (dCons (dBlt intF (dCons (dVar 0) dNil)) (dCons (dOp subD (dC (.int 0)) (dBlt intF (dCons (dVar 0) dNil))) dNil)))) (dRetPen (dFLst (dCons (dVar 1) (dCons (dBlt intF (dCons (dOp geI (dVar 1) (dOp powD (dC (.int 10)) (dC (.int 18)))) dNil)) (dCons (dOp modD (dVar 1) (dC (.int 1000003))) dNil))))))
def t__law_draw (F__law_next : DF) : DS := (dSeq (dIfS (dAndT (dTest (dOp eqD (dPenGet 1 (dVar 0)) (dC (.int 1)))) (dTest (dOp gtI (dPenGet 0 (dVar 0)) (dC (.int 0))))) (dSeq (dSet 2 (dOp modD (dPenGet 0 (dVar 0)) (dVar 1))) (dSeq (dPenSet 0 0 (dOp fdivD (dPenGet 0 (dVar 0)) (dVar 1))) (dRet (dVar 2)))) dNext) (dSeq (dPenSet 0 2 (dCall F__law_next (dCons (dOp addA (dCall F__law_next (dCons (dPenGet 2 (dVar 0)) dNil)) (dC (.int 7))) dNil))) (dRet (dOp modD (dOp fdivD (dPenGet 2 (dVar 0)) (dC (.int 64))) (dVar 1)))))
def t__law_way (F__law_draw : DF) : DS := (dSeq (dSetOwn 4 (dFLst dNil)) (dSeq (dFor (iRange1 (dCall F__law_draw (dCons (dVar 0) (dCons (dOp addA (dVar 3) (dC (.int 1))) dNil)))) (gN 5) (dSeq (dSet 6 (dCall F__law_draw (dCons (dVar 0) (dCons (dVar 1) dNil)))) (dIfS (dAndT (dTest (dOp neD (dVar 6) (dVar 2))) (dTest (dOp notInD (dVar 6) (dVar 4)))) (dAppend 4 (dVar 6)) dNext))) (dRet (dBlt tupF (dCons (dBlt sortedF (dCons (dOfF (dLc [6] (iSeq (dVar 4)) (gN 6) dYes (dBlt intF (dCons (dVar 6) dNil)))) dNil)) dNil)))))
def t__law_book (F__law_draw : DF) (F__law_way : DF) : DS := (dSeq (dPar [3, 4, 5] (dFVal (dOp addA (dC (.int 1)) (dCall F__law_draw (dCons (dVar 0) (dCons (dVar 1) dNil)))) (dFVal (dCall F__law_draw (dCons (dVar 0) (dCons (dC (.int 6)) dNil))) (dFOwn (dFLst dNil) dFNil)))) (dSeq (dFor (iRange1 (dVar 3)) (gN 2) (dSeq (dSetOwn 6 (dFLst dNil)) (dSeq (dFor (iRange1 (dOp addA (dC (.int 1)) (dCall F__law_draw (dCons (dVar 0) (dCons (dOp ixD (dLst (dCons (dC (.int 1)) (dCons (dC (.int 2)) (dCons (dC (.int 3)) (dCons (dC (.int 3)) (dCons (dC (.int 4)) (dCons (dC (.int 2)) dNil))))))) (dVar 4)) dNil))))) (gN 7) (dSeq (dSet 8 (dCall F__law_way (dCons (dVar 0) (dCons (dVar 3) (dCons (dVar 2) (dCons (dOp ixD (dLst (dCons (dC (.int 1)) (dCons (dC (.int 3)) (dCons (dC (.int 2)) (dCons (dC (.int 3)) (dCons (dC (.int 5)) (dCons (dC (.int 2)) dNil))))))) (dVar 4)) dNil)))))) (dSeq (dIfS (dTest (dOp inD (dVar 4) (dTup (dCons (dC (.int 0)) (dCons (dC (.int 1)) (dCons (dC (.int 5)) dNil)))))) (dSet 8 (dBlt tupF (dCons (dOfF (dLc [9] (iSeq (dVar 8)) (gN 9) (dTest (dOp ltA (dVar 9) (dVar 2))) (dVar 9))) dNil))) dNext) (dAppend 6 (dVar 8))))) (dSeq (dIfS (dAndT (dTest (dOp gtI (dVar 4) (dC (.int 1)))) (dTest (dOp eqD (dCall F__law_draw (dCons (dVar 0) (dCons (dC (.int 3)) dNil))) (dC (.int 0))))) (dAppend 6 (dTup dNil)) dNext) (dSeq (dIfS (dAndT (dTest (dOp inD (dVar 4) (dTup (dCons (dC (.int 2)) (dCons (dC (.int 4)) dNil))))) (dTest (dOp eqD (dCall F__law_draw (dCons (dVar 0) (dCons (dC (.int 5)) dNil))) (dC (.int 0))))) (dSetOwn 6 (dFLst dNil)) dNext) (dAppend 5 (dBlt tupF (dCons (dVar 6) dNil)))))))) (dRet (dBlt tupF (dCons (dVar 5) dNil)))))
def t__law_is  : DS := (dRet (dAnd (dOp eqD (dVar 0) (dVar 1)) (dOp eqD (dBlt reprF (dCons (dVar 0) dNil)) (dBlt reprF (dCons (dVar 1) dNil)))))
mutual
/-- a value as laws pass them: no script, no instance, no pen -/
def pl : D → Bool
  | .tup xs => pls xs
  | .lst xs => pls xs
  | .dct _ xs => pls xs
  | .scr _ => false
  | .dcl _ _ => false
  | .ins _ _ _ => false
  | .pen => false
  | .exo _ _ _ _ => false
  | .tab _ _ => false
  | .two _ _ _ _ => false
  | .memo _ => false
  | .tupN _ => false
  | _ => true
def pls : List D → Bool
  | [] => true
  | x :: xs => pl x && pls xs
end
def isIntD : D → Bool
  | .int _ => true
  | _ => false
def isTupD : D → Bool
  | .tup _ => true
  | _ => false
theorem isi_int {d : D} (h : pl d = true) : isiD d "int" = some (match d with | .int _ => true | .bl _ => true | _ => false) := by
  cases d <;> simp [pl] at h <;> simp only [isiD] <;> decide +kernel
theorem isi_bool {d : D} (h : pl d = true) : isiD d "bool" = some (match d with | .bl _ => true | _ => false) := by
  cases d <;> simp [pl] at h <;> simp only [isiD] <;> decide +kernel
theorem isi_tup {d : D} (h : pl d = true) : isiD d "tuple" = some (isTupD d) := by
  cases d <;> simp [pl] at h <;> simp only [isiD, isTupD] <;> decide +kernel
def F_is_integer : DF := fun ds q _ => ∃ d, ds = [d] ∧ pl d = true ∧ q (.bl (isIntD d))
theorem s_is_integer : ∀ ds q x, F_is_integer ds q x → ds.length = 1 ∧ t_is_integer { nx := fun _ => q .non, rt := q, ex := x } (startE 1 ds) := by
  rintro ds q x ⟨d, rfl, h, hq⟩
  refine ⟨rfl, ?_⟩
  simp only [t_is_integer, dRet, dAnd, dIsi, dVar, dNot, startE, List.map, List.length, Nat.sub_self, List.replicate, List.append_nil, List.getElem?_cons_zero, R.d]
  refine ⟨_, isi_int h, _, rfl, ?_⟩
  cases d <;> simp [pl] at h <;> simp only [if_true, if_false, Bool.false_eq_true] <;> first
    | exact ⟨_, rfl, hq⟩
    | exact ⟨_, isi_bool (by simpa [pl] using h), _, rfl, _, rfl, hq⟩

def isItem (n : Int) : D → Bool
  | .int i => decide (0 ≤ i) && decide (i < n)
  | _ => false
def F_is_item : DF := fun ds q _ => ∃ d n, ds = [d, .int n] ∧ pl d = true ∧ q (.bl (isItem n d))
theorem s_is_item : ∀ ds q x, F_is_item ds q x → ds.length = 2 ∧ t_is_item F_is_integer { nx := fun _ => q .non, rt := q, ex := x } (startE 2 ds) := by
  rintro ds q x ⟨d, n, rfl, h, hq⟩
  refine ⟨rfl, ?_⟩
  simp only [t_is_item, dRet, dAnd, dCall, dCons, dNil, dVar, dChain, dC, startE, List.map, List.length, Nat.sub_self, List.replicate, List.append_nil, List.getElem?_cons_zero, List.getElem?_cons_succ, R.d]
  refine ⟨d, rfl, h, .inl rfl, _, rfl, ?_⟩
  cases d <;> simp only [isIntD, if_true, if_false, Bool.false_eq_true] <;> try exact ⟨_, rfl, hq⟩
  rename_i i
  refine ⟨_, rfl, ?_⟩
  by_cases c : (0 : Int) ≤ i
  · simp only [c, decide_true, if_true]
    refine ⟨_, rfl, _, rfl, ?_⟩
    simpa [isItem, c] using hq
  · simp only [c, decide_false, if_false, Bool.false_eq_true]
    refine ⟨_, rfl, ?_⟩
    simpa [isItem, c] using hq
def isSetL (n : Int) : Int → List D → Bool
  | _, [] => true
  | least, .int i :: xs => if decide (0 ≤ i) && decide (i < n) && decide (least ≤ i) then isSetL n (i + 1) xs else false
  | _, _ => false
def isSet (n : Int) : D → Bool
  | .tup xs => isSetL n 0 xs
  | _ => false
def F_is_set : DF := fun ds q _ => ∃ d n, ds = [d, .int n] ∧ pl d = true ∧ q (.bl (isSet n d))
theorem l_is_set (n : Int) (v : D) (q : D → Prop) (x : XP) (J : DEnds) (hJ : J.rt = q) (hx : J.ex = x) : ∀ (xs : List D) (least : Int) (o : EV), pls xs = true → (isSetL n least xs = false → q (.bl false)) → (∀ env, isSetL n least xs = true → J.nx env) →
    dForL (gN 3) (dSeq (dIfS (dOrT (dNotT (dTest (dCall F_is_item (dCons (dVar 3) (dCons (dVar 1) dNil))))) (dTest (dOp ltA (dVar 3) (dVar 2)))) (dRet (dC (.bl false))) dNext) (dSet 2 (dOp addA (dVar 3) (dC (.int 1))))) J xs [.val v, .val (.int n), .val (.int least), o]
  | [], least, o, _, _, h2 => h2 _ rfl
  | d :: xs, least, o, hp, h1, h2 => by
    simp only [pls, Bool.and_eq_true] at hp
    refine ⟨_, rfl, ?_⟩
    simp only [dSeq, dIfS, dOrT, dNotT, dTest, dCall, dCons, dNil, dVar, dOp, dRet, dC, dNext, dSet, List.set_cons_zero, List.set_cons_succ, List.getElem?_cons_zero, List.getElem?_cons_succ, List.map, R.d]
    refine ⟨d, n, rfl, hp.1, .inl rfl, _, rfl, ?_⟩
    cases d with
    | int i =>
      by_cases c : (0 : Int) ≤ i ∧ i < n
      · simp only [isItem, c.1, c.2, decide_true, Bool.and_self, Bool.not_true, Bool.false_eq_true, if_false]
        refine ⟨_, rfl, _, rfl, ?_⟩
        by_cases c2 : i < least
        · simp only [c2, decide_true, if_true]
          refine ⟨_, rfl, ?_⟩
          rw [hJ]
          exact h1 (by simp [isSetL]; intro _ _ z; omega)
        · simp only [c2, decide_false, Bool.false_eq_true, if_false]
          refine ⟨_, rfl, _, rfl, ?_⟩
          have e : isSetL n least (.int i :: xs) = isSetL n (i + 1) xs := by
            simp [isSetL, c.1, c.2, show least ≤ i by omega]
          rw [e] at h1 h2
          exact l_is_set n v q x J hJ hx xs (i + 1) _ hp.2 h1 h2
      · have e : isItem n (.int i) = false := by simp only [isItem, Bool.and_eq_false_iff, decide_eq_false_iff_not]; omega
        simp only [e, Bool.not_false, if_true]
        refine ⟨_, rfl, ?_⟩
        rw [hJ]
        exact h1 (by simp [isSetL]; intro z1 z2; exact absurd ⟨z1, z2⟩ c)
    | _ =>
      simp only [isItem, Bool.not_false, if_true]
      refine ⟨_, rfl, ?_⟩
      rw [hJ]
      exact h1 rfl
theorem s_is_set : ∀ ds q x, F_is_set ds q x → ds.length = 2 ∧ t_is_set F_is_item { nx := fun _ => q .non, rt := q, ex := x } (startE 4 ds) := by
  rintro ds q x ⟨d, n, rfl, h, hq⟩
  refine ⟨rfl, ?_⟩
  simp only [t_is_set, dSeq, dIfS, dNotT, dTest, dIsi, dVar, dRet, dC, dNext, dSet, dFor, iSeq, startE, List.map, List.length, List.replicate, List.cons_append, List.nil_append, List.set_cons_zero, List.set_cons_succ, List.getElem?_cons_zero, List.getElem?_cons_succ, R.d]
  refine ⟨_, isi_tup h, _, rfl, ?_⟩
  cases d with
  | tup xs =>
    simp only [isTupD, Bool.not_true, Bool.false_eq_true, if_false]
    refine ⟨_, rfl, .inr ⟨xs, rfl, rfl, ?_⟩⟩
    refine l_is_set n _ q x _ rfl rfl xs 0 _ (by simpa [pl] using h) (fun e => ?_) (fun env e => ⟨_, rfl, ?_⟩)
    · have : isSet n (.tup xs) = false := e
      rw [← this]; exact hq
    · have : isSet n (.tup xs) = true := e
      rw [← this]; exact hq
  | _ => simp only [isTupD, Bool.not_false, if_true]; exact ⟨_, rfl, hq⟩
/-! ### rows of ints -/
def iD (ns : List Int) : List D := ns.map D.int
theorem toPys_ints : ∀ ns : List Int, toPys (iD ns) = some (ns.map PyData.int)
  | [] => rfl
  | n :: ns => by
    show (match toPy (.int n), toPys (iD ns) with | some p, some ps => some (p :: ps) | _, _ => none) = _
    rw [toPys_ints ns]
    rfl
theorem lay_ints : ∀ ns : List Int, PyData.canLayAll0 (ns.map PyData.int) = true
  | [] => rfl
  | n :: ns => by simp [PyData.canLayAll0, PyData.canLay0, lay_ints ns]
theorem eqv_ints (a b : Int) : PyData.eqv (.int a) (.int b) = decide (a = b) := by
  unfold PyData.eqv
  first | rfl | (by_cases h : a = b <;> simp [h])
theorem shaped_int (a : Int) : SeqAt.shaped (.int a) = true := by simp [SeqAt.shaped, PyData.canLay0, PyData.depth]
theorem any_ints (i : Int) (ns : List Int) : ((ns.map PyData.int).any fun y => PyData.eqv y (.int i)) = decide (i ∈ ns) := by
  rw [List.any_map]
  induction ns with
  | nil => rfl
  | cons n ns ih =>
    rw [List.any_cons, ih]
    show (PyData.eqv (.int n) (.int i) || decide (i ∈ ns)) = _
    rw [eqv_ints]
    by_cases h : n = i
    · simp [h]
    · have h' : ¬ i = n := fun z => h z.symm
      simp [h, h']
theorem inD_tup (i : Int) (ns : List Int) : inD (.int i) (.tup (iD ns)) = some (.bl (decide (i ∈ ns))) := by
  unfold inD inB
  simp only [toPy, toPys_ints, Option.map_some]
  rw [if_pos (by rw [shaped_int, lay_ints]; rfl), any_ints]
  rfl
theorem notInD_lst (i : Int) (ns : List Int) : notInD (.int i) (.lst (iD ns)) = some (.bl (!decide (i ∈ ns))) := by
  unfold notInD inB
  simp only [toPy, toPys_ints, Option.map_some]
  rw [if_pos (by rw [shaped_int, lay_ints]; rfl), any_ints]
  rfl
theorem eqD_int (i j : Int) : eqD (.int i) (.int j) = some (.bl (decide (i = j))) := by
  unfold eqD eqB
  simp only [toPy]
  rw [if_pos (by rw [shaped_int, shaped_int]; rfl), eqv_ints]
  rfl
theorem neD_int (i j : Int) : neD (.int i) (.int j) = some (.bl (!decide (i = j))) := by
  unfold neD eqB
  simp only [toPy]
  rw [if_pos (by rw [shaped_int, shaped_int]; rfl), eqv_ints]
  rfl
theorem set_ints {n : Int} : ∀ {xs : List D} {l : Int}, isSetL n l xs = true → ∃ ns : List Int, xs = iD ns
  | [], _, _ => ⟨[], rfl⟩
  | d :: xs, l, h => by
    cases d <;> simp only [isSetL] at h <;> try (cases h; done)
    rename_i i
    split at h
    · obtain ⟨ns, rfl⟩ := set_ints h
      exact ⟨i :: ns, rfl⟩
    · cases h
/-! ### is_entry, is_ways -/
def inWay (i : Int) : D → Bool
  | .tup xs => xs.any fun d => match d with
    | .int j => decide (j = i)
    | _ => false
  | _ => false
theorem inWay_ints (i : Int) (ns : List Int) : inWay i (.tup (iD ns)) = decide (i ∈ ns) := by
  show (List.any (iD ns) _) = _
  unfold iD
  rw [List.any_map]
  induction ns with
  | nil => rfl
  | cons n ns ih =>
    rw [List.any_cons, ih]
    by_cases h : n = i
    · simp [h]
    · have h' : ¬ i = n := fun z => h z.symm
      simp [h, h']
def isEntry (n i : Int) : D → Bool
  | .tup xs => xs.all fun w => isSet n w && !inWay i w
  | _ => false
def F_is_entry : DF := fun ds q _ => ∃ d i n, ds = [d, .int i, .int n] ∧ pl d = true ∧ q (.bl (isEntry n i d))
theorem l_is_entry (n i : Int) (v : D) (q : D → Prop) (J : DEnds) (hJ : J.rt = q) : ∀ (xs : List D) (o : EV), pls xs = true → ((xs.all fun w => isSet n w && !inWay i w) = false → q (.bl false)) → (∀ env, (xs.all fun w => isSet n w && !inWay i w) = true → J.nx env) →
    dForL (gN 3) (dIfS (dOrT (dNotT (dTest (dCall F_is_set (dCons (dVar 3) (dCons (dVar 2) dNil))))) (dTest (dOp inD (dVar 1) (dVar 3)))) (dRet (dC (.bl false))) dNext) J xs [.val v, .val (.int i), .val (.int n), o]
  | [], o, _, _, h2 => h2 _ rfl
  | d :: xs, o, hp, h1, h2 => by
    simp only [pls, Bool.and_eq_true] at hp
    refine ⟨_, rfl, ?_⟩
    simp only [dIfS, dOrT, dNotT, dTest, dCall, dCons, dNil, dVar, dOp, dRet, dC, dNext, List.set_cons_zero, List.set_cons_succ, List.getElem?_cons_zero, List.getElem?_cons_succ, List.map, R.d]
    refine ⟨d, n, rfl, hp.1, .inl rfl, _, rfl, ?_⟩
    cases hs : isSet n d with
    | false =>
      simp only [Bool.not_false, if_true]
      refine ⟨_, rfl, ?_⟩
      rw [hJ]
      exact h1 (by simp [hs])
    | true =>
      simp only [Bool.not_true, Bool.false_eq_true, if_false]
      cases d with
      | tup ys =>
        obtain ⟨ns, rfl⟩ := set_ints (show isSetL n 0 ys = true from hs)
        refine ⟨_, inD_tup i ns, _, rfl, ?_⟩
        by_cases c : i ∈ ns
        · simp only [c, decide_true, if_true]
          refine ⟨_, rfl, ?_⟩
          rw [hJ]
          refine h1 ?_
          rw [List.all_cons, hs, inWay_ints]
          simp [c]
        · simp only [c, decide_false, Bool.false_eq_true, if_false]
          have e : (List.all (.tup (iD ns) :: xs) fun w => isSet n w && !inWay i w) = (xs.all fun w => isSet n w && !inWay i w) := by
            rw [List.all_cons, hs, inWay_ints]
            simp [c]
          rw [e] at h1 h2
          exact l_is_entry n i v q J hJ xs _ hp.2 h1 h2
      | _ => cases hs
theorem s_is_entry : ∀ ds q x, F_is_entry ds q x → ds.length = 3 ∧ t_is_entry F_is_set { nx := fun _ => q .non, rt := q, ex := x } (startE 4 ds) := by
  rintro ds q x ⟨d, i, n, rfl, h, hq⟩
  refine ⟨rfl, ?_⟩
  simp only [t_is_entry, dSeq, dIfS, dNotT, dTest, dIsi, dVar, dRet, dC, dNext, dSet, dFor, iSeq, startE, List.map, List.length, List.replicate, List.cons_append, List.nil_append, List.set_cons_zero, List.set_cons_succ, List.getElem?_cons_zero, List.getElem?_cons_succ, R.d]
  refine ⟨_, isi_tup h, _, rfl, ?_⟩
  cases d with
  | tup xs =>
    simp only [isTupD, Bool.not_true, Bool.false_eq_true, if_false]
    refine .inr ⟨xs, rfl, rfl, ?_⟩
    refine l_is_entry n i _ q _ rfl xs _ (by simpa [pl] using h) (fun e => ?_) (fun env e => ⟨_, rfl, ?_⟩)
    · have : isEntry n i (.tup xs) = false := e
      rw [← this]; exact hq
    · have : isEntry n i (.tup xs) = true := e
      rw [← this]; exact hq
  | _ => simp only [isTupD, Bool.not_false, if_true]; exact ⟨_, rfl, hq⟩
def isWaysL (n : Int) : Nat → List D → Bool
  | _, [] => true
  | k, d :: xs => isEntry n k d && isWaysL n (k + 1) xs
def isWays (most : Int) : D → Bool
  | .tup xs => decide (1 ≤ (xs.length : Int)) && decide ((xs.length : Int) ≤ most) && isWaysL xs.length 0 xs
  | _ => false
def F_is_ways : DF := fun ds q _ => ∃ d m, ds = [d, .int m] ∧ pl d = true ∧ q (.bl (isWays m d))
/-- the pairs of an enumeration -/
def enFrom : Nat → List D → List D
  | _, [] => []
  | k, d :: ds => .tup [.int (k : Nat), d] :: enFrom (k + 1) ds
theorem enFrom_get : ∀ (ds : List D) (k i : Nat), (enFrom k ds)[i]? = (ds[i]?).map fun d => .tup [.int ((k + i : Nat) : Int), d]
  | [], _, _ => by simp [enFrom]
  | d :: ds, k, 0 => by simp [enFrom]
  | d :: ds, k, i + 1 => by
    have := enFrom_get ds (k + 1) i
    simp only [enFrom, List.getElem?_cons_succ]
    rw [this, show k + 1 + i = k + (i + 1) by omega]
theorem enD_from (ds : List D) : enD ds = enFrom 0 ds := by
  apply List.ext_getElem?
  intro i
  rw [enFrom_get]
  cases h : ds[i]? with
  | none =>
    have := List.getElem?_eq_none_iff.mp h
    rw [List.getElem?_eq_none (by rw [enD_len]; exact this)]
    rfl
  | some d => rw [enD_at h]; simp
theorem l_is_ways (ws : List D) (m : D) (q : D → Prop) (J : DEnds) (hJ : J.rt = q) : ∀ (xs : List D) (k : Nat) (o1 o2 : EV), pls xs = true → (isWaysL ws.length k xs = false → q (.bl false)) → (∀ env, isWaysL ws.length k xs = true → J.nx env) →
    dForL (gTupN [2, 3]) (dIfS (dNotT (dTest (dCall F_is_entry (dCons (dVar 3) (dCons (dVar 2) (dCons (dBlt lenF (dCons (dVar 0) dNil)) dNil)))))) (dRet (dC (.bl false))) dNext) J (enFrom k xs) [.val (.tup ws), .val m, o1, o2]
  | [], k, o1, o2, _, _, h2 => h2 _ rfl
  | d :: xs, k, o1, o2, hp, h1, h2 => by
    simp only [pls, Bool.and_eq_true] at hp
    refine ⟨[.val (.tup ws), .val m, .val (.int (k : Nat)), .val d], rfl, ?_⟩
    simp only [dIfS, dNotT, dTest, dCall, dCons, dNil, dVar, dBlt, dRet, dC, dNext, List.getElem?_cons_zero, List.getElem?_cons_succ, List.map, R.d]
    refine ⟨.int ws.length, rfl, d, k, ws.length, rfl, hp.1, .inl rfl, _, rfl, ?_⟩
    cases hs : isEntry ws.length k d with
    | false =>
      simp only [Bool.not_false, if_true]
      refine ⟨_, rfl, ?_⟩
      rw [hJ]
      exact h1 (by simp [isWaysL, hs])
    | true =>
      simp only [Bool.not_true, Bool.false_eq_true, if_false]
      have e : isWaysL ws.length k (d :: xs) = isWaysL ws.length (k + 1) xs := by simp [isWaysL, hs]
      rw [e] at h1 h2
      exact l_is_ways ws m q J hJ xs (k + 1) _ _ hp.2 h1 h2
theorem s_is_ways : ∀ ds q x, F_is_ways ds q x → ds.length = 2 ∧ t_is_ways F_is_entry { nx := fun _ => q .non, rt := q, ex := x } (startE 4 ds) := by
  rintro ds q x ⟨d, m, rfl, h, hq⟩
  refine ⟨rfl, ?_⟩
  simp only [t_is_ways, dSeq, dIfS, dOrT, dNotT, dTest, dIsi, dVar, dRet, dC, dNext, dSet, dFor, iEnumD, dChain, dBlt, dCons, dNil, startE, List.map, List.length, List.replicate, List.cons_append, List.nil_append, List.set_cons_zero, List.set_cons_succ, List.getElem?_cons_zero, List.getElem?_cons_succ, R.d]
  refine ⟨_, isi_tup h, _, rfl, ?_⟩
  cases d with
  | tup xs =>
    simp only [isTupD, Bool.not_true, Bool.false_eq_true, if_false]
    refine ⟨.int xs.length, rfl, _, rfl, ?_⟩
    by_cases c : (1 : Int) ≤ xs.length
    · by_cases c2 : (xs.length : Int) ≤ m
      · simp only [c, decide_true, if_true]
        refine ⟨_, rfl, _, rfl, ?_⟩
        simp only [c2, decide_true, Bool.not_true, Bool.false_eq_true, if_false]
        refine .inr ⟨xs, rfl, rfl, ?_⟩
        rw [enD_from]
        refine l_is_ways xs _ q _ rfl xs 0 _ _ (by simpa [pl] using h) (fun e => ?_) (fun env e => ⟨_, rfl, ?_⟩)
        · have : isWays m (.tup xs) = false := by simp only [isWays, e, Bool.and_false]
          rw [← this]; exact hq
        · have : isWays m (.tup xs) = true := by simp [isWays, e, c2]; omega
          rw [← this]; exact hq
      · simp only [c, decide_true, if_true]
        refine ⟨_, rfl, _, rfl, ?_⟩
        simp only [c2, decide_false, Bool.not_false, if_true]
        have : isWays m (.tup xs) = false := by simp [isWays, c2]
        rw [this] at hq
        exact ⟨_, rfl, hq⟩
    · simp only [c, decide_false, Bool.false_eq_true, if_false]
      refine ⟨_, rfl, ?_⟩
      simp only [Bool.not_false, if_true]
      have : isWays m (.tup xs) = false := by simp [isWays]; intro z; exfalso; omega
      rw [this] at hq
      exact ⟨_, rfl, hq⟩
  | _ => simp only [isTupD, Bool.not_false, if_true]; exact ⟨_, rfl, hq⟩
/-! ### masks -/
def nD (w : List Nat) : List D := w.map fun i => .int (i : Nat)
def wayD (w : List Nat) : D := .tup (nD w)
def maskF (m : Nat) (w : List Nat) : Nat := w.foldl (fun m i => m ||| 2 ^ i) m
def maskN (w : List Nat) : Nat := maskF 0 w
theorem maskF_bit (i : Nat) : ∀ (w : List Nat) (m : Nat), (maskF m w).testBit i = (m.testBit i || decide (i ∈ w))
  | [], m => by simp [maskF]
  | j :: w, m => by
    show (maskF (m ||| 2 ^ j) w).testBit i = _
    rw [maskF_bit i w, Nat.testBit_or, Nat.testBit_two_pow]
    by_cases h : j = i
    · subst h; simp
    · have h' : ¬ i = j := fun z => h z.symm
      simp [h, h', Bool.or_assoc]
theorem maskN_bit (w : List Nat) (i : Nat) : (maskN w).testBit i = decide (i ∈ w) := by
  unfold maskN
  rw [maskF_bit]
  simp
theorem and_eq_left {a b : Nat} : a &&& b = a ↔ ∀ i, a.testBit i = true → b.testBit i = true := by
  constructor
  · intro h i hi
    rw [← h, Nat.testBit_and, Bool.and_eq_true] at hi
    exact hi.2
  · intro h
    apply Nat.eq_of_testBit_eq
    intro i
    rw [Nat.testBit_and]
    cases e : a.testBit i with
    | false => rfl
    | true => rw [h i e]; rfl
theorem band (a b : Nat) : Builtin.bitAnd (a : Int) (b : Int) = ((a &&& b : Nat) : Int) := by
  unfold Builtin.bitAnd
  rw [decide_eq_true (Int.natCast_nonneg a), decide_eq_true (Int.natCast_nonneg b)]
  simp only [Int.toNat_natCast]
theorem bor (a b : Nat) : Builtin.bitOr (a : Int) (b : Int) = ((a ||| b : Nat) : Int) := by
  rw [bitOr_nn (Int.natCast_nonneg a) (Int.natCast_nonneg b)]
  simp only [Int.toNat_natCast]
theorem shl1 (i : Nat) (h : i ≤ 1000000) : shlD (.int 1) (.int (i : Nat)) = some (.int ((2 ^ i : Nat) : Int)) := by
  show (if (0 : Int) ≤ (i : Nat) ∧ ((i : Nat) : Int) ≤ 1000000 ∧ (1 : Int).natAbs < 2 ^ 64 then rInt (1 * 2 ^ ((i : Nat) : Int).toNat) else none) = _
  rw [if_pos ⟨by omega, by omega, by decide⟩, Int.toNat_natCast, Int.one_mul]
  simp
theorem orN (a b : Nat) : orD (.int (a : Nat)) (.int (b : Nat)) = some (.int ((a ||| b : Nat) : Int)) := by
  show rInt (Builtin.bitOr (a : Int) (b : Int)) = _
  rw [bor]
theorem andN (a b : Nat) : andD (.int (a : Nat)) (.int (b : Nat)) = some (.int ((a &&& b : Nat) : Int)) := by
  show rInt (Builtin.bitAnd (a : Int) (b : Int)) = _
  rw [band]
/-- a list taken as a tuple -/
def mkT : D → D
  | .lst xs => .tup xs
  | d => d
theorem mkT_way {ds : List D} {w : List Nat} (h : ds.map mkT = [wayD w]) : ds = [wayD w] ∨ ds = [.lst (nD w)] := by
  cases ds with
  | nil => cases h
  | cons d ds =>
    have hl := congrArg List.length h
    rw [List.length_map, List.length_cons, List.length_singleton] at hl
    have e : ds = [] := List.eq_nil_of_length_eq_zero (by omega)
    subst e
    have h : mkT d = wayD w := (List.cons.inj h).1
    cases d with
    | lst xs =>
      have h : D.tup xs = .tup (nD w) := h
      cases h
      exact .inr rfl
    | tup xs =>
      have h : D.tup xs = .tup (nD w) := h
      cases h
      exact .inl rfl
    | _ => exact absurd h (fun z => by cases z)
def F_mask_of : DF := fun ds q _ => ∃ w : List Nat, ds.map mkT = [wayD w] ∧ (∀ i ∈ w, i ≤ 1000000) ∧ q (.int (maskN w : Nat))
theorem l_mask_of (J : DEnds) (v : D) : ∀ (w : List Nat) (m : Nat) (o : EV), (∀ i ∈ w, i ≤ 1000000) → (∀ o, J.nx [.val v, .val (.int (maskF m w : Nat)), o]) →
    dForL (gN 2) (dSet 1 (dOp orD (dVar 1) (dOp shlD (dC (.int 1)) (dVar 2)))) J (nD w) [.val v, .val (.int (m : Nat)), o]
  | [], m, o, _, h => h o
  | i :: w, m, o, hw, h => by
    refine ⟨_, rfl, ?_⟩
    simp only [dSet, dOp, dVar, dC, List.set_cons_zero, List.set_cons_succ, List.getElem?_cons_zero, List.getElem?_cons_succ, R.d]
    refine ⟨_, shl1 i (hw i List.mem_cons_self), _, orN m (2 ^ i), _, rfl, ?_⟩
    exact l_mask_of J v w (m ||| 2 ^ i) _ (fun j hj => hw j (List.mem_cons_of_mem _ hj)) h
theorem s_mask_of : ∀ ds q x, F_mask_of ds q x → ds.length = 1 ∧ t_mask_of { nx := fun _ => q .non, rt := q, ex := x } (startE 3 ds) := by
  rintro ds q x ⟨w, e, hw, hq⟩
  rcases mkT_way e with rfl | rfl
  all_goals refine ⟨rfl, ?_⟩
  all_goals simp only [t_mask_of, dSeq, dSet, dC, dFor, iSeq, dRet, dVar, startE, List.map, List.length, List.replicate, List.cons_append, List.nil_append, List.set_cons_zero, List.set_cons_succ, List.getElem?_cons_zero, List.getElem?_cons_succ, R.d]
  · refine ⟨_, rfl, .inr ⟨nD w, rfl, rfl, ?_⟩⟩
    exact l_mask_of _ _ w 0 _ hw fun o => ⟨_, rfl, hq⟩
  · refine ⟨_, rfl, .inl ⟨nD w, rfl, rfl, ?_⟩⟩
    exact l_mask_of _ _ w 0 _ hw fun o => ⟨_, rfl, hq⟩
def F_lies_within : DF := fun ds q _ => ∃ a b : Nat, ds = [.int (a : Nat), .int (b : Nat)] ∧ q (.bl (decide (a &&& b = a)))
theorem s_lies_within : ∀ ds q x, F_lies_within ds q x → ds.length = 2 ∧ t_lies_within { nx := fun _ => q .non, rt := q, ex := x } (startE 2 ds) := by
  rintro ds q x ⟨a, b, rfl, hq⟩
  refine ⟨rfl, ?_⟩
  simp only [t_lies_within, dRet, dOp, dVar, startE, List.map, List.length, Nat.sub_self, List.replicate, List.append_nil, List.getElem?_cons_zero, List.getElem?_cons_succ, R.d]
  refine ⟨_, andN a b, _, eqD_int _ _, _, rfl, ?_⟩
  have e : decide (((a &&& b : Nat) : Int) = (a : Int)) = decide (a &&& b = a) := by
    by_cases h : a &&& b = a
    · simp [h]
    · have : ¬ ((a &&& b : Nat) : Int) = (a : Int) := fun z => h (by exact_mod_cast z)
      simp [h, this]
  rw [e]; exact hq
def subM (items a : Nat) : Bool := decide (a &&& items = a)
def fstD (ms : List Nat) (items : Nat) : D := match ms.find? (subM items) with
  | some a => .int (a : Nat)
  | none => .non
/-- masks as a tuple or a list -/
def MsD (d : D) (ms : List Nat) : Prop := d = .tup (nD ms) ∨ d = .lst (nD ms)
def F_first_way : DF := fun ds q _ => ∃ d ms, ∃ items : Nat, ds = [d, .int (items : Nat)] ∧ MsD d ms ∧ q (fstD ms items)
theorem l_first_way (J : DEnds) (v : D) (items : Nat) : ∀ (ms : List Nat) (o : EV), (∀ a, ms.find? (subM items) = some a → J.rt (.int (a : Nat))) → (ms.find? (subM items) = none → ∀ o, J.nx [.val v, .val (.int (items : Nat)), o]) →
    dForL (gN 2) (dIfS (dTest (dCall F_lies_within (dCons (dVar 2) (dCons (dVar 1) dNil)))) (dRet (dVar 2)) dNext) J (nD ms) [.val v, .val (.int (items : Nat)), o]
  | [], o, _, h => h rfl o
  | a :: ms, o, h1, h2 => by
    refine ⟨_, rfl, ?_⟩
    simp only [dIfS, dTest, dCall, dCons, dNil, dVar, dRet, dNext, List.set_cons_zero, List.set_cons_succ, List.getElem?_cons_zero, List.getElem?_cons_succ, List.map, R.d]
    refine ⟨a, items, rfl, .inl rfl, _, rfl, ?_⟩
    by_cases c : a &&& items = a
    · simp only [c, decide_true, if_true]
      exact ⟨_, rfl, h1 a (by simp [List.find?, subM, c])⟩
    · simp only [c, decide_false, Bool.false_eq_true, if_false]
      have e : (a :: ms).find? (subM items) = ms.find? (subM items) := by simp [List.find?, subM, c]
      rw [e] at h1 h2
      exact l_first_way J v items ms _ h1 h2
theorem s_first_way : ∀ ds q x, F_first_way ds q x → ds.length = 2 ∧ t_first_way F_lies_within { nx := fun _ => q .non, rt := q, ex := x } (startE 3 ds) := by
  rintro ds q x ⟨d, ms, items, rfl, hd, hq⟩
  refine ⟨rfl, ?_⟩
  simp only [t_first_way, dSeq, dFor, iSeq, dRet, dVar, dC, startE, List.map, List.length, List.replicate, List.cons_append, List.nil_append, List.getElem?_cons_zero, List.getElem?_cons_succ, R.d]
  have main : ∀ J : DEnds, J.rt = q → J.nx = (fun env => ∃ d, R.val D.non = .val d ∧ q d) → dForL (gN 2) (dIfS (dTest (dCall F_lies_within (dCons (dVar 2) (dCons (dVar 1) dNil)))) (dRet (dVar 2)) dNext) J (nD ms) [.val d, .val (.int (items : Nat)), .no] := by
    intro J hr hn
    refine l_first_way J d items ms _ (fun a h => ?_) (fun h o => ?_)
    · rw [hr]; simpa [fstD, h] using hq
    · rw [hn]; exact ⟨_, rfl, by simpa [fstD, h] using hq⟩
  rcases hd with rfl | rfl
  · exact .inr ⟨nD ms, rfl, rfl, main _ rfl rfl⟩
  · exact .inl ⟨nD ms, rfl, rfl, main _ rfl rfl⟩
def F_has_way : DF := fun ds q _ => ∃ d ms, ∃ items : Nat, ds = [d, .int (items : Nat)] ∧ MsD d ms ∧ q (.bl (ms.any (subM items)))
theorem s_has_way : ∀ ds q x, F_has_way ds q x → ds.length = 2 ∧ t_has_way F_first_way { nx := fun _ => q .non, rt := q, ex := x } (startE 2 ds) := by
  rintro ds q x ⟨d, ms, items, rfl, hd, hq⟩
  refine ⟨rfl, ?_⟩
  simp only [t_has_way, dRet, dOp, dCall, dCons, dNil, dVar, dC, startE, List.map, List.length, Nat.sub_self, List.replicate, List.append_nil, List.getElem?_cons_zero, List.getElem?_cons_succ, R.d]
  refine ⟨d, ms, items, rfl, hd, .inl rfl, .bl (ms.any (subM items)), ?_, _, rfl, hq⟩
  unfold fstD
  cases h : ms.find? (subM items) with
  | some a =>
    have : ms.any (subM items) = true := by
      rw [List.any_eq_true]
      exact ⟨a, List.mem_of_find?_eq_some h, List.find?_some h⟩
    rw [this]; rfl
  | none =>
    have : ms.any (subM items) = false := by
      rw [List.any_eq_false]
      exact List.find?_eq_none.mp h
    rw [this]; rfl
theorem mulI_small (i j : Int) (h : -18446744073709551616 < j ∧ j < 18446744073709551616) : mulI (.int i) (.int j) = some (.int (i * j)) := by
  have h' : -(2 ^ 64 : Int) < j ∧ j < (2 ^ 64 : Int) := by omega
  unfold mulI iiD
  exact if_pos (Or.inr h')
theorem mul24 (m : Nat) : mulA (.int (m : Nat)) (.int 24) = some (.int ((m * 24 : Nat) : Int)) := by
  have e : ((m * 24 : Nat) : Int) = (m : Int) * 24 := by omega
  rw [e]
  exact mulI_small _ 24 (by omega)
theorem addN (a b : Nat) : addA (.int (a : Nat)) (.int (b : Nat)) = some (.int ((a + b : Nat) : Int)) := rfl
def rankF (r : Nat) (w : List Nat) : Nat := w.foldl (fun r i => r * 24 + i) r
def rankN (w : List Nat) : Nat := rankF w.length w
def F_rank_of : DF := fun ds q _ => ∃ w : List Nat, ds = [wayD w] ∧ q (.int (rankN w : Nat))
theorem l_rank_of (J : DEnds) (v : D) : ∀ (w : List Nat) (m : Nat) (o : EV), (∀ o, J.nx [.val v, .val (.int (rankF m w : Nat)), o]) →
    dForL (gN 2) (dSet 1 (dOp addA (dOp mulA (dVar 1) (dC (.int 24))) (dVar 2))) J (nD w) [.val v, .val (.int (m : Nat)), o]
  | [], m, o, h => h o
  | i :: w, m, o, h => by
    refine ⟨_, rfl, ?_⟩
    simp only [dSet, dOp, dVar, dC, List.set_cons_zero, List.set_cons_succ, List.getElem?_cons_zero, List.getElem?_cons_succ, R.d]
    refine ⟨_, mul24 m, _, addN (m * 24) i, _, rfl, ?_⟩
    exact l_rank_of J v w (m * 24 + i) _ h
theorem s_rank_of (C : Addr) : ∀ ds q x, F_rank_of ds q x → ds.length = 1 ∧ t_rank_of C { nx := fun _ => q .non, rt := q, ex := x } (startE 3 ds) := by
  rintro ds q x ⟨w, rfl, hq⟩
  refine ⟨rfl, ?_⟩
  simp only [t_rank_of, dSeq, dSet, dC, dFor, iSeq, dRet, dVar, dBlt, dCons, dNil, startE, List.map, List.length, List.replicate, List.cons_append, List.nil_append, List.set_cons_zero, List.set_cons_succ, List.getElem?_cons_zero, List.getElem?_cons_succ, R.d]
  refine ⟨.int (w.length : Nat), by show some _ = _; simp [nD], _, rfl, .inr ⟨nD w, rfl, rfl, ?_⟩⟩
  exact l_rank_of _ _ w w.length _ fun o => ⟨_, rfl, hq⟩
/-! ### comprehensions -/
theorem lc_map {i : Nat} {te : DE} {f : D → D} {env : SE} : ∀ {ds : List D} {q : List D → Prop}, (∀ d ∈ ds, ∀ q : R → Prop, q (.val (f d)) → te (env.set i (.val d)) q noX) → q (ds.map f) → dLcL (gN i) dYes te ds env q
  | [], q, _, h => h
  | d :: ds, q, ht, h => ⟨_, rfl, ht d List.mem_cons_self _ ⟨_, rfl, lc_map (fun d' m => ht d' (List.mem_cons_of_mem _ m)) h⟩⟩
inductive All2 {α β : Type} (P : α → β → Prop) : List α → List β → Prop
  | nil : All2 P [] []
  | cons {a : α} {b : β} {l : List α} {m : List β} : P a b → All2 P l m → All2 P (a :: l) (b :: m)
/-! ### ranks tell ways apart -/
theorem rankF_inj : ∀ (w w' : List Nat) (r r' : Nat), w.length = w'.length → (∀ i ∈ w, i < 24) → (∀ i ∈ w', i < 24) → rankF r w = rankF r' w' → r = r' ∧ w = w'
  | [], [], r, r', _, _, _, h => ⟨h, rfl⟩
  | [], _ :: _, _, _, h, _, _, _ => by simp at h
  | _ :: _, [], _, _, h, _, _, _ => by simp at h
  | i :: w, j :: w', r, r', hl, h1, h2, h => by
    obtain ⟨e, ew⟩ := rankF_inj w w' (r * 24 + i) (r' * 24 + j) (by simpa using hl) (fun k hk => h1 k (List.mem_cons_of_mem _ hk)) (fun k hk => h2 k (List.mem_cons_of_mem _ hk)) h
    have hi := h1 i List.mem_cons_self
    have hj := h2 j List.mem_cons_self
    have : i = j := by omega
    exact ⟨by omega, by rw [this, ew]⟩
theorem rankF_bound : ∀ (w : List Nat) (r : Nat), (∀ i ∈ w, i < 24) → r * 24 ^ w.length ≤ rankF r w ∧ rankF r w < (r + 1) * 24 ^ w.length
  | [], r, _ => by
    show r * 24 ^ 0 ≤ r ∧ r < (r + 1) * 24 ^ 0
    simp
  | i :: w, r, h => by
    obtain ⟨h1, h2⟩ := rankF_bound w (r * 24 + i) fun k hk => h k (List.mem_cons_of_mem _ hk)
    have hi := h i List.mem_cons_self
    show r * 24 ^ (w.length + 1) ≤ rankF (r * 24 + i) w ∧ rankF (r * 24 + i) w < (r + 1) * 24 ^ (w.length + 1)
    have e : (24 : Nat) ^ (w.length + 1) = 24 * 24 ^ w.length := by rw [Nat.pow_succ, Nat.mul_comm]
    have a1 : r * (24 * 24 ^ w.length) ≤ (r * 24 + i) * 24 ^ w.length := by
      rw [← Nat.mul_assoc]
      exact Nat.mul_le_mul_right _ (by omega)
    have a2 : (r * 24 + i + 1) * 24 ^ w.length ≤ (r + 1) * (24 * 24 ^ w.length) := by
      rw [← Nat.mul_assoc]
      exact Nat.mul_le_mul_right _ (by omega)
    rw [e]
    omega
theorem rankN_inj {w w' : List Nat} (h1 : ∀ i ∈ w, i < 24) (h2 : ∀ i ∈ w', i < 24) (h : rankN w = rankN w') : w = w' := by
  have key : ∀ {a b : List Nat}, (∀ i ∈ a, i < 24) → (∀ i ∈ b, i < 24) → a.length < b.length → rankN a < rankN b := by
    intro a b ha hb hl
    have x := (rankF_bound a a.length ha).2
    have y := (rankF_bound b b.length hb).1
    have z : (24 : Nat) ^ a.length ≤ 24 ^ b.length := Nat.pow_le_pow_right (by omega) (by omega)
    have z2 : (a.length + 1) * 24 ^ a.length ≤ b.length * 24 ^ b.length := Nat.mul_le_mul (by omega) z
    exact Nat.lt_of_lt_of_le x (Nat.le_trans z2 y)
  have hl : w.length = w'.length := by
    rcases Nat.lt_trichotomy w.length w'.length with z | z | z
    · have := key h1 h2 z; omega
    · exact z
    · have := key h2 h1 z; omega
  exact (rankF_inj w w' _ _ hl h1 h2 h).2
/-! ### in_order -/
abbrev Way24 (w : List Nat) : Prop := ∀ i ∈ w, i < 24
def kp (w : List Nat) : Key × D := (.inl (rankN w : Nat), wayD w)
def addW (qs : List (List Nat)) (w : List Nat) : List (List Nat) := if qs.any (fun v => decide (rankN v = rankN w)) then qs else qs ++ [w]
theorem putD_way {qs : List (List Nat)} {w : List Nat} (hq : ∀ v ∈ qs, Way24 v) (hw : Way24 w) : putD (qs.map kp) (.inl (rankN w : Nat)) (wayD w) = (addW qs w).map kp := by
  unfold putD addW
  have e : ((qs.map kp).any fun p => decide (p.1 = (.inl (rankN w : Nat) : Key))) = qs.any (fun v => decide (rankN v = rankN w)) := by
    rw [List.any_map]
    congr 1
    funext v
    show decide ((kp v).1 = _) = _
    unfold kp
    by_cases h : rankN v = rankN w
    · simp [h]
    · have : ¬ ((.inl ((rankN v : Nat) : Int) : Key) = .inl ((rankN w : Nat) : Int)) := fun z => h (by
        have := Sum.inl.inj z
        omega)
      simp [h, this]
  rw [e]
  split
  · rw [List.map_map]
    apply List.map_congr_left
    intro v hv
    show (if (kp v).1 = _ then _ else _) = _
    by_cases h : rankN v = rankN w
    · have := rankN_inj (hq v hv) hw h
      subst this
      rw [if_pos (show (kp v).1 = .inl ((rankN v : Nat) : Int) from rfl)]
      rfl
    · rw [if_neg (show ¬ (kp v).1 = .inl ((rankN w : Nat) : Int) from fun z => h (by
        have := Sum.inl.inj z
        omega))]
  · rw [List.map_append]
    rfl
theorem addW_mem {qs : List (List Nat)} {w v : List Nat} (hq : ∀ v ∈ qs, Way24 v) (hw : Way24 w) : v ∈ addW qs w ↔ v ∈ qs ∨ v = w := by
  unfold addW
  split
  · rename_i h
    obtain ⟨u, hu, e⟩ := List.any_eq_true.mp h
    have : u = w := rankN_inj (hq u hu) hw (of_decide_eq_true e)
    subst this
    exact ⟨.inl, fun z => z.elim id fun z => by rw [z]; exact hu⟩
  · simp
theorem addW_len (qs : List (List Nat)) (w : List Nat) : (addW qs w).length ≤ qs.length + 1 := by
  unfold addW
  split <;> simp
theorem foldW {ws qs : List (List Nat)} (hq : ∀ v ∈ qs, Way24 v) (hw : ∀ v ∈ ws, Way24 v) : (∀ v, v ∈ ws.foldl addW qs ↔ v ∈ qs ∨ v ∈ ws) ∧ (ws.foldl addW qs).length ≤ qs.length + ws.length := by
  induction ws generalizing qs with
  | nil => simp
  | cons w ws ih =>
    have hq' : ∀ v ∈ addW qs w, Way24 v := fun v hv => ((addW_mem hq (hw w List.mem_cons_self)).mp hv).elim (hq v) fun z => by rw [z]; exact hw w List.mem_cons_self
    obtain ⟨i1, i2⟩ := ih hq' fun v hv => hw v (List.mem_cons_of_mem _ hv)
    refine ⟨fun v => ?_, ?_⟩
    · rw [List.foldl_cons, i1, addW_mem hq (hw w List.mem_cons_self), List.mem_cons]
      constructor
      · rintro ((h | h) | h)
        · exact .inl h
        · exact .inr (.inl h)
        · exact .inr (.inr h)
      · rintro (h | h | h)
        · exact .inl (.inl h)
        · exact .inl (.inr h)
        · exact .inr h
    · have := addW_len qs w
      rw [List.foldl_cons, List.length_cons]
      omega
theorem l_ranked (env : SE) (q : List (Key × D) → Prop) (he : ∀ d, (env.set 2 (.val d))[2]? = some (.val d)) : ∀ (ws qs : List (List Nat)), (∀ v ∈ qs, Way24 v) → (∀ v ∈ ws, Way24 v) → q ((ws.foldl addW qs).map kp) →
    dDcL (gN 2) (dCall F_rank_of (dCons (dVar 2) dNil)) (dVar 2) (ws.map wayD) env (qs.map kp) q
  | [], qs, _, _, h => h
  | w :: ws, qs, hq, hw, h => by
    refine ⟨_, rfl, ?_⟩
    simp only [dCall, dCons, dNil, dVar, he, List.map, R.d]
    refine ⟨w, rfl, .inl rfl, _, _, rfl, rfl, _, rfl, ?_⟩
    rw [putD_way hq (hw w List.mem_cons_self)]
    exact l_ranked env q he ws (addW qs w) (fun v hv => ((addW_mem hq (hw w List.mem_cons_self)).mp hv).elim (hq v) fun z => by rw [z]; exact hw w List.mem_cons_self) (fun v hv => hw v (List.mem_cons_of_mem _ hv)) h
def lookW (qs : List (List Nat)) (r : Int) : List Nat := (qs.find? fun w => decide ((rankN w : Int) = r)).getD []
theorem lk_way {r : Int} : ∀ {qs : List (List Nat)}, r ∈ qs.map (fun w => (rankN w : Int)) → lkK (.inl r) ((qs.map kp).map (·.1)) ((qs.map kp).map (·.2)) = some (wayD (lookW qs r))
  | [], h => by simp at h
  | w :: qs, h => by
    show (if (kp w).1 = .inl r then some (kp w).2 else lkK (.inl r) ((qs.map kp).map (·.1)) ((qs.map kp).map (·.2))) = _
    by_cases e : (rankN w : Int) = r
    · rw [if_pos (by unfold kp; rw [e])]
      unfold lookW
      rw [List.find?_cons_of_pos (by simpa using e)]
      rfl
    · rw [if_neg (show ¬ (kp w).1 = .inl r from fun z => e (Sum.inl.inj z))]
      have h' : r ∈ qs.map (fun w => (rankN w : Int)) := by
        rw [List.map_cons, List.mem_cons] at h
        exact h.elim (fun z => absurd z.symm e) id
      rw [lk_way h']
      unfold lookW
      rw [List.find?_cons_of_neg (by simpa using e)]
theorem lookW_mem {qs : List (List Nat)} {r : Int} (h : r ∈ qs.map (fun w => (rankN w : Int))) : lookW qs r ∈ qs ∧ (rankN (lookW qs r) : Int) = r := by
  obtain ⟨w, hw, e⟩ := List.mem_map.mp h
  unfold lookW
  cases q : qs.find? fun w => decide ((rankN w : Int) = r) with
  | none =>
    have := List.find?_eq_none.mp q w hw
    simp [e] at this
  | some v =>
    have z := List.find?_some q
    exact ⟨List.mem_of_find?_eq_some q, of_decide_eq_true z⟩
theorem intsOf_iD : ∀ ns : List Int, intsOf (iD ns) = some ns
  | [] => rfl
  | n :: ns => by
    show (intsOf (iD ns)).map (n :: ·) = _
    rw [intsOf_iD ns]
    rfl
theorem noDls_iD : ∀ ns : List Int, noDls (iD ns) = true
  | [] => rfl
  | n :: ns => by
    show (noDl (.int n) && noDls (iD ns)) = true
    rw [noDls_iD ns]
    rfl
def F_in_order : DF := fun ds q _ => ∃ ws : List (List Nat), ds = [.tup (ws.map wayD)] ∧ (∀ w ∈ ws, Way24 w) ∧ ws.length < 64 ∧ ∀ L : List (List Nat), (∀ w, w ∈ L ↔ w ∈ ws) → L.length ≤ ws.length → q (.lst (L.map wayD))
/-! ### tidy -/
/-- the way w holds the way k -/
def holds (w k : List Nat) : Bool := subM (maskN w) (maskN k)
theorem holds_iff {w k : List Nat} : holds w k = true ↔ ∀ i ∈ k, i ∈ w := by
  unfold holds subM
  rw [decide_eq_true_eq, and_eq_left]
  simp only [maskN_bit, decide_eq_true_eq]
structure Tidy (kept ws : List (List Nat)) : Prop where
  sub : ∀ k ∈ kept, k ∈ ws
  all : ∀ w ∈ ws, ∃ k ∈ kept, ∀ i ∈ k, i ∈ w
  len : kept.length ≤ ws.length
def tidyL : List (List Nat) → List (List Nat) → List (List Nat)
  | kept, [] => kept
  | kept, w :: ws => if kept.any (holds w) then tidyL kept ws else tidyL (kept ++ [w]) ws
theorem tidyL_ok : ∀ (ws kept : List (List Nat)), (∀ k ∈ kept, k ∈ tidyL kept ws) ∧ (∀ k ∈ tidyL kept ws, k ∈ kept ∨ k ∈ ws) ∧ (∀ w ∈ ws, ∃ k ∈ tidyL kept ws, ∀ i ∈ k, i ∈ w) ∧ (tidyL kept ws).length ≤ kept.length + ws.length
  | [], kept => ⟨fun k h => h, fun k h => .inl h, fun w h => by simp at h, by simp [tidyL]⟩
  | w :: ws, kept => by
    unfold tidyL
    by_cases c : kept.any (holds w) = true
    · rw [if_pos c]
      obtain ⟨h1, h2, h3, h4⟩ := tidyL_ok ws kept
      refine ⟨h1, fun k h => (h2 k h).imp id (List.mem_cons_of_mem _), fun v hv => ?_, by rw [List.length_cons]; omega⟩
      rcases List.mem_cons.mp hv with rfl | hv
      · obtain ⟨k, hk, e⟩ := List.any_eq_true.mp c
        exact ⟨k, h1 k hk, holds_iff.mp e⟩
      · exact h3 v hv
    · rw [if_neg c]
      obtain ⟨h1, h2, h3, h4⟩ := tidyL_ok ws (kept ++ [w])
      refine ⟨fun k h => h1 k (List.mem_append_left _ h), fun k h => ?_, fun v hv => ?_, by simp at h4 ⊢; omega⟩
      · rcases h2 k h with z | z
        · rcases List.mem_append.mp z with z | z
          · exact .inl z
          · exact .inr (by rw [List.mem_singleton.mp z]; exact List.mem_cons_self)
        · exact .inr (List.mem_cons_of_mem _ z)
      · rcases List.mem_cons.mp hv with rfl | hv
        · exact ⟨v, h1 v (List.mem_append_right _ List.mem_cons_self), fun i h => h⟩
        · exact h3 v hv
def F_tidy : DF := fun ds q _ => ∃ ws : List (List Nat), ds = [.tup (ws.map wayD)] ∧ (∀ w ∈ ws, Way24 w) ∧ ws.length < 64 ∧ ∀ kept, Tidy kept ws → q (.tup (kept.map wayD))
theorem l_tidy (J : DEnds) (v : D) : ∀ (ws kept : List (List Nat)) (o : EV), (∀ w ∈ ws, Way24 w) → kept.length + ws.length < 1000 → (∀ o, J.nx [.val v, .own ((tidyL kept ws).map wayD), .own ((tidyL kept ws).map fun w => .int (maskN w : Nat)), o]) →
    dForL (gN 3) (dIfS (dNotT (dTest (dCall F_has_way (dCons (dVar 2) (dCons (dCall F_mask_of (dCons (dVar 3) dNil)) dNil))))) (dSeq (dAppend 1 (dVar 3)) (dAppend 2 (dCall F_mask_of (dCons (dVar 3) dNil)))) dNext) J (ws.map wayD)
      [.val v, .own (kept.map wayD), .own (kept.map fun w => .int (maskN w : Nat)), o]
  | [], kept, o, _, _, h => h o
  | w :: ws, kept, o, hw, hl, h => by
    have hw1 : ∀ i ∈ w, i ≤ 1000000 := fun i hi => by have := hw w List.mem_cons_self i hi; omega
    refine ⟨_, rfl, ?_⟩
    simp only [dIfS, dNotT, dTest, dCall, dCons, dNil, dVar, dSeq, dAppend, dNext, List.set_cons_zero, List.set_cons_succ, List.getElem?_cons_zero, List.getElem?_cons_succ, List.map, R.d]
    refine ⟨w, rfl, hw1, .inl rfl, ?_⟩
    refine ⟨_, kept.map maskN, maskN w, rfl, .inr (by unfold nD; rw [List.map_map]; rfl), .inr rfl, _, rfl, ?_⟩
    have e : (kept.map maskN).any (subM (maskN w)) = kept.any (holds w) := by
      rw [List.any_map]
      rfl
    rw [e]
    by_cases c : kept.any (holds w) = true
    · rw [c]
      simp only [Bool.not_true, Bool.false_eq_true, if_false]
      have et : tidyL kept (w :: ws) = tidyL kept ws := by
        show (if kept.any (holds w) = true then _ else _) = _
        rw [if_pos c]
      rw [et] at h
      exact l_tidy J v ws kept _ (fun u hu => hw u (List.mem_cons_of_mem _ hu)) (by simp at hl ⊢; omega) h
    · have c' : kept.any (holds w) = false := by simpa using c
      rw [c']
      simp only [Bool.not_false, if_true]
      refine ⟨_, rfl, by simp at hl ⊢; omega, _, rfl, _, rfl, by simp at hl ⊢; omega, w, rfl, hw1, .inl rfl, _, rfl, ?_⟩
      have et : tidyL kept (w :: ws) = tidyL (kept ++ [w]) ws := by
        show (if kept.any (holds w) = true then _ else _) = _
        rw [if_neg c]
      rw [et] at h
      have := l_tidy J v ws (kept ++ [w]) (.val (wayD w)) (fun u hu => hw u (List.mem_cons_of_mem _ hu)) (by simp at hl ⊢; omega) h
      simpa using this
/-! ### masks_of -/
def F_masks_of : DF := fun ds q _ => ∃ ws : List (List Nat), ds = [.tup (ws.map wayD)] ∧ (∀ w ∈ ws, Way24 w) ∧ ws.length < 1000 ∧ q (.tup (nD (ws.map maskN)))
theorem s_masks_of : ∀ ds q x, F_masks_of ds q x → ds.length = 1 ∧ t_masks_of F_mask_of { nx := fun _ => q .non, rt := q, ex := x } (startE 2 ds) := by
  rintro ds q x ⟨ws, rfl, hw, hl, hq⟩
  refine ⟨rfl, ?_⟩
  simp only [t_masks_of, dRet, dBlt, dCons, dNil, dOfF, dLc, iSeq, dVar, startE, List.map, List.length, List.replicate, List.cons_append, List.nil_append, List.getElem?_cons_zero, List.getElem?_cons_succ, R.d]
  refine .inr ⟨_, rfl, by simp; omega, ?_⟩
  have main : ∀ (l : List (List Nat)) (env : SE) (q : List D → Prop), (∀ w ∈ l, Way24 w) → (∀ d, (env.set 1 (.val d))[1]? = some (.val d)) → q (nD (l.map maskN)) → dLcL (gN 1) dYes (dCall F_mask_of (dCons (dVar 1) dNil)) (l.map wayD) env q := by
    intro l
    induction l with
    | nil => intro env q _ _ h; exact h
    | cons w l ih =>
      intro env q hw he h
      refine ⟨_, rfl, ?_⟩
      simp only [dYes, if_true, dCall, dCons, dNil, dVar, he, List.map, R.d]
      exact ⟨w, rfl, fun i hi => by have := hw w List.mem_cons_self i hi; omega, .inl rfl, _, rfl, ih env _ (fun v hv => hw v (List.mem_cons_of_mem _ hv)) he h⟩
  refine main ws _ _ hw (fun d => rfl) ?_
  exact ⟨_, rfl, _, rfl, hq⟩
/-! ### the course -/
abbrev Entry := List (List Nat)
def entryD (e : Entry) : D := .tup (e.map wayD)
def bookD (b : List Entry) : D := .tup (b.map entryD)
def masksD (b : List Entry) : D := .tup (b.map fun e => .tup (nD (e.map maskN)))
def crsD (C : Addr) (b : List Entry) : D := .ins C ["_ways", "book"] [bookD b, masksD b]
structure WayOk (n : Nat) (w : List Nat) : Prop where
  asc : w.Pairwise (· < ·)
  lt : ∀ i ∈ w, i < n
structure BookOk (b : List Entry) : Prop where
  pos : 1 ≤ b.length
  le : b.length ≤ 24
  len : ∀ e ∈ b, e.length < 64
  way : ∀ e ∈ b, ∀ w ∈ e, WayOk b.length w
  own : ∀ (i : Nat) e, b[i]? = some e → ∀ w ∈ e, i ∉ w
theorem isSetL_way (n : Nat) : ∀ (w : List Nat) (l : Nat), w.Pairwise (· < ·) → (∀ i ∈ w, l ≤ i ∧ i < n) → isSetL n l (nD w) = true
  | [], l, _, _ => rfl
  | i :: w, l, hp, h => by
    obtain ⟨h1, h2⟩ := h i List.mem_cons_self
    obtain ⟨p1, p2⟩ := List.pairwise_cons.mp hp
    show (if (decide ((0 : Int) ≤ (i : Nat)) && decide (((i : Nat) : Int) < n) && decide ((l : Int) ≤ (i : Nat))) = true then isSetL n ((i : Nat) + 1) (nD w) else false) = true
    rw [if_pos (by simp; omega)]
    have := isSetL_way n w (i + 1) p2 fun j hj => ⟨p1 j hj, (h j (List.mem_cons_of_mem _ hj)).2⟩
    simpa using this
theorem nD_iD (w : List Nat) : nD w = iD (w.map fun (i : Nat) => (i : Int)) := by
  unfold nD iD
  rw [List.map_map]
  rfl
theorem isEntry_ok {n i : Nat} {e : Entry} (h : ∀ w ∈ e, WayOk n w) (h2 : ∀ w ∈ e, i ∉ w) : isEntry n i (entryD e) = true := by
  show (List.all (e.map wayD) _) = true
  rw [List.all_map, List.all_eq_true]
  intro w hw
  show (isSet n (wayD w) && !inWay i (wayD w)) = true
  have a : isSet n (wayD w) = true := isSetL_way n w 0 (h w hw).asc fun j hj => ⟨Nat.zero_le _, (h w hw).lt j hj⟩
  rw [a]
  have b : inWay i (wayD w) = false := by
    show inWay i (.tup (nD w)) = false
    rw [nD_iD, inWay_ints, decide_eq_false_iff_not]
    intro z
    obtain ⟨j, hj, ej⟩ := List.mem_map.mp z
    have : j = i := by omega
    exact h2 w hw (by rw [← this]; exact hj)
  rw [b]
  rfl
theorem isWaysL_ok {n : Nat} : ∀ (b : List Entry) (k : Nat), (∀ e ∈ b, ∀ w ∈ e, WayOk n w) → (∀ (i : Nat) e, b[i]? = some e → ∀ w ∈ e, k + i ∉ w) → isWaysL n k (b.map entryD) = true
  | [], _, _, _ => rfl
  | e :: b, k, h1, h2 => by
    show (isEntry n k (entryD e) && isWaysL n (k + 1) (b.map entryD)) = true
    rw [isEntry_ok (h1 e List.mem_cons_self) (fun w hw => by have z := h2 0 e rfl w hw; rwa [Nat.add_zero] at z), isWaysL_ok b (k + 1) (fun e' he => h1 e' (List.mem_cons_of_mem _ he)) fun i e' he => by
      have := h2 (i + 1) e' (by simpa using he)
      rw [show k + 1 + i = k + (i + 1) by omega]
      exact this]
    rfl
theorem isWays_ok {b : List Entry} (h : BookOk b) : isWays 24 (bookD b) = true := by
  have h1 := h.pos
  have h2 := h.le
  show (decide (1 ≤ ((b.map entryD).length : Int)) && decide (((b.map entryD).length : Int) ≤ 24) && isWaysL (b.map entryD).length 0 (b.map entryD)) = true
  rw [List.length_map, isWaysL_ok b 0 h.way fun i e he => by rw [Nat.zero_add]; exact h.own i e he]
  simp
  omega
theorem pls_nD : ∀ w : List Nat, pls (nD w) = true
  | [] => rfl
  | i :: w => by
    show (pl (.int i) && pls (nD w)) = true
    rw [pls_nD w]; rfl
theorem pls_ways : ∀ e : Entry, pls (e.map wayD) = true
  | [] => rfl
  | w :: e => by
    show (pl (wayD w) && pls (e.map wayD)) = true
    rw [pls_ways e, show pl (wayD w) = pls (nD w) from rfl, pls_nD]; rfl
theorem pls_book : ∀ b : List Entry, pls (b.map entryD) = true
  | [] => rfl
  | e :: b => by
    show (pl (entryD e) && pls (b.map entryD)) = true
    rw [pls_book b, show pl (entryD e) = pls (e.map wayD) from rfl, pls_ways]; rfl
theorem nl_nD : ∀ w : List Nat, noLsts (nD w) = true
  | [] => rfl
  | i :: w => by
    show (noLst (.int i) && noLsts (nD w)) = true
    rw [nl_nD w]; rfl
theorem nl_ways : ∀ e : Entry, noLsts (e.map wayD) = true
  | [] => rfl
  | w :: e => by
    show (noLst (wayD w) && noLsts (e.map wayD)) = true
    rw [nl_ways e, show noLst (wayD w) = noLsts (nD w) from rfl, nl_nD]; rfl
theorem nl_book : ∀ b : List Entry, noLsts (b.map entryD) = true
  | [] => rfl
  | e :: b => by
    show (noLst (entryD e) && noLsts (b.map entryD)) = true
    rw [nl_book b, show noLst (entryD e) = noLsts (e.map wayD) from rfl, nl_ways]; rfl
theorem nl_masks : ∀ b : List Entry, noLsts (b.map fun e => .tup (nD (e.map maskN))) = true
  | [] => rfl
  | e :: b => by
    show (noLst (.tup (nD (e.map maskN))) && noLsts (b.map fun e => .tup (nD (e.map maskN)))) = true
    rw [nl_masks b, show noLst (.tup (nD (e.map maskN))) = noLsts (nD (e.map maskN)) from rfl, nl_nD]; rfl
abbrev TidyB (kb b : List Entry) : Prop := All2 Tidy kb b
def F_Course___init__ (C : Addr) : DF := fun ds q _ => ∃ b, ds = [bookD b] ∧ BookOk b ∧ ∀ kb, TidyB kb b → q (crsD C kb)
def F_Course___len__ (C : Addr) : DF := fun ds q _ => ∃ kb : List Entry, ds = [crsD C kb] ∧ q (.int (kb.length : Nat))
theorem lk_ways (a b : D) : lkD ("_ways" : Str) ["_ways", "book"] [a, b] = some a := by
  show (if (("_ways" : Str) == "_ways") = true then some a else _) = _
  rw [if_pos (by decide +kernel)]
theorem lk_book (a b : D) : lkD ("book" : Str) ["_ways", "book"] [a, b] = some b := by
  show (if (("book" : Str) == "_ways") = true then some a else if (("book" : Str) == "book") = true then some b else _) = _
  rw [if_neg (by decide +kernel), if_pos (by decide +kernel)]
theorem shrN (a i : Nat) : shrD (.int (a : Nat)) (.int (i : Nat)) = some (.int ((a / 2 ^ i : Nat) : Int)) := by
  show (if (0 : Int) ≤ (i : Nat) then rInt (((a : Nat) : Int) / 2 ^ ((i : Nat) : Int).toNat) else none) = _
  rw [if_pos (by omega), Int.toNat_natCast]
  simp
theorem bit_eq (a i : Nat) : decide (((a / 2 ^ i &&& 1 : Nat) : Int) = 1) = a.testBit i := by
  rw [Nat.testBit_eq_decide_div_mod_eq, Nat.and_one_is_mod]
  by_cases h : a / 2 ^ i % 2 = 1
  · simp [h]
  · have : ¬ ((a / 2 ^ i % 2 : Nat) : Int) = 1 := fun z => h (by omega)
    rw [decide_eq_false this, decide_eq_false h]
def ordL (kb : List Entry) : Nat → List D → Bool
  | _, [] => true
  | done, d :: xs => match d with
    | .int i => if decide (0 ≤ i) && decide (i < (kb.length : Nat)) && !done.testBit i.toNat && ((kb.getD i.toNat []).map maskN).any (subM done) then ordL kb (done ||| 2 ^ i.toNat) xs else false
    | _ => false
def isOrd (kb : List Entry) : D → Bool
  | .tup xs => ordL kb 0 xs
  | _ => false
/-! ### what a law draws -/
def F__law_cell_at : DF := fun ds q _ => ∃ ns : List Int, ds = [.scr (iD ns), .int 0] ∧ ∀ z : Int, q (.int z)
theorem s__law_cell_at : ∀ ds q x, F__law_cell_at ds q x → ds.length = 2 ∧ t__law_cell_at { nx := fun _ => q .non, rt := q, ex := x } (startE 2 ds) := by
  rintro ds q x ⟨ns, rfl, hq⟩
  refine ⟨rfl, ?_⟩
  simp only [t__law_cell_at, dSeq, dIfS, dTest, dOp, dBlt, dCons, dNil, dVar, dRet, dNext, dC, startE, List.map, List.length, Nat.sub_self, List.replicate, List.append_nil, List.getElem?_cons_zero, List.getElem?_cons_succ, R.d]
  refine ⟨.int (ns.length : Nat), ?_, .bl (decide ((0 : Int) < (ns.length : Nat))), rfl, _, rfl, ?_⟩
  · show some (D.int ((iD ns).length : Nat)) = _
    simp [iD]
  cases ns with
  | nil =>
    simp only [List.length_nil, Int.ofNat_eq_natCast, Int.natCast_zero, Int.lt_irrefl, decide_false, Bool.false_eq_true, if_false]
    exact ⟨_, rfl, hq 0⟩
  | cons n ns =>
    rw [decide_eq_true (by simp)]
    simp only [if_true]
    exact ⟨.int n, (show atI (iD (n :: ns)) ((0 : Nat) : Int) = _ from atI_nat rfl), _, rfl, hq n⟩
theorem modD_ok {i j : Int} (h : 0 < j) : modD (.int i) (.int j) = some (.int (i % j)) := by
  show (if 0 < j then rInt (i % j) else none) = _
  rw [if_pos h]
theorem fdivD_ok {i j : Int} (h : 0 < j) (h2 : j < 1073741824) : fdivD (.int i) (.int j) = some (.int (i / j)) := by
  show (if 0 < j ∧ j < 1073741824 then rInt (i / j) else none) = _
  rw [if_pos ⟨h, h2⟩]
theorem addI (i j : Int) : addA (.int i) (.int j) = some (.int (i + j)) := rfl
def F__law_next : DF := fun ds q _ => ∃ r : Int, ds = [.int r] ∧ 0 ≤ r ∧ r < 1099511627776 ∧ ∀ r' : Int, 0 ≤ r' → r' < 2147483647 → q (.int r')
theorem s__law_next : ∀ ds q x, F__law_next ds q x → ds.length = 1 ∧ t__law_next { nx := fun _ => q .non, rt := q, ex := x } (startE 1 ds) := by
  rintro ds q x ⟨r, rfl, h0, h1, hq⟩
  refine ⟨rfl, ?_⟩
  simp only [t__law_next, dSeq, dSet, dOp, dVar, dRet, dC, startE, List.map, List.length, Nat.sub_self, List.replicate, List.append_nil, List.getElem?_cons_zero, List.set_cons_zero, R.d]
  refine ⟨_, addI r 7919, _, modD_ok (by decide), _, rfl, ?_⟩
  have a0 := Int.emod_nonneg (r + 7919) (show (2147483647 : Int) ≠ 0 by decide)
  have a1 := Int.emod_lt_of_pos (r + 7919) (show (0 : Int) < 2147483647 by decide)
  generalize (r + 7919) % 2147483647 = s at a0 a1
  refine ⟨_, mulI_small s s (by omega), _, mulI_small 48271 s (by omega), _, addI _ _, _, addI _ _, _, modD_ok (by decide), _, rfl, hq _ ?_ ?_⟩
  · exact Int.emod_nonneg _ (by decide)
  · have := Int.emod_lt_of_pos (s * s + 48271 * s + 12345) (show (0 : Int) < 2147483629 by decide)
    omega
theorem powD_10_18 : powD (.int 10) (.int 18) = some (.int 1000000000000000000) := by
  show (if (0 : Int) ≤ 18 ∧ (18 : Int) ≤ 1000000 ∧ (10 : Int).natAbs < 2 ^ 64 then rInt (10 ^ (18 : Int).toNat) else none) = _
  rw [if_pos ⟨by decide, by decide, by decide⟩]
  rfl
def F__law_pen_of : DF := fun ds q _ => ∃ z : Int, ds = [.int z] ∧ q .pen
theorem s__law_pen_of : ∀ ds q x, F__law_pen_of ds q x → ds.length = 1 ∧ t__law_pen_of { nx := fun _ => q .non, rt := q, ex := x } (startE 2 ds) := by
  rintro ds q x ⟨z, rfl, hq⟩
  refine ⟨rfl, ?_⟩
  simp only [t__law_pen_of, dSeq, dSet, dOp, dBlt, dCons, dNil, dVar, dRetPen, dFLst, dC, startE, List.map, List.length, List.replicate, List.cons_append, List.nil_append, List.getElem?_cons_zero, List.getElem?_cons_succ, List.set_cons_zero, List.set_cons_succ, R.d]
  refine ⟨_, rfl, _, rfl, _, rfl, _, rfl, _, rfl, ?_⟩
  have h0 : 0 ≤ (if 0 - z > z then 0 - z else z) := by split <;> omega
  generalize (if 0 - z > z then 0 - z else z) = m at h0
  refine ⟨_, powD_10_18, _, rfl, .int (if decide ((1000000000000000000 : Int) ≤ m) = true then 1 else 0), rfl, _, modD_ok (by decide), [.int m, .int (if decide ((1000000000000000000 : Int) ≤ m) = true then 1 else 0), .int (m % 1000003)], rfl, by simp, _, _, _, rfl, ⟨h0, ?_, Int.emod_nonneg _ (by decide), ?_⟩, hq⟩
  · split
    · exact .inr rfl
    · exact .inl rfl
  · have := Int.emod_lt_of_pos m (show (0 : Int) < 1000003 by decide)
    omega
def F__law_draw : DF := fun ds q _ => ∃ m : Int, ds = [.pen, .int m] ∧ 1 ≤ m ∧ m < 1073741824 ∧ ∀ i : Int, 0 ≤ i → i < m → q (.int i)
theorem s__law_draw : ∀ ds q x, F__law_draw ds q x → ds.length = 2 ∧ t__law_draw F__law_next { nx := fun _ => q .non, rt := q, ex := x } (startE 3 ds) := by
  rintro ds q x ⟨m, rfl, h1, h2, hq⟩
  refine ⟨rfl, ?_⟩
  have last : ∀ (o : EV), t__law_draw F__law_next = t__law_draw F__law_next → (∀ i : Int, 0 ≤ i → i < 2147483647 → ∃ d, fdivD (.int i) (.int 64) = some d ∧ ∃ d2, modD d (.int m) = some d2 ∧ q d2) := fun _ _ i h0 h3 =>
    ⟨_, fdivD_ok (by decide) (by decide), _, modD_ok (by omega), hq _ (Int.emod_nonneg _ (by omega)) (Int.emod_lt_of_pos _ (by omega))⟩
  simp only [t__law_draw, dSeq, dIfS, dAndT, dTest, dOp, dPenGet, dPenSet, dCall, dCons, dNil, dVar, dRet, dSet, dNext, dC, startE, List.map, List.length, Nat.reduceSub, List.replicate, List.cons_append, List.nil_append, List.getElem?_cons_zero, List.getElem?_cons_succ, List.set_cons_zero, List.set_cons_succ, R.d]
  have tail : ∀ (o : EV), True ∧ 2 < 3 ∧ ∀ (i : Int), penOk 2 i → ∃ d, addA (.int 0) (.int 0) = some d := fun _ => ⟨trivial, by decide, fun _ _ => ⟨_, rfl⟩⟩
  have rest : (True ∧ 2 < 3 ∧ ∀ (i : Int), penOk 2 i → F__law_next [D.int i] (fun d => (allVal [R.val (D.int i)] = true ∨ noLst d = true) ∧ ∃ d_1, addA d (D.int 7) = some d_1 ∧ F__law_next [d_1] (fun d => (allVal [R.val d_1] = true ∨ noLst d = true) ∧ ∃ v, d = D.int v ∧ True ∧ penOk 2 v ∧ True ∧ 2 < 3 ∧ ∀ (i : Int), penOk 2 i → ∃ d, fdivD (D.int i) (D.int 64) = some d ∧ ∃ d_2, modD d (D.int m) = some d_2 ∧ ∃ d, R.val d_2 = R.val d ∧ q d) x) x) := by
    refine ⟨trivial, by decide, fun i hi => ⟨i, rfl, hi.1, by have := hi.2; omega, fun r h3 h4 => ⟨.inl rfl, _, addI r 7, r + 7, rfl, by omega, by omega, fun r2 h5 h6 => ⟨.inl rfl, r2, rfl, trivial, ⟨h5, h6⟩, trivial, by decide, fun j hj => ?_⟩⟩⟩⟩
    obtain ⟨d, e1, d2, e2, e3⟩ := last .no rfl j hj.1 hj.2
    exact ⟨d, e1, d2, e2, d2, rfl, e3⟩
  refine ⟨trivial, by decide, fun i hi => ⟨_, eqD_int i 1, _, rfl, ?_⟩⟩
  by_cases c : i = 1
  · rw [decide_eq_true c]
    simp only [if_true]
    refine ⟨trivial, by decide, fun j hj => ⟨_, rfl, _, rfl, ?_⟩⟩
    by_cases c2 : (0 : Int) < j
    · rw [decide_eq_true c2]
      simp only [if_true]
      refine ⟨trivial, by decide, fun k hk => ⟨_, modD_ok (by omega), _, rfl, trivial, by decide, fun l hl => ⟨_, fdivD_ok (by omega) (by omega), _, rfl, trivial, ?_, ?_⟩⟩⟩
      · exact Int.ediv_nonneg hl (by omega)
      · exact ⟨_, rfl, hq _ (Int.emod_nonneg _ (by omega)) (Int.emod_lt_of_pos _ (by omega))⟩
    · rw [decide_eq_false c2]
      simp only [Bool.false_eq_true, if_false]
      exact rest
  · rw [decide_eq_false c]
    simp only [Bool.false_eq_true, if_false]
    exact rest
def rg : Nat → Nat → List D
  | _, 0 => []
  | k, m + 1 => .int (k : Nat) :: rg (k + 1) m
theorem rg_get : ∀ (m k i : Nat), i < m → (rg k m)[i]? = some (.int ((k + i : Nat) : Int))
  | 0, _, _, h => by omega
  | m + 1, k, 0, _ => rfl
  | m + 1, k, i + 1, h => by
    show (rg (k + 1) m)[i]? = _
    rw [rg_get m (k + 1) i (by omega), show k + 1 + i = k + (i + 1) by omega]
theorem rg_len : ∀ (m k : Nat), (rg k m).length = m
  | 0, _ => rfl
  | m + 1, k => by simp [rg, rg_len m]
theorem rngD_rg (n : Nat) : rngD 0 n = rg 0 n := by
  apply List.ext_getElem?
  intro i
  by_cases h : i < n
  · rw [rngD_at h, rg_get n 0 i h]
    simp
  · rw [List.getElem?_eq_none (by rw [rngD_len]; omega), List.getElem?_eq_none (by rw [rg_len]; omega)]
theorem asc_of {ns : List Int} (h : ns.Pairwise (· ≤ ·)) (nd : ns.Nodup) : ns.Pairwise (· < ·) :=
  (h.and nd).imp fun ⟨a, b⟩ => by omega
theorem way_of {n : Nat} {ns : List Int} (h : ns.Pairwise (· < ·)) (r : ∀ i ∈ ns, 0 ≤ i ∧ i < n) : wayD (ns.map Int.toNat) = .tup (iD ns) ∧ WayOk n (ns.map Int.toNat) := by
  refine ⟨?_, ?_, ?_⟩
  · show D.tup (nD _) = _
    rw [nD_iD, List.map_map]
    congr 2
    rw [List.map_congr_left (g := id) fun i hi => by have := (r i hi).1; show ((i.toNat : Nat) : Int) = i; omega]
    simp
  · rw [List.pairwise_map]
    refine h.imp_of_mem fun {a b} ha hb hab => ?_
    have := r a ha
    have := r b hb
    omega
  · intro i hi
    obtain ⟨j, hj, rfl⟩ := List.mem_map.mp hi
    have := r j hj
    omega
def F__law_way : DF := fun ds q _ => ∃ (n it most : Nat), ds = [.pen, .int (n : Nat), .int (it : Nat), .int (most : Nat)] ∧ 1 ≤ n ∧ n < 1000 ∧ most ≤ 50 ∧ ∀ w, WayOk n w → it ∉ w → q (wayD w)
structure Fnd (n it : Nat) (ns : List Int) : Prop where
  nd : ns.Nodup
  rg : ∀ i ∈ ns, 0 ≤ i ∧ i < n
  ne : ∀ i ∈ ns, i ≠ it
theorem l_way (J : DEnds) (n it most : Nat) (h1 : 1 ≤ n) (h2 : n < 1000) : ∀ (l : List D) (ns : List Int) (o5 o6 : EV), Fnd n it ns → ns.length + l.length ≤ 60 →
    (∀ ns o5 o6, Fnd n it ns → ns.length ≤ 60 → J.nx [.val .pen, .val (.int (n : Nat)), .val (.int (it : Nat)), .val (.int (most : Nat)), .own (iD ns), o5, o6]) →
    dForL (gN 5) (dSeq (dSet 6 (dCall F__law_draw (dCons (dVar 0) (dCons (dVar 1) dNil)))) (dIfS (dAndT (dTest (dOp neD (dVar 6) (dVar 2))) (dTest (dOp notInD (dVar 6) (dVar 4)))) (dAppend 4 (dVar 6)) dNext)) J l
      [.val .pen, .val (.int (n : Nat)), .val (.int (it : Nat)), .val (.int (most : Nat)), .own (iD ns), o5, o6]
  | [], ns, o5, o6, f, hl, h => h ns o5 o6 f (by simpa using hl)
  | d :: l, ns, o5, o6, f, hl, h => by
    refine ⟨_, rfl, ?_⟩
    simp only [dSeq, dSet, dIfS, dAndT, dTest, dOp, dCall, dCons, dNil, dVar, dAppend, dNext, List.set_cons_zero, List.set_cons_succ, List.getElem?_cons_zero, List.getElem?_cons_succ, List.map, R.d]
    refine ⟨n, rfl, by omega, by omega, fun i hi0 hi1 => ⟨.inl rfl, _, rfl, _, neD_int i it, _, rfl, ?_⟩⟩
    have hl' : ns.length + l.length + 1 ≤ 60 := by simp at hl; omega
    by_cases c : i = it
    · rw [decide_eq_true c]
      simp only [Bool.not_true, Bool.false_eq_true, if_false]
      exact l_way J n it most h1 h2 l ns _ _ f (by omega) h
    · rw [decide_eq_false c]
      simp only [Bool.not_false, if_true]
      refine ⟨_, notInD_lst i ns, _, rfl, ?_⟩
      by_cases c2 : i ∈ ns
      · rw [decide_eq_true c2]
        simp only [Bool.not_true, Bool.false_eq_true, if_false]
        exact l_way J n it most h1 h2 l ns _ _ f (by omega) h
      · rw [decide_eq_false c2]
        simp only [Bool.not_false, if_true]
        refine ⟨_, rfl, by simp [iD]; omega, _, rfl, ?_⟩
        have e : iD ns ++ [D.int i] = iD (ns ++ [i]) := by simp [iD]
        rw [e]
        refine l_way J n it most h1 h2 l (ns ++ [i]) _ _ ⟨?_, fun j hj => ?_, fun j hj => ?_⟩ (by simp; omega) h
        · rw [List.nodup_append]
          exact ⟨f.nd, by simp, fun a ha b hb => by rw [List.mem_singleton.mp hb]; exact fun z => c2 (by rw [← z]; exact ha)⟩
        · rcases List.mem_append.mp hj with z | z
          · exact f.rg j z
          · rw [List.mem_singleton.mp z]; exact ⟨hi0, hi1⟩
        · rcases List.mem_append.mp hj with z | z
          · exact f.ne j z
          · rw [List.mem_singleton.mp z]; exact c
theorem s__law_way : ∀ ds q x, F__law_way ds q x → ds.length = 4 ∧ t__law_way F__law_draw { nx := fun _ => q .non, rt := q, ex := x } (startE 7 ds) := by
  rintro ds q x ⟨n, it, most, rfl, h1, h2, h3, hq⟩
  refine ⟨rfl, ?_⟩
  unfold t__law_way dSeq dSetOwn dFLst dNil
  simp only [dFor, iRange1, dCall, dCons, dNil, dVar, dOp, dC, startE, List.map, List.length, Nat.reduceSub, List.replicate, List.cons_append, List.nil_append, List.set_cons_zero, List.set_cons_succ, List.getElem?_cons_zero, List.getElem?_cons_succ, R.d]
  refine ⟨[], rfl, by decide, _, addI most 1, _, rfl, by omega, by omega, fun i hi0 hi1 => ⟨.inl rfl, i, rfl, by omega, by omega, trivial, ?_⟩⟩
  refine l_way _ n it most h1 h2 _ [] _ _ ⟨.nil, by simp, by simp⟩ (by rw [rngD_len]; simp; omega) fun ns o5 o6 f hl => ?_
  simp only [dRet, dBlt, dCons, dNil, dOfF, dLc, iSeq, dVar, List.getElem?_cons_zero, List.getElem?_cons_succ, R.d]
  refine .inl ⟨iD ns, rfl, by simp [iD]; omega, ?_⟩
  refine lc_map (f := id) (fun d hd q hq => ?_) ?_
  · obtain ⟨j, _, rfl⟩ := List.mem_map.mp hd
    exact ⟨_, rfl, hq⟩
  rw [List.map_id]
  have sp := sortI_perm ns
  have asc := asc_of (sortI_sorted ns) (sp.nodup_iff.mpr f.nd)
  obtain ⟨e1, e2⟩ := way_of asc fun i hi => f.rg i (sp.mem_iff.mp hi)
  refine ⟨.lst (iD (sortI ns)), ?_, .tup (iD (sortI ns)), rfl, _, rfl, ?_⟩
  · show sortedF [.lst (iD ns)] = _
    unfold sortedF
    simp only [intsOf_iD]
    rw [if_pos (by omega)]
    rfl
  rw [← e1]
  refine hq _ e2 fun z => ?_
  obtain ⟨j, hj, ej⟩ := List.mem_map.mp z
  have hj' := sp.mem_iff.mp hj
  have := f.rg j hj'
  exact f.ne j hj' (by omega)
theorem lc_filterN {i : Nat} {tt : DT} {te : DE} {p : Nat → Bool} {env : SE} : ∀ {w : List Nat} {q : List D → Prop}, (∀ k ∈ w, ∀ q : Bool → Prop, q (p k) → tt (env.set i (.val (.int (k : Nat)))) q noX) →
    (∀ k ∈ w, ∀ q : R → Prop, q (.val (.int (k : Nat))) → te (env.set i (.val (.int (k : Nat)))) q noX) → q (nD (w.filter p)) → dLcL (gN i) tt te (nD w) env q
  | [], q, _, _, h => h
  | k :: w, q, ht, he, h => by
    refine ⟨_, rfl, ht k List.mem_cons_self _ ?_⟩
    by_cases c : p k = true
    · rw [if_pos c]
      refine he k List.mem_cons_self _ ⟨_, rfl, lc_filterN (fun j hj => ht j (List.mem_cons_of_mem _ hj)) (fun j hj => he j (List.mem_cons_of_mem _ hj)) ?_⟩
      rw [List.filter_cons_of_pos c] at h
      exact h
    · rw [if_neg c]
      refine lc_filterN (fun j hj => ht j (List.mem_cons_of_mem _ hj)) (fun j hj => he j (List.mem_cons_of_mem _ hj)) ?_
      rw [List.filter_cons_of_neg c] at h
      exact h
theorem asc_len {n : Nat} : ∀ (w : List Nat) (l : Nat), w.Pairwise (· < ·) → (∀ i ∈ w, l ≤ i ∧ i < n) → w.length ≤ n - l
  | [], _, _, _ => Nat.zero_le _
  | i :: w, l, hp, h => by
    obtain ⟨p1, p2⟩ := List.pairwise_cons.mp hp
    have := asc_len w (i + 1) p2 fun j hj => ⟨p1 j hj, (h j (List.mem_cons_of_mem _ hj)).2⟩
    have := h i List.mem_cons_self
    rw [List.length_cons]
    omega
theorem ltN (a b : Nat) : ltA (.int (a : Nat)) (.int (b : Nat)) = some (.bl (decide (a < b))) := by
  show some (D.bl (decide (((a : Nat) : Int) < (b : Nat)))) = _
  congr 2
  by_cases h : a < b
  · rw [decide_eq_true h, decide_eq_true (by omega)]
  · rw [decide_eq_false h, decide_eq_false (by omega)]
theorem tab1 {s : Nat} (h : s < 6) : ∃ v : Nat, ixD (.lst [.int 1, .int 2, .int 3, .int 3, .int 4, .int 2]) (.int (s : Nat)) = some (.int (v : Nat)) ∧ 1 ≤ v ∧ v ≤ 5 := by
  have z : ∀ {d : D} , ([.int 1, .int 2, .int 3, .int 3, .int 4, .int 2] : List D)[s]? = some d → ixD (.lst [.int 1, .int 2, .int 3, .int 3, .int 4, .int 2]) (.int (s : Nat)) = some d := fun e => atI_nat e
  rcases (by omega : s = 0 ∨ s = 1 ∨ s = 2 ∨ s = 3 ∨ s = 4 ∨ s = 5) with rfl | rfl | rfl | rfl | rfl | rfl
  · exact ⟨1, z rfl, by decide, by decide⟩
  · exact ⟨2, z rfl, by decide, by decide⟩
  · exact ⟨3, z rfl, by decide, by decide⟩
  · exact ⟨3, z rfl, by decide, by decide⟩
  · exact ⟨4, z rfl, by decide, by decide⟩
  · exact ⟨2, z rfl, by decide, by decide⟩
theorem tab2 {s : Nat} (h : s < 6) : ∃ v : Nat, ixD (.lst [.int 1, .int 3, .int 2, .int 3, .int 5, .int 2]) (.int (s : Nat)) = some (.int (v : Nat)) ∧ 1 ≤ v ∧ v ≤ 5 := by
  have z : ∀ {d : D} , ([.int 1, .int 3, .int 2, .int 3, .int 5, .int 2] : List D)[s]? = some d → ixD (.lst [.int 1, .int 3, .int 2, .int 3, .int 5, .int 2]) (.int (s : Nat)) = some d := fun e => atI_nat e
  rcases (by omega : s = 0 ∨ s = 1 ∨ s = 2 ∨ s = 3 ∨ s = 4 ∨ s = 5) with rfl | rfl | rfl | rfl | rfl | rfl
  · exact ⟨1, z rfl, by decide, by decide⟩
  · exact ⟨3, z rfl, by decide, by decide⟩
  · exact ⟨2, z rfl, by decide, by decide⟩
  · exact ⟨3, z rfl, by decide, by decide⟩
  · exact ⟨5, z rfl, by decide, by decide⟩
  · exact ⟨2, z rfl, by decide, by decide⟩
structure EnOk (n it : Nat) (e : Entry) : Prop where
  way : ∀ w ∈ e, WayOk n w
  own : ∀ w ∈ e, it ∉ w
theorem EnOk.nil (n it : Nat) : EnOk n it [] := ⟨by simp, by simp⟩
theorem EnOk.add {n it : Nat} {e : Entry} {w : List Nat} (h : EnOk n it e) (h1 : WayOk n w) (h2 : it ∉ w) : EnOk n it (e ++ [w]) := by
  refine ⟨fun v hv => ?_, fun v hv => ?_⟩ <;> rcases List.mem_append.mp hv with z | z
  · exact h.way v z
  · rw [List.mem_singleton.mp z]; exact h1
  · exact h.own v z
  · rw [List.mem_singleton.mp z]; exact h2
abbrev bkBody (F__law_draw F__law_way : DF) : DS := (dSeq (dSet 8 (dCall F__law_way (dCons (dVar 0) (dCons (dVar 3) (dCons (dVar 2) (dCons (dOp ixD (dLst (dCons (dC (.int 1)) (dCons (dC (.int 3)) (dCons (dC (.int 2)) (dCons (dC (.int 3)) (dCons (dC (.int 5)) (dCons (dC (.int 2)) dNil))))))) (dVar 4)) dNil)))))) (dSeq (dIfS (dTest (dOp inD (dVar 4) (dTup (dCons (dC (.int 0)) (dCons (dC (.int 1)) (dCons (dC (.int 5)) dNil)))))) (dSet 8 (dBlt tupF (dCons (dOfF (dLc [9] (iSeq (dVar 8)) (gN 9) (dTest (dOp ltA (dVar 9) (dVar 2))) (dVar 9))) dNil))) dNext) (dAppend 6 (dVar 8))))
theorem dSeq_app (t u : DS) (J : DEnds) (env : SE) : dSeq t u J env = t { J with nx := u J } env := rfl
abbrev bkTurn (F__law_draw F__law_way : DF) : DS := (dSeq (dSetOwn 6 (dFLst dNil)) (dSeq (dFor (iRange1 (dOp addA (dC (.int 1)) (dCall F__law_draw (dCons (dVar 0) (dCons (dOp ixD (dLst (dCons (dC (.int 1)) (dCons (dC (.int 2)) (dCons (dC (.int 3)) (dCons (dC (.int 3)) (dCons (dC (.int 4)) (dCons (dC (.int 2)) dNil))))))) (dVar 4)) dNil))))) (gN 7) (bkBody F__law_draw F__law_way)) (dSeq (dIfS (dAndT (dTest (dOp gtI (dVar 4) (dC (.int 1)))) (dTest (dOp eqD (dCall F__law_draw (dCons (dVar 0) (dCons (dC (.int 3)) dNil))) (dC (.int 0))))) (dAppend 6 (dTup dNil)) dNext) (dSeq (dIfS (dAndT (dTest (dOp inD (dVar 4) (dTup (dCons (dC (.int 2)) (dCons (dC (.int 4)) dNil))))) (dTest (dOp eqD (dCall F__law_draw (dCons (dVar 0) (dCons (dC (.int 5)) dNil))) (dC (.int 0))))) (dSetOwn 6 (dFLst dNil)) dNext) (dAppend 5 (dBlt tupF (dCons (dVar 6) dNil)))))))
def EnsOk (n : Nat) (b : List Entry) : Prop := ∀ (i : Nat) e, b[i]? = some e → EnOk n i e ∧ e.length < 64
theorem EnsOk.add {n : Nat} {b : List Entry} {e : Entry} (h : EnsOk n b) (he : EnOk n b.length e) (hl : e.length < 64) : EnsOk n (b ++ [e]) := by
  intro i e' hi
  by_cases c : i < b.length
  · rw [List.getElem?_append_left c] at hi
    exact h i e' hi
  · have hlt := (List.getElem?_eq_some_iff.mp hi).1
    simp at hlt
    have : i = b.length := by omega
    subst this
    rw [List.getElem?_append_right (Nat.le_refl _)] at hi
    simp at hi
    subst hi
    exact ⟨he, hl⟩
theorem gtN (a b : Nat) : gtI (.int (a : Nat)) (.int (b : Nat)) = some (.bl (decide (b < a))) := by
  show some (D.bl (decide (((b : Nat) : Int) < (a : Nat)))) = _
  congr 2
  by_cases h : b < a
  · rw [decide_eq_true h, decide_eq_true (by omega)]
  · rw [decide_eq_false h, decide_eq_false (by omega)]
def F__law_book : DF := fun ds q _ => ∃ most : Nat, ds = [.pen, .int (most : Nat)] ∧ 1 ≤ most ∧ most ≤ 24 ∧ ∀ b, BookOk b → b.length ≤ most → q (bookD b)
theorem book_ok {n : Nat} {b : List Entry} (h : EnsOk n b) (hl : b.length = n) (h1 : 1 ≤ n) (h2 : n ≤ 24) : BookOk b := by
  subst hl
  refine ⟨h1, h2, fun e he => ?_, fun e he w hw => ?_, fun i e hi w hw => (h i e hi).1.own w hw⟩
  · obtain ⟨i, hi⟩ := List.mem_iff_getElem?.mp he
    exact (h i e hi).2
  · obtain ⟨i, hi⟩ := List.mem_iff_getElem?.mp he
    exact (h i e hi).1.way w hw
theorem len_nD (row : List Nat) : (nD row).length = row.length := by simp [nD]
theorem ix_book {b : List Entry} {k : Nat} {e : Entry} (h : b[k]? = some e) : ixD (bookD b) (.int (k : Nat)) = some (entryD e) := by
  show atI (b.map entryD) ((k : Nat) : Int) = _
  exact atI_nat (by rw [List.getElem?_map, h]; rfl)
theorem in_row (i : Nat) (row : List Nat) : inD (.int (i : Nat)) (.tup (nD row)) = some (.bl (decide (i ∈ row))) := by
  rw [nD_iD, inD_tup]
  have : ((i : Int) ∈ row.map fun (i : Nat) => (i : Int)) ↔ i ∈ row := by
    rw [List.mem_map]
    constructor
    · rintro ⟨j, hj, e⟩
      have : j = i := by omega
      rw [← this]; exact hj
    · intro h
      exact ⟨i, h, rfl⟩
  rw [decide_eq_decide.mpr this]
theorem notIn_row (i : Nat) (row : List Nat) : notInD (.int (i : Nat)) (.tup (nD row)) = some (.bl (!decide (i ∈ row))) := by
  have h := in_row i row
  unfold inD at h
  unfold notInD
  cases e : inB (.int (i : Nat)) (.tup (nD row)) with
  | none => rw [e] at h; cases h
  | some c =>
    rw [e] at h
    have : c = decide (i ∈ row) := by
      have h' : some (D.bl c) = some (D.bl (decide (i ∈ row))) := h
      injection h' with h'
      injection h'
    rw [this]
    rfl
/-! ### _law_has, _law_is -/
def hasL (e : Entry) (row : List Nat) : Bool := e.any fun w => w.all fun i => decide (i ∈ row)
def F__law_has : DF := fun ds q _ => ∃ e row, ds = [entryD e, .tup (nD row)] ∧ (∀ w ∈ e, w.length ≤ 1000) ∧ q (.bl (hasL e row))
theorem blsOf_bl : ∀ bs : List Bool, blsOf (bs.map D.bl) = some bs
  | [] => rfl
  | b :: bs => by
    show (blsOf (bs.map D.bl)).map (b :: ·) = _
    rw [blsOf_bl bs]
    rfl
def F__law_is : DF := fun ds q _ => ∃ a b, ds = [.bl a, .bl b] ∧ q (.bl (a == b))
theorem eqD_bl (a b : Bool) : eqD (.bl a) (.bl b) = some (.bl (a == b)) := by
  unfold eqD eqB
  simp only [toPy]
  rw [if_pos (by simp [SeqAt.shaped, PyData.canLay0, PyData.depth])]
  simp [PyData.eqv]
theorem eqD_str {s : Str} (h : SeqAt.shaped (.str s) = true) : eqD (.str s) (.str s) = some (.bl true) := by
  unfold eqD eqB
  simp only [toPy]
  rw [if_pos (by rw [h]; rfl)]
  simp [PyData.eqv]
/-! ### orders by the law, orders by the masks -/
theorem All2.get {α β : Type} {P : α → β → Prop} : ∀ {l : List α} {m : List β} {i : Nat} {a : α} {b : β}, All2 P l m → l[i]? = some a → m[i]? = some b → P a b
  | _, _, _, _, _, .nil, h, _ => by simp at h
  | _, _, 0, _, _, .cons p _, h1, h2 => by simp at h1 h2; subst h1; subst h2; exact p
  | _, _, i + 1, _, _, .cons _ r, h1, h2 => All2.get (i := i) r (by simpa using h1) (by simpa using h2)
theorem All2.len {α β : Type} {P : α → β → Prop} : ∀ {l : List α} {m : List β}, All2 P l m → l.length = m.length
  | _, _, .nil => rfl
  | _, _, .cons _ r => by simp [All2.len r]
theorem has_masks {kept ws : Entry} (t : Tidy kept ws) (pre : List Nat) : (kept.map maskN).any (subM (maskN pre)) = hasL ws pre := by
  have a : ((kept.map maskN).any (subM (maskN pre)) = true) ↔ hasL ws pre = true := by
    rw [List.any_map]
    unfold hasL
    rw [List.any_eq_true, List.any_eq_true]
    constructor
    · rintro ⟨k, hk, h⟩
      refine ⟨k, t.sub k hk, ?_⟩
      rw [List.all_eq_true]
      intro i hi
      exact decide_eq_true ((holds_iff (w := pre) (k := k)).mp h i hi)
    · rintro ⟨w, hw, h⟩
      obtain ⟨k, hk, hs⟩ := t.all w hw
      refine ⟨k, hk, (holds_iff (w := pre) (k := k)).mpr fun i hi => ?_⟩
      rw [List.all_eq_true] at h
      exact of_decide_eq_true (h i (hs i hi))
  cases h1 : (kept.map maskN).any (subM (maskN pre)) <;> cases h2 : hasL ws pre <;> simp_all
/-! ### _law_order -/
/-! ### _law_odd -/
/-! ### _law_grown -/
theorem rngD_nD (n : Nat) : rngD 0 n = nD (List.range n) := by
  unfold rngD nD
  apply List.map_congr_left
  intro i _
  simp
/-! ### items_of, all_items -/
def bitsN (m : Nat) : List Nat := (List.range (Builtin.Int.intBits (m : Nat))).filter fun i => m.testBit i
theorem intBits_nat (m : Nat) : Builtin.Int.intBits (m : Nat) = if m = 0 then 0 else m.log2 + 1 := by
  unfold Builtin.Int.intBits
  by_cases h : m = 0
  · subst h; rfl
  · have h' : (((m : Nat) : Int) == 0) = false := by simpa using h
    rw [h', if_neg h]
    simp
theorem bitsN_mem {m i : Nat} : i ∈ bitsN m ↔ m.testBit i = true := by
  unfold bitsN
  rw [List.mem_filter, List.mem_range, intBits_nat]
  refine ⟨fun h => h.2, fun h => ⟨?_, h⟩⟩
  have hm : m ≠ 0 := fun z => by subst z; simp at h
  rw [if_neg hm]
  have h2 := Nat.ge_two_pow_of_testBit h
  have := (Nat.le_log2 hm (k := i)).mpr h2
  omega
theorem bitsN_asc (m : Nat) : (bitsN m).Pairwise (· < ·) := List.Pairwise.filter _ List.pairwise_lt_range
def F_items_of : DF := fun ds q _ => ∃ m : Nat, ds = [.int (m : Nat)] ∧ m < 2 ^ 100 ∧ q (.tup (nD (bitsN m)))
def F_all_items : DF := fun ds q _ => ∃ n : Nat, ds = [.int (n : Nat)] ∧ n ≤ 1000 ∧ q (.int ((2 ^ n - 1 : Nat) : Int))
/-! ### can_follow -/
abbrev MBook := List (List Nat)
def canF (ms : List MBook) (i d : Nat) : Bool := ms.all fun m => (m.getD i []).any (subM d)
/-! ### greatest_in -/
abbrev Sub (a b : Nat) : Prop := ∀ i, a.testBit i = true → b.testBit i = true
theorem Sub.le {a b : Nat} (h : Sub a b) : a ≤ b := by
  have e := and_eq_left.mpr h
  rw [← e]
  exact Nat.and_le_right
theorem subM_mono {d d' a : Nat} (h : Sub d d') (ha : subM d a = true) : subM d' a = true := by
  unfold subM at *
  rw [decide_eq_true_eq] at *
  exact and_eq_left.mpr fun i hi => h i (and_eq_left.mp ha i hi)
theorem canF_mono {ms : List MBook} {i d d' : Nat} (h : Sub d d') (hc : canF ms i d = true) : canF ms i d' = true := by
  unfold canF at *
  rw [List.all_eq_true] at *
  intro m hm
  obtain ⟨a, ha, hs⟩ := List.any_eq_true.mp (hc m hm)
  exact List.any_eq_true.mpr ⟨a, ha, subM_mono h hs⟩
structure Grt (ms : List MBook) (al r : Nat) : Prop where
  sub : Sub r al
  closed : ∀ i, al.testBit i = true → canF ms i r = true → r.testBit i = true
  least : ∀ s : Nat, (∀ i, al.testBit i = true → canF ms i s = true → s.testBit i = true) → Sub r s
def stepF (ms : List MBook) (d i : Nat) : Nat := if !d.testBit i && canF ms i d then d ||| 2 ^ i else d
def roundF (ms : List MBook) (l : List Nat) (d : Nat) : Nat := l.foldl (stepF ms) d
theorem or_bit (d i j : Nat) : (d ||| 2 ^ i).testBit j = (d.testBit j || decide (i = j)) := by
  rw [Nat.testBit_or, Nat.testBit_two_pow]
/-- what stays through the rounds -/
structure GI (ms : List MBook) (al d : Nat) : Prop where
  sub : Sub d al
  least : ∀ s : Nat, (∀ i, al.testBit i = true → canF ms i s = true → s.testBit i = true) → Sub d s
theorem GI.step {ms : List MBook} {al d i : Nat} (h : GI ms al d) (hi : al.testBit i = true) : GI ms al (stepF ms d i) := by
  unfold stepF
  split
  · rename_i c
    rw [Bool.and_eq_true] at c
    refine ⟨fun j hj => ?_, fun s hs j hj => ?_⟩ <;> rw [or_bit, Bool.or_eq_true, decide_eq_true_eq] at hj <;> rcases hj with z | z
    · exact h.sub j z
    · rw [← z]; exact hi
    · exact h.least s hs j z
    · rw [← z]; exact hs i hi (canF_mono (h.least s hs) c.2)
  · exact h
theorem GI.pass {ms : List MBook} {al : Nat} : ∀ {l : List Nat} {d : Nat}, GI ms al d → (∀ i ∈ l, al.testBit i = true) → GI ms al (roundF ms l d)
  | [], _, h, _ => h
  | i :: l, d, h, hl => (h.step (hl i List.mem_cons_self)).pass fun j hj => hl j (List.mem_cons_of_mem _ hj)
theorem Sub.eq {a b : Nat} (h1 : Sub a b) (h2 : Sub b a) : a = b := Nat.le_antisymm h1.le h2.le
/-- the masks of a course -/
def mskB (kb : List Entry) : MBook := kb.map fun e => e.map maskN
theorem xor_add_and : ∀ (n a b : Nat), a ≤ n → (a ^^^ b) + (a &&& b) = a ||| b
  | 0, a, b, h => by
    have : a = 0 := by omega
    subst this
    simp
  | n + 1, a, b, h => by
    have ih := xor_add_and n (a / 2) (b / 2) (by omega)
    rw [← Nat.xor_div_two, ← Nat.and_div_two, ← Nat.or_div_two] at ih
    have x1 := @Nat.xor_mod_two_eq_one a b
    have x2 := @Nat.and_mod_two_eq_one a b
    have x3 := @Nat.or_mod_two_eq_one a b
    omega
theorem bxor (a b : Nat) : Builtin.bitXor (a : Int) (b : Int) = ((a ^^^ b : Nat) : Int) := by
  unfold Builtin.bitXor
  rw [bor, band]
  have := xor_add_and a a b (Nat.le_refl _)
  omega
theorem xorN (a b : Nat) : xorD (.int (a : Nat)) (.int (b : Nat)) = some (.int ((a ^^^ b : Nat) : Int)) := by
  show rInt (Builtin.bitXor (a : Int) (b : Int)) = _
  rw [bxor]
/-- the items of a course of n that w lacks -/
def restM (n : Nat) (w : List Nat) : Nat := (2 ^ n - 1) ^^^ maskN w
theorem restM_bit {n : Nat} {w : List Nat} (hw : ∀ i ∈ w, i < n) (i : Nat) : (restM n w).testBit i = true ↔ i < n ∧ i ∉ w := by
  unfold restM
  rw [Nat.testBit_xor, Nat.testBit_two_pow_sub_one, maskN_bit]
  by_cases a : i < n <;> by_cases b : i ∈ w
  · simp [a, b]
  · simp [a, b]
  · exact absurd (hw i b) a
  · simp [a, b]
/-! ### the states that law k12 grows -/
def putN (n : Nat) (w : List Nat) (k : Nat) : List Nat := (List.range n).filter fun i => decide (i ∈ w) || decide (i = k)
inductive StP (b : List Entry) : List Nat → Prop
  | nil : StP b []
  | put {w : List Nat} {k : Nat} (h : StP b w) (hk : k < b.length) (hw : hasL (b.getD k []) w = true) : StP b (putN b.length w k)
theorem putN_mem {n k i : Nat} {w : List Nat} : i ∈ putN n w k ↔ i < n ∧ (i ∈ w ∨ i = k) := by
  unfold putN
  rw [List.mem_filter, List.mem_range, Bool.or_eq_true, decide_eq_true_eq, decide_eq_true_eq]
theorem putN_asc (n : Nat) (w : List Nat) (k : Nat) : (putN n w k).Pairwise (· < ·) := List.Pairwise.filter _ List.pairwise_lt_range
theorem StP.asc {b : List Entry} {w : List Nat} (h : StP b w) : w.Pairwise (· < ·) := by
  cases h with
  | nil => exact List.Pairwise.nil
  | put _ _ _ => exact putN_asc _ _ _
theorem StP.lt {b : List Entry} {w : List Nat} (h : StP b w) : ∀ i ∈ w, i < b.length := by
  cases h with
  | nil => simp
  | put _ _ _ => exact fun i hi => (putN_mem.mp hi).1
/-! ### states as masks -/
theorem Grt.mk_state {ms : List MBook} {r : Nat} (h : ∀ s : Nat, (∀ i, r.testBit i = true → canF ms i s = true → s.testBit i = true) → Sub r s) : Grt ms r r :=
  ⟨fun _ h => h, fun _ h _ => h, h⟩
theorem st_put {ms : List MBook} {a k : Nat} (ha : Grt ms a a) (hk : canF ms k a = true) : Grt ms (a ||| 2 ^ k) (a ||| 2 ^ k) := .mk_state fun s hs i hi => by
  have hsub : Sub a s := ha.least s fun j hj => hs j (by rw [or_bit, hj]; rfl)
  rw [or_bit, Bool.or_eq_true, decide_eq_true_eq] at hi
  rcases hi with z | z
  · exact hsub i z
  · subst z
    exact hs k (by rw [or_bit]; simp) (canF_mono hsub hk)
theorem st_greatest {ms : List MBook} {al r : Nat} (h : Grt ms al r) : Grt ms r r := .mk_state fun s hs => by
  have hc : ∀ i, al.testBit i = true → canF ms i (s &&& r) = true → (s &&& r).testBit i = true := fun i hi hcn => by
    have l1 : Sub (s &&& r) r := fun j hj => by rw [Nat.testBit_and, Bool.and_eq_true] at hj; exact hj.2
    have l2 : Sub (s &&& r) s := fun j hj => by rw [Nat.testBit_and, Bool.and_eq_true] at hj; exact hj.1
    have r1 := h.closed i hi (canF_mono l1 hcn)
    rw [Nat.testBit_and, r1, hs i r1 (canF_mono l2 hcn)]
    rfl
  intro i hi
  have := h.least (s &&& r) hc i hi
  rw [Nat.testBit_and, Bool.and_eq_true] at this
  exact this.1
theorem st_within {ms : List MBook} {al r a : Nat} (h : Grt ms al r) (ha : Grt ms a a) (hs : Sub a al) : Sub a r := ha.least r fun i hi hc => h.closed i (hs i hi) hc
theorem mask_bitsN (r : Nat) : maskN (bitsN r) = r := by
  apply Nat.eq_of_testBit_eq
  intro i
  rw [maskN_bit]
  cases c : r.testBit i with
  | true => exact decide_eq_true (bitsN_mem.mpr c)
  | false => exact decide_eq_false fun z => by rw [bitsN_mem.mp z] at c; cases c
/-! ### the texts of rows -/
theorem sok_app (a b : Str) : PyData.strOk (a ++ b) = (PyData.strOk a && PyData.strOk b) := by
  unfold PyData.strOk
  rw [show (a ++ b).cps = a.cps ++ b.cps from rfl, Array.all_append]
theorem sok_string (s : String) : PyData.strOk (Str.ofString s) = true := by
  unfold PyData.strOk
  rw [Str.ofString_eq_toList]
  rw [← Array.all_toList]
  simp only [List.all_map, List.all_eq_true]
  intro c _
  have := c.valid
  show decide (c.toNat < 0x110000) = true
  have h : c.toNat < 0x110000 := by
    rcases c.valid with h | h
    · have : c.toNat < 0xd800 := h
      omega
    · exact h.2
  exact decide_eq_true h
theorem sok_join (sep : Str) (hs : PyData.strOk sep = true) : ∀ ts : List Str, (∀ t ∈ ts, PyData.strOk t = true) → PyData.strOk (Str.join sep ts) = true
  | [], _ => by
    show PyData.strOk Str.empty = true
    decide +kernel
  | [t], h => h t List.mem_cons_self
  | t :: u :: ts, h => by
    show PyData.strOk (t ++ sep ++ Str.join sep (u :: ts)) = true
    rw [sok_app, sok_app, h t List.mem_cons_self, hs, sok_join sep hs (u :: ts) fun v hv => h v (List.mem_cons_of_mem _ hv)]
    rfl
def ReprOk (d : D) : Prop := ∃ s, reprF [d] = some (.str s) ∧ PyData.strOk s = true
theorem cut_dropG (xs : List D) (k : Nat) : cutD xs (some (k : Int)) none = xs.drop k := by
  unfold cutD
  rw [HT.sIx_none, HT.sIx_nat]
  rcases Nat.le_total k xs.length with h | h
  · rw [Nat.min_eq_left h, List.take_of_length_le (by simp)]
  · rw [Nat.min_eq_right h, List.drop_eq_nil_of_le (Nat.le_refl _), List.drop_eq_nil_of_le h, List.take_nil]
structure RowOk (b : List Entry) (r : List Nat) : Prop where
  lt : ∀ i ∈ r, i < b.length
  len : r.length ≤ 100
structure ValOk (kb : List Entry) (v : D) : Prop where
  pl : pl v = true
  no : isOrd kb v = false
  re : isTupD v = true → ReprOk v
def F_law : DF := fun ds q _ => ∃ ns : List Int, ds = [.scr (iD ns)] ∧ ns.length ≤ 63 ∧ q (.bl true)
theorem catL {xs ys : List D} (h : xs.length + ys.length ≤ 16777216) : addA (.lst xs) (.lst ys) = some (.lst (xs ++ ys)) := by
  show (none : Option D).or (if xs.length + ys.length ≤ 16777216 then some (D.lst (xs ++ ys)) else none) = _
  rw [if_pos h]
  rfl
theorem cut_ints (ns : List Int) (lo hi : Option Int) : (∀ d ∈ cutD (iD ns) lo hi, ∃ z, d = .int z) ∧ (cutD (iD ns) lo hi).length ≤ ns.length := by
  unfold cutD
  refine ⟨fun d hd => ?_, ?_⟩
  · have h := List.mem_of_mem_drop (List.mem_of_mem_take hd)
    obtain ⟨z, _, rfl⟩ := List.mem_map.mp h
    exact ⟨z, rfl⟩
  · rw [List.length_take, List.length_drop]
    simp only [iD, List.length_map]
    omega
theorem can_has {kb b : List Entry} (t : TidyB kb b) {i : Nat} (hi : i < b.length) (pre : List Nat) : canF [mskB kb] i (maskN pre) = hasL (b.getD i []) pre := by
  have hl := t.len
  have hk : i < kb.length := by omega
  have ek : (mskB kb).getD i [] = kb[i].map maskN := by
    unfold mskB
    rw [List.getD, List.getElem?_map, List.getElem?_eq_getElem hk]
    rfl
  have eb : b.getD i [] = b[i] := by rw [List.getD, List.getElem?_eq_getElem hi]; rfl
  have tt : Tidy kb[i] b[i] := t.get (List.getElem?_eq_getElem hk) (List.getElem?_eq_getElem hi)
  show (((mskB kb).getD i []).any (subM (maskN pre)) && true) = _
  rw [Bool.and_true, ek, eb, has_masks tt]
theorem mask_put {n k : Nat} {w : List Nat} (hw : ∀ i ∈ w, i < n) (hk : k < n) : maskN (putN n w k) = maskN w ||| 2 ^ k := by
  apply Nat.eq_of_testBit_eq
  intro i
  rw [or_bit, maskN_bit, maskN_bit]
  by_cases h1 : i ∈ w
  · rw [decide_eq_true (putN_mem.mpr ⟨hw i h1, .inl h1⟩), decide_eq_true h1]; rfl
  · by_cases h2 : k = i
    · rw [decide_eq_true (putN_mem.mpr ⟨by omega, .inr h2.symm⟩), decide_eq_true h2, Bool.or_true]
    · rw [decide_eq_false h1, decide_eq_false h2, decide_eq_false]
      · rfl
      · intro z
        rcases (putN_mem.mp z).2 with y | y
        · exact h1 y
        · exact h2 y.symm
section
variable (C X : Addr)
end
abbrev KE (s z b kb : EV) (ws a n c o8 o9 o10 o11 o12 : EV) : SE := [s, z, b, kb, ws, a, n, c, o8, o9, o10, o11, o12]
theorem inn (k : Nat) (w : List Nat) : inD (.int (k : Nat)) (wayD w) = some (.bl (decide (k ∈ w))) := in_row k w
theorem notInn (k : Nat) (w : List Nat) : notInD (.int (k : Nat)) (wayD w) = some (.bl (!decide (k ∈ w))) := notIn_row k w
theorem pl_way (w : List Nat) : pl (wayD w) = true := by
  show pls (nD w) = true
  unfold nD
  induction w with
  | nil => rfl
  | cons i w ih => simp [pls, pl, ih]
theorem wayD_inj {u v : List Nat} (h : wayD u = wayD v) : u = v := by
  have e3 : nD u = nD v := by injection h
  have this := congrArg (List.map fun d : D => match d with | .int i => i.toNat | _ => 0) e3
  unfold nD at this
  rw [List.map_map, List.map_map] at this
  have f : ((fun d : D => match d with | .int i => i.toNat | _ => 0) ∘ fun (i : Nat) => D.int (i : Nat)) = id := by funext i; rfl
  rw [f, List.map_id, List.map_id] at this
  exact this
/-! ### plain trees: None, ints, texts, tuples and lists of them -/
mutual
def pt : D → Nat → Bool
  | .non, _ => true
  | .int _, _ => true
  | .str x, _ => PyData.strOk x
  | .tup xs, n => match n with
    | 0 => false
    | n + 1 => pts xs n
  | .lst xs, n => match n with
    | 0 => false
    | n + 1 => pts xs n
  | _, _ => false
def pts : List D → Nat → Bool
  | [], _ => true
  | x :: xs, n => pt x n && pts xs n
end
mutual
theorem pt_py : ∀ (d : D) (n : Nat), pt d n = true → ∃ p, toPy d = some p ∧ PyData.canLay0 p = true ∧ p.depth ≤ n
  | d, n, h => by
    cases d with
    | non => exact ⟨.none, rfl, rfl, by simp [PyData.depth]⟩
    | int i => exact ⟨.int i, rfl, rfl, by simp [PyData.depth]⟩
    | str x => exact ⟨.str x, rfl, by simpa [PyData.canLay0, pt] using h, by simp [PyData.depth]⟩
    | tup xs =>
      cases n with
      | zero => simp [pt] at h
      | succ n =>
        obtain ⟨ps, e, l, d⟩ := pts_py xs n (by simpa [pt] using h)
        exact ⟨.tuple ps, by simp [toPy, e], by simpa [PyData.canLay0] using l, by simp [PyData.depth]; omega⟩
    | lst xs =>
      cases n with
      | zero => simp [pt] at h
      | succ n =>
        obtain ⟨ps, e, l, d⟩ := pts_py xs n (by simpa [pt] using h)
        exact ⟨.list ps, by simp [toPy, e], by simpa [PyData.canLay0] using l, by simp [PyData.depth]; omega⟩
    | _ => simp [pt] at h
theorem pts_py : ∀ (ds : List D) (n : Nat), pts ds n = true → ∃ ps, toPys ds = some ps ∧ PyData.canLayAll0 ps = true ∧ PyData.depthAll ps ≤ n
  | [], n, _ => ⟨[], rfl, rfl, by simp [PyData.depthAll]⟩
  | x :: xs, n, h => by
    simp only [pts, Bool.and_eq_true] at h
    obtain ⟨p, e1, l1, d1⟩ := pt_py x n h.1
    obtain ⟨ps, e2, l2, d2⟩ := pts_py xs n h.2
    exact ⟨p :: ps, by simp [toPys, e1, e2], by simp [PyData.canLayAll0, l1, l2], by simp [PyData.depthAll]; omega⟩
end
mutual
theorem eqv_pt : ∀ (a b : D) (n m : Nat) (p q : PyData), pt a n = true → pt b m = true → toPy a = some p → toPy b = some q → (PyData.eqv p q = true ↔ a = b)
  | a, b, n, m, p, q, ha, hb, ea, eb => by
    cases a with
    | non =>
      cases ea
      cases b <;> simp_all [pt, toPy] <;> (try (subst eb; simp [PyData.eqv])) <;> (try (obtain ⟨_, _, rfl⟩ := eb; simp [PyData.eqv]))
    | int i =>
      cases ea
      cases b <;> simp_all [pt, toPy] <;> (try (subst eb; simp [PyData.eqv])) <;> (try (obtain ⟨_, _, rfl⟩ := eb; simp [PyData.eqv]))
    | str i =>
      cases ea
      cases b <;> simp_all [pt, toPy] <;> (try (subst eb; simp [PyData.eqv])) <;> (try (obtain ⟨_, _, rfl⟩ := eb; simp [PyData.eqv]))
    | tup xs =>
      simp only [toPy, Option.map_eq_some_iff] at ea
      obtain ⟨ps, e1, rfl⟩ := ea
      cases n with
      | zero => simp [pt] at ha
      | succ n =>
        cases b with
        | tup ys =>
          cases m with
          | zero => simp [pt] at hb
          | succ m =>
            simp only [toPy, Option.map_eq_some_iff] at eb
            obtain ⟨qs, e2, rfl⟩ := eb
            simpa [PyData.eqv] using eqvs_pt xs ys n m ps qs (by simpa [pt] using ha) (by simpa [pt] using hb) e1 e2
        | _ => simp_all [pt, toPy] <;> (try (subst eb; simp [PyData.eqv])) <;> (try (obtain ⟨_, _, rfl⟩ := eb; simp [PyData.eqv]))
    | lst xs =>
      simp only [toPy, Option.map_eq_some_iff] at ea
      obtain ⟨ps, e1, rfl⟩ := ea
      cases n with
      | zero => simp [pt] at ha
      | succ n =>
        cases b with
        | lst ys =>
          cases m with
          | zero => simp [pt] at hb
          | succ m =>
            simp only [toPy, Option.map_eq_some_iff] at eb
            obtain ⟨qs, e2, rfl⟩ := eb
            simpa [PyData.eqv] using eqvs_pt xs ys n m ps qs (by simpa [pt] using ha) (by simpa [pt] using hb) e1 e2
        | _ => simp_all [pt, toPy] <;> (try (subst eb; simp [PyData.eqv])) <;> (try (obtain ⟨_, _, rfl⟩ := eb; simp [PyData.eqv]))
    | _ => simp [pt] at ha
theorem eqvs_pt : ∀ (a b : List D) (n m : Nat) (p q : List PyData), pts a n = true → pts b m = true → toPys a = some p → toPys b = some q → (PyData.eqvAll p q = true ↔ a = b)
  | [], [], _, _, _, _, _, _, ea, eb => by
    simp only [toPys, Option.some.injEq] at ea eb
    subst ea; subst eb; simp [PyData.eqvAll]
  | [], y :: ys, _, _, _, _, _, _, ea, eb => by
    simp only [toPys, Option.some.injEq] at ea
    obtain ⟨_, _, _, _, rfl⟩ := toPys_cons eb
    subst ea; simp [PyData.eqvAll]
  | x :: xs, [], _, _, _, _, _, _, ea, eb => by
    simp only [toPys, Option.some.injEq] at eb
    obtain ⟨_, _, _, _, rfl⟩ := toPys_cons ea
    subst eb; simp [PyData.eqvAll]
  | x :: xs, y :: ys, n, m, p, q, ha, hb, ea, eb => by
    simp only [pts, Bool.and_eq_true] at ha hb
    obtain ⟨p1, p2, e1, e2, rfl⟩ := toPys_cons ea
    obtain ⟨q1, q2, e3, e4, rfl⟩ := toPys_cons eb
    simp only [PyData.eqvAll, Bool.and_eq_true, List.cons.injEq]
    rw [eqv_pt x y n m p1 q1 ha.1 hb.1 e1 e3, eqvs_pt xs ys n m p2 q2 ha.2 hb.2 e2 e4]
end
theorem eqB_pt {a b : D} (ha : pt a 64 = true) (hb : pt b 64 = true) : ∃ c : Bool, eqB a b = some c ∧ (c = true ↔ a = b) := by
  obtain ⟨p, e1, l1, d1⟩ := pt_py a 64 ha
  obtain ⟨q, e2, l2, d2⟩ := pt_py b 64 hb
  refine ⟨PyData.eqv p q, ?_, eqv_pt a b 64 64 p q ha hb e1 e2⟩
  unfold eqB
  rw [e1, e2]
  simp [SeqAt.shaped, l1, l2, d1, d2]
theorem eqD_same {a : D} (ha : pt a 64 = true) : eqD a a = some (.bl true) := by
  obtain ⟨c, e, h⟩ := eqB_pt ha ha
  unfold eqD
  rw [e, h.mpr rfl]; rfl
theorem eqD_not {a b : D} (ha : pt a 64 = true) (hb : pt b 64 = true) (n : a ≠ b) : eqD a b = some (.bl false) := by
  obtain ⟨c, e, h⟩ := eqB_pt ha hb
  unfold eqD
  rw [e]
  cases c with
  | true => exact absurd (h.mp rfl) n
  | false => rfl
theorem neD_same {a : D} (ha : pt a 64 = true) : neD a a = some (.bl false) := by
  obtain ⟨c, e, h⟩ := eqB_pt ha ha
  unfold neD
  rw [e, h.mpr rfl]; rfl
theorem neD_not {a b : D} (ha : pt a 64 = true) (hb : pt b 64 = true) (n : a ≠ b) : neD a b = some (.bl true) := by
  obtain ⟨c, e, h⟩ := eqB_pt ha hb
  unfold neD
  rw [e]
  cases c with
  | true => exact absurd (h.mp rfl) n
  | false => rfl
theorem inB_pt {x : D} (hx : pt x 64 = true) : ∀ {ys : List D} {n : Nat}, pts ys n = true → ∃ c : Bool, (inB x (.tup ys) = some c ∧ inB x (.lst ys) = some c) ∧ (c = true ↔ x ∈ ys) := by
  intro ys n hy
  obtain ⟨p, e1, l1, d1⟩ := pt_py x 64 hx
  obtain ⟨qs, e2, l2, d2⟩ := pts_py ys n hy
  refine ⟨qs.any fun y => PyData.eqv y p, ⟨?_, ?_⟩, ?_⟩
  · unfold inB
    simp [toPy, e1, e2, SeqAt.shaped, l1, l2, d1]
  · unfold inB
    simp [toPy, e1, e2, SeqAt.shaped, l1, l2, d1]
  · clear l2 d2
    induction ys generalizing qs with
    | nil => simp only [toPys, Option.some.injEq] at e2; subst e2; simp
    | cons y ys ih =>
      obtain ⟨q1, q2, e3, e4, rfl⟩ := toPys_cons e2
      simp only [pts, Bool.and_eq_true] at hy
      rw [List.any_cons, Bool.or_eq_true, ih hy.2 q2 e4, eqv_pt y x n 64 q1 p hy.1 hx e3 e1, List.mem_cons]
      constructor
      · rintro (h | h)
        · exact .inl h.symm
        · exact .inr h
      · rintro (h | h)
        · exact .inl h.symm
        · exact .inr h
theorem pts_nD (w : List Nat) (n : Nat) : pts (nD w) n = true := by
  unfold nD
  induction w with
  | nil => rfl
  | cons i w ih => simp [pts, pt, ih]
theorem pt_way (w : List Nat) (n : Nat) : pt (wayD w) (n + 1) = true := by
  show pts (nD w) n = true
  exact pts_nD w n
theorem eqD_way (u v : List Nat) : eqD (wayD u) (wayD v) = some (.bl (decide (u = v))) := by
  by_cases h : u = v
  · rw [h, eqD_same (pt_way v 63)]; simp
  · rw [eqD_not (pt_way u 63) (pt_way v 63) fun e => h (wayD_inj e)]; simp [h]
theorem neD_way (u v : List Nat) : neD (wayD u) (wayD v) = some (.bl (!decide (u = v))) := by
  by_cases h : u = v
  · rw [h, neD_same (pt_way v 63)]; simp
  · rw [neD_not (pt_way u 63) (pt_way v 63) fun e => h (wayD_inj e)]; simp [h]
theorem eqD_nonway (u : List Nat) : eqD .non (wayD u) = some (.bl false) := eqD_not rfl (pt_way u 63) (by intro h; cases h)
theorem eqD_waynon (u : List Nat) : eqD (wayD u) .non = some (.bl false) := eqD_not (pt_way u 63) rfl (by intro h; cases h)
theorem nD_inj {u v : List Nat} (h : nD u = nD v) : u = v := wayD_inj (congrArg D.tup h)
theorem pt_lnD (w : List Nat) (n : Nat) : pt (.lst (nD w)) (n + 1) = true := by
  show pts (nD w) n = true
  exact pts_nD w n
theorem eqD_lst (u v : List Nat) : eqD (.lst (nD u)) (.lst (nD v)) = some (.bl (decide (u = v))) := by
  by_cases h : u = v
  · rw [h, eqD_same (pt_lnD v 63)]; simp
  · rw [eqD_not (pt_lnD u 63) (pt_lnD v 63) fun e => h (nD_inj (D.lst.inj e))]; simp [h]
theorem neD_lst (u v : List Nat) : neD (.lst (nD u)) (.lst (nD v)) = some (.bl (!decide (u = v))) := by
  by_cases h : u = v
  · rw [h, neD_same (pt_lnD v 63)]; simp
  · rw [neD_not (pt_lnD u 63) (pt_lnD v 63) fun e => h (nD_inj (D.lst.inj e))]; simp [h]
/-! ### operations on the data that occur, as equations -/
theorem len_way (w : List Nat) : lenF [wayD w] = some (.int (w.length : Nat)) := by
  show some (D.int ((nD w).length : Nat)) = _
  rw [len_nD]
theorem len_book (b : List Entry) : lenF [bookD b] = some (.int (b.length : Nat)) := by
  show some (D.int ((b.map entryD).length : Nat)) = _
  rw [List.length_map]
theorem len_masks (b : List Entry) : lenF [masksD b] = some (.int (b.length : Nat)) := by
  show some (D.int ((b.map _).length : Nat)) = _
  rw [List.length_map]
theorem len_entry (e : Entry) : lenF [entryD e] = some (.int (e.length : Nat)) := by
  show some (D.int ((e.map wayD).length : Nat)) = _
  rw [List.length_map]
theorem len_lst (l : List D) : lenF [.lst l] = some (.int (l.length : Nat)) := rfl
theorem len_tup (l : List D) : lenF [.tup l] = some (.int (l.length : Nat)) := rfl
theorem tup_lst (l : List D) : tupF [.lst l] = some (.tup l) := rfl
theorem tup_tup (l : List D) : tupF [.tup l] = some (.tup l) := rfl
theorem tup_way (w : List Nat) : tupF [wayD w] = some (wayD w) := rfl
theorem lst_way (w : List Nat) : lstF [wayD w] = some (.lst (nD w)) := rfl
theorem lst_lst (l : List D) : lstF [.lst l] = some (.lst l) := rfl
theorem int_int (i : Int) : intF [.int i] = some (.int i) := rfl
theorem way_nD (w : List Nat) : D.tup (nD w) = wayD w := rfl
theorem all_bl (bs : List Bool) : allF [.lst (bs.map D.bl)] = some (.bl (bs.all id)) := by show (blsOf _).map _ = _; rw [blsOf_bl]; rfl
theorem any_bl (bs : List Bool) : anyF [.lst (bs.map D.bl)] = some (.bl (bs.any id)) := by show (blsOf _).map _ = _; rw [blsOf_bl]; rfl
theorem inlst (k : Nat) (w : List Nat) : inD (.int (k : Nat)) (.lst (nD w)) = some (.bl (decide (k ∈ w))) := by
  obtain ⟨c, ⟨_, e⟩, h⟩ := inB_pt (x := .int (k : Nat)) rfl (pts_nD w 0)
  unfold inD; rw [e]
  have : (D.int (k : Nat) ∈ nD w) ↔ k ∈ w := by
    unfold nD
    simp only [List.mem_map, D.int.injEq]
    exact ⟨fun ⟨a, ha, e⟩ => by rw [← show a = k by omega]; exact ha, fun h => ⟨k, h, rfl⟩⟩
  rw [this] at h
  cases c <;> simp_all
theorem notinlst (k : Nat) (w : List Nat) : notInD (.int (k : Nat)) (.lst (nD w)) = some (.bl (!decide (k ∈ w))) := by
  obtain ⟨c, ⟨_, e⟩, h⟩ := inB_pt (x := .int (k : Nat)) rfl (pts_nD w 0)
  unfold notInD; rw [e]
  have : (D.int (k : Nat) ∈ nD w) ↔ k ∈ w := by
    unfold nD
    simp only [List.mem_map, D.int.injEq]
    exact ⟨fun ⟨a, ha, e⟩ => by rw [← show a = k by omega]; exact ha, fun h => ⟨k, h, rfl⟩⟩
  rw [this] at h
  cases c <;> simp_all
theorem isN_way (w : List Nat) : isA (wayD w) .non = some (.bl false) := rfl
theorem isNot_way (w : List Nat) : isNotA (wayD w) .non = some (.bl true) := rfl
theorem isN_non : isA .non .non = some (.bl true) := rfl
theorem isNot_non : isNotA .non .non = some (.bl false) := rfl
theorem isN_int (i : Int) : isA (.int i) .non = some (.bl false) := rfl
theorem isNot_int (i : Int) : isNotA (.int i) .non = some (.bl true) := rfl
theorem ex_way_lst {w : List Nat} {P : List D → Prop} : (∃ ds, wayD w = D.lst ds ∧ P ds) ↔ False := ⟨fun ⟨_, e, _⟩ => (nomatch e), False.elim⟩
theorem ex_way_tup {w : List Nat} {P : List D → Prop} : (∃ ds, wayD w = D.tup ds ∧ P ds) ↔ P (nD w) := ⟨fun ⟨_, e, h⟩ => by cases e; exact h, fun h => ⟨_, rfl, h⟩⟩
theorem ex_book_lst {w : List Entry} {P : List D → Prop} : (∃ ds, bookD w = D.lst ds ∧ P ds) ↔ False := ⟨fun ⟨_, e, _⟩ => (nomatch e), False.elim⟩
theorem ex_book_tup {w : List Entry} {P : List D → Prop} : (∃ ds, bookD w = D.tup ds ∧ P ds) ↔ P (w.map entryD) := ⟨fun ⟨_, e, h⟩ => by cases e; exact h, fun h => ⟨_, rfl, h⟩⟩
theorem ex_entry_lst {w : Entry} {P : List D → Prop} : (∃ ds, entryD w = D.lst ds ∧ P ds) ↔ False := ⟨fun ⟨_, e, _⟩ => (nomatch e), False.elim⟩
theorem ex_entry_tup {w : Entry} {P : List D → Prop} : (∃ ds, entryD w = D.tup ds ∧ P ds) ↔ P (w.map wayD) := ⟨fun ⟨_, e, h⟩ => by cases e; exact h, fun h => ⟨_, rfl, h⟩⟩
/-! ### the attributes of a course -/
theorem ex_fld_book {C : Addr} {kb : List Entry} {P : D → Prop} : (∃ ns ds d, crsD C kb = .ins C ns ds ∧ lkD ("book" : Str) ns ds = some d ∧ P d) ↔ P (masksD kb) :=
  ⟨fun ⟨_, _, _, e, h, p⟩ => by cases e; rw [lk_book] at h; cases h; exact p, fun h => ⟨_, _, _, rfl, lk_book _ _, h⟩⟩
theorem ex_fld_ways {C : Addr} {kb : List Entry} {P : D → Prop} : (∃ ns ds d, crsD C kb = .ins C ns ds ∧ lkD ("_ways" : Str) ns ds = some d ∧ P d) ↔ P (bookD kb) :=
  ⟨fun ⟨_, _, _, e, h, p⟩ => by cases e; rw [lk_ways] at h; cases h; exact p, fun h => ⟨_, _, _, rfl, lk_ways _ _, h⟩⟩
/-! ### injections -/
theorem inj_map {α β : Type} {f : α → β} (hf : ∀ x y, f x = f y → x = y) : ∀ {u v : List α}, u.map f = v.map f → u = v
  | [], [], _ => rfl
  | [], _ :: _, h => by simp at h
  | _ :: _, [], h => by simp at h
  | x :: u, y :: v, h => by
    simp only [List.map_cons, List.cons.injEq] at h
    rw [hf x y h.1, inj_map hf h.2]
theorem entryD_inj {a b : Entry} (h : entryD a = entryD b) : a = b := inj_map (fun _ _ => wayD_inj) (D.tup.inj h)
theorem bookD_inj {a b : List Entry} (h : bookD a = bookD b) : a = b := inj_map (fun _ _ => entryD_inj) (D.tup.inj h)
theorem crsD_inj {C : Addr} {a b : List Entry} (h : crsD C a = crsD C b) : a = b := by
  injection h with _ _ h
  injection h with h _
  exact bookD_inj h
theorem natInt_inj {a b : Nat} (h : D.int (a : Nat) = D.int (b : Nat)) : a = b := by injection h with h; omega
/-! ### calls, as equations -/
theorem len_ap (C : Addr) {kb : List Entry} {q : D → Prop} {x : XP} : F_Course___len__ C [crsD C kb] q x ↔ q (.int (kb.length : Nat)) :=
  ⟨fun ⟨kb', e, h⟩ => by cases crsD_inj (List.cons.inj e).1; exact h, fun h => ⟨kb, rfl, h⟩⟩
theorem mask_of_ap {w : List Nat} {q : D → Prop} {x : XP} : F_mask_of [wayD w] q x ↔ (∀ i ∈ w, i ≤ 1000000) ∧ q (.int (maskN w : Nat)) :=
  ⟨fun ⟨w', e, h⟩ => by cases wayD_inj (List.cons.inj (show [wayD w] = [wayD w'] from e)).1; exact h, fun h => ⟨w, rfl, h⟩⟩
theorem items_of_ap {m : Nat} {q : D → Prop} {x : XP} : F_items_of [.int (m : Nat)] q x ↔ m < 2 ^ 100 ∧ q (wayD (bitsN m)) :=
  ⟨fun ⟨m', e, h⟩ => by cases natInt_inj (List.cons.inj e).1; exact h, fun h => ⟨m, rfl, h⟩⟩
theorem all_items_ap {n : Nat} {q : D → Prop} {x : XP} : F_all_items [.int (n : Nat)] q x ↔ n ≤ 1000 ∧ q (.int ((2 ^ n - 1 : Nat) : Int)) :=
  ⟨fun ⟨m', e, h⟩ => by cases natInt_inj (List.cons.inj e).1; exact h, fun h => ⟨n, rfl, h⟩⟩
theorem lies_within_ap {a b : Nat} {q : D → Prop} {x : XP} : F_lies_within [.int (a : Nat), .int (b : Nat)] q x ↔ q (.bl (decide (a &&& b = a))) :=
  ⟨fun ⟨a', b', e, h⟩ => by
    simp only [List.cons.injEq, and_true] at e
    cases natInt_inj e.1; cases natInt_inj e.2; exact h, fun h => ⟨a, b, rfl, h⟩⟩
theorem is_set_ap {d : D} {n : Int} {q : D → Prop} {x : XP} : F_is_set [d, .int n] q x ↔ pl d = true ∧ q (.bl (isSet n d)) :=
  ⟨fun ⟨d', n', e, h⟩ => by simp only [List.cons.injEq, and_true, D.int.injEq] at e; obtain ⟨rfl, rfl⟩ := e; exact h, fun h => ⟨d, n, rfl, h⟩⟩
theorem is_item_ap {d : D} {n : Int} {q : D → Prop} {x : XP} : F_is_item [d, .int n] q x ↔ pl d = true ∧ q (.bl (isItem n d)) :=
  ⟨fun ⟨d', n', e, h⟩ => by simp only [List.cons.injEq, and_true, D.int.injEq] at e; obtain ⟨rfl, rfl⟩ := e; exact h, fun h => ⟨d, n, rfl, h⟩⟩
theorem draw_ap {m : Int} {q : D → Prop} {x : XP} : F__law_draw [.pen, .int m] q x ↔ 1 ≤ m ∧ m < 1073741824 ∧ ∀ i : Nat, (i : Int) < m → q (.int (i : Nat)) :=
  ⟨fun ⟨m', e, h⟩ => by
    simp only [List.cons.injEq, and_true, true_and, D.int.injEq] at e
    subst e
    exact ⟨h.1, h.2.1, fun i hi => h.2.2 i (by omega) hi⟩, fun h => ⟨m, rfl, h.1, h.2.1, fun i h0 h1 => by
    obtain ⟨k, rfl⟩ := Int.eq_ofNat_of_zero_le h0
    exact h.2.2 k h1⟩⟩
theorem add1N (a : Nat) : addA (.int (a : Nat)) (.int 1) = some (.int ((a + 1 : Nat) : Int)) := rfl
theorem pen_ap {z : Int} {q : D → Prop} {x : XP} : F__law_pen_of [.int z] q x ↔ q .pen :=
  ⟨fun ⟨m', e, h⟩ => h, fun h => ⟨z, rfl, h⟩⟩
theorem book_ap {m : Nat} {q : D → Prop} {x : XP} : F__law_book [.pen, .int (m : Nat)] q x ↔ 1 ≤ m ∧ m ≤ 24 ∧ ∀ b, BookOk b → b.length ≤ m → q (bookD b) :=
  ⟨fun ⟨m', e, h⟩ => by
    simp only [List.cons.injEq, and_true, true_and] at e
    cases natInt_inj e; exact h, fun h => ⟨m, rfl, h⟩⟩
theorem init_ap {C : Addr} {b : List Entry} {q : D → Prop} {x : XP} : F_Course___init__ C [bookD b] q x ↔ BookOk b ∧ ∀ kb, TidyB kb b → q (crsD C kb) :=
  ⟨fun ⟨m', e, h⟩ => by cases bookD_inj (List.cons.inj e).1; exact h, fun h => ⟨b, rfl, h⟩⟩
/-! ### comprehensions over ways -/
theorem nD_snoc (L : List Nat) (i : Nat) : nD L ++ [D.int (i : Nat)] = nD (L ++ [i]) := by simp [nD]
theorem and1N (a : Nat) : andD (.int (a : Nat)) (.int 1) = some (.int ((a &&& 1 : Nat) : Int)) := andN a 1
theorem bitP1 (a i : Nat) : (((a / 2 ^ i &&& 1 : Nat) : Int) = 1) = (a.testBit i = true) := by
  have := bit_eq a i
  rw [← this, decide_eq_true_eq]
theorem bitP0 (a i : Nat) : (((a / 2 ^ i &&& 1 : Nat) : Int) = 0) = (a.testBit i = false) := by
  have h := bitP1 a i
  have h2 : (a / 2 ^ i &&& 1) < 2 := by rw [Nat.and_one_is_mod]; omega
  generalize (a / 2 ^ i &&& 1) = z at h h2
  cases c : a.testBit i with
  | true =>
    rw [c] at h
    have h3 : (z : Int) = 1 := by rw [h]
    rw [h3]; simp
  | false =>
    rw [c] at h
    have h3 : ¬ (z : Int) = 1 := by rw [h]; simp
    have h4 : (z : Int) = 0 := by omega
    rw [h4]; simp
theorem has_way_ap {ms : List Nat} {m : Nat} {q : D → Prop} {x : XP} : F_has_way [wayD ms, .int (m : Nat)] q x ↔ q (.bl (ms.any (subM m))) := by
  constructor
  · rintro ⟨d, ms', m', e, hd, h⟩
    simp only [List.cons.injEq, and_true] at e
    obtain ⟨e1, e2⟩ := e
    cases natInt_inj e2
    rcases hd with z | z
    · rw [z] at e1; cases wayD_inj e1; exact h
    · rw [z] at e1; cases e1
  · exact fun h => ⟨_, _, _, rfl, .inl rfl, h⟩
theorem first_way_ap {ms : List Nat} {m : Nat} {q : D → Prop} {x : XP} : F_first_way [wayD ms, .int (m : Nat)] q x ↔ q (fstD ms m) := by
  constructor
  · rintro ⟨d, ms', m', e, hd, h⟩
    simp only [List.cons.injEq, and_true] at e
    obtain ⟨e1, e2⟩ := e
    cases natInt_inj e2
    rcases hd with z | z
    · rw [z] at e1; cases wayD_inj e1; exact h
    · rw [z] at e1; cases e1
  · exact fun h => ⟨_, _, _, rfl, .inl rfl, h⟩
local macro_rules | `(tactic| walk_at "v1") => `(tactic| try simp only [dVar_app, dC_app, dOp_app, dTest_app, dChain_app, dAnd_app, dOr_app, dNot_app, dAndT_app, dOrT_app, dNotT_app, dIf_app, dNil_app, dCons_app, dTup_app, dLst_app, dCall_app, dBlt_app, dIsi_app, dNoPart_app, dPart_app, dSl_app, dNext_app, dBreak_app, dCont_app, dRet_app, dRetOwn_app, dRetN_app, dDrop_app, dFreeze_app, dSet_app, dFLst_app, dOfF_app, dSetOwn_app, dAppend_app, dInsert_app, dFNil_app, dFVal_app, dFOwn_app, dPar_app, dUnpack_app, iSeq_app, iRange1_app, iRange2_app, dFor_app, dYes_app, dLc_app, dNeg_app, dSetLcV_app, dNever_app, iEnumD_app, dFld_app, dMeth0_app, dProp_app, dRaise_app, dMake_app, dDc_app, dDGet_app, dLocked_app, iKeysD_app, dPenGet_app, dPenSet_app, dRetPen_app, dRev_app, dJoin_app, dDict0_app, dDict1_app, dInC_app, dBits_app, ex_false, nD_snoc, and1N, bitP1, bitP0, has_way_ap, first_way_ap, eqD_int, neD_int, addN, add1N, orN, andN, xorN, ltN, gtN, shrN, inn, notInn, inlst, notinlst, eqD_way, neD_way, eqD_nonway, eqD_waynon, eqD_lst, neD_lst, eqD_bl, isN_way, isNot_way, isN_non, isNot_non, isN_int, isNot_int, len_way, len_book, len_masks, len_entry, len_lst, len_tup, tup_lst, tup_tup, tup_way, lst_way, lst_lst, int_int, way_nD, all_bl, any_bl, rngD_nD, rngD_len, len_nD, Int.toNat_natCast, ex_nil', ex_cons', ex_val, ex_vald, ex_bl, ex_sbl, ex_int, ex_lst, ex_tup, ex_own, ex_vtup, no_lt, no_tl, ex_way_lst, ex_way_tup, ex_book_lst, ex_book_tup, ex_entry_lst, ex_entry_tup, ex_fld_book, ex_fld_ways, len_ap, mask_of_ap, items_of_ap, all_items_ap, lies_within_ap, is_set_ap, is_item_ap, draw_ap, pen_ap, book_ap, init_ap, beq_self_eq_true, reduceCtorEq, if_false, Nat.zero_le, allVal, wipeE, setE, RF.ev, R.d, R.isVal, noLst, startE, List.map_cons, List.map_nil, List.set_cons_zero, List.set_cons_succ, List.getElem?_cons_zero, List.getElem?_cons_succ, List.length_cons, List.length_nil, List.replicate, List.cons_append, List.nil_append, List.append_nil, List.length_map, List.length_range, Nat.reduceSub, Nat.reduceAdd, Bool.not_true, Bool.not_false, Bool.not_not, Bool.false_eq_true, if_true, if_false, decide_eq_true_eq, eq_self, true_and, and_true, true_or, or_true, false_or, or_false, false_and, and_false, Bool.not_eq_true', decide_eq_false_iff_not, ite_not, exists_eq_left, exists_eq_left'])
/-- w is a state of the course with the tidy ways kb -/
structure StW (kb : List Entry) (w : List Nat) : Prop where
  asc : w.Pairwise (· < ·)
  lt : ∀ i ∈ w, i < kb.length
  grt : Grt [mskB kb] (maskN w) (maskN w)
theorem StW.of_greatest {kb : List Entry} {w : List Nat} {r : Nat} (hw : ∀ i ∈ w, i < kb.length) (h : Grt [mskB kb] (restM kb.length w) r) : StW kb (bitsN r) :=
  ⟨bitsN_asc _, fun i hi => ((restM_bit hw i).mp (h.sub i (bitsN_mem.mp hi))).1, by rw [mask_bitsN]; exact st_greatest h⟩
theorem isSet_of {n : Nat} {w : List Nat} (h1 : w.Pairwise (· < ·)) (h2 : ∀ i ∈ w, i < n) : isSet (n : Nat) (wayD w) = true := isSetL_way n _ 0 h1 fun i hi => ⟨Nat.zero_le _, h2 i hi⟩
/-! ### ready -/
/-! ### state_of -/
/-! ### lasts -/
theorem asc_short {n : Nat} {w : List Nat} (h1 : w.Pairwise (· < ·)) (h2 : ∀ i ∈ w, i < n) : w.length ≤ n := by
  have := asc_len (n := n) w 0 h1 fun i hi => ⟨Nat.zero_le _, h2 i hi⟩
  omega
/-! ### the first order of a state -/
structure FO (ms : List MBook) (st : Nat) (L : List Nat) : Prop where
  mem : ∀ i, i ∈ L ↔ st.testBit i = true
  nd : L.Nodup
  step : ∀ p i s, L = p ++ i :: s → canF ms i (maskN p) = true ∧ ∀ j, st.testBit j = true → j ∉ p → canF ms j (maskN p) = true → i ≤ j
theorem bit_lt {st i n : Nat} (h : st < 2 ^ n) (hi : st.testBit i = true) : i < n := by
  by_cases c : i < n
  · exact c
  · have h2 := Nat.ge_two_pow_of_testBit hi
    have := Nat.pow_le_pow_right (n := 2) (by omega) (Nat.le_of_not_lt c)
    omega
theorem grows {ms : List MBook} {st d : Nat} (h : Grt ms st st) (hs : Sub d st) (hn : d ≠ st) : ∃ i, st.testBit i = true ∧ d.testBit i = false ∧ canF ms i d = true := by
  apply Classical.byContradiction
  intro c
  refine hn (hs.eq (h.least d fun i hi hc => ?_))
  cases z : d.testBit i with
  | true => rfl
  | false => exact absurd ⟨i, hi, z, hc⟩ c
structure FI (ms : List MBook) (st : Nat) (L : List Nat) : Prop where
  sub : ∀ i ∈ L, st.testBit i = true
  nd : L.Nodup
  step : ∀ p i s, L = p ++ i :: s → canF ms i (maskN p) = true ∧ ∀ j, st.testBit j = true → j ∉ p → canF ms j (maskN p) = true → i ≤ j
theorem nodup_le : ∀ (n : Nat) (L : List Nat), L.Nodup → (∀ i ∈ L, i < n) → L.length ≤ n
  | 0, L, _, h => by cases L with | nil => simp | cons a _ => exact absurd (h a List.mem_cons_self) (by omega)
  | n + 1, L, nd, h => by
    have e := nodup_le n (L.erase n) (nd.erase n) fun i hi => by
      have := (nd.mem_erase_iff).mp hi
      have := h i this.2
      omega
    have := List.length_erase (a := n) (l := L)
    split at this <;> omega
theorem FI.len {ms : List MBook} {st : Nat} {L : List Nat} (h : FI ms st L) (h24 : st < 2 ^ 24) : L.length ≤ 24 :=
  nodup_le 24 L h.nd fun i hi => bit_lt h24 (h.sub i hi)
theorem FI.add {ms : List MBook} {st : Nat} {L : List Nat} {i : Nat} (h : FI ms st L) (h1 : st.testBit i = true) (h2 : i ∉ L) (h3 : canF ms i (maskN L) = true) (h4 : ∀ j, st.testBit j = true → j ∉ L → canF ms j (maskN L) = true → i ≤ j) : FI ms st (L ++ [i]) := by
  refine ⟨fun j hj => ?_, ?_, fun p j s e => ?_⟩
  · rcases List.mem_append.mp hj with z | z
    · exact h.sub j z
    · rw [List.mem_singleton.mp z]; exact h1
  · rw [List.nodup_append]
    exact ⟨h.nd, by simp, fun a ha b hb => by rw [List.mem_singleton.mp hb]; exact fun z => h2 (by rw [← z]; exact ha)⟩
  · rcases List.eq_nil_or_concat s with z | ⟨s', y, z⟩
    · subst z
      have e' : L ++ [i] = p ++ [j] := e
      obtain ⟨e1, e2⟩ := List.append_inj' e' rfl
      simp only [List.cons.injEq, and_true] at e2
      subst e1; subst e2
      exact ⟨h3, h4⟩
    · subst z
      rw [List.concat_eq_append] at e
      have e' : L ++ [i] = (p ++ j :: s') ++ [y] := by rw [e]; simp
      exact h.step p j s' (List.append_inj' e' rfl).1
/-! ### order_of -/
/-! ### helpers of the laws -/
theorem sorted_nD {w : List Nat} (hl : w.length < 64) : ∃ u : List Nat, u.Perm w ∧ u.Pairwise (· ≤ ·) ∧ sortedF [.lst (nD w)] = some (.lst (nD u)) := by
  have sp := sortI_perm (w.map fun (i : Nat) => (i : Int))
  have so := sortI_sorted (w.map fun (i : Nat) => (i : Int))
  have e : (sortI (w.map fun (i : Nat) => (i : Int))) = ((sortI (w.map fun (i : Nat) => (i : Int))).map Int.toNat).map fun (i : Nat) => (i : Int) := by
    rw [List.map_map]
    have : ∀ l : List Int, (∀ i ∈ l, 0 ≤ i) → l = l.map ((fun (i : Nat) => (i : Int)) ∘ Int.toNat) := fun l => by
      induction l with
      | nil => simp
      | cons a l ih =>
        intro h
        rw [List.map_cons, ← ih fun i hi => h i (List.mem_cons_of_mem _ hi)]
        have := h a List.mem_cons_self
        congr 1
        show a = ((a.toNat : Nat) : Int)
        omega
    refine this _ fun i hi => ?_
    obtain ⟨j, _, rfl⟩ := List.mem_map.mp (sp.mem_iff.mp hi)
    omega
  refine ⟨(sortI (w.map fun (i : Nat) => (i : Int))).map Int.toNat, ?_, ?_, ?_⟩
  · have := sp.map Int.toNat
    rw [List.map_map] at this
    have h2 : (Int.toNat ∘ fun (i : Nat) => (i : Int)) = id := by funext i; simp
    rwa [h2, List.map_id] at this
  · rw [List.pairwise_map]
    exact so.imp fun h => by omega
  · rw [nD_iD, nD_iD]
    unfold sortedF
    simp only [intsOf_iD]
    rw [if_pos (by simpa using hl), ← e]
    rfl
theorem asc_nodup {u : List Nat} (h : u.Pairwise (· ≤ ·)) (nd : u.Nodup) : u.Pairwise (· < ·) := (h.and nd).imp fun ⟨a, b⟩ => by omega
def F_row : DF := fun ds q _ => ∃ n : Nat, ds = [.pen, .int (n : Nat)] ∧ n ≤ 1000 ∧ ∀ w : List Nat, w.Pairwise (· < ·) → (∀ i ∈ w, i < n) → q (wayD w)
theorem row_ap {n : Nat} {q : D → Prop} {x : XP} : F_row [.pen, .int (n : Nat)] q x ↔ n ≤ 1000 ∧ ∀ w : List Nat, w.Pairwise (· < ·) → (∀ i ∈ w, i < n) → q (wayD w) :=
  ⟨fun ⟨n', e, h⟩ => by simp only [List.cons.injEq, and_true, true_and] at e; cases natInt_inj e; exact h, fun h => ⟨n, rfl, h⟩⟩
/-! ### _law_is over plain trees -/
/-! ### the head of a law: each cell of a script -/
/-! ### law k15 -/
theorem eqD_lst_nil (u : List Nat) : eqD (.lst (nD u)) (.lst []) = some (.bl (decide (u = []))) := eqD_lst u []
theorem neD_lst_nil (u : List Nat) : neD (.lst (nD u)) (.lst []) = some (.bl (!decide (u = []))) := neD_lst u []
theorem StW.put {kb : List Entry} {w : List Nat} {i : Nat} (h : StW kb w) (hi : i < kb.length) (hc : canF [mskB kb] i (maskN w) = true) : StW kb (putN kb.length w i) :=
  ⟨putN_asc _ _ _, fun j hj => (putN_mem.mp hj).1, by rw [mask_put h.lt hi]; exact st_put h.grt hc⟩
theorem asc_ext {u v : List Nat} (hu : u.Pairwise (· < ·)) (hv : v.Pairwise (· < ·)) (h : ∀ i, i ∈ u ↔ i ∈ v) : u = v := by
  refine List.Perm.eq_of_pairwise (le := (· < ·)) (fun a b _ _ h1 h2 => by omega) hu hv ?_
  exact (List.perm_ext_iff_of_nodup (hu.imp fun h => Nat.ne_of_lt h) (hv.imp fun h => Nat.ne_of_lt h)).mpr h
theorem mem_bits_greatest {kb : List Entry} {w : List Nat} {r i : Nat} (hw : ∀ i ∈ w, i < kb.length) (h : Grt [mskB kb] (restM kb.length w) r) (hi : i ∈ bitsN r) : i < kb.length ∧ i ∉ w := (restM_bit hw i).mp (h.sub i (bitsN_mem.mp hi))
/-- the greatest state holds every state that avoids the items -/
theorem greatest_holds {kb : List Entry} {w u : List Nat} {r : Nat} (hw : ∀ i ∈ w, i < kb.length) (h : Grt [mskB kb] (restM kb.length w) r) (hu : StW kb u) (hd : ∀ i ∈ u, i ∉ w) : ∀ i ∈ u, i ∈ bitsN r := fun i hi => by
  refine bitsN_mem.mpr (st_within h hu.grt (fun j hj => ?_) i (by rw [maskN_bit, decide_eq_true_eq]; exact hi))
  rw [maskN_bit, decide_eq_true_eq] at hj
  exact (restM_bit hw j).mpr ⟨hu.lt j hj, hd j hj⟩
theorem natCast_eq (a b : Nat) : ((a : Int) = (b : Int)) = (a = b) := by
  apply propext; constructor
  · intro h; omega
  · rintro rfl; rfl
theorem tup_nil : D.tup [] = wayD [] := rfl
theorem isi_way (w : List Nat) : isiD (wayD w) "tuple" = some true := isi_tup (pl_way w)
/-- a loop over range(n), by the turn's number -/
theorem for_range {g : DG} {body : DS} {J : DEnds} {n : Nat} (I : Nat → SE → Prop) {env : SE} (h0 : I 0 env)
    (st : ∀ i, i < n → ∀ env (k : SE → Prop), I i env → (∀ e, I (i + 1) e → k e) → ∃ env', g (.int (i : Nat)) env = some env' ∧ body ⟨k, J.rt, J.nx, k, J.ex⟩ env') (e : ∀ env, I n env → J.nx env) : dForL g body J (nD (List.range n)) env := by
  refine for_inv (fun i : Nat => D.int (i : Nat)) (fun l env => ∃ i, i + l.length = n ∧ l = List.range' i l.length ∧ I i env) ⟨0, by simp, by rw [List.length_range, List.range_eq_range'], h0⟩ ?_ ?_
  · rintro a r env k _ ⟨i, h1, h2, h3⟩ hk
    rw [List.length_cons] at h1 h2
    rw [List.range'_succ] at h2
    obtain ⟨e1, e2⟩ := List.cons.inj h2
    subst e1
    exact st a (by omega) env k h3 fun e he => hk e ⟨a + 1, by omega, e2, he⟩
  · rintro env ⟨i, h1, _, h3⟩
    rw [List.length_nil] at h1
    exact e env (by rw [← h1]; exact h3)
/-! ### orders -/
local macro_rules | `(tactic| walk_at "v2") => `(tactic| try simp only [dVar_app, dC_app, dOp_app, dTest_app, dChain_app, dAnd_app, dOr_app, dNot_app, dAndT_app, dOrT_app, dNotT_app, dIf_app, dNil_app, dCons_app, dTup_app, dLst_app, dCall_app, dBlt_app, dIsi_app, dNoPart_app, dPart_app, dSl_app, dNext_app, dBreak_app, dCont_app, dRet_app, dRetOwn_app, dRetN_app, dDrop_app, dFreeze_app, dSet_app, dFLst_app, dOfF_app, dSetOwn_app, dAppend_app, dInsert_app, dFNil_app, dFVal_app, dFOwn_app, dPar_app, dUnpack_app, iSeq_app, iRange1_app, iRange2_app, dFor_app, dYes_app, dLc_app, dNeg_app, dSetLcV_app, dNever_app, iEnumD_app, dFld_app, dMeth0_app, dProp_app, dRaise_app, dMake_app, dDc_app, dDGet_app, dLocked_app, iKeysD_app, dPenGet_app, dPenSet_app, dRetPen_app, dRev_app, dJoin_app, dDict0_app, dDict1_app, dInC_app, dBits_app, ex_false, nD_snoc, and1N, bitP1, bitP0, has_way_ap, first_way_ap, eqD_int, neD_int, addN, add1N, orN, andN, xorN, ltN, gtN, shrN, inn, notInn, inlst, notinlst, eqD_way, neD_way, eqD_nonway, eqD_waynon, eqD_lst, neD_lst, eqD_bl, isN_way, isNot_way, isN_non, isNot_non, isN_int, isNot_int, len_way, len_book, len_masks, len_entry, len_lst, len_tup, tup_lst, tup_tup, tup_way, lst_way, lst_lst, int_int, way_nD, all_bl, any_bl, rngD_nD, rngD_len, len_nD, Int.toNat_natCast, ex_nil', ex_cons', ex_val, ex_vald, ex_bl, ex_sbl, ex_int, ex_lst, ex_tup, ex_own, ex_vtup, no_lt, no_tl, ex_way_lst, ex_way_tup, ex_book_lst, ex_book_tup, ex_entry_lst, ex_entry_tup, ex_fld_book, ex_fld_ways, len_ap, mask_of_ap, items_of_ap, all_items_ap, lies_within_ap, is_set_ap, is_item_ap, draw_ap, pen_ap, book_ap, init_ap, beq_self_eq_true, reduceCtorEq, if_false, Nat.zero_le, allVal, wipeE, setE, RF.ev, R.d, R.isVal, noLst, startE, List.map_cons, List.map_nil, List.set_cons_zero, List.set_cons_succ, List.getElem?_cons_zero, List.getElem?_cons_succ, List.length_cons, List.length_nil, List.replicate, List.cons_append, List.nil_append, List.append_nil, List.length_map, List.length_range, Nat.reduceSub, Nat.reduceAdd, Bool.not_true, Bool.not_false, Bool.not_not, Bool.false_eq_true, if_true, if_false, decide_eq_true_eq, eq_self, true_and, and_true, true_or, or_true, false_or, or_false, false_and, and_false, Bool.not_eq_true', decide_eq_false_iff_not, ite_not, exists_eq_left, exists_eq_left', eqD_lst_nil, neD_lst_nil, row_ap, natCast_eq, tup_nil, isi_way])
/-! ### check_gate -/
theorem isItem_nat {n i : Nat} (h : i < n) : isItem (n : Nat) (.int (i : Nat)) = true := by
  unfold isItem
  simp only [Bool.and_eq_true, decide_eq_true_eq]
  omega
/-! ### shuts_out, is_gate -/
/-! ### more operations -/
theorem pts_entry (e : Entry) (n : Nat) : pts (e.map wayD) (n + 1) = true := by
  induction e with
  | nil => rfl
  | cons w e ih => rw [List.map_cons, pts, pt_way, ih]; rfl
theorem mem_entry {w : List Nat} {e : Entry} : wayD w ∈ e.map wayD ↔ w ∈ e := by
  rw [List.mem_map]
  exact ⟨fun ⟨u, h, k⟩ => by rw [← wayD_inj k]; exact h, fun h => ⟨w, h, rfl⟩⟩
theorem in_entry (w : List Nat) (e : Entry) : inD (wayD w) (entryD e) = some (.bl (decide (w ∈ e))) := by
  obtain ⟨c, ⟨z, _⟩, h⟩ := inB_pt (pt_way w 63) (pts_entry e 0)
  unfold inD entryD
  rw [z]
  rw [mem_entry] at h
  cases c <;> simp_all
theorem notin_entry (w : List Nat) (e : Entry) : notInD (wayD w) (entryD e) = some (.bl (!decide (w ∈ e))) := by
  obtain ⟨c, ⟨z, _⟩, h⟩ := inB_pt (pt_way w 63) (pts_entry e 0)
  unfold notInD entryD
  rw [z]
  rw [mem_entry] at h
  cases c <;> simp_all

local macro_rules | `(tactic| walk_at "v3") => `(tactic| try simp only [dVar_app, dC_app, dOp_app, dTest_app, dChain_app, dAnd_app, dOr_app, dNot_app, dAndT_app, dOrT_app, dNotT_app, dIf_app, dNil_app, dCons_app, dTup_app, dLst_app, dCall_app, dBlt_app, dIsi_app, dNoPart_app, dPart_app, dSl_app, dNext_app, dBreak_app, dCont_app, dRet_app, dRetOwn_app, dRetN_app, dDrop_app, dFreeze_app, dSet_app, dFLst_app, dOfF_app, dSetOwn_app, dAppend_app, dInsert_app, dFNil_app, dFVal_app, dFOwn_app, dPar_app, dUnpack_app, iSeq_app, iRange1_app, iRange2_app, dFor_app, dYes_app, dLc_app, dNeg_app, dSetLcV_app, dNever_app, iEnumD_app, dFld_app, dMeth0_app, dProp_app, dRaise_app, dMake_app, dDc_app, dDGet_app, dLocked_app, iKeysD_app, dPenGet_app, dPenSet_app, dRetPen_app, dRev_app, dJoin_app, dDict0_app, dDict1_app, dInC_app, dBits_app, ex_false, nD_snoc, and1N, bitP1, bitP0, has_way_ap, first_way_ap, eqD_int, neD_int, addN, add1N, orN, andN, xorN, ltN, gtN, shrN, inn, notInn, inlst, notinlst, eqD_way, neD_way, eqD_nonway, eqD_waynon, eqD_lst, neD_lst, eqD_bl, isN_way, isNot_way, isN_non, isNot_non, isN_int, isNot_int, len_way, len_book, len_masks, len_entry, len_lst, len_tup, tup_lst, tup_tup, tup_way, lst_way, lst_lst, int_int, way_nD, all_bl, any_bl, rngD_nD, rngD_len, len_nD, Int.toNat_natCast, ex_nil', ex_cons', ex_val, ex_vald, ex_bl, ex_sbl, ex_int, ex_lst, ex_tup, ex_own, ex_vtup, no_lt, no_tl, ex_way_lst, ex_way_tup, ex_book_lst, ex_book_tup, ex_entry_lst, ex_entry_tup, ex_fld_book, ex_fld_ways, len_ap, mask_of_ap, items_of_ap, all_items_ap, lies_within_ap, is_set_ap, is_item_ap, draw_ap, pen_ap, book_ap, init_ap, beq_self_eq_true, reduceCtorEq, if_false, Nat.zero_le, allVal, wipeE, setE, RF.ev, R.d, R.isVal, noLst, startE, List.map_cons, List.map_nil, List.set_cons_zero, List.set_cons_succ, List.getElem?_cons_zero, List.getElem?_cons_succ, List.length_cons, List.length_nil, List.replicate, List.cons_append, List.nil_append, List.append_nil, List.length_map, List.length_range, Nat.reduceSub, Nat.reduceAdd, Bool.not_true, Bool.not_false, Bool.not_not, Bool.false_eq_true, if_true, if_false, decide_eq_true_eq, eq_self, true_and, and_true, true_or, or_true, false_or, or_false, false_and, and_false, Bool.not_eq_true', decide_eq_false_iff_not, ite_not, exists_eq_left, exists_eq_left', eqD_lst_nil, neD_lst_nil, row_ap, natCast_eq, tup_nil, isi_way, in_entry, notin_entry])
/-! ### all states, by growing them -/
theorem mem_ways {w : List Nat} {L : List (List Nat)} : wayD w ∈ L.map wayD ↔ w ∈ L := mem_entry
theorem in_ways (w : List Nat) (L : List (List Nat)) : inD (wayD w) (.lst (L.map wayD)) = some (.bl (decide (w ∈ L))) := by
  obtain ⟨c, ⟨_, z⟩, h⟩ := inB_pt (pt_way w 63) (pts_entry L 0)
  unfold inD
  rw [z]
  rw [mem_ways] at h
  cases c <;> simp_all
theorem notin_ways (w : List Nat) (L : List (List Nat)) : notInD (wayD w) (.lst (L.map wayD)) = some (.bl (!decide (w ∈ L))) := by
  obtain ⟨c, ⟨_, z⟩, h⟩ := inB_pt (pt_way w 63) (pts_entry L 0)
  unfold notInD
  rw [z]
  rw [mem_ways] at h
  cases c <;> simp_all
theorem asc_card {u w : List Nat} (h : ∀ i ∈ u, i ∈ w) (nd : u.Nodup) : u.length ≤ w.length := by
  induction u generalizing w with
  | nil => simp
  | cons a u ih =>
    have hm := h a List.mem_cons_self
    have nd' := List.nodup_cons.mp nd
    have := ih (w := w.erase a) (fun i hi => (List.mem_erase_of_ne (fun z => nd'.1 (by rw [← z]; exact hi))).mpr (h i (List.mem_cons_of_mem _ hi))) nd'.2
    have e := List.length_erase_of_mem hm
    have := List.length_pos_of_mem hm
    rw [List.length_cons]
    omega
theorem asc_sub_len {u w : List Nat} (hu : u.Pairwise (· < ·)) (hw : w.Pairwise (· < ·)) (h : ∀ i ∈ u, i ∈ w) (hl : w.length ≤ u.length) : u = w := by
  refine asc_ext hu hw fun i => ⟨h i, fun hi => ?_⟩
  apply Classical.byContradiction
  intro c
  have : (i :: u).length ≤ w.length := by
    refine asc_card (fun j hj => ?_) (List.nodup_cons.mpr ⟨c, hu.imp fun h => Nat.ne_of_lt h⟩)
    rcases List.mem_cons.mp hj with z | z
    · rw [z]; exact hi
    · exact h j z
  rw [List.length_cons] at this
  omega
theorem has_ap {e : Entry} {row : List Nat} {q : D → Prop} {x : XP} : F__law_has [entryD e, wayD row] q x ↔ (∀ w ∈ e, w.length ≤ 1000) ∧ q (.bl (hasL e row)) := by
  constructor
  · rintro ⟨e', row', h, h2⟩
    simp only [List.cons.injEq, and_true] at h
    cases entryD_inj h.1
    cases wayD_inj h.2
    exact h2
  · exact fun h => ⟨e, row, rfl, h⟩
theorem tidy_self : ∀ b : List Entry, TidyB b b
  | [] => .nil
  | e :: b => .cons ⟨fun _ h => h, fun w h => ⟨w, h, fun _ i => i⟩, Nat.le_refl _⟩ (tidy_self b)
theorem ways_snoc (L : List (List Nat)) (w : List Nat) : L.map wayD ++ [wayD w] = (L ++ [w]).map wayD := by rw [List.map_append]; rfl

local macro_rules | `(tactic| walk_at "v4") => `(tactic| try simp only [dVar_app, dC_app, dOp_app, dTest_app, dChain_app, dAnd_app, dOr_app, dNot_app, dAndT_app, dOrT_app, dNotT_app, dIf_app, dNil_app, dCons_app, dTup_app, dLst_app, dCall_app, dBlt_app, dIsi_app, dNoPart_app, dPart_app, dSl_app, dNext_app, dBreak_app, dCont_app, dRet_app, dRetOwn_app, dRetN_app, dDrop_app, dFreeze_app, dSet_app, dFLst_app, dOfF_app, dSetOwn_app, dAppend_app, dInsert_app, dFNil_app, dFVal_app, dFOwn_app, dPar_app, dUnpack_app, iSeq_app, iRange1_app, iRange2_app, dFor_app, dYes_app, dLc_app, dNeg_app, dSetLcV_app, dNever_app, iEnumD_app, dFld_app, dMeth0_app, dProp_app, dRaise_app, dMake_app, dDc_app, dDGet_app, dLocked_app, iKeysD_app, dPenGet_app, dPenSet_app, dRetPen_app, dRev_app, dJoin_app, dDict0_app, dDict1_app, dInC_app, dBits_app, ex_false, nD_snoc, and1N, bitP1, bitP0, has_way_ap, first_way_ap, eqD_int, neD_int, addN, add1N, orN, andN, xorN, ltN, gtN, shrN, inn, notInn, inlst, notinlst, eqD_way, neD_way, eqD_nonway, eqD_waynon, eqD_lst, neD_lst, eqD_bl, isN_way, isNot_way, isN_non, isNot_non, isN_int, isNot_int, len_way, len_book, len_masks, len_entry, len_lst, len_tup, tup_lst, tup_tup, tup_way, lst_way, lst_lst, int_int, way_nD, all_bl, any_bl, rngD_nD, rngD_len, len_nD, Int.toNat_natCast, ex_nil', ex_cons', ex_val, ex_vald, ex_bl, ex_sbl, ex_int, ex_lst, ex_tup, ex_own, ex_vtup, no_lt, no_tl, ex_way_lst, ex_way_tup, ex_book_lst, ex_book_tup, ex_entry_lst, ex_entry_tup, ex_fld_book, ex_fld_ways, len_ap, mask_of_ap, items_of_ap, all_items_ap, lies_within_ap, is_set_ap, is_item_ap, draw_ap, pen_ap, book_ap, init_ap, beq_self_eq_true, reduceCtorEq, if_false, Nat.zero_le, allVal, wipeE, setE, RF.ev, R.d, R.isVal, noLst, startE, List.map_cons, List.map_nil, List.set_cons_zero, List.set_cons_succ, List.getElem?_cons_zero, List.getElem?_cons_succ, List.length_cons, List.length_nil, List.replicate, List.cons_append, List.nil_append, List.append_nil, List.length_map, List.length_range, Nat.reduceSub, Nat.reduceAdd, Bool.not_true, Bool.not_false, Bool.not_not, Bool.false_eq_true, if_true, if_false, decide_eq_true_eq, eq_self, true_and, and_true, true_or, or_true, false_or, or_false, false_and, and_false, Bool.not_eq_true', decide_eq_false_iff_not, ite_not, exists_eq_left, exists_eq_left', eqD_lst_nil, neD_lst_nil, row_ap, natCast_eq, tup_nil, isi_way, in_entry, notin_entry, in_ways, notin_ways, has_ap, ways_snoc])
structure Lev (b : List Entry) (t : Nat) (L : List (List Nat)) : Prop where
  nd : L.Nodup
  mem : ∀ w, w ∈ L ↔ StP b w ∧ w.length = t
structure Fou (b : List Entry) (t : Nat) (L : List (List Nat)) : Prop where
  nd : L.Nodup
  mem : ∀ w, w ∈ L ↔ StP b w ∧ w.length ≤ t
  up : L.Pairwise fun u v => u.length ≤ v.length
structure Grn (b : List Entry) (t : Nat) (P : List (List Nat)) (u : List Nat) (j : Nat) (G : List (List Nat)) : Prop where
  nd : G.Nodup
  ok : ∀ w ∈ G, StP b w ∧ w.length = t + 1
  old : ∀ v ∈ P, ∀ i, i < b.length → i ∉ v → hasL (b.getD i []) v = true → putN b.length v i ∈ G
  now : ∀ i, i < j → i ∉ u → hasL (b.getD i []) u = true → putN b.length u i ∈ G
/-! ### k04: sets, odd values -/
theorem law_is_ap {a b : Bool} {q : D → Prop} {x : XP} : F__law_is [.bl a, .bl b] q x ↔ q (.bl (a == b)) :=
  ⟨fun ⟨a', b', e, h⟩ => by simp only [List.cons.injEq, and_true, D.bl.injEq] at e; obtain ⟨rfl, rfl⟩ := e; exact h, fun h => ⟨a, b, rfl, h⟩⟩
theorem gt1N (a : Nat) : gtI (.int (a : Nat)) (.int 1) = some (.bl (decide (1 < a))) := gtN a 1
theorem rev_nD (w : List Nat) : (nD w).reverse = nD w.reverse := by unfold nD; rw [List.map_reverse]
local macro_rules | `(tactic| walk_at "v5") => `(tactic| try simp only [dVar_app, dC_app, dOp_app, dTest_app, dChain_app, dAnd_app, dOr_app, dNot_app, dAndT_app, dOrT_app, dNotT_app, dIf_app, dNil_app, dCons_app, dTup_app, dLst_app, dCall_app, dBlt_app, dIsi_app, dNoPart_app, dPart_app, dSl_app, dNext_app, dBreak_app, dCont_app, dRet_app, dRetOwn_app, dRetN_app, dDrop_app, dFreeze_app, dSet_app, dFLst_app, dOfF_app, dSetOwn_app, dAppend_app, dInsert_app, dFNil_app, dFVal_app, dFOwn_app, dPar_app, dUnpack_app, iSeq_app, iRange1_app, iRange2_app, dFor_app, dYes_app, dLc_app, dNeg_app, dSetLcV_app, dNever_app, iEnumD_app, dFld_app, dMeth0_app, dProp_app, dRaise_app, dMake_app, dDc_app, dDGet_app, dLocked_app, iKeysD_app, dPenGet_app, dPenSet_app, dRetPen_app, dRev_app, dJoin_app, dDict0_app, dDict1_app, dInC_app, dBits_app, ex_false, nD_snoc, and1N, bitP1, bitP0, has_way_ap, first_way_ap, eqD_int, neD_int, addN, add1N, orN, andN, xorN, ltN, gtN, shrN, inn, notInn, inlst, notinlst, eqD_way, neD_way, eqD_nonway, eqD_waynon, eqD_lst, neD_lst, eqD_bl, isN_way, isNot_way, isN_non, isNot_non, isN_int, isNot_int, len_way, len_book, len_masks, len_entry, len_lst, len_tup, tup_lst, tup_tup, tup_way, lst_way, lst_lst, int_int, way_nD, all_bl, any_bl, rngD_nD, rngD_len, len_nD, Int.toNat_natCast, ex_nil', ex_cons', ex_val, ex_vald, ex_bl, ex_sbl, ex_int, ex_lst, ex_tup, ex_own, ex_vtup, no_lt, no_tl, ex_way_lst, ex_way_tup, ex_book_lst, ex_book_tup, ex_entry_lst, ex_entry_tup, ex_fld_book, ex_fld_ways, len_ap, mask_of_ap, items_of_ap, all_items_ap, lies_within_ap, is_set_ap, is_item_ap, draw_ap, pen_ap, book_ap, init_ap, beq_self_eq_true, reduceCtorEq, if_false, Nat.zero_le, allVal, wipeE, setE, RF.ev, R.d, R.isVal, noLst, startE, List.map_cons, List.map_nil, List.set_cons_zero, List.set_cons_succ, List.getElem?_cons_zero, List.getElem?_cons_succ, List.length_cons, List.length_nil, List.replicate, List.cons_append, List.nil_append, List.append_nil, List.length_map, List.length_range, Nat.reduceSub, Nat.reduceAdd, Bool.not_true, Bool.not_false, Bool.not_not, Bool.false_eq_true, if_true, if_false, decide_eq_true_eq, eq_self, true_and, and_true, true_or, or_true, false_or, or_false, false_and, and_false, Bool.not_eq_true', decide_eq_false_iff_not, ite_not, exists_eq_left, exists_eq_left', eqD_lst_nil, neD_lst_nil, row_ap, natCast_eq, tup_nil, isi_way, in_entry, notin_entry, in_ways, notin_ways, has_ap, ways_snoc, law_is_ap, gt1N, neg_int, rev_nD])
local macro_rules | `(tactic| walk_at "v6") => `(tactic| try simp only [dVar_app, dC_app, dOp_app, dTest_app, dChain_app, dAnd_app, dOr_app, dNot_app, dAndT_app, dOrT_app, dNotT_app, dIf_app, dNil_app, dCons_app, dTup_app, dLst_app, dCall_app, dBlt_app, dIsi_app, dNoPart_app, dPart_app, dSl_app, dNext_app, dBreak_app, dCont_app, dRet_app, dRetOwn_app, dRetN_app, dDrop_app, dFreeze_app, dSet_app, dFLst_app, dOfF_app, dSetOwn_app, dAppend_app, dInsert_app, dFNil_app, dFVal_app, dFOwn_app, dPar_app, dUnpack_app, iSeq_app, iRange1_app, iRange2_app, dFor_app, dYes_app, dLc_app, dNeg_app, dSetLcV_app, dNever_app, iEnumD_app, dFld_app, dMeth0_app, dProp_app, dRaise_app, dMake_app, dDc_app, dDGet_app, dLocked_app, iKeysD_app, dPenGet_app, dPenSet_app, dRetPen_app, dRev_app, dJoin_app, dDict0_app, dDict1_app, dInC_app, dBits_app, ex_false, nD_snoc, and1N, bitP1, bitP0, has_way_ap, first_way_ap, eqD_int, neD_int, addN, add1N, orN, andN, xorN, ltN, gtN, shrN, inn, notInn, inlst, notinlst, eqD_way, neD_way, eqD_nonway, eqD_waynon, eqD_lst, neD_lst, eqD_bl, isN_way, isNot_way, isN_non, isNot_non, isN_int, isNot_int, len_way, len_book, len_masks, len_entry, len_lst, len_tup, tup_lst, tup_tup, tup_way, lst_way, lst_lst, int_int, way_nD, all_bl, any_bl, rngD_nD, rngD_len, len_nD, Int.toNat_natCast, ex_nil', ex_cons', ex_val, ex_vald, ex_bl, ex_sbl, ex_int, ex_lst, ex_tup, ex_own, ex_vtup, no_lt, no_tl, ex_way_lst, ex_way_tup, ex_book_lst, ex_book_tup, ex_entry_lst, ex_entry_tup, ex_fld_book, ex_fld_ways, len_ap, mask_of_ap, items_of_ap, all_items_ap, lies_within_ap, is_set_ap, is_item_ap, draw_ap, pen_ap, book_ap, init_ap, beq_self_eq_true, reduceCtorEq, if_false, Nat.zero_le, allVal, wipeE, setE, RF.ev, R.d, R.isVal, noLst, startE, List.map_cons, List.map_nil, List.set_cons_zero, List.set_cons_succ, List.getElem?_cons_zero, List.getElem?_cons_succ, List.length_cons, List.length_nil, List.replicate, List.cons_append, List.nil_append, List.append_nil, List.length_map, List.length_range, Nat.reduceSub, Nat.reduceAdd, Bool.not_true, Bool.not_false, Bool.not_not, Bool.false_eq_true, if_true, if_false, decide_eq_true_eq, eq_self, true_and, and_true, true_or, or_true, false_or, or_false, false_and, and_false, Bool.not_eq_true', decide_eq_false_iff_not, ite_not, exists_eq_left, exists_eq_left', eqD_lst_nil, neD_lst_nil, row_ap, natCast_eq, tup_nil, isi_way, in_entry, notin_entry, in_ways, notin_ways, ways_snoc])
/-! ### has a way within, of a list or of a tuple -/
theorem getD_get {b : List Entry} {i : Nat} (h : i < b.length) : b[i]? = some (b.getD i []) := by rw [List.getD, List.getElem?_eq_getElem h]; rfl
theorem mem_maskN {w : List Nat} {i : Nat} : (maskN w).testBit i = true ↔ i ∈ w := by rw [maskN_bit, decide_eq_true_eq]
/-! ### all that can be learned, round by round -/
structure TopI (b : List Entry) (av : List Nat) (t : Nat) (kn : List Nat) : Prop where
  nd : kn.Nodup
  lt : ∀ i ∈ kn, i < b.length
  off : ∀ i ∈ kn, i ∉ av
  low : ∀ s : Nat, (∀ i, (restM b.length av).testBit i = true → canF [mskB b] i s = true → s.testBit i = true) → ∀ i ∈ kn, s.testBit i = true
  far : t ≤ kn.length ∨ ∀ i, i < b.length → i ∉ av → hasL (b.getD i []) kn = true → i ∈ kn
def freshN (b : List Entry) (av kn : List Nat) : List Nat := (List.range b.length).filter fun i => !decide (i ∈ kn ++ av) && hasL (b.getD i []) kn
theorem fresh_mem {b : List Entry} {av kn : List Nat} {i : Nat} : i ∈ freshN b av kn ↔ i < b.length ∧ i ∉ kn ∧ i ∉ av ∧ hasL (b.getD i []) kn = true := by
  unfold freshN
  rw [List.mem_filter, List.mem_range, Bool.and_eq_true, Bool.not_eq_true', decide_eq_false_iff_not, List.mem_append]
  constructor
  · rintro ⟨h1, h2, h3⟩
    exact ⟨h1, fun z => h2 (.inl z), fun z => h2 (.inr z), h3⟩
  · rintro ⟨h1, h2, h3, h4⟩
    exact ⟨h1, fun z => z.elim h2 h3, h4⟩
theorem TopI.next {b : List Entry} {av : List Nat} {t : Nat} {kn : List Nat} (h : TopI b av t kn) (hav : ∀ i ∈ av, i < b.length) : TopI b av (t + 1) (kn ++ freshN b av kn) := by
  refine ⟨?_, fun i hi => ?_, fun i hi => ?_, fun s hs i hi => ?_, ?_⟩
  · rw [List.nodup_append]
    refine ⟨h.nd, List.nodup_range.sublist List.filter_sublist, fun x hx y hy e => ?_⟩
    subst e
    exact (fresh_mem.mp hy).2.1 hx
  · rcases List.mem_append.mp hi with z | z
    · exact h.lt i z
    · exact (fresh_mem.mp z).1
  · rcases List.mem_append.mp hi with z | z
    · exact h.off i z
    · exact (fresh_mem.mp z).2.2.1
  · rcases List.mem_append.mp hi with z | z
    · exact h.low s hs i z
    · obtain ⟨h1, h2, h3, h4⟩ := fresh_mem.mp z
      refine hs i ((restM_bit hav i).mpr ⟨h1, h3⟩) (canF_mono (d := maskN kn) (fun j hj => h.low s hs j (mem_maskN.mp hj)) ?_)
      rw [can_has (tidy_self b) h1]
      exact h4
  · by_cases c : freshN b av kn = []
    · refine .inr fun i h1 h2 h3 => ?_
      rw [c, List.append_nil] at h3 ⊢
      apply Classical.byContradiction
      intro z
      have := fresh_mem.mpr ⟨h1, z, h2, h3⟩
      rw [c] at this
      cases this
    · have : 0 < (freshN b av kn).length := List.length_pos_iff.mpr c
      rcases h.far with z | z
      · exact .inl (by rw [List.length_append]; omega)
      · obtain ⟨i, hi⟩ := List.exists_mem_of_ne_nil _ c
        obtain ⟨h1, h2, h3, h4⟩ := fresh_mem.mp hi
        exact absurd (z i h1 h3 h4) h2
local macro_rules | `(tactic| walk_at "v7") => `(tactic| try simp only [dVar_app, dC_app, dOp_app, dTest_app, dChain_app, dAnd_app, dOr_app, dNot_app, dAndT_app, dOrT_app, dNotT_app, dIf_app, dNil_app, dCons_app, dTup_app, dLst_app, dCall_app, dBlt_app, dIsi_app, dNoPart_app, dPart_app, dSl_app, dNext_app, dBreak_app, dCont_app, dRet_app, dRetOwn_app, dRetN_app, dDrop_app, dFreeze_app, dSet_app, dFLst_app, dOfF_app, dSetOwn_app, dAppend_app, dInsert_app, dFNil_app, dFVal_app, dFOwn_app, dPar_app, dUnpack_app, iSeq_app, iRange1_app, iRange2_app, dFor_app, dYes_app, dLc_app, dNeg_app, dSetLcV_app, dNever_app, iEnumD_app, dFld_app, dMeth0_app, dProp_app, dRaise_app, dMake_app, dDc_app, dDGet_app, dLocked_app, iKeysD_app, dPenGet_app, dPenSet_app, dRetPen_app, dRev_app, dJoin_app, dDict0_app, dDict1_app, dInC_app, dBits_app, ex_false, nD_snoc, and1N, bitP1, bitP0, has_way_ap, first_way_ap, eqD_int, neD_int, addN, add1N, orN, andN, xorN, ltN, gtN, shrN, inn, notInn, inlst, notinlst, eqD_way, neD_way, eqD_nonway, eqD_waynon, eqD_lst, neD_lst, eqD_bl, isN_way, isNot_way, isN_non, isNot_non, isN_int, isNot_int, len_way, len_book, len_masks, len_entry, len_lst, len_tup, tup_lst, tup_tup, tup_way, lst_way, lst_lst, int_int, way_nD, all_bl, any_bl, rngD_nD, rngD_len, len_nD, Int.toNat_natCast, ex_nil', ex_cons', ex_val, ex_vald, ex_bl, ex_sbl, ex_int, ex_lst, ex_tup, ex_own, ex_vtup, no_lt, no_tl, ex_way_lst, ex_way_tup, ex_book_lst, ex_book_tup, ex_entry_lst, ex_entry_tup, ex_fld_book, ex_fld_ways, len_ap, mask_of_ap, items_of_ap, all_items_ap, lies_within_ap, is_set_ap, is_item_ap, draw_ap, pen_ap, book_ap, init_ap, beq_self_eq_true, reduceCtorEq, if_false, Nat.zero_le, allVal, wipeE, setE, RF.ev, R.d, R.isVal, noLst, startE, List.map_cons, List.map_nil, List.set_cons_zero, List.set_cons_succ, List.getElem?_cons_zero, List.getElem?_cons_succ, List.length_cons, List.length_nil, List.replicate, List.cons_append, List.nil_append, List.append_nil, List.length_map, List.length_range, Nat.reduceSub, Nat.reduceAdd, Bool.not_true, Bool.not_false, Bool.not_not, Bool.false_eq_true, if_true, if_false, decide_eq_true_eq, eq_self, true_and, and_true, true_or, or_true, false_or, or_false, false_and, and_false, Bool.not_eq_true', decide_eq_false_iff_not, ite_not, exists_eq_left, exists_eq_left', dIsP_app, dCntT_app, dIdxT_app, dXf_app, dSaid_app])
def t__law_word (a : Addr) (d : Option Addr) (bs : Str → Bool) : DS := (dSeq (dSet 1 (dLst (dCons (dIsP a d (bs "NoCourse") (dVar 0)) (dCons (dIsP a d (bs "NoItem") (dVar 0)) (dCons (dIsP a d (bs "NoSet") (dVar 0)) (dCons (dIsP a d (bs "NoState") (dVar 0)) dNil)))))) (dSeq (dSet 1 (dOp addA (dVar 1) (dLst (dCons (dIsP a d (bs "NoOrder") (dVar 0)) (dCons (dIsP a d (bs "NoAnswers") (dVar 0)) (dCons (dIsP a d (bs "NoDurations") (dVar 0)) dNil)))))) (dSeq (dSet 1 (dOp addA (dVar 1) (dLst (dCons (dIsP a d (bs "NoNames") (dVar 0)) (dCons (dIsP a d (bs "NoPlace") (dVar 0)) (dCons (dIsP a d (bs "NoDeed") (dVar 0)) (dCons (dIsP a d (bs "OtherCourse") (dVar 0)) dNil))))))) (dSeq (dSet 1 (dOp addA (dVar 1) (dLst (dCons (dIsP a d (bs "Clash") (dVar 0)) (dCons (dIsP a d (bs "TooMany") (dVar 0)) (dCons (dIsP a d (bs "BadText") (dVar 0)) dNil)))))) (dSeq (dIfS (dOrT (dNotT (dTest (dIsP a d (bs "ValueError") (dVar 0)))) (dTest (dIsP a d (bs "LookupError") (dVar 0)))) (dRet (dTup (dCons (dC (.str "other")) dNil))) dNext) (dSeq (dIfS (dTest (dOp neD (dCntT (dVar 1)) (dC (.int 1)))) (dRet (dTup (dCons (dC (.str "other")) dNil))) dNext) (dSeq (dSet 2 (dLst (dCons (dC (.str "course")) (dCons (dC (.str "item")) (dCons (dC (.str "set")) (dCons (dC (.str "state")) (dCons (dC (.str "order")) (dCons (dC (.str "answers")) (dCons (dC (.str "durations")) (dCons (dC (.str "names")) (dCons (dC (.str "place")) (dCons (dC (.str "deed")) (dCons (dC (.str "others")) dNil))))))))))))) (dSeq (dSet 3 (dOp ixD (dOp addA (dVar 2) (dLst (dCons (dC (.str "clash")) (dCons (dC (.str "many")) (dCons (dC (.str "text")) dNil))))) (dIdxT (dVar 1)))) (dSeq (dIfS (dTest (dOp eqD (dVar 3) (dC (.str "clash")))) (dRet (dTup (dCons (dVar 3) (dCons (dXf a d "item" (dVar 0)) (dCons (dXf a d "noes" (dVar 0)) dNil))))) dNext) (dSeq (dIfS (dTest (dOp eqD (dVar 3) (dC (.str "many")))) (dRet (dTup (dCons (dVar 3) (dCons (dXf a d "limit" (dVar 0)) dNil)))) dNext) (dRet (dIf (dTest (dOp eqD (dVar 3) (dC (.str "text")))) (dTup (dCons (dVar 3) (dCons (dXf a d "line" (dVar 0)) dNil))) (dTup (dCons (dVar 3) dNil))))))))))))))
theorem ex_exo {a : Addr} {d : Option Addr} {ns : List Str} {ds : List D} : (∃ ns' ds', R.val (.exo a d ns ds) = R.val (.exo a d ns' ds')) = True := eq_true ⟨_, _, rfl⟩
def marksB (bs : Str → Bool) : List Bool := [bs "NoCourse", bs "NoItem", bs "NoSet", bs "NoState", bs "NoOrder", bs "NoAnswers", bs "NoDurations", bs "NoNames", bs "NoPlace", bs "NoDeed", bs "OtherCourse", bs "Clash", bs "TooMany", bs "BadText"]
def flagL : List Str := ["course", "item", "set", "state", "order", "answers", "durations", "names", "place", "deed", "others", "clash", "many", "text"]
theorem one_true {j : Nat} {bs : List Bool} (h : bs = (List.range 14).map (· == j)) (hj : j < 14) : bs.countP id = 1 ∧ bs[j]? = some true ∧ ∀ m < j, bs[m]? = some false := by
  subst h
  match j, hj with
  | 0, _ | 1, _ | 2, _ | 3, _ | 4, _ | 5, _ | 6, _ | 7, _ | 8, _ | 9, _ | 10, _ | 11, _ | 12, _ | 13, _ => exact ⟨by decide, by decide, by decide⟩
/-- the def's end, behind the flag -/
def t_wordEnd (a : Addr) (d : Option Addr) : DS := (dSeq (dIfS (dTest (dOp eqD (dVar 3) (dC (.str "clash")))) (dRet (dTup (dCons (dVar 3) (dCons (dXf a d "item" (dVar 0)) (dCons (dXf a d "noes" (dVar 0)) dNil))))) dNext) (dSeq (dIfS (dTest (dOp eqD (dVar 3) (dC (.str "many")))) (dRet (dTup (dCons (dVar 3) (dCons (dXf a d "limit" (dVar 0)) dNil)))) dNext) (dRet (dIf (dTest (dOp eqD (dVar 3) (dC (.str "text")))) (dTup (dCons (dVar 3) (dCons (dXf a d "line" (dVar 0)) dNil))) (dTup (dCons (dVar 3) dNil))))))
theorem word_walk {bs : Str → Bool} {a : Addr} {d : Option Addr} {ns : List Str} {ds : List D} {J : DEnds} (j : Nat) (hj : j < 14) (hm : marksB bs = (List.range 14).map (· == j)) (hv : bs "ValueError" = true) (hl : bs "LookupError" = false)
    (h : ∀ o1 o2, t_wordEnd a d J [.val (.exo a d ns ds), o1, o2, .val (.str (flagL.getD j ""))]) : t__law_word a d bs J (startE 4 [.exo a d ns ds]) := by
  obtain ⟨c1, c2, c3⟩ := one_true hm hj
  unfold t__law_word
  refine w_seq fun k hk => ?_
  walk_at "v7"
  simp only [ex_exo, true_and]
  refine ⟨by omega, hk _ ?_⟩
  refine w_seq fun k hk => ?_
  walk_at "v7"
  simp only [ex_exo, true_and]
  refine ⟨by omega, _, rfl, hk _ ?_⟩
  refine w_seq fun k hk => ?_
  walk_at "v7"
  simp only [ex_exo, true_and]
  refine ⟨by omega, _, rfl, hk _ ?_⟩
  refine w_seq fun k hk => ?_
  walk_at "v7"
  simp only [ex_exo, true_and]
  refine ⟨by omega, _, rfl, hk _ ?_⟩
  have em : D.lst ([D.bl (bs "NoCourse"), D.bl (bs "NoItem"), D.bl (bs "NoSet"), D.bl (bs "NoState"), D.bl (bs "NoOrder"), D.bl (bs "NoAnswers"), D.bl (bs "NoDurations"), D.bl (bs "NoNames"), D.bl (bs "NoPlace"), D.bl (bs "NoDeed"), D.bl (bs "OtherCourse")] ++ [D.bl (bs "Clash"), D.bl (bs "TooMany"), D.bl (bs "BadText")]) = .lst ((marksB bs).map D.bl) := rfl
  rw [em]
  refine w_seq fun k hk => ?_
  refine w_if fun A B hA hB => ?_
  walk_at "v7"
  simp only [ex_exo, true_and, hv, hl, Bool.not_true, Bool.false_eq_true, if_false]
  refine hB ?_
  walk_at "v7"
  refine hk _ ?_
  refine w_seq fun k hk => ?_
  refine w_if fun A B hA hB => ?_
  walk_at "v7"
  refine ⟨marksB bs, rfl, ?_⟩
  rw [c1]
  rw [if_pos (show ((1 : Nat) : Int) = 1 from rfl)]
  refine hB ?_
  walk_at "v7"
  refine hk _ ?_
  refine w_seq fun k hk => ?_
  walk_at "v7"
  refine ⟨by omega, hk _ ?_⟩
  refine w_seq fun k hk => ?_
  walk_at "v7"
  refine ⟨by omega, _, rfl, marksB bs, j, rfl, c2, c3, _, ?_, hk _ (h _ _)⟩
  match j, hj with
  | 0, _ | 1, _ | 2, _ | 3, _ | 4, _ | 5, _ | 6, _ | 7, _ | 8, _ | 9, _ | 10, _ | 11, _ | 12, _ | 13, _ => rfl
theorem marks_of {n : Str} (j : Nat) (h : (["NoCourse", "NoItem", "NoSet", "NoState", "NoOrder", "NoAnswers", "NoDurations", "NoNames", "NoPlace", "NoDeed", "OtherCourse", "Clash", "TooMany", "BadText"] : List Str)[j]? = some n) : j < 14 ∧ marksB (bsOf n) = (List.range 14).map (· == j) ∧ bsOf n "ValueError" = true ∧ bsOf n "LookupError" = false := by
  match j with
  | 0 | 1 | 2 | 3 | 4 | 5 | 6 | 7 | 8 | 9 | 10 | 11 | 12 | 13 =>
    cases h
    exact ⟨by decide, by decide +kernel, by decide +kernel, by decide +kernel⟩
  | j + 14 => simp at h
theorem eq_str_not {x y : Str} (hx : PyData.strOk x = true) (hy : PyData.strOk y = true) (n : x ≠ y) : eqD (.str x) (.str y) = some (.bl false) := eqD_not hx hy fun e => n (by cases e; rfl)
/-! ### the text of any small value -/
mutual
def rok : D → Nat → Bool
  | .non, _ => true
  | .bl _, _ => true
  | .int i, _ => decide (i.natAbs.log2 < 1920)
  | .str x, _ => PyData.strOk x && PyData.strOk (PyData.shown (.str x)) && PyData.leavesShort 1921 (.str x)
  | .tup _, 0 => false
  | .tup xs, n + 1 => roks xs n
  | .lst _, 0 => false
  | .lst xs, n + 1 => roks xs n
  | _, _ => false
def roks : List D → Nat → Bool
  | [], _ => true
  | x :: xs, n => rok x n && roks xs n
end
mutual
def bk : D → Nat
  | .str x => x.cps.size
  | .tup xs => bks xs
  | .lst xs => bks xs
  | _ => 0
def bks : List D → Nat
  | [] => 0
  | x :: xs => bk x + 1 + bks xs
end
structure RokP (d : D) (n : Nat) (p : PyData) : Prop where
  py : toPy d = some p
  sh : PyData.showable p = true
  cl : PyData.canLay0 p = true
  dp : p.depth ≤ n
  ls : PyData.leavesShort 1921 p = true
  bu : PyData.bulk p = bk d
  ok : PyData.strOk (PyData.shown p) = true
structure RoksP (ds : List D) (n : Nat) (ps : List PyData) : Prop where
  py : toPys ds = some ps
  sh : PyData.showableAll ps = true
  cl : PyData.canLayAll0 ps = true
  dp : PyData.depthAll ps ≤ n
  ls : PyData.leavesShortAll 1921 ps = true
  bu : PyData.bulkAll ps = bks ds
  ok : ∀ t ∈ PyData.shownAll ps, PyData.strOk t = true
theorem RoksP.tup {ds : List D} {n : Nat} {ps : List PyData} (h : RoksP ds n ps) : RokP (.tup ds) (n + 1) (.tuple ps) := by
  refine ⟨by simp [toPy, h.py], by simpa [PyData.showable] using h.sh, by simpa [PyData.canLay0] using h.cl, ?_, by simpa [PyData.leavesShort] using h.ls, by simpa [PyData.bulk, bk] using h.bu, ?_⟩
  · have := h.dp
    simp only [PyData.depth]
    omega
  · show PyData.strOk (("(" : Str) ++ Str.join ", " (PyData.shownAll ps) ++ (if (PyData.shownAll ps).length == 1 then ",)" else ")" : String)) = true
    rw [sok_app, sok_app, sok_join _ (sok_string _) _ h.ok, sok_string, sok_string]
    rfl
theorem sok_from : ∀ (ts : List Str) (k : Nat) (acc : Str), PyData.strOk acc = true → (∀ t ∈ ts, PyData.strOk t = true) → PyData.strOk (textFrom k acc ts) = true
  | [], _, _, h, _ => h
  | t :: ts, k, acc, h, ht => by
    refine sok_from ts (k + 1) _ ?_ fun u hu => ht u (List.mem_cons_of_mem _ hu)
    rw [sok_app, sok_app, h, sok_string, ht t List.mem_cons_self]
    rfl
theorem RoksP.lst {ds : List D} {n : Nat} {ps : List PyData} (h : RoksP ds n ps) : RokP (.lst ds) (n + 1) (.list ps) := by
  refine ⟨by simp [toPy, h.py], by simpa [PyData.showable] using h.sh, by simpa [PyData.canLay0] using h.cl, ?_, by simpa [PyData.leavesShort] using h.ls, by simpa [PyData.bulk, bk] using h.bu, ?_⟩
  · have := h.dp
    simp only [PyData.depth]
    omega
  · show PyData.strOk (listText (PyData.shownAll ps)) = true
    unfold listText
    rw [sok_app, sok_from _ _ _ (sok_string _) h.ok, sok_string]
    rfl
mutual
theorem rok_py : ∀ (d : D) (n : Nat), rok d n = true → ∃ p, RokP d n p
  | .non, n, _ => ⟨.none, rfl, rfl, rfl, by simp [PyData.depth], rfl, rfl, sok_string _⟩
  | .bl b, n, _ => ⟨.bool b, rfl, rfl, rfl, by simp [PyData.depth], rfl, rfl, by cases b <;> exact sok_string _⟩
  | .int i, n, h => ⟨.int i, rfl, by simpa [PyData.showable, rok] using h, rfl, by simp [PyData.depth], by
      simp only [PyData.leavesShort]
      exact decide_eq_true (int_text_len_1921 (by simpa [rok] using h)), rfl, sok_string _⟩
  | .str x, n, h => by
    simp only [rok, Bool.and_eq_true] at h
    exact ⟨.str x, rfl, rfl, by simpa [PyData.canLay0] using h.1.1, by simp [PyData.depth], h.2, rfl, h.1.2⟩
  | .tup xs, n + 1, h => by
    obtain ⟨ps, hp⟩ := roks_py xs n h
    exact ⟨_, hp.tup⟩
  | .lst xs, n + 1, h => by
    obtain ⟨ps, hp⟩ := roks_py xs n h
    exact ⟨_, hp.lst⟩
  | .tup xs, 0, h => by simp [rok] at h
  | .lst xs, 0, h => by simp [rok] at h
  | .scr _, n, h => by simp [rok] at h
  | .dct _ _, n, h => by simp [rok] at h
  | .dcl _ _, n, h => by simp [rok] at h
  | .ins _ _ _, n, h => by simp [rok] at h
  | .pen, n, h => by simp [rok] at h
  | .exo _ _ _ _, n, h => by simp [rok] at h
  | .tab _ _, n, h => by simp [rok] at h
  | .two _ _ _ _, n, h => by simp [rok] at h
theorem roks_py : ∀ (ds : List D) (n : Nat), roks ds n = true → ∃ ps, RoksP ds n ps
  | [], n, _ => ⟨[], rfl, rfl, rfl, by simp [PyData.depthAll], rfl, rfl, by simp [PyData.shownAll]⟩
  | d :: ds, n, h => by
    simp only [roks, Bool.and_eq_true] at h
    obtain ⟨p, a⟩ := rok_py d n h.1
    obtain ⟨ps, b⟩ := roks_py ds n h.2
    refine ⟨p :: ps, by simp [toPys, a.py, b.py], by simp [PyData.showableAll, a.sh, b.sh], by simp [PyData.canLayAll0, a.cl, b.cl], ?_, by simp [PyData.leavesShortAll, a.ls, b.ls], by simp [PyData.bulkAll, bks, a.bu, b.bu], fun t ht => ?_⟩
    · have h1 := a.dp
      have h2 := b.dp
      simp only [PyData.depthAll]
      omega
    · rcases List.mem_cons.mp (show t ∈ PyData.shown p :: PyData.shownAll ps from ht) with z | z
      · rw [z]; exact a.ok
      · exact b.ok t z
end
theorem rok_ok {d : D} (h : rok d 64 = true) (hb : bk d ≤ 5000) : ReprOk d := by
  obtain ⟨p, a⟩ := rok_py d 64 h
  refine ⟨PyData.shown p, ?_, a.ok⟩
  unfold reprF
  simp only [a.py]
  have hs := PyData.shown_le_bulk 1921 (by decide) p a.ls
  rw [a.bu] at hs
  have a2 : SeqAt.shaped p = true := by simp [SeqAt.shaped, a.cl, a.dp]
  rw [if_pos]
  rw [a.sh, a2, decide_eq_true (by omega)]
  rfl
local macro_rules | `(tactic| walk_at "v8") => `(tactic| try simp only [dVar_app, dC_app, dOp_app, dTest_app, dChain_app, dAnd_app, dOr_app, dNot_app, dAndT_app, dOrT_app, dNotT_app, dIf_app, dNil_app, dCons_app, dTup_app, dLst_app, dCall_app, dBlt_app, dIsi_app, dNoPart_app, dPart_app, dSl_app, dNext_app, dBreak_app, dCont_app, dRet_app, dRetOwn_app, dRetN_app, dDrop_app, dFreeze_app, dSet_app, dFLst_app, dOfF_app, dSetOwn_app, dAppend_app, dInsert_app, dFNil_app, dFVal_app, dFOwn_app, dPar_app, dUnpack_app, iSeq_app, iRange1_app, iRange2_app, dFor_app, dYes_app, dLc_app, dNeg_app, dSetLcV_app, dNever_app, iEnumD_app, dFld_app, dMeth0_app, dProp_app, dRaise_app, dMake_app, dDc_app, dDGet_app, dLocked_app, iKeysD_app, dPenGet_app, dPenSet_app, dRetPen_app, dRev_app, dJoin_app, dDict0_app, dDict1_app, dInC_app, dBits_app, ex_false, nD_snoc, and1N, bitP1, bitP0, has_way_ap, first_way_ap, eqD_int, neD_int, addN, add1N, orN, andN, xorN, ltN, gtN, shrN, inn, notInn, inlst, notinlst, eqD_way, neD_way, eqD_nonway, eqD_waynon, eqD_lst, neD_lst, eqD_bl, isN_way, isNot_way, isN_non, isNot_non, isN_int, isNot_int, len_way, len_book, len_masks, len_entry, len_lst, len_tup, tup_lst, tup_tup, tup_way, lst_way, lst_lst, int_int, way_nD, all_bl, any_bl, rngD_nD, rngD_len, len_nD, Int.toNat_natCast, ex_nil', ex_cons', ex_val, ex_vald, ex_bl, ex_sbl, ex_int, ex_lst, ex_tup, ex_own, ex_vtup, no_lt, no_tl, ex_way_lst, ex_way_tup, ex_book_lst, ex_book_tup, ex_entry_lst, ex_entry_tup, ex_fld_book, ex_fld_ways, len_ap, mask_of_ap, items_of_ap, all_items_ap, lies_within_ap, is_set_ap, is_item_ap, draw_ap, pen_ap, book_ap, init_ap, beq_self_eq_true, reduceCtorEq, if_false, Nat.zero_le, allVal, wipeE, setE, RF.ev, R.d, R.isVal, noLst, startE, List.map_cons, List.map_nil, List.set_cons_zero, List.set_cons_succ, List.getElem?_cons_zero, List.getElem?_cons_succ, List.length_cons, List.length_nil, List.replicate, List.cons_append, List.nil_append, List.append_nil, List.length_map, List.length_range, Nat.reduceSub, Nat.reduceAdd, Bool.not_true, Bool.not_false, Bool.not_not, Bool.false_eq_true, if_true, if_false, decide_eq_true_eq, eq_self, true_and, and_true, true_or, or_true, false_or, or_false, false_and, and_false, Bool.not_eq_true', decide_eq_false_iff_not, ite_not, exists_eq_left, exists_eq_left', eqD_lst_nil, neD_lst_nil, row_ap, natCast_eq, tup_nil, isi_way, in_entry, notin_entry, in_ways, notin_ways, ways_snoc, dSaid_app])
/-! ### the first order, by the law's own helper -/
theorem can_same {kb b : List Entry} (t : TidyB kb b) {i : Nat} (hi : i < b.length) (p : List Nat) : canF [mskB kb] i (maskN p) = canF [mskB b] i (maskN p) := by rw [can_has t hi, can_has (tidy_self b) hi]
theorem FO.tidy {kb b : List Entry} (t : TidyB kb b) {st : Nat} {L : List Nat} (hl : ∀ i, st.testBit i = true → i < b.length) (h : FO [mskB kb] st L) : FO [mskB b] st L := by
  refine ⟨h.mem, h.nd, fun p i s e => ?_⟩
  obtain ⟨c1, c2⟩ := h.step p i s e
  have hi := hl i ((h.mem i).mp (by rw [e]; simp))
  exact ⟨by rw [← can_same t hi]; exact c1, fun j a1 a2 a3 => c2 j a1 a2 (by rw [can_same t (hl j a1)]; exact a3)⟩
theorem FI.all {b : List Entry} {w L : List Nat} (hw : w.Pairwise (· < ·)) (h : FI [mskB b] (maskN w) L) (hl : L.length = w.length) : FO [mskB b] (maskN w) L := by
  refine ⟨fun i => ⟨fun z => h.sub i z, fun z => ?_⟩, h.nd, h.step⟩
  rw [mem_maskN] at z
  apply Classical.byContradiction
  intro c
  have := asc_card (u := i :: L) (w := w) (fun j hj => by
    rcases List.mem_cons.mp hj with y | y
    · subst y; exact z
    · exact mem_maskN.mp (h.sub j y)) (List.nodup_cons.mpr ⟨c, h.nd⟩)
  simp at this
  omega
/-! ### law k05 -/
theorem law_anyE {K : Int} {body : DS} {ns : List Int} {q : D → Prop} {x : XP} {env0 : SE} (I : SE → Prop) (hl : ns.length ≤ 63) (hq : q (.bl true)) (h00 : env0[0]? = some (.val (.scr (iD ns)))) (h0 : I env0)
    (h : ∀ (J : DEnds) (z : Int) env, I env → (∀ e, I e → J.nx e) → J.rt = q → J.ex = x → body J (env.set 1 (.val (.int z)))) :
    dSeq (dFor (iSeq (dOp addA (dLst (dCons (dCall F__law_cell_at (dCons (dVar 0) (dCons (dC (.int 0)) dNil))) dNil)) (dSl (dVar 0) (dPart (dC (.int 1))) (dPart (dC (.int K)))))) (gN 1) body) (dRet (dC (.bl true))) { nx := fun _ => q .non, rt := q, ex := x } env0 := by
  refine w_seq fun k hk => ?_
  simp only [dFor_app, iSeq_app, dOp_app, dLst_app, dCons_app, dCall_app, dVar_app, dC_app, dNil_app, dSl_app, dPart_app, h00, List.map_cons, List.map_nil, R.d, allVal]
  refine .inl ⟨ns, rfl, fun z => ⟨.inr rfl, [.int z], rfl, by simp, 1, rfl, K, rfl, .lst (cutD (iD ns) (some 1) (some K)), rfl, _, catL ?_, _, rfl, rfl, ?_⟩⟩
  · have := (cut_ints ns (some 1) (some K)).2
    simp
    omega
  refine for_anyD I h0 (fun a env k2 ha hi hk2 => ?_) fun env hi => hk _ ?_
  · have : ∃ z, a = D.int z := by
      rcases List.mem_append.mp ha with z1 | z1
      · exact ⟨z, List.mem_singleton.mp z1⟩
      · exact (cut_ints ns (some 1) (some K)).1 a z1
    obtain ⟨z, rfl⟩ := this
    exact ⟨_, rfl, h _ z env hi hk2 rfl rfl⟩
  · walk_at "v8"
    exact hq
local macro_rules | `(tactic| walk_at "v9") => `(tactic| try simp only [dVar_app, dC_app, dOp_app, dTest_app, dChain_app, dAnd_app, dOr_app, dNot_app, dAndT_app, dOrT_app, dNotT_app, dIf_app, dNil_app, dCons_app, dTup_app, dLst_app, dCall_app, dBlt_app, dIsi_app, dNoPart_app, dPart_app, dSl_app, dNext_app, dBreak_app, dCont_app, dRet_app, dRetOwn_app, dRetN_app, dDrop_app, dFreeze_app, dSet_app, dFLst_app, dOfF_app, dSetOwn_app, dAppend_app, dInsert_app, dFNil_app, dFVal_app, dFOwn_app, dPar_app, dUnpack_app, iSeq_app, iRange1_app, iRange2_app, dFor_app, dYes_app, dLc_app, dNeg_app, dSetLcV_app, dNever_app, iEnumD_app, dFld_app, dMeth0_app, dProp_app, dRaise_app, dMake_app, dDc_app, dDGet_app, dLocked_app, iKeysD_app, dPenGet_app, dPenSet_app, dRetPen_app, dRev_app, dJoin_app, dDict0_app, dDict1_app, dInC_app, dBits_app, ex_false, nD_snoc, and1N, bitP1, bitP0, has_way_ap, first_way_ap, eqD_int, neD_int, addN, add1N, orN, andN, xorN, ltN, gtN, shrN, inn, notInn, inlst, notinlst, eqD_way, neD_way, eqD_nonway, eqD_waynon, eqD_lst, neD_lst, eqD_bl, isN_way, isNot_way, isN_non, isNot_non, isN_int, isNot_int, len_way, len_book, len_masks, len_entry, len_lst, len_tup, tup_lst, tup_tup, tup_way, lst_way, lst_lst, int_int, way_nD, all_bl, any_bl, rngD_nD, rngD_len, len_nD, Int.toNat_natCast, ex_nil', ex_cons', ex_val, ex_vald, ex_bl, ex_sbl, ex_int, ex_lst, ex_tup, ex_own, ex_vtup, no_lt, no_tl, ex_way_lst, ex_way_tup, ex_book_lst, ex_book_tup, ex_entry_lst, ex_entry_tup, ex_fld_book, ex_fld_ways, len_ap, mask_of_ap, items_of_ap, all_items_ap, lies_within_ap, is_set_ap, is_item_ap, draw_ap, pen_ap, book_ap, init_ap, beq_self_eq_true, reduceCtorEq, if_false, Nat.zero_le, allVal, wipeE, setE, RF.ev, R.d, R.isVal, noLst, startE, List.map_cons, List.map_nil, List.set_cons_zero, List.set_cons_succ, List.getElem?_cons_zero, List.getElem?_cons_succ, List.length_cons, List.length_nil, List.replicate, List.cons_append, List.nil_append, List.append_nil, List.length_map, List.length_range, Nat.reduceSub, Nat.reduceAdd, Bool.not_true, Bool.not_false, Bool.not_not, Bool.false_eq_true, if_true, if_false, decide_eq_true_eq, eq_self, true_and, and_true, true_or, or_true, false_or, or_false, false_and, and_false, Bool.not_eq_true', decide_eq_false_iff_not, ite_not, exists_eq_left, exists_eq_left', eqD_lst_nil, neD_lst_nil, row_ap, natCast_eq, tup_nil, isi_way, in_entry, notin_entry, in_ways, notin_ways, ways_snoc, dSaid_app, neD_int])
local macro_rules | `(tactic| walk_at "v10") => `(tactic| try simp only [dVar_app, dC_app, dOp_app, dTest_app, dChain_app, dAnd_app, dOr_app, dNot_app, dAndT_app, dOrT_app, dNotT_app, dIf_app, dNil_app, dCons_app, dTup_app, dLst_app, dCall_app, dBlt_app, dIsi_app, dNoPart_app, dPart_app, dSl_app, dNext_app, dBreak_app, dCont_app, dRet_app, dRetOwn_app, dRetN_app, dDrop_app, dFreeze_app, dSet_app, dFLst_app, dOfF_app, dSetOwn_app, dAppend_app, dInsert_app, dFNil_app, dFVal_app, dFOwn_app, dPar_app, dUnpack_app, iSeq_app, iRange1_app, iRange2_app, dFor_app, dYes_app, dLc_app, dNeg_app, dSetLcV_app, dNever_app, iEnumD_app, dFld_app, dMeth0_app, dProp_app, dRaise_app, dMake_app, dDc_app, dDGet_app, dLocked_app, iKeysD_app, dPenGet_app, dPenSet_app, dRetPen_app, dRev_app, dJoin_app, dDict0_app, dDict1_app, dInC_app, dBits_app, ex_false, nD_snoc, and1N, bitP1, bitP0, has_way_ap, first_way_ap, eqD_int, neD_int, addN, add1N, orN, andN, xorN, ltN, gtN, shrN, inn, notInn, inlst, notinlst, eqD_way, neD_way, eqD_nonway, eqD_waynon, eqD_lst, neD_lst, eqD_bl, isN_way, isNot_way, isN_non, isNot_non, isN_int, isNot_int, len_way, len_book, len_masks, len_entry, len_lst, len_tup, tup_lst, tup_tup, tup_way, lst_way, lst_lst, int_int, way_nD, all_bl, any_bl, rngD_nD, rngD_len, len_nD, Int.toNat_natCast, ex_nil', ex_cons', ex_val, ex_vald, ex_bl, ex_sbl, ex_int, ex_lst, ex_tup, ex_own, ex_vtup, no_lt, no_tl, ex_way_lst, ex_way_tup, ex_book_lst, ex_book_tup, ex_entry_lst, ex_entry_tup, ex_fld_book, ex_fld_ways, len_ap, mask_of_ap, items_of_ap, all_items_ap, lies_within_ap, is_set_ap, is_item_ap, draw_ap, pen_ap, book_ap, init_ap, beq_self_eq_true, reduceCtorEq, if_false, Nat.zero_le, allVal, wipeE, setE, RF.ev, R.d, R.isVal, noLst, startE, List.map_cons, List.map_nil, List.set_cons_zero, List.set_cons_succ, List.getElem?_cons_zero, List.getElem?_cons_succ, List.length_cons, List.length_nil, List.replicate, List.cons_append, List.nil_append, List.append_nil, List.length_map, List.length_range, Nat.reduceSub, Nat.reduceAdd, Bool.not_true, Bool.not_false, Bool.not_not, Bool.false_eq_true, if_true, if_false, decide_eq_true_eq, eq_self, true_and, and_true, true_or, or_true, false_or, or_false, false_and, and_false, Bool.not_eq_true', decide_eq_false_iff_not, ite_not, exists_eq_left, exists_eq_left', eqD_lst_nil, neD_lst_nil, row_ap, natCast_eq, tup_nil, isi_way, in_entry, notin_entry, in_ways, notin_ways, ways_snoc, dSaid_app, neD_int, dTupRg_app, dIndex_app])
local macro_rules | `(tactic| walk_at "v11") => `(tactic| try simp only [dVar_app, dC_app, dOp_app, dTest_app, dChain_app, dAnd_app, dOr_app, dNot_app, dAndT_app, dOrT_app, dNotT_app, dIf_app, dNil_app, dCons_app, dTup_app, dLst_app, dCall_app, dBlt_app, dIsi_app, dNoPart_app, dPart_app, dSl_app, dNext_app, dBreak_app, dCont_app, dRet_app, dRetOwn_app, dRetN_app, dDrop_app, dFreeze_app, dSet_app, dFLst_app, dOfF_app, dSetOwn_app, dAppend_app, dInsert_app, dFNil_app, dFVal_app, dFOwn_app, dPar_app, dUnpack_app, iSeq_app, iRange1_app, iRange2_app, dFor_app, dYes_app, dLc_app, dNeg_app, dSetLcV_app, dNever_app, iEnumD_app, dFld_app, dMeth0_app, dProp_app, dRaise_app, dMake_app, dDc_app, dDGet_app, dLocked_app, iKeysD_app, dPenGet_app, dPenSet_app, dRetPen_app, dRev_app, dJoin_app, dDict0_app, dDict1_app, dInC_app, dBits_app, ex_false, nD_snoc, and1N, bitP1, bitP0, has_way_ap, first_way_ap, eqD_int, neD_int, addN, add1N, orN, andN, xorN, ltN, gtN, shrN, inn, notInn, inlst, notinlst, eqD_way, neD_way, eqD_nonway, eqD_waynon, eqD_lst, neD_lst, eqD_bl, isN_way, isNot_way, isN_non, isNot_non, isN_int, isNot_int, len_way, len_book, len_masks, len_entry, len_lst, len_tup, tup_lst, tup_tup, tup_way, lst_way, lst_lst, int_int, way_nD, all_bl, any_bl, rngD_nD, rngD_len, len_nD, Int.toNat_natCast, ex_nil', ex_cons', ex_val, ex_vald, ex_bl, ex_sbl, ex_int, ex_lst, ex_tup, ex_own, ex_vtup, no_lt, no_tl, ex_way_lst, ex_way_tup, ex_book_lst, ex_book_tup, ex_entry_lst, ex_entry_tup, ex_fld_book, ex_fld_ways, len_ap, mask_of_ap, items_of_ap, all_items_ap, lies_within_ap, is_set_ap, is_item_ap, draw_ap, pen_ap, book_ap, init_ap, beq_self_eq_true, reduceCtorEq, if_false, Nat.zero_le, allVal, wipeE, setE, RF.ev, R.d, R.isVal, noLst, startE, List.map_cons, List.map_nil, List.set_cons_zero, List.set_cons_succ, List.getElem?_cons_zero, List.getElem?_cons_succ, List.length_cons, List.length_nil, List.replicate, List.cons_append, List.nil_append, List.append_nil, List.length_map, List.length_range, Nat.reduceSub, Nat.reduceAdd, Bool.not_true, Bool.not_false, Bool.not_not, Bool.false_eq_true, if_true, if_false, decide_eq_true_eq, eq_self, true_and, and_true, true_or, or_true, false_or, or_false, false_and, and_false, Bool.not_eq_true', decide_eq_false_iff_not, ite_not, exists_eq_left, exists_eq_left', eqD_lst_nil, neD_lst_nil, row_ap, natCast_eq, tup_nil, isi_way, in_entry, notin_entry, in_ways, notin_ways, ways_snoc, neD_int, dTupRg_app, dIndex_app, dRevL_app, iRevRg_app])
/-! ### plans -/
theorem TidyB.at {kb b : List Entry} (t : TidyB kb b) : ∀ {i : Nat} {e : Entry}, kb[i]? = some e → ∃ w, b[i]? = some w ∧ Tidy e w := by
  induction t with
  | nil => intro i e h; simp at h
  | cons a _ ih =>
    intro i e h
    cases i with
    | zero => simp at h; subst h; exact ⟨_, by simp, a⟩
    | succ i => simpa using ih (by simpa using h)
theorem TidyB.ok {kb b : List Entry} (t : TidyB kb b) (hb : BookOk b) : BookOk kb := by
  have hl := t.len
  refine ⟨by have := hb.pos; omega, by have := hb.le; omega, fun e he => ?_, fun e he w hw => ?_, fun i e he w hw => ?_⟩
  · obtain ⟨i, hi⟩ := List.mem_iff_getElem?.mp he
    obtain ⟨u, hu, tu⟩ := TidyB.at t hi
    have := hb.len u (List.mem_of_getElem? hu)
    have := tu.len
    omega
  · obtain ⟨i, hi⟩ := List.mem_iff_getElem?.mp he
    obtain ⟨u, hu, tu⟩ := TidyB.at t hi
    rw [hl]
    exact hb.way u (List.mem_of_getElem? hu) w (tu.sub w hw)
  · obtain ⟨u, hu, tu⟩ := TidyB.at t he
    exact hb.own i u hu w (tu.sub w hw)
/-- the first order of all that can be learned -/
def TopO (kb : List Entry) (o : List Nat) : Prop := ∃ r, Grt [mskB kb] (restM kb.length []) r ∧ FO [mskB kb] r o
theorem TopO.len {kb : List Entry} {o : List Nat} (h : TopO kb o) : o.Nodup ∧ (∀ i ∈ o, i < kb.length) ∧ o.length ≤ kb.length := by
  obtain ⟨r, h1, h2⟩ := h
  have hl : ∀ i ∈ o, i < kb.length := fun i hi => ((restM_bit (by simp) i).mp (h1.sub i ((h2.mem i).mp hi))).1
  exact ⟨h2.nd, hl, nodup_le _ _ h2.nd hl⟩
/-! ### after -/
theorem enD_book (kb : List Entry) : enD (kb.map entryD) = (List.range kb.length).map fun i => .tup [.int (i : Nat), entryD (kb.getD i [])] := by
  unfold enD
  rw [List.length_map]
  refine List.map_congr_left fun i hi => ?_
  have := List.mem_range.mp hi
  rw [List.getD, List.getElem?_map, getD_get this]
  rfl
/-! ### orders of what is left -/
local macro_rules | `(tactic| walk_at "v12") => `(tactic| try simp only [dVar_app, dC_app, dOp_app, dTest_app, dChain_app, dAnd_app, dOr_app, dNot_app, dAndT_app, dOrT_app, dNotT_app, dIf_app, dNil_app, dCons_app, dTup_app, dLst_app, dCall_app, dBlt_app, dIsi_app, dNoPart_app, dPart_app, dSl_app, dNext_app, dBreak_app, dCont_app, dRet_app, dRetOwn_app, dRetN_app, dDrop_app, dFreeze_app, dSet_app, dFLst_app, dOfF_app, dSetOwn_app, dAppend_app, dInsert_app, dFNil_app, dFVal_app, dFOwn_app, dPar_app, dUnpack_app, iSeq_app, iRange1_app, iRange2_app, dFor_app, dYes_app, dLc_app, dNeg_app, dSetLcV_app, dNever_app, iEnumD_app, dFld_app, dMeth0_app, dProp_app, dRaise_app, dMake_app, dDc_app, dDGet_app, dLocked_app, iKeysD_app, dPenGet_app, dPenSet_app, dRetPen_app, dRev_app, dJoin_app, dDict0_app, dDict1_app, dInC_app, dBits_app, ex_false, nD_snoc, and1N, bitP1, bitP0, has_way_ap, first_way_ap, eqD_int, neD_int, addN, add1N, orN, andN, xorN, ltN, gtN, shrN, inn, notInn, inlst, notinlst, eqD_way, neD_way, eqD_nonway, eqD_waynon, eqD_lst, neD_lst, eqD_bl, isN_way, isNot_way, isN_non, isNot_non, isN_int, isNot_int, len_way, len_book, len_masks, len_entry, len_lst, len_tup, tup_lst, tup_tup, tup_way, lst_way, lst_lst, int_int, way_nD, all_bl, any_bl, rngD_nD, rngD_len, len_nD, Int.toNat_natCast, ex_nil', ex_cons', ex_val, ex_vald, ex_bl, ex_sbl, ex_int, ex_lst, ex_tup, ex_own, ex_vtup, no_lt, no_tl, ex_way_lst, ex_way_tup, ex_book_lst, ex_book_tup, ex_entry_lst, ex_entry_tup, ex_fld_book, ex_fld_ways, len_ap, mask_of_ap, items_of_ap, all_items_ap, lies_within_ap, is_set_ap, is_item_ap, draw_ap, pen_ap, book_ap, init_ap, beq_self_eq_true, reduceCtorEq, if_false, Nat.zero_le, allVal, wipeE, setE, RF.ev, R.d, R.isVal, noLst, startE, List.map_cons, List.map_nil, List.set_cons_zero, List.set_cons_succ, List.getElem?_cons_zero, List.getElem?_cons_succ, List.length_cons, List.length_nil, List.replicate, List.cons_append, List.nil_append, List.append_nil, List.length_map, List.length_range, Nat.reduceSub, Nat.reduceAdd, Bool.not_true, Bool.not_false, Bool.not_not, Bool.false_eq_true, if_true, if_false, decide_eq_true_eq, eq_self, true_and, and_true, true_or, or_true, false_or, or_false, false_and, and_false, Bool.not_eq_true', decide_eq_false_iff_not, ite_not, exists_eq_left, exists_eq_left', eqD_lst_nil, neD_lst_nil, row_ap, natCast_eq, tup_nil, isi_way, in_entry, notin_entry, in_ways, notin_ways, ways_snoc, dSaid_app, neD_int, dTupRg_app, dIndex_app, has_ap])
local macro_rules | `(tactic| walk_at "v13") => `(tactic| try simp only [dVar_app, dC_app, dOp_app, dTest_app, dChain_app, dAnd_app, dOr_app, dNot_app, dAndT_app, dOrT_app, dNotT_app, dIf_app, dNil_app, dCons_app, dTup_app, dLst_app, dCall_app, dBlt_app, dIsi_app, dNoPart_app, dPart_app, dSl_app, dNext_app, dBreak_app, dCont_app, dRet_app, dRetOwn_app, dRetN_app, dDrop_app, dFreeze_app, dSet_app, dFLst_app, dOfF_app, dSetOwn_app, dAppend_app, dInsert_app, dFNil_app, dFVal_app, dFOwn_app, dPar_app, dUnpack_app, iSeq_app, iRange1_app, iRange2_app, dFor_app, dYes_app, dLc_app, dNeg_app, dSetLcV_app, dNever_app, iEnumD_app, dFld_app, dMeth0_app, dProp_app, dRaise_app, dMake_app, dDc_app, dDGet_app, dLocked_app, iKeysD_app, dPenGet_app, dPenSet_app, dRetPen_app, dRev_app, dJoin_app, dDict0_app, dDict1_app, dInC_app, dBits_app, ex_false, nD_snoc, and1N, bitP1, bitP0, has_way_ap, first_way_ap, eqD_int, neD_int, addN, add1N, orN, andN, xorN, ltN, gtN, shrN, inn, notInn, inlst, notinlst, eqD_way, neD_way, eqD_nonway, eqD_waynon, eqD_lst, neD_lst, eqD_bl, isN_way, isNot_way, isN_non, isNot_non, isN_int, isNot_int, len_way, len_book, len_masks, len_entry, len_lst, len_tup, tup_lst, tup_tup, tup_way, lst_way, lst_lst, int_int, way_nD, all_bl, any_bl, rngD_nD, rngD_len, len_nD, Int.toNat_natCast, ex_nil', ex_cons', ex_val, ex_vald, ex_bl, ex_sbl, ex_int, ex_lst, ex_tup, ex_own, ex_vtup, no_lt, no_tl, ex_way_lst, ex_way_tup, ex_book_lst, ex_book_tup, ex_entry_lst, ex_entry_tup, ex_fld_book, ex_fld_ways, len_ap, mask_of_ap, items_of_ap, all_items_ap, lies_within_ap, is_set_ap, is_item_ap, draw_ap, pen_ap, book_ap, init_ap, beq_self_eq_true, reduceCtorEq, if_false, Nat.zero_le, allVal, wipeE, setE, RF.ev, R.d, R.isVal, noLst, startE, List.map_cons, List.map_nil, List.set_cons_zero, List.set_cons_succ, List.getElem?_cons_zero, List.getElem?_cons_succ, List.length_cons, List.length_nil, List.replicate, List.cons_append, List.nil_append, List.append_nil, List.length_map, List.length_range, Nat.reduceSub, Nat.reduceAdd, Bool.not_true, Bool.not_false, Bool.not_not, Bool.false_eq_true, if_true, if_false, decide_eq_true_eq, eq_self, true_and, and_true, true_or, or_true, false_or, or_false, false_and, and_false, Bool.not_eq_true', decide_eq_false_iff_not, ite_not, exists_eq_left, exists_eq_left', eqD_lst_nil, neD_lst_nil, row_ap, natCast_eq, tup_nil, isi_way, in_entry, notin_entry, in_ways, notin_ways, ways_snoc, neD_int, dTupRg_app, dIndex_app, dRevL_app, iRevRg_app, dSaid_app, has_ap])
theorem slFrom_lst {xs : List D} {p : Nat} : slD (.lst xs) (some (p : Nat)) none = some (.lst (xs.drop p)) := by
  show some (D.lst (cutD xs (some (p : Int)) none)) = _
  rw [cut_dropG]
def wTextR (X : Addr) : WRel := fun e bs w => ∃ i, e = ⟨X, some [("line", i)]⟩ ∧ bs = bsOf "BadText" ∧ w = .tup [.str "text", i]
theorem eq_str_same {x : Str} (hx : PyData.strOk x = true) : eqD (.str x) (.str x) = some (.bl true) := eqD_same (by simpa [pt] using hx)
theorem s_word_text {X : Addr} : ∀ e bs w, wTextR X e bs w → ∀ a d, t__law_word a d bs { nx := fun _ => False, rt := fun r => r = w, ex := noX } (startE 4 [.exo a d (xns e) (xds e)]) := by
  rintro e bs w ⟨i, rfl, rfl, rfl⟩ a d
  obtain ⟨g1, g2, g3, g4⟩ := marks_of (n := "BadText") 13 rfl
  refine word_walk 13 g1 g2 g3 g4 fun o1 o2 => ?_
  show t_wordEnd a d _ [.val (.exo a d ["line"] [i]), o1, o2, .val (.str "text")]
  unfold t_wordEnd
  refine w_seq fun k hk => ?_
  refine w_if fun A B hA hB => ?_
  walk_at "v7"
  refine ⟨_, eq_str_not (by decide +kernel) (by decide +kernel) (by decide +kernel), _, rfl, ?_⟩
  refine hB ?_
  walk_at "v7"
  refine hk _ ?_
  refine w_seq fun k hk => ?_
  refine w_if fun A B hA hB => ?_
  walk_at "v7"
  refine ⟨_, eq_str_not (by decide +kernel) (by decide +kernel) (by decide +kernel), _, rfl, ?_⟩
  refine hB ?_
  walk_at "v7"
  refine hk _ ?_
  walk_at "v7"
  refine ⟨_, eq_str_same (by decide +kernel), _, rfl, ?_⟩
  walk_at "v7"
  exact ⟨_, _, _, rfl, rfl, by omega, rfl⟩

/-! ### what an item needs of an order -/
/-! ### the steps are an order that ends with the item -/
/-! ### way_to -/
theorem FO.lt {kb : List Entry} {w o : List Nat} {r : Nat} (hw : ∀ i ∈ w, i < kb.length) (hr : Grt [mskB kb] (restM kb.length w) r) (h : FO [mskB kb] r o) : ∀ i ∈ o, i < kb.length ∧ i ∉ w := fun i hi => (restM_bit hw i).mp (hr.sub i ((h.mem i).mp hi))
/-! ### verdict -/
/-! ### a closed set -/
theorem neD_str {s : Str} (h : PyData.strOk s = true) : neD (.str s) (.str s) = some (.bl false) := by
  have e := eqD_str (s := s) (by simp [SeqAt.shaped, PyData.canLay0, PyData.depth, h])
  unfold eqD at e
  unfold neD
  obtain ⟨c, h1, h2⟩ := Option.map_eq_some_iff.mp e
  rw [h1]
  cases h2
  rfl
/-! ### rows that are orders -/
local macro_rules | `(tactic| walk_at "v14") => `(tactic| try simp only [dVar_app, dC_app, dOp_app, dTest_app, dChain_app, dAnd_app, dOr_app, dNot_app, dAndT_app, dOrT_app, dNotT_app, dIf_app, dNil_app, dCons_app, dTup_app, dLst_app, dCall_app, dBlt_app, dIsi_app, dNoPart_app, dPart_app, dSl_app, dNext_app, dBreak_app, dCont_app, dRet_app, dRetOwn_app, dRetN_app, dDrop_app, dFreeze_app, dSet_app, dFLst_app, dOfF_app, dSetOwn_app, dAppend_app, dInsert_app, dFNil_app, dFVal_app, dFOwn_app, dPar_app, dUnpack_app, iSeq_app, iRange1_app, iRange2_app, dFor_app, dYes_app, dLc_app, dNeg_app, dSetLcV_app, dNever_app, iEnumD_app, dFld_app, dMeth0_app, dProp_app, dRaise_app, dMake_app, dDc_app, dDGet_app, dLocked_app, iKeysD_app, dPenGet_app, dPenSet_app, dRetPen_app, dRev_app, dJoin_app, dDict0_app, dDict1_app, dInC_app, dBits_app, ex_false, nD_snoc, and1N, bitP1, bitP0, has_way_ap, first_way_ap, eqD_int, neD_int, addN, add1N, orN, andN, xorN, ltN, gtN, shrN, inn, notInn, inlst, notinlst, eqD_way, neD_way, eqD_nonway, eqD_waynon, eqD_lst, neD_lst, eqD_bl, isN_way, isNot_way, isN_non, isNot_non, isN_int, isNot_int, len_way, len_book, len_masks, len_entry, len_lst, len_tup, tup_lst, tup_tup, tup_way, lst_way, lst_lst, int_int, way_nD, all_bl, any_bl, rngD_nD, rngD_len, len_nD, Int.toNat_natCast, ex_nil', ex_cons', ex_val, ex_vald, ex_bl, ex_sbl, ex_int, ex_lst, ex_tup, ex_own, ex_vtup, no_lt, no_tl, ex_way_lst, ex_way_tup, ex_book_lst, ex_book_tup, ex_entry_lst, ex_entry_tup, ex_fld_book, ex_fld_ways, len_ap, mask_of_ap, items_of_ap, all_items_ap, lies_within_ap, is_set_ap, is_item_ap, draw_ap, pen_ap, book_ap, init_ap, beq_self_eq_true, reduceCtorEq, if_false, Nat.zero_le, allVal, wipeE, setE, RF.ev, R.d, R.isVal, noLst, startE, List.map_cons, List.map_nil, List.set_cons_zero, List.set_cons_succ, List.getElem?_cons_zero, List.getElem?_cons_succ, List.length_cons, List.length_nil, List.replicate, List.cons_append, List.nil_append, List.append_nil, List.length_map, List.length_range, Nat.reduceSub, Nat.reduceAdd, Bool.not_true, Bool.not_false, Bool.not_not, Bool.false_eq_true, if_true, if_false, decide_eq_true_eq, eq_self, true_and, and_true, true_or, or_true, false_or, or_false, false_and, and_false, Bool.not_eq_true', decide_eq_false_iff_not, ite_not, exists_eq_left, exists_eq_left', eqD_lst_nil, neD_lst_nil, row_ap, natCast_eq, tup_nil, isi_way, in_entry, notin_entry, in_ways, notin_ways, ways_snoc, neD_int, dTupRg_app, dIndex_app, has_ap, dCmpC_app, dBinC_app, dIsC_app, dRevL_app, iStrD_app, dSlS_app, dLenSet_app, dFmtS_app, dJs_nil, dJs_cons, dStar_app, dJoin_app, dFRep_app])
def t_is_name  : DS := (dSeq (dIfS (dOrT (dNotT (dTest (dIsi "str" (dVar 0)))) (dNotT (dTest (dChain leI leI (dC (.int 1)) (dBlt lenF (dCons (dVar 0) dNil)) (dC (.int 8)))))) (dRet (dC (.bl false))) dNext) (dRet (dBlt allF (dCons (dOfF (dLc [1] (iStrD (dVar 0)) (gN 1) dYes (dOp inSD (dVar 1) (dC (.str "abcdefghijklmnopqrstuvwxyz"))))) dNil))))
def t__law_text  : DS := (dSeq (dSetOwn 2 (dFLst dNil)) (dSeq (dFor (iRange1 (dBlt lenF (dCons (dVar 1) dNil))) (gN 3) (dSeq (dSetOwn 4 (dFLst (dCons (dOp addA (dOp ixD (dVar 0) (dVar 3)) (dC (.str ":"))) dNil))) (dSeq (dFor (iSeq (dOp ixD (dVar 1) (dVar 3))) (gN 5) (dAppend 4 (dIf (dTest (dOp eqD (dVar 5) (dTup dNil))) (dC (.str "-")) (dJoin "+" (dOfF (dLc [6] (iSeq (dVar 5)) (gN 6) dYes (dOp ixD (dVar 0) (dVar 6)))))))) (dAppend 2 (dJoin " " (dVar 4)))))) (dRet (dJoin "\n" (dVar 2)))))
def t__law_names (F__law_draw : DF) : DS := (dSeq (dSetOwn 3 (dFLst dNil)) (dSeq (dFor (iRange1 (dVar 1)) (gN 4) (dSeq (dSet 5 (dC (.str ""))) (dSeq (dFor (iRange1 (dOp addA (dC (.int 1)) (dCall F__law_draw (dCons (dVar 0) (dCons (dOp ixD (dLst (dCons (dC (.int 1)) (dCons (dC (.int 2)) (dCons (dVar 2) dNil)))) (dCall F__law_draw (dCons (dVar 0) (dCons (dC (.int 3)) dNil)))) dNil))))) (gN 6) (dSet 5 (dOp addA (dVar 5) (dOp ixSD (dC (.str "abcxyz")) (dCall F__law_draw (dCons (dVar 0) (dCons (dC (.int 6)) dNil))))))) (dSeq (dIfS (dTest (dOp inD (dVar 5) (dVar 3))) (dSet 5 (dOp addA (dOp addA (dC (.str "q")) (dOp ixSD (dC (.str "abcdefghijklmnopqrstuvwx")) (dVar 4))) (dSlS (dVar 5) dNoPart (dPart (dC (.int 1)))))) dNext) (dAppend 3 (dVar 5)))))) (dRetOwn 3)))
def azS : Str := "abcdefghijklmnopqrstuvwxyz"
def azL : List Nat := azS.cps.toList
/-- a name -/
def nameS (z : Str) : Bool := decide (1 ≤ z.length) && (decide (z.length ≤ 8) && z.cps.toList.all fun c => decide (c ∈ azL))
def isName : D → Bool
  | .str z => nameS z
  | _ => false
def F_is_name : DF := fun ds q _ => ∃ d, ds = [d] ∧ pl d = true ∧ (∀ z, d = .str z → z.length ≤ 1000000) ∧ q (.bl (isName d))
theorem isi_strD {d : D} (h : pl d = true) : isiD d "str" = some (match d with | .str _ => true | _ => false) := by
  cases d <;> simp [pl] at h <;> simp only [isiD] <;> decide +kernel
theorem s_is_name : ∀ ds q x, F_is_name ds q x → ds.length = 1 ∧ t_is_name { nx := fun _ => q .non, rt := q, ex := x } (startE 2 ds) := by
  rintro ds q x ⟨d, rfl, hp, hz, hq⟩
  refine ⟨rfl, ?_⟩
  unfold t_is_name
  refine w_seq fun k hk => w_if fun A B hA hB => ?_
  walk_at "v14"
  refine ⟨_, isi_strD hp, ?_⟩
  cases d with
  | str z =>
    have hl := hz z rfl
    rw [if_neg Bool.noConfusion]
    have el : lenF [.str z] = some (.int (z.length : Nat)) := if_pos (by omega)
    refine ⟨_, el, decide ((1 : Int) ≤ (z.length : Nat)), rfl, ?_⟩
    have no : ¬ (1 ≤ z.length ∧ z.length ≤ 8) → q (.bl false) := fun h => by
      have : isName (.str z) = false := by
        show (decide (1 ≤ z.length) && (decide (z.length ≤ 8) && _)) = false
        by_cases c1 : 1 ≤ z.length
        · rw [decide_eq_false (p := z.length ≤ 8) (fun c => h ⟨c1, c⟩), Bool.false_and, Bool.and_false]
        · rw [decide_eq_false c1]; rfl
      rw [this] at hq
      exact hq
    by_cases c1 : 1 ≤ z.length
    · rw [decide_eq_true (show (1 : Int) ≤ (z.length : Nat) by omega), if_pos rfl]
      refine ⟨.bl (decide (((z.length : Nat) : Int) ≤ 8)), rfl, _, rfl, ?_⟩
      by_cases c2 : z.length ≤ 8
      · rw [decide_eq_true (show ((z.length : Nat) : Int) ≤ 8 by omega), if_neg Bool.noConfusion]
        refine hB (hk _ ?_)
        walk_at "v14"
        refine ⟨z, rfl, by rw [sgs, List.length_map, Array.length_toList]; show z.length ≤ _; omega, ?_⟩
        show dLcL _ _ _ (z.cps.toList.map fun c => D.str ⟨#[c]⟩) _ _
        refine lc_all (fun c : Nat => D.str ⟨#[c]⟩) (fun c => D.bl (decide (c ∈ azL))) (fun c hc => ⟨_, rfl, fun Q hQ => ?_⟩) ?_
        · walk_at "v14"
          exact ⟨_, rfl, hQ⟩
        · have e : (z.cps.toList.map fun c => D.bl (decide (c ∈ azL))) = (z.cps.toList.map fun c => decide (c ∈ azL)).map D.bl := by
            rw [List.map_map]
            rfl
          have e2 : isName (.str z) = (z.cps.toList.map fun c => decide (c ∈ azL)).all id := by
            show (decide (1 ≤ z.length) && (decide (z.length ≤ 8) && z.cps.toList.all fun c => decide (c ∈ azL))) = _
            rw [decide_eq_true c1, decide_eq_true c2, Bool.true_and, Bool.true_and, List.all_map]
            rfl
          rw [e2] at hq
          exact ⟨_, by rw [e, all_bl], hq⟩
      · rw [decide_eq_false (show ¬ ((z.length : Nat) : Int) ≤ 8 by omega), if_pos rfl]
        refine hA ?_
        walk_at "v14"
        exact no fun h => c2 h.2
    · rw [decide_eq_false (show ¬ (1 : Int) ≤ (z.length : Nat) by omega), if_neg Bool.noConfusion]
      refine hA ?_
      walk_at "v14"
      exact no fun h => c1 h.1
  | _ => first | (cases hp; done) | (rw [if_pos rfl]; refine hA ?_; walk_at "v14"; exact hq)
/-! ### names -/
/-! ### the text of a course -/
def wordS (ss : List Str) (w : List Nat) : Str := if w = [] then "-" else Txt.join "+" (w.map fun i => ss.getD i Str.empty)
def lineS (ss : List Str) (z : Str) (e : Entry) : Str := Txt.join " " ((z ++ ":") :: e.map (wordS ss))
def textS (ss : List Str) (b : List Entry) : Str := Txt.join "\n" ((List.range b.length).map fun i => lineS ss (ss.getD i Str.empty) (b.getD i []))
theorem sum_leN {α : Type} {f : α → Nat} {k : Nat} : ∀ {l : List α}, (∀ a ∈ l, f a ≤ k) → (l.map f).sum ≤ l.length * k
  | [], _ => by simp
  | a :: l, h => by
    have h1 := h a List.mem_cons_self
    have h2 := sum_leN fun b hb => h b (List.mem_cons_of_mem _ hb)
    rw [List.map_cons, List.sum_cons, List.length_cons, Nat.succ_mul]
    omega
theorem getS_le {ss : List Str} (h : ∀ z ∈ ss, z.length ≤ 8) (i : Nat) : (ss.getD i Str.empty).length ≤ 8 := by
  rw [List.getD_eq_getElem?_getD]
  cases e : ss[i]? with
  | none => decide
  | some z => exact h z (List.mem_of_getElem? e)
theorem word_le {ss : List Str} (h : ∀ z ∈ ss, z.length ≤ 8) {w : List Nat} (hw : w.length ≤ 24) : (wordS ss w).length ≤ 216 ∧ ((w.map fun i => ss.getD i Str.empty).map (·.length)).sum + w.length * 1 ≤ 216 := by
  have e : ((w.map fun i => ss.getD i Str.empty).map (·.length)).sum ≤ w.length * 8 := by
    rw [List.map_map]
    exact sum_leN fun i _ => getS_le h i
  have h2 : ((w.map fun i => ss.getD i Str.empty).map (·.length)).sum + w.length * 1 ≤ 216 := by omega
  refine ⟨?_, h2⟩
  unfold wordS
  split
  · decide
  · have := join_len "+" (w.map fun i => ss.getD i Str.empty)
    rw [List.length_map] at this
    exact Nat.le_trans this h2
theorem ix_strs {ss : List Str} {i : Nat} (h : i < ss.length) : atI (ss.map D.str) ((i : Nat) : Int) = some (.str (ss.getD i Str.empty)) := by
  refine atI_nat ?_
  rw [List.getElem?_map, List.getD_eq_getElem?_getD, List.getElem?_eq_getElem h]
  rfl
theorem ix_strsL {ss : List Str} {i : Nat} (h : i < ss.length) : ixD (.lst (ss.map D.str)) (.int (i : Nat)) = some (.str (ss.getD i Str.empty)) := ix_strs h
theorem line_le {ss : List Str} (h : ∀ z ∈ ss, z.length ≤ 8) {z : Str} (hz : z.length ≤ 8) {e : Entry} (he : e.length < 64) (hw : ∀ w ∈ e, w.length ≤ 24) :
    (lineS ss z e).length ≤ 13800 ∧ (((z ++ ":") :: e.map (wordS ss)).map (·.length)).sum + ((z ++ ":") :: e.map (wordS ss)).length * 1 ≤ 13800 := by
  have e1 : ((e.map (wordS ss)).map (·.length)).sum ≤ e.length * 216 := by
    rw [List.map_map]
    exact sum_leN fun w hm => (word_le h (hw w hm)).1
  have e2 : (z ++ ":" : Str).length = z.length + 1 := by
    show (z.cps ++ #[58]).size = z.cps.size + 1
    simp
  have h2 : (((z ++ ":") :: e.map (wordS ss)).map (·.length)).sum + ((z ++ ":") :: e.map (wordS ss)).length * 1 ≤ 13800 := by
    rw [List.map_cons, List.sum_cons, e2, List.length_cons, List.length_map]
    omega
  refine ⟨?_, h2⟩
  exact Nat.le_trans (join_len " " _) h2
theorem text_le {ss : List Str} (h : ∀ z ∈ ss, z.length ≤ 8) {b : List Entry} (hb : BookOk b) :
    (textS ss b).length ≤ 340000 ∧ (((List.range b.length).map fun i => lineS ss (ss.getD i Str.empty) (b.getD i [])).map (·.length)).sum + ((List.range b.length).map fun i => lineS ss (ss.getD i Str.empty) (b.getD i [])).length * 1 ≤ 340000 := by
  have hle := hb.le
  have e1 : (((List.range b.length).map fun i => lineS ss (ss.getD i Str.empty) (b.getD i [])).map (·.length)).sum ≤ (List.range b.length).length * 13800 := by
    rw [List.map_map]
    refine sum_leN fun i hi => ?_
    have hi' := List.mem_range.mp hi
    have he := List.mem_of_getElem? (getD_get hi')
    refine (line_le h (getS_le h i) (hb.len _ he) fun w hw => ?_).1
    have ew := hb.way _ he w hw
    have := asc_short ew.asc ew.lt
    omega
  rw [List.length_range] at e1
  have h2 : (((List.range b.length).map fun i => lineS ss (ss.getD i Str.empty) (b.getD i [])).map (·.length)).sum + ((List.range b.length).map fun i => lineS ss (ss.getD i Str.empty) (b.getD i [])).length * 1 ≤ 340000 := by
    rw [List.length_map, List.length_range]
    omega
  exact ⟨Nat.le_trans (join_len "\n" _) h2, h2⟩
theorem nameS_le {z : Str} (h : nameS z = true) : 1 ≤ z.length ∧ z.length ≤ 8 := by
  unfold nameS at h
  rw [Bool.and_eq_true, Bool.and_eq_true, decide_eq_true_eq, decide_eq_true_eq] at h
  exact ⟨h.1, h.2.1⟩
/-! ### the law's text -/
def F_law_text : DF := fun ds q _ => ∃ (ss : List Str) (b : List Entry), ds = [.lst (ss.map D.str), bookD b] ∧ BookOk b ∧ ss.length = b.length ∧ (∀ z ∈ ss, z.length ≤ 8) ∧ q (.str (textS ss b))
theorem s__law_text : ∀ ds q x, F_law_text ds q x → ds.length = 2 ∧ t__law_text { nx := fun _ => q .non, rt := q, ex := x } (startE 7 ds) := by
  rintro ds q x ⟨ss, b, rfl, hb, hsl, hs, hq⟩
  refine ⟨rfl, ?_⟩
  have hle := hb.le
  unfold t__law_text
  refine w_seq fun k hk => ?_
  walk_at "v14"
  refine hk _ (w_seq fun k hk => ?_)
  walk_at "v14"
  refine ⟨by omega, by omega, for_range (fun n env => ∃ o3 o4 o5 o6, env = [.val (.lst (ss.map D.str)), .val (bookD b), .own (((List.range n).map fun i => lineS ss (ss.getD i Str.empty) (b.getD i [])).map D.str), o3, o4, o5, o6]) ⟨_, _, _, _, rfl⟩ ?_ ?_⟩
  · rintro n hn env k2 ⟨o3, o4, o5, o6, rfl⟩ hk2
    have he := List.mem_of_getElem? (getD_get hn)
    refine ⟨_, rfl, w_seq fun k3 hk3 => ?_⟩
    walk_at "v14"
    have sn := getS_le hs n
    have e2 : (ss.getD n Str.empty ++ ":" : Str).length = (ss.getD n Str.empty).length + 1 := by
      show ((ss.getD n Str.empty).cps ++ #[58]).size = (ss.getD n Str.empty).cps.size + 1
      simp
    have ea : addA (.str (ss.getD n Str.empty)) (.str ":") = some (.str (ss.getD n Str.empty ++ ":")) := by
      have : addD (.str (ss.getD n Str.empty)) (.str ":") = some (.str (ss.getD n Str.empty ++ ":")) := if_pos (by show _ + 1 ≤ _; omega)
      show (addD _ _).or _ = _
      rw [this]; rfl
    refine ⟨_, ix_strsL (show n < ss.length by omega), _, ea, by decide, hk3 _ (w_seq fun k3 hk3 => ?_)⟩
    walk_at "v14"
    refine .inr ⟨_, ix_book (getD_get hn), _, rfl, ?_⟩
    refine for_inv wayD (fun l env => ∃ o5 o6 pr, env = [.val (.lst (ss.map D.str)), .val (bookD b), .own (((List.range n).map fun i => lineS ss (ss.getD i Str.empty) (b.getD i [])).map D.str), .val (.int (n : Nat)), .own (((ss.getD n Str.empty ++ ":") :: pr.map (wordS ss)).map D.str), o5, o6] ∧ pr ++ l = b.getD n []) ⟨_, _, [], rfl, rfl⟩ ?_ ?_
    · rintro w l env k4 hw ⟨o5, o6, pr, rfl, hpr⟩ hk4
      have ew := hb.way _ he w hw
      have wl := asc_short ew.asc ew.lt
      have hpl : pr.length < 64 := by
        have := hb.len _ he
        rw [← hpr, List.length_append] at this
        omega
      refine ⟨_, rfl, ?_⟩
      walk_at "v14"
      have step : ∀ o6, k4 [.val (.lst (ss.map D.str)), .val (bookD b), .own (((List.range n).map fun i => lineS ss (ss.getD i Str.empty) (b.getD i [])).map D.str), .val (.int (n : Nat)), .own (D.str (ss.getD n Str.empty ++ ":") :: ((pr.map (wordS ss)).map D.str ++ [D.str (wordS ss w)])), .val (wayD w), o6] := fun o6 => by
        refine hk4 _ ⟨.val (wayD w), o6, pr ++ [w], ?_, by rw [List.append_assoc]; exact hpr⟩
        simp
      refine ⟨by omega, ?_⟩
      unfold wordS at step
      by_cases c : w = []
      · rw [if_pos c] at step ⊢
        exact step _
      · rw [if_neg c] at step ⊢
        refine ⟨by omega, lc_all (fun i : Nat => D.int (i : Nat)) (fun i => D.str (ss.getD i Str.empty)) (fun i hm => ⟨_, rfl, fun Q hQ => ?_⟩) ?_⟩
        · walk_at "v14"
          exact ⟨_, ix_strsL (by have := ew.lt i hm; omega), hQ⟩
        · have e : (w.map fun i => D.str (ss.getD i Str.empty)) = (w.map fun i => ss.getD i Str.empty).map D.str := by
            rw [List.map_map]
            rfl
          rw [e]
          refine ⟨_, _, rfl, strsOf_mapT _, ?_, step _⟩
          rw [List.length_map]
          have := (word_le hs (show w.length ≤ 24 by omega)).2
          show _ + w.length * 1 ≤ _
          omega
    · rintro env ⟨o5, o6, pr, rfl, hpr⟩
      rw [List.append_nil] at hpr
      subst hpr
      refine hk3 _ ?_
      walk_at "v14"
      have hw24 : ∀ w ∈ b.getD n [], w.length ≤ 24 := fun w hw => by
        have ew := hb.way _ he w hw
        have := asc_short ew.asc ew.lt
        omega
      refine ⟨by omega, _, _, rfl, strsOf_mapT ((ss.getD n Str.empty ++ ":") :: (b.getD n []).map (wordS ss)), Nat.le_trans (line_le hs sn (hb.len _ he) hw24).2 (by decide), ?_⟩
      refine hk2 _ ⟨.val (.int (n : Nat)), .own (((ss.getD n Str.empty ++ ":") :: (b.getD n []).map (wordS ss)).map D.str), o5, o6, ?_⟩
      rw [List.range_succ, List.map_append, List.map_append]
      rfl
  · rintro env ⟨o3, o4, o5, o6, rfl⟩
    refine hk _ ?_
    walk_at "v14"
    exact ⟨_, _, rfl, strsOf_mapT _, Nat.le_trans (text_le hs hb).2 (by decide), hq⟩

def NamesOk (n : Nat) (ss : List Str) : Prop := ss.length = n ∧ (∀ z ∈ ss, nameS z = true) ∧ ss.Nodup
def F_names : DF := fun ds q _ => ∃ n m : Nat, ds = [.pen, .int (n : Nat), .int (m : Nat)] ∧ n ≤ 24 ∧ 1 ≤ m ∧ m ≤ 8 ∧ ∀ ss, NamesOk n ss → q (.lst (ss.map D.str))
def xyzL : List Nat := [97, 98, 99, 120, 121, 122]
theorem abc_at : ∀ k, k < 6 → ∃ c, c ∈ xyzL ∧ ixSD (.str "abcxyz") (.int (k : Nat)) = some (.str ⟨#[c]⟩) := by
  intro k hk
  have h : k = 0 ∨ k = 1 ∨ k = 2 ∨ k = 3 ∨ k = 4 ∨ k = 5 := by omega
  rcases h with rfl | rfl | rfl | rfl | rfl | rfl
  · exact ⟨97, by decide, rfl⟩
  · exact ⟨98, by decide, rfl⟩
  · exact ⟨99, by decide, rfl⟩
  · exact ⟨120, by decide, rfl⟩
  · exact ⟨121, by decide, rfl⟩
  · exact ⟨122, by decide, rfl⟩
theorem let_at (k : Nat) (hk : k < 24) : ixSD (.str "abcdefghijklmnopqrstuvwx") (.int (k : Nat)) = some (.str ⟨#[97 + k]⟩) := by
  have e : ∀ k : Fin 24, atI ("abcdefghijklmnopqrstuvwx" : Str).cps.toList ((k.val : Nat) : Int) = some (97 + k.val) := by decide
  have e' := e ⟨k, hk⟩
  show (if ("abcdefghijklmnopqrstuvwx" : Str).length ≤ 16777216 then (atI ("abcdefghijklmnopqrstuvwx" : Str).cps.toList ((k : Nat) : Int)).map (fun c => D.str ⟨#[c]⟩) else none) = _
  rw [if_pos (by decide), e']
  rfl
theorem cut1 {z : Str} : (cutS z none (some 1)).cps.toList = z.cps.toList.take 1 := by
  have h0 : HT.sIx z.length 0 none = 0 := rfl
  have h1 : HT.sIx z.length z.length (some 1) = min 1 z.length := by
    unfold HT.sIx
    simp
  unfold cutS
  show ((z.cps.toList.drop (HT.sIx z.length 0 none)).take (HT.sIx z.length z.length (some 1) - HT.sIx z.length 0 none)).toArray.toList = _
  rw [h0, h1, List.drop_zero, Nat.sub_zero, List.toList_toArray]
  have hl : z.cps.toList.length = z.length := by simp [Str.length]
  by_cases c : 1 ≤ z.length
  · rw [Nat.min_eq_left c]
  · rw [Nat.min_eq_right (by omega), List.take_of_length_le (by omega), List.take_of_length_le (by omega)]
theorem str_app (a b : Str) : (a ++ b).cps.toList = a.cps.toList ++ b.cps.toList := by
  show (a.cps ++ b.cps).toList = _
  simp
theorem str_eq {a b : Str} (h : a.cps.toList = b.cps.toList) : a = b := by
  obtain ⟨⟨l⟩⟩ := a
  obtain ⟨⟨m⟩⟩ := b
  have : l = m := h
  rw [this]
theorem str_lenN (z : Str) : z.length = z.cps.toList.length := by simp [Str.length]
theorem az_small : ∀ c ∈ azL, c < 128 := by decide
theorem xyz_az : ∀ c ∈ xyzL, c ∈ azL ∧ c ≠ 113 := by decide
theorem nameS_ok {z : Str} (h1 : 1 ≤ z.length) (h2 : z.length ≤ 8) (h3 : ∀ c ∈ z.cps.toList, c ∈ azL) : nameS z = true := by
  unfold nameS
  rw [decide_eq_true h1, decide_eq_true h2, Bool.true_and, Bool.true_and, List.all_eq_true]
  exact fun c hc => decide_eq_true (h3 c hc)
theorem nameS_az {z : Str} (h : nameS z = true) : ∀ c ∈ z.cps.toList, c ∈ azL := by
  unfold nameS at h
  rw [Bool.and_eq_true, Bool.and_eq_true] at h
  exact fun c hc => of_decide_eq_true (List.all_eq_true.mp h.2.2 c hc)
theorem strOk_of {z : Str} (h : ∀ c ∈ z.cps.toList, c < 1114112) : PyData.strOk z = true := by
  unfold PyData.strOk
  rw [← Array.all_toList, List.all_eq_true]
  exact fun c hc => decide_eq_true (h c hc)
theorem strOk_name {z : Str} (h : nameS z = true) : PyData.strOk z = true := strOk_of fun c hc => by have := az_small c (nameS_az h c hc); omega
theorem pts_strs {n : Nat} : ∀ {ss : List Str}, (∀ z ∈ ss, PyData.strOk z = true) → pts (ss.map D.str) n = true
  | [], _ => rfl
  | z :: ss, h => by
    show (PyData.strOk z && pts (ss.map D.str) n) = true
    rw [h z List.mem_cons_self, pts_strs fun y hy => h y (List.mem_cons_of_mem _ hy)]
    rfl
theorem mem_strs {z : Str} {ss : List Str} : D.str z ∈ ss.map D.str ↔ z ∈ ss := by
  rw [List.mem_map]
  exact ⟨fun ⟨y, h, e⟩ => by cases e; exact h, fun h => ⟨z, h, rfl⟩⟩
theorem in_strsN {z : Str} {ss : List Str} (hz : PyData.strOk z = true) (hs : ∀ y ∈ ss, PyData.strOk y = true) : inD (.str z) (.lst (ss.map D.str)) = some (.bl (decide (z ∈ ss))) ∧ notInD (.str z) (.lst (ss.map D.str)) = some (.bl (!decide (z ∈ ss))) := by
  obtain ⟨c, ⟨_, e⟩, hc⟩ := inB_pt (x := .str z) (show PyData.strOk z = true from hz) (pts_strs (n := 63) hs)
  rw [mem_strs] at hc
  have : c = decide (z ∈ ss) := by rw [Bool.eq_iff_iff, hc, decide_eq_true_eq]
  subst this
  unfold inD notInD
  rw [e]
  exact ⟨rfl, rfl⟩
/-- how the names are made -/
def Good (p : Nat) (z : Str) : Prop := (∀ c r, z.cps.toList = c :: r → c ≠ 113) ∨ ∃ k, k < p ∧ ∃ r, z.cps.toList = 113 :: (97 + k) :: r
theorem addS {a b : Str} (h : a.length + b.length ≤ 1000) : addA (.str a) (.str b) = some (.str (a ++ b)) := by
  have : addD (.str a) (.str b) = some (.str (a ++ b)) := if_pos (by omega)
  show (addD _ _).or _ = _
  rw [this]; rfl
theorem s__law_names : ∀ ds q x, F_names ds q x → ds.length = 3 ∧ t__law_names F__law_draw { nx := fun _ => q .non, rt := q, ex := x } (startE 7 ds) := by
  rintro ds q x ⟨n, m, rfl, hn, m1, m8, hq⟩
  refine ⟨rfl, ?_⟩
  unfold t__law_names
  refine w_seq fun k hk => ?_
  walk_at "v14"
  refine hk _ (w_seq fun k hk => ?_)
  walk_at "v14"
  refine ⟨by omega, by omega, for_range (fun p env => ∃ ss o4 o5 o6, env = [.val .pen, .val (.int (n : Nat)), .val (.int (m : Nat)), .own (ss.map D.str), o4, o5, o6] ∧ NamesOk p ss ∧ ∀ z ∈ ss, Good p z) ⟨[], _, _, _, rfl, ⟨rfl, by simp, .nil⟩, by simp⟩ ?_ ?_⟩
  · rintro p hp env k2 ⟨ss, o4, o5, o6, rfl, ⟨hl, hs, hnd⟩, hg⟩ hk2
    refine ⟨_, rfl, w_seq fun k3 hk3 => ?_⟩
    walk_at "v14"
    refine hk3 _ (w_seq fun k3 hk3 => ?_)
    walk_at "v14"
    refine ⟨by decide, by decide, by decide, fun i3 hi3 => ?_⟩
    obtain ⟨M, hM1, hM8, eM⟩ : ∃ M : Nat, 1 ≤ M ∧ M ≤ 8 ∧ ixD (.lst [.int 1, .int 2, .int (m : Nat)]) (.int (i3 : Nat)) = some (.int (M : Nat)) := by
      have : i3 = 0 ∨ i3 = 1 ∨ i3 = 2 := by omega
      rcases this with rfl | rfl | rfl
      · exact ⟨1, by decide, by decide, rfl⟩
      · exact ⟨2, by decide, by decide, rfl⟩
      · exact ⟨m, m1, m8, rfl⟩
    refine ⟨_, eM, ?_⟩
    walk_at "v14"
    refine ⟨by omega, by omega, fun r hr => ?_⟩
    refine ⟨_, rfl, _, rfl, by omega, by omega, ?_⟩
    rw [show ((1 : Int) + ((r : Nat) : Int)).toNat = r + 1 by omega]
    refine for_range (fun t env => ∃ (z : Str) (o6 : EV), env = [.val .pen, .val (.int (n : Nat)), .val (.int (m : Nat)), .own (ss.map D.str), .val (.int (p : Nat)), .val (.str z), o6] ∧ z.cps.toList.length = t ∧ ∀ c ∈ z.cps.toList, c ∈ xyzL) ⟨"", _, rfl, rfl, fun c hc => (by cases (show c ∈ ([] : List Nat) from hc))⟩ ?_ ?_
    · rintro t ht env k4 ⟨z, o6, rfl, hz1, hz2⟩ hk4
      refine ⟨_, rfl, ?_⟩
      walk_at "v14"
      refine ⟨by decide, by decide, fun j hj => ?_⟩
      obtain ⟨c, hc, ec⟩ := abc_at j (by omega)
      have zl : z.length = t := by rw [str_lenN]; exact hz1
      refine ⟨_, ec, _, addS (by rw [zl]; show t + 1 ≤ 1000; omega), hk4 _ ⟨_, _, rfl, ?_, fun d hd => ?_⟩⟩
      · rw [str_app, List.length_append, hz1]; rfl
      · rw [str_app] at hd
        rcases List.mem_append.mp hd with q | q
        · exact hz2 d q
        · rw [List.mem_singleton.mp q]; exact hc
    · rintro env ⟨z, o6, rfl, hz1, hz2⟩
      have zl : z.length = r + 1 := by rw [str_lenN]; exact hz1
      have zn : nameS z = true := nameS_ok (by omega) (by omega) fun c hc => (xyz_az c (hz2 c hc)).1
      have put : ∀ y : Str, nameS y = true → y ∉ ss → Good (p + 1) y → k2 [.val .pen, .val (.int (n : Nat)), .val (.int (m : Nat)), .own (ss.map D.str ++ [.str y]), .val (.int (p : Nat)), .val (.str y), o6] := fun y y1 y2 y3 => by
        refine hk2 _ ⟨ss ++ [y], .val (.int (p : Nat)), .val (.str y), o6, by rw [List.map_append]; rfl, ⟨by rw [List.length_append, hl]; rfl, fun w hw => ?_, ?_⟩, fun w hw => ?_⟩
        · rcases List.mem_append.mp hw with q | q
          · exact hs w q
          · rw [List.mem_singleton.mp q]; exact y1
        · rw [List.nodup_append]
          refine ⟨hnd, by simp, fun a ha b hb => ?_⟩
          rw [List.mem_singleton.mp hb]
          intro q
          rw [q] at ha
          exact y2 ha
        · rcases List.mem_append.mp hw with q | q
          · rcases hg w q with g | ⟨k, h1, h2⟩
            · exact .inl g
            · exact .inr ⟨k, by omega, h2⟩
          · rw [List.mem_singleton.mp q]; exact y3
      have isin := in_strsN (strOk_name zn) fun y hy => strOk_name (hs y hy)
      refine hk3 _ (w_seq fun k4 hk4 => w_if fun A B hA hB => ?_)
      walk_at "v14"
      rw [isin.1]
      walk_at "v14"
      have ssl : ss.length < 16777216 := by omega
      by_cases c : z ∈ ss
      · rw [if_pos c]
        refine hA ?_
        walk_at "v14"
        have cl : (cutS z none (some 1)).length = 1 := by rw [str_lenN, cut1, List.length_take, hz1]; omega
        have e1 : addA (.str "q") (.str ⟨#[97 + p]⟩) = some (.str ("q" ++ ⟨#[97 + p]⟩)) := addS (by show 1 + 1 ≤ 1000; decide)
        have e2 : addA (.str ("q" ++ ⟨#[97 + p]⟩)) (.str (cutS z none (some 1))) = some (.str (("q" ++ ⟨#[97 + p]⟩) ++ cutS z none (some 1))) := addS (by rw [cl]; show 2 + 1 ≤ 1000; decide)
        refine ⟨_, let_at p (by omega), _, e1, z, rfl, by omega, _, e2, hk4 _ ?_⟩
        have el : (("q" ++ ⟨#[97 + p]⟩ : Str) ++ cutS z none (some 1)).cps.toList = 113 :: (97 + p) :: z.cps.toList.take 1 := by
          rw [str_app, str_app, cut1]
          rfl
        walk_at "v14"
        refine ⟨ssl, put _ ?_ ?_ ?_⟩
        · refine nameS_ok ?_ ?_ ?_
          · rw [str_lenN, el]; simp
          · rw [str_lenN, el]; simp; omega
          · rw [el]
            intro d hd
            rcases List.mem_cons.mp hd with q | hd
            · rw [q]; decide
            · rcases List.mem_cons.mp hd with q | hd
              · rw [q]
                have : ∀ k : Fin 24, 97 + k.val ∈ azL := by decide
                exact this ⟨p, by omega⟩
              · exact (xyz_az d (hz2 d (List.mem_of_mem_take hd))).1
        · intro q
          rcases hg _ q with g | ⟨k, h1, r', h2⟩
          · exact g _ _ el rfl
          · rw [el] at h2
            have := (List.cons.inj (List.cons.inj h2).2).1
            omega
        · exact .inr ⟨p, by omega, _, el⟩
      · rw [if_neg c]
        refine hB (hk4 _ ?_)
        walk_at "v14"
        refine ⟨ssl, put z zn c (.inl fun a r' e => (xyz_az a (hz2 a (by rw [e]; exact List.mem_cons_self))).2)⟩
  · rintro env ⟨ss, o4, o5, o6, rfl, hss, hg⟩
    refine hk _ ?_
    walk_at "v14"
    exact hq ss hss

local macro_rules | `(tactic| walk_at "v15") => `(tactic| try simp only [dVar_app, dC_app, dOp_app, dTest_app, dChain_app, dAnd_app, dOr_app, dNot_app, dAndT_app, dOrT_app, dNotT_app, dIf_app, dNil_app, dCons_app, dTup_app, dLst_app, dCall_app, dBlt_app, dIsi_app, dNoPart_app, dPart_app, dSl_app, dNext_app, dBreak_app, dCont_app, dRet_app, dRetOwn_app, dRetN_app, dDrop_app, dFreeze_app, dSet_app, dFLst_app, dOfF_app, dSetOwn_app, dAppend_app, dInsert_app, dFNil_app, dFVal_app, dFOwn_app, dPar_app, dUnpack_app, iSeq_app, iRange1_app, iRange2_app, dFor_app, dYes_app, dLc_app, dNeg_app, dSetLcV_app, dNever_app, iEnumD_app, dFld_app, dMeth0_app, dProp_app, dRaise_app, dMake_app, dDc_app, dDGet_app, dLocked_app, iKeysD_app, dPenGet_app, dPenSet_app, dRetPen_app, dRev_app, dJoin_app, dDict0_app, dDict1_app, dInC_app, dBits_app, ex_false, nD_snoc, and1N, bitP1, bitP0, has_way_ap, first_way_ap, eqD_int, neD_int, addN, add1N, orN, andN, xorN, ltN, gtN, shrN, inn, notInn, inlst, notinlst, eqD_way, neD_way, eqD_nonway, eqD_waynon, eqD_lst, neD_lst, eqD_bl, isN_way, isNot_way, isN_non, isNot_non, isN_int, isNot_int, len_way, len_book, len_masks, len_entry, len_lst, len_tup, tup_lst, tup_tup, tup_way, lst_way, lst_lst, int_int, way_nD, all_bl, any_bl, rngD_nD, rngD_len, len_nD, Int.toNat_natCast, ex_nil', ex_cons', ex_val, ex_vald, ex_bl, ex_sbl, ex_int, ex_lst, ex_tup, ex_own, ex_vtup, no_lt, no_tl, ex_way_lst, ex_way_tup, ex_book_lst, ex_book_tup, ex_entry_lst, ex_entry_tup, ex_fld_book, ex_fld_ways, len_ap, mask_of_ap, items_of_ap, all_items_ap, lies_within_ap, is_set_ap, is_item_ap, draw_ap, pen_ap, book_ap, init_ap, beq_self_eq_true, reduceCtorEq, if_false, Nat.zero_le, allVal, wipeE, setE, RF.ev, R.d, R.isVal, noLst, startE, List.map_cons, List.map_nil, List.set_cons_zero, List.set_cons_succ, List.getElem?_cons_zero, List.getElem?_cons_succ, List.length_cons, List.length_nil, List.replicate, List.cons_append, List.nil_append, List.append_nil, List.length_map, List.length_range, Nat.reduceSub, Nat.reduceAdd, Bool.not_true, Bool.not_false, Bool.not_not, Bool.false_eq_true, if_true, if_false, decide_eq_true_eq, eq_self, true_and, and_true, true_or, or_true, false_or, or_false, false_and, and_false, Bool.not_eq_true', decide_eq_false_iff_not, ite_not, exists_eq_left, exists_eq_left', eqD_lst_nil])
/-! ### ranks: shorter first, then the order of Python -/
theorem rankF_ge : ∀ (w : List Nat) (r : Nat), r * 24 ^ w.length ≤ rankF r w
  | [], r => by simp [rankF]
  | i :: w, r => by
    have h := rankF_ge w (r * 24 + i)
    show r * 24 ^ (w.length + 1) ≤ rankF (r * 24 + i) w
    refine Nat.le_trans ?_ h
    rw [Nat.pow_succ, Nat.mul_comm (24 ^ w.length) 24, ← Nat.mul_assoc]
    exact Nat.mul_le_mul_right _ (by omega)
theorem rankF_lt : ∀ (w : List Nat) (r : Nat), (∀ i ∈ w, i < 24) → rankF r w < (r + 1) * 24 ^ w.length
  | [], r, _ => by simp [rankF]
  | i :: w, r, h => by
    have h1 := rankF_lt w (r * 24 + i) fun j hj => h j (List.mem_cons_of_mem _ hj)
    have hi := h i List.mem_cons_self
    show rankF (r * 24 + i) w < (r + 1) * 24 ^ (w.length + 1)
    refine Nat.lt_of_lt_of_le h1 ?_
    rw [Nat.pow_succ, Nat.mul_comm (24 ^ w.length) 24, ← Nat.mul_assoc]
    exact Nat.mul_le_mul_right _ (by omega)
theorem rankN_len {u v : List Nat} (hu : ∀ i ∈ u, i < 24) (h : u.length < v.length) : rankN u < rankN v := by
  unfold rankN
  refine Nat.lt_of_lt_of_le (rankF_lt u _ hu) (Nat.le_trans ?_ (rankF_ge v _))
  exact Nat.mul_le_mul h (Nat.pow_le_pow_right (by decide) (Nat.le_of_lt h))
theorem foldW_nd : ∀ {ws qs : List (List Nat)}, (qs.map fun w => (rankN w : Int)).Nodup → ((ws.foldl addW qs).map fun w => (rankN w : Int)).Nodup
  | [], _, h => h
  | w :: ws, qs, h => by
    rw [List.foldl_cons]
    refine foldW_nd ?_
    unfold addW
    split
    · exact h
    · rename_i c
      rw [List.map_append]
      refine List.nodup_append.mpr ⟨h, by simp, fun x hx y hy e => ?_⟩
      rw [List.map_cons, List.map_nil, List.mem_singleton] at hy
      subst hy e
      obtain ⟨v, hv, e⟩ := List.mem_map.mp hx
      exact c (List.any_eq_true.mpr ⟨v, hv, decide_eq_true (by omega)⟩)
def Ranked (L : List (List Nat)) : Prop := L.Pairwise fun u v => rankN u < rankN v
def F_in_orderX : DF := fun ds q _ => ∃ ws : List (List Nat), ds = [.tup (ws.map wayD)] ∧ (∀ w ∈ ws, Way24 w) ∧ ws.length < 64 ∧ ∀ L : List (List Nat), (∀ w, w ∈ L ↔ w ∈ ws) → L.length ≤ ws.length → Ranked L → q (.lst (L.map wayD))
theorem s_in_orderX : ∀ ds q x, F_in_orderX ds q x → ds.length = 1 ∧ t_in_order F_rank_of { nx := fun _ => q .non, rt := q, ex := x } (startE 4 ds) := by
  rintro ds q x ⟨ws, rfl, hw, hl, hq⟩
  refine ⟨rfl, ?_⟩
  simp only [t_in_order, dSeq, dSet, dDc, iSeq, dVar, dRet, dOfF, dLc, startE, List.map, List.length, List.replicate, List.cons_append, List.nil_append, List.getElem?_cons_zero, List.getElem?_cons_succ, R.d]
  refine .inr ⟨_, rfl, by simp; omega, ?_⟩
  refine l_ranked _ _ (fun d => rfl) ws [] (by simp) hw ?_
  obtain ⟨m1, m2⟩ := foldW (ws := ws) (qs := []) (by simp) hw
  have m3 := foldW_nd (ws := ws) (qs := []) (by simp)
  generalize ws.foldl addW [] = qs at m1 m2 m3 ⊢
  refine ⟨_, rfl, ?_⟩
  left
  have hqs : ∀ v ∈ qs, Way24 v := fun v hv => hw v (((m1 v).mp hv).elim (fun z => by simp at z) id)
  have hlen : qs.length < 64 := by simp at m2; omega
  simp only [dBlt, dCons, dNil, dLocked, iKeysD, dVar, dLc, List.set_cons_zero, List.set_cons_succ, List.getElem?_cons_zero, List.getElem?_cons_succ]
  refine ⟨_, _, rfl, fun od kvs hk => ?_⟩
  refine ⟨od, kvs, rfl, ?_, ?_⟩
  · have := congrArg List.length hk
    simp at this
    simp
    omega
  have hkd : kvs.map (fun p => dKey p.1) = iD (qs.map fun w => (rankN w : Int)) := by
    have e1 : kvs.map (fun p => dKey p.1) = (kvs.map (·.1)).map dKey := by rw [List.map_map]; rfl
    rw [e1, hk]
    unfold iD
    rw [List.map_map, List.map_map, List.map_map]
    rfl
  rw [hkd]
  refine lc_map (f := id) (fun d hd q hq => ?_) ?_
  · obtain ⟨n, _, rfl⟩ := List.mem_map.mp hd
    exact ⟨_, rfl, hq⟩
  rw [List.map_id]
  refine ⟨_, rfl, by show noDls _ = true; exact noDls_iD _, ?_⟩
  refine ⟨.lst (iD (sortI (qs.map fun w => (rankN w : Int)))), ?_, _, rfl, ?_, ?_⟩
  · show sortedF [.lst (iD _)] = _
    unfold sortedF
    simp only [intsOf_iD]
    rw [if_pos (by simp; omega)]
    rfl
  · have := (sortI_perm (qs.map fun w => (rankN w : Int))).length_eq
    simp [iD] at this ⊢
    omega
  have hmem : ∀ r ∈ sortI (qs.map fun w => (rankN w : Int)), r ∈ qs.map fun w => (rankN w : Int) := fun r hr => (sortI_perm _).mem_iff.mp hr
  refine lc_map (f := fun d => match d with | .int r => wayD (lookW qs r) | _ => .non) (fun d hd q hq => ?_) ?_
  · obtain ⟨r, hr, rfl⟩ := List.mem_map.mp hd
    exact ⟨_, _, _, _, rfl, rfl, lk_way (hmem r hr), hq⟩
  refine ⟨_, rfl, ?_⟩
  have e2 : (iD (sortI (qs.map fun w => (rankN w : Int)))).map (fun d => match d with | .int r => wayD (lookW qs r) | _ => .non) = ((sortI (qs.map fun w => (rankN w : Int))).map (lookW qs)).map wayD := by
    unfold iD
    rw [List.map_map, List.map_map]
    rfl
  rw [e2]
  refine hq _ (fun w => ?_) ?_ ?_
  · have hw' : w ∈ qs ↔ w ∈ ws := by rw [m1 w]; simp
    rw [← hw', List.mem_map]
    constructor
    · rintro ⟨r, hr, rfl⟩
      exact (lookW_mem (hmem r hr)).1
    · intro h
      have hr : (rankN w : Int) ∈ qs.map fun w => (rankN w : Int) := List.mem_map.mpr ⟨w, h, rfl⟩
      refine ⟨rankN w, (sortI_perm _).mem_iff.mpr hr, ?_⟩
      obtain ⟨a, b⟩ := lookW_mem hr
      exact rankN_inj (hqs _ a) (hqs w h) (by omega)
  · rw [List.length_map, (sortI_perm _).length_eq, List.length_map]
    simp at m2
    exact m2
  · refine List.pairwise_map.mpr ?_
    have nd : (sortI (qs.map fun w => (rankN w : Int))).Nodup := (sortI_perm _).nodup_iff.mpr m3
    have so := sortI_sorted (qs.map fun w => (rankN w : Int))
    have both := so.and nd
    refine List.Pairwise.imp_of_mem ?_ both
    rintro r1 r2 h1 h2 ⟨le, ne⟩
    have a := (lookW_mem (hmem r1 h1)).2
    have b := (lookW_mem (hmem r2 h2)).2
    omega

/-! ### the tidy form, told apart -/
/-- T: the least ways of ws, ranked -/
structure TidyX (T ws : List (List Nat)) : Prop where
  rk : Ranked T
  mem : ∀ w, w ∈ T ↔ w ∈ ws ∧ ∀ u ∈ ws, (∀ i ∈ u, i ∈ w) → u = w
  len : T.length ≤ ws.length
theorem Ranked.ext : ∀ {L M : List (List Nat)}, Ranked L → Ranked M → (∀ w, w ∈ L ↔ w ∈ M) → L = M
  | [], [], _, _, _ => rfl
  | [], m :: M, _, _, h => absurd ((h m).mpr List.mem_cons_self) (by simp)
  | l :: L, [], _, _, h => absurd ((h l).mp List.mem_cons_self) (by simp)
  | l :: L, m :: M, hL, hM, h => by
    obtain ⟨l1, l2⟩ := List.pairwise_cons.mp hL
    obtain ⟨m1, m2⟩ := List.pairwise_cons.mp hM
    have e : l = m := by
      have a := (h l).mp List.mem_cons_self
      have b := (h m).mpr List.mem_cons_self
      rcases List.mem_cons.mp a with a | a
      · exact a
      · rcases List.mem_cons.mp b with b | b
        · exact b.symm
        · have x := l1 m b
          have y := m1 l a
          omega
    subst e
    congr 1
    refine Ranked.ext l2 m2 fun w => ⟨fun hw => ?_, fun hw => ?_⟩
    · rcases List.mem_cons.mp ((h w).mp (List.mem_cons_of_mem _ hw)) with z | z
      · subst z; exact absurd (l1 w hw) (Nat.lt_irrefl _)
      · exact z
    · rcases List.mem_cons.mp ((h w).mpr (List.mem_cons_of_mem _ hw)) with z | z
      · subst z; exact absurd (m1 w hw) (Nat.lt_irrefl _)
      · exact z
theorem sub_rank {u w : List Nat} (hu : u.Pairwise (· < ·)) (hw : w.Pairwise (· < ·)) (h24 : ∀ i ∈ w, i < 24) (h : ∀ i ∈ u, i ∈ w) : u = w ∨ rankN u < rankN w := by
  by_cases l : u.length < w.length
  · exact .inr (rankN_len (fun i hi => h24 i (h i hi)) l)
  · refine .inl ?_
    exact asc_sub_len hu hw h (by omega)
theorem tidyL_X : ∀ (ws kept pre : List (List Nat)), Ranked (pre ++ ws) → (∀ w ∈ pre ++ ws, w.Pairwise (· < ·) ∧ ∀ i ∈ w, i < 24) → Ranked kept → (∀ w, w ∈ kept ↔ w ∈ pre ∧ ∀ u ∈ pre, (∀ i ∈ u, i ∈ w) → u = w) → (∀ u ∈ pre, ∃ k ∈ kept, ∀ i ∈ k, i ∈ u) →
    Ranked (tidyL kept ws) ∧ ∀ w, w ∈ tidyL kept ws ↔ w ∈ pre ++ ws ∧ ∀ u ∈ pre ++ ws, (∀ i ∈ u, i ∈ w) → u = w
  | [], kept, pre, _, _, hk, hm, _ => by
    rw [List.append_nil]
    exact ⟨hk, hm⟩
  | w :: ws, kept, pre, hr, hw, hk, hm, hc => by
    have e : pre ++ w :: ws = (pre ++ [w]) ++ ws := by simp
    rw [e] at hr hw ⊢
    have rp : ∀ x ∈ pre, rankN x < rankN w := fun x hx => by
      have h1 := (List.pairwise_append.mp (List.pairwise_append.mp hr).1).2.2
      exact h1 x hx w (by simp)
    have okw : w.Pairwise (· < ·) ∧ ∀ i ∈ w, i < 24 := hw w (by simp)
    have okp : ∀ x ∈ pre, x.Pairwise (· < ·) ∧ ∀ i ∈ x, i < 24 := fun x hx => hw x (by simp [hx])
    have nsub : ∀ x ∈ pre, ¬ ∀ i ∈ w, i ∈ x := fun x hx z => by
      rcases sub_rank okw.1 (okp x hx).1 (okp x hx).2 z with y | y
      · subst y; exact absurd (rp w hx) (Nat.lt_irrefl _)
      · have := rp x hx; omega
    unfold tidyL
    by_cases c : kept.any (holds w) = true
    · rw [if_pos c]
      obtain ⟨k, hkk, kw⟩ := List.any_eq_true.mp c
      have kw := holds_iff.mp kw
      refine tidyL_X ws kept (pre ++ [w]) hr hw hk (fun x => ?_) (fun u hu => ?_)
      · constructor
        · intro hx
          obtain ⟨a, b⟩ := (hm x).mp hx
          refine ⟨List.mem_append_left _ a, fun u hu hux => ?_⟩
          rcases List.mem_append.mp hu with z | z
          · exact b u z hux
          · rw [List.mem_singleton] at z
            subst z
            exact absurd hux (nsub x a)
        · rintro ⟨a, b⟩
          rcases List.mem_append.mp a with z | z
          · exact (hm x).mpr ⟨z, fun u hu => b u (List.mem_append_left _ hu)⟩
          · rw [List.mem_singleton] at z
            subst z
            have kp := ((hm k).mp hkk).1
            have := b k (List.mem_append_left _ kp) kw
            subst this
            exact absurd (rp k kp) (Nat.lt_irrefl _)
      · rcases List.mem_append.mp hu with z | z
        · exact hc u z
        · rw [List.mem_singleton] at z
          subst z
          exact ⟨k, hkk, kw⟩
    · rw [if_neg c]
      have no : ∀ u ∈ pre, ¬ ∀ i ∈ u, i ∈ w := fun u hu z => by
        obtain ⟨k, hkk, ku⟩ := hc u hu
        exact c (List.any_eq_true.mpr ⟨k, hkk, holds_iff.mpr fun i hi => z i (ku i hi)⟩)
      refine tidyL_X ws (kept ++ [w]) (pre ++ [w]) hr hw (List.pairwise_append.mpr ⟨hk, by simp, fun a ha b hb => by
        rw [List.mem_singleton] at hb
        subst hb
        exact rp a ((hm a).mp ha).1⟩) (fun x => ?_) (fun u hu => ?_)
      · constructor
        · intro hx
          rcases List.mem_append.mp hx with hx | hx
          · obtain ⟨a, b⟩ := (hm x).mp hx
            refine ⟨List.mem_append_left _ a, fun u hu hux => ?_⟩
            rcases List.mem_append.mp hu with z | z
            · exact b u z hux
            · rw [List.mem_singleton] at z
              subst z
              exact absurd hux (nsub x a)
          · rw [List.mem_singleton] at hx
            subst hx
            refine ⟨by simp, fun u hu hux => ?_⟩
            rcases List.mem_append.mp hu with z | z
            · exact absurd hux (no u z)
            · exact List.mem_singleton.mp z
        · rintro ⟨a, b⟩
          rcases List.mem_append.mp a with z | z
          · exact List.mem_append_left _ ((hm x).mpr ⟨z, fun u hu => b u (List.mem_append_left _ hu)⟩)
          · exact List.mem_append_right _ z
      · rcases List.mem_append.mp hu with z | z
        · obtain ⟨k, a, b⟩ := hc u z
          exact ⟨k, List.mem_append_left _ a, b⟩
        · exact ⟨u, List.mem_append_right _ z, fun i hi => hi⟩
def F_tidyX : DF := fun ds q _ => ∃ ws : List (List Nat), ds = [.tup (ws.map wayD)] ∧ (∀ w ∈ ws, w.Pairwise (· < ·) ∧ Way24 w) ∧ ws.length < 64 ∧ ∀ T, TidyX T ws → q (.tup (T.map wayD))
theorem s_tidyX : ∀ ds q x, F_tidyX ds q x → ds.length = 1 ∧ t_tidy F_in_orderX F_has_way F_mask_of { nx := fun _ => q .non, rt := q, ex := x } (startE 4 ds) := by
  rintro ds q x ⟨ws, rfl, hw, hl, hq⟩
  refine ⟨rfl, ?_⟩
  simp only [t_tidy, dSeq, dSetOwn, dFLst, dNil, dFor, iSeq, dCall, dCons, dVar, dRet, dBlt, startE, List.map, List.length, List.replicate, List.cons_append, List.nil_append, List.set_cons_zero, List.set_cons_succ, List.getElem?_cons_zero, List.getElem?_cons_succ, R.d]
  refine ⟨[], rfl, by decide, [], rfl, by decide, .inl ⟨ws, rfl, fun w h => (hw w h).2, hl, fun L hL hlen hR => ⟨.inl rfl, L.map wayD, rfl, rfl, ?_⟩⟩⟩
  have hL24 : ∀ w ∈ L, Way24 w := fun w h => (hw w ((hL w).mp h)).2
  refine l_tidy _ _ L [] .no hL24 (by simp; omega) fun o => ?_
  simp only [List.set_cons_zero, List.set_cons_succ, List.getElem?_cons_zero, List.getElem?_cons_succ]
  obtain ⟨h1, h2, h3, h4⟩ := tidyL_ok L []
  obtain ⟨r1, r2⟩ := tidyL_X L [] [] hR (fun w h => hw w ((hL w).mp h)) .nil (by simp) (by simp)
  refine ⟨_, rfl, _, rfl, hq _ ⟨r1, fun w => ?_, ?_⟩⟩
  · rw [r2 w, List.nil_append, hL w]
    exact and_congr Iff.rfl ⟨fun h u hu => h u ((hL u).mpr hu), fun h u hu => h u ((hL u).mp hu)⟩
  · simp at h4; omega
theorem TidyX.tidy {T ws : List (List Nat)} (h : TidyX T ws) (hw : ∀ w ∈ ws, w.Pairwise (· < ·) ∧ ∀ i ∈ w, i < 24) : Tidy T ws := by
  refine ⟨fun k hk => ((h.mem k).mp hk).1, fun w hw' => ?_, h.len⟩
  -- the least in rank within w
  have key : ∀ (n : Nat) (w : List Nat), rankN w = n → w ∈ ws → ∃ k ∈ T, ∀ i ∈ k, i ∈ w := by
    intro n
    induction n using Nat.strongRecOn with
    | ind n ih =>
      intro w e hw'
      by_cases m : ∀ u ∈ ws, (∀ i ∈ u, i ∈ w) → u = w
      · exact ⟨w, (h.mem w).mpr ⟨hw', m⟩, fun i hi => hi⟩
      · apply Classical.byContradiction
        intro no
        apply m
        intro u hu hs
        rcases sub_rank (hw u hu).1 (hw w hw').1 (hw w hw').2 hs with z | z
        · exact z
        · obtain ⟨k, hk, hki⟩ := ih (rankN u) (by omega) u rfl hu
          exact absurd ⟨k, hk, fun i hi => hs i (hki i hi)⟩ no
  exact key _ w rfl hw'
theorem allX_tidy : ∀ {kb b : List Entry}, All2 TidyX kb b → (∀ e ∈ b, ∀ w ∈ e, w.Pairwise (· < ·) ∧ ∀ i ∈ w, i < 24) → TidyB kb b
  | _, _, .nil, _ => .nil
  | _, _, .cons h r, hw => .cons (h.tidy (hw _ List.mem_cons_self)) (allX_tidy r fun e he => hw e (List.mem_cons_of_mem _ he))
def F_initT (C : Addr) : DF := fun ds q _ => ∃ b, ds = [bookD b] ∧ BookOk b ∧ ∀ kb, All2 TidyX kb b → q (crsD C kb)
theorem s_initT (C X : Addr) : ∀ ds q x, F_initT C ds q x → ds.length + 1 = 2 ∧ t_Course___init__ C X F_is_ways F_tidyX F_masks_of ((.no : EV) :: startE 2 ds) [] [] (fun ns es => q (.ins C ns es)) x := by
  rintro ds q x ⟨b, rfl, hb, hq⟩
  refine ⟨rfl, ?_⟩
  have b24 : ∀ e ∈ b, ∀ w ∈ e, Way24 w := fun e he w hw i hi => by
    have := (hb.way e he w hw).lt i hi
    have := hb.le
    omega
  simp only [t_Course___init__, dnIf, dNotT, dTest, dCall, dCons, dNil, dVar, dC, dnSet, dnNil, startE, List.map, List.length, Nat.reduceSub, List.replicate, List.cons_append, List.nil_append, List.set_cons_zero, List.set_cons_succ, List.getElem?_cons_zero, List.getElem?_cons_succ, R.d, dBlt, dOfF, dLc, iSeq, dFld]
  refine ⟨bookD b, 24, rfl, pls_book b, .inl rfl, _, rfl, ?_⟩
  rw [isWays_ok hb]
  simp only [Bool.not_true, Bool.false_eq_true, if_false]
  refine ⟨by simp, by decide, .inr ⟨_, rfl, by have := hb.le; simp; omega, ?_⟩⟩
  have main : ∀ (l : List Entry) (env : SE) (q : List D → Prop), (∀ e ∈ l, (∀ w ∈ e, w.Pairwise (· < ·) ∧ Way24 w) ∧ e.length < 64) → (∀ d, (env.set 2 (.val d))[2]? = some (.val d)) → (∀ kb, All2 TidyX kb l → q (kb.map entryD)) → dLcL (gN 2) dYes (dCall F_tidyX (dCons (dVar 2) dNil)) (l.map entryD) env q := by
    intro l
    induction l with
    | nil => intro env q _ _ h; exact h [] .nil
    | cons e l ih =>
      intro env q hw he h
      refine ⟨_, rfl, ?_⟩
      simp only [dYes, if_true, dCall, dCons, dNil, dVar, he, List.map, R.d]
      refine ⟨e, rfl, (hw e List.mem_cons_self).1, (hw e List.mem_cons_self).2, fun kept tk => ⟨.inl rfl, _, rfl, ih env _ (fun v hv => hw v (List.mem_cons_of_mem _ hv)) he fun kb hk => ?_⟩⟩
      exact h (kept :: kb) (.cons tk hk)
  refine main b _ _ (fun e he => ⟨fun w hw => ⟨(hb.way e he w hw).asc, b24 e he w hw⟩, hb.len e he⟩) (fun d => rfl) fun kb hk0 => ?_
  have hk : TidyB kb b := allX_tidy hk0 fun e he w hw => ⟨(hb.way e he w hw).asc, b24 e he w hw⟩
  have kb24 : ∀ {kb l : List Entry}, TidyB kb l → (∀ e ∈ l, (∀ w ∈ e, Way24 w) ∧ e.length < 64) → (∀ e ∈ kb, (∀ w ∈ e, Way24 w) ∧ e.length < 64) ∧ kb.length = l.length := by
    intro kb l h
    induction h with
    | nil => intro _; exact ⟨fun e h => by simp at h, rfl⟩
    | @cons k e kb l h1 h2 ih =>
      intro hl
      obtain ⟨a1, a2⟩ := ih fun e he => hl e (List.mem_cons_of_mem _ he)
      refine ⟨fun e' he => ?_, by simp [a2]⟩
      rcases List.mem_cons.mp he with rfl | he
      · obtain ⟨z1, z2⟩ := hl e List.mem_cons_self
        exact ⟨fun w hw => z1 w (h1.sub w hw), by have := h1.len; omega⟩
      · exact a1 e' he
  obtain ⟨k1, k2⟩ := kb24 hk fun e he => ⟨b24 e he, hb.len e he⟩
  refine ⟨.tup (kb.map entryD), rfl, _, rfl, nl_book kb, ?_⟩
  refine ⟨fun g hg => by rw [List.mem_singleton.mp hg]; decide +kernel, by simp, .inr ⟨_, _, _, rfl, rfl, kb.map entryD, rfl, ?_, ?_⟩⟩
  · have := hb.le; simp; omega
  have main2 : ∀ (l : List Entry) (env : SE) (q : List D → Prop), (∀ e ∈ l, (∀ w ∈ e, Way24 w) ∧ e.length < 64) → (∀ d, (env.set 2 (.val d))[2]? = some (.val d)) → q (l.map fun e => .tup (nD (e.map maskN))) → dLcL (gN 2) dYes (dCall F_masks_of (dCons (dVar 2) dNil)) (l.map entryD) env q := by
    intro l
    induction l with
    | nil => intro env q _ _ h; exact h
    | cons e l ih =>
      intro env q hw he h
      refine ⟨_, rfl, ?_⟩
      simp only [dYes, if_true, dCall, dCons, dNil, dVar, he, List.map, R.d]
      exact ⟨e, rfl, (hw e List.mem_cons_self).1, by have := (hw e List.mem_cons_self).2; omega, .inl rfl, _, rfl, ih env _ (fun v hv => hw v (List.mem_cons_of_mem _ hv)) he h⟩
  refine main2 kb _ _ k1 (fun d => rfl) ?_
  exact ⟨_, rfl, _, rfl, nl_masks kb, hq kb hk0⟩

local macro_rules | `(tactic| walk_at "v16") => `(tactic| try simp only [dVar_app, dC_app, dOp_app, dTest_app, dChain_app, dAnd_app, dOr_app, dNot_app, dAndT_app, dOrT_app, dNotT_app, dIf_app, dNil_app, dCons_app, dTup_app, dLst_app, dCall_app, dBlt_app, dIsi_app, dNoPart_app, dPart_app, dSl_app, dNext_app, dBreak_app, dCont_app, dRet_app, dRetOwn_app, dRetN_app, dDrop_app, dFreeze_app, dSet_app, dFLst_app, dOfF_app, dSetOwn_app, dAppend_app, dInsert_app, dFNil_app, dFVal_app, dFOwn_app, dPar_app, dUnpack_app, iSeq_app, iRange1_app, iRange2_app, dFor_app, dYes_app, dLc_app, dNeg_app, dSetLcV_app, dNever_app, iEnumD_app, dFld_app, dMeth0_app, dProp_app, dRaise_app, dMake_app, dDc_app, dDGet_app, dLocked_app, iKeysD_app, dPenGet_app, dPenSet_app, dRetPen_app, dRev_app, dJoin_app, dDict0_app, dDict1_app, dInC_app, dBits_app, ex_false, nD_snoc, and1N, bitP1, bitP0, has_way_ap, first_way_ap, eqD_int, neD_int, addN, add1N, orN, andN, xorN, ltN, gtN, shrN, inn, notInn, inlst, notinlst, eqD_way, neD_way, eqD_nonway, eqD_waynon, eqD_lst, neD_lst, eqD_bl, isN_way, isNot_way, isN_non, isNot_non, isN_int, isNot_int, len_way, len_book, len_masks, len_entry, len_lst, len_tup, tup_lst, tup_tup, tup_way, lst_way, lst_lst, int_int, way_nD, all_bl, any_bl, rngD_nD, rngD_len, len_nD, Int.toNat_natCast, ex_nil', ex_cons', ex_val, ex_vald, ex_bl, ex_sbl, ex_int, ex_lst, ex_tup, ex_own, ex_vtup, no_lt, no_tl, ex_way_lst, ex_way_tup, ex_book_lst, ex_book_tup, ex_entry_lst, ex_entry_tup, ex_fld_book, ex_fld_ways, len_ap, mask_of_ap, items_of_ap, all_items_ap, lies_within_ap, is_set_ap, is_item_ap, draw_ap, pen_ap, book_ap, init_ap, beq_self_eq_true, reduceCtorEq, if_false, Nat.zero_le, allVal, wipeE, setE, RF.ev, R.d, R.isVal, noLst, startE, List.map_cons, List.map_nil, List.set_cons_zero, List.set_cons_succ, List.getElem?_cons_zero, List.getElem?_cons_succ, List.length_cons, List.length_nil, List.replicate, List.cons_append, List.nil_append, List.append_nil, List.length_map, List.length_range, Nat.reduceSub, Nat.reduceAdd, Bool.not_true, Bool.not_false, Bool.not_not, Bool.false_eq_true, if_true, if_false, decide_eq_true_eq, eq_self, true_and, and_true, true_or, or_true, false_or, or_false, false_and, and_false, Bool.not_eq_true', decide_eq_false_iff_not, ite_not, exists_eq_left, exists_eq_left', eqD_lst_nil, neD_lst_nil, row_ap, natCast_eq, tup_nil, isi_way, in_entry, notin_entry, in_ways, notin_ways, ways_snoc, neD_int, dTupRg_app, dIndex_app, dRevL_app, iRevRg_app, dCmpC_app, dBinC_app, dIsC_app, isC_ins])
/-! ### common orders that one book alone lets grow -/
/-! ### whether every state of one course is a state of the other one -/
/-! ### the signs -/
/-! ### states grow item by item -/
/-! ### the states of a course for a learner who is in a state -/
/-! ### without -/
/-! ### greatest states of the changed courses -/
local macro_rules | `(tactic| walk_at "v17") => `(tactic| try simp only [dVar_app, dC_app, dOp_app, dTest_app, dChain_app, dAnd_app, dOr_app, dNot_app, dAndT_app, dOrT_app, dNotT_app, dIf_app, dNil_app, dCons_app, dTup_app, dLst_app, dCall_app, dBlt_app, dIsi_app, dNoPart_app, dPart_app, dSl_app, dNext_app, dBreak_app, dCont_app, dRet_app, dRetOwn_app, dRetN_app, dDrop_app, dFreeze_app, dSet_app, dFLst_app, dOfF_app, dSetOwn_app, dAppend_app, dInsert_app, dFNil_app, dFVal_app, dFOwn_app, dPar_app, dUnpack_app, iSeq_app, iRange1_app, iRange2_app, dFor_app, dYes_app, dLc_app, dNeg_app, dSetLcV_app, dNever_app, iEnumD_app, dFld_app, dMeth0_app, dProp_app, dRaise_app, dMake_app, dDc_app, dDGet_app, dLocked_app, iKeysD_app, dPenGet_app, dPenSet_app, dRetPen_app, dRev_app, dJoin_app, dDict0_app, dDict1_app, dInC_app, dBits_app, ex_false, nD_snoc, and1N, bitP1, bitP0, has_way_ap, first_way_ap, eqD_int, neD_int, addN, add1N, orN, andN, xorN, ltN, gtN, shrN, inn, notInn, inlst, notinlst, eqD_way, neD_way, eqD_nonway, eqD_waynon, eqD_lst, neD_lst, eqD_bl, isN_way, isNot_way, isN_non, isNot_non, isN_int, isNot_int, len_way, len_book, len_masks, len_entry, len_lst, len_tup, tup_lst, tup_tup, tup_way, lst_way, lst_lst, int_int, way_nD, all_bl, any_bl, rngD_nD, rngD_len, len_nD, Int.toNat_natCast, ex_nil', ex_cons', ex_val, ex_vald, ex_bl, ex_sbl, ex_int, ex_lst, ex_tup, ex_own, ex_vtup, no_lt, no_tl, ex_way_lst, ex_way_tup, ex_book_lst, ex_book_tup, ex_entry_lst, ex_entry_tup, ex_fld_book, ex_fld_ways, len_ap, mask_of_ap, items_of_ap, all_items_ap, lies_within_ap, is_set_ap, is_item_ap, draw_ap, pen_ap, book_ap, init_ap, beq_self_eq_true, reduceCtorEq, if_false, Nat.zero_le, allVal, wipeE, setE, RF.ev, R.d, R.isVal, noLst, startE, List.map_cons, List.map_nil, List.set_cons_zero, List.set_cons_succ, List.getElem?_cons_zero, List.getElem?_cons_succ, List.length_cons, List.length_nil, List.replicate, List.cons_append, List.nil_append, List.append_nil, List.length_map, List.length_range, Nat.reduceSub, Nat.reduceAdd, Bool.not_true, Bool.not_false, Bool.not_not, Bool.false_eq_true, if_true, if_false, decide_eq_true_eq, eq_self, true_and, and_true, true_or, or_true, false_or, or_false, false_and, and_false, Bool.not_eq_true', decide_eq_false_iff_not, ite_not, exists_eq_left, exists_eq_left', eqD_lst_nil, neD_lst_nil, row_ap, natCast_eq, tup_nil, isi_way, in_entry, notin_entry, in_ways, notin_ways, ways_snoc, neD_int, dTupRg_app, dIndex_app, dRevL_app, iRevRg_app, dSaid_app, has_ap, dCmpC_app, dBinC_app, dIsC_app, dLstRg_app])
/-! ### answers -/
def Fit (kb : List Entry) (ys ns w : List Nat) : Prop := StW kb w ∧ (∀ i ∈ ys, i ∈ w) ∧ ∀ i ∈ ns, i ∉ w
structure Ans (kb : List Entry) (ys ns : List Nat) : Prop where
  ya : ys.Pairwise (· < ·)
  yl : ∀ i ∈ ys, i < kb.length
  na : ns.Pairwise (· < ·)
  nl : ∀ i ∈ ns, i < kb.length
  fit : ∃ w, Fit kb ys ns w
theorem Ans.dis {kb : List Entry} {ys ns : List Nat} (h : Ans kb ys ns) : ∀ i ∈ ys, i ∉ ns := fun i hi z => by
  obtain ⟨w, _, h2, h3⟩ := h.fit
  exact h3 i z (h2 i hi)
theorem Fit.sub {kb : List Entry} {ys ns w : List Nat} {r : Nat} (hn : ∀ i ∈ ns, i < kb.length) (hr : Grt [mskB kb] (restM kb.length ns) r) (h : Fit kb ys ns w) : ∀ i ∈ w, i ∈ bitsN r := greatest_holds hn hr h.1 fun i hi z => h.2.2 i z hi
theorem Ans.top {kb : List Entry} {ys ns : List Nat} {r : Nat} (h : Ans kb ys ns) (hr : Grt [mskB kb] (restM kb.length ns) r) : Fit kb ys ns (bitsN r) := by
  obtain ⟨w, hw⟩ := h.fit
  exact ⟨StW.of_greatest h.nl hr, fun i hi => hw.sub h.nl hr i (hw.2.1 i hi), fun i hi z => (mem_bits_greatest h.nl hr z).2 hi⟩
theorem ne_str {s t : Str} (h : s ≠ t) : D.str s ≠ D.str t := fun e => h (D.str.inj e)
/-! ### which items are sure, out, open -/
/-! ### reasons -/
/-! ### the package's reasons are reasons -/
local macro_rules | `(tactic| walk_at "v18") => `(tactic| try simp only [dVar_app, dC_app, dOp_app, dTest_app, dChain_app, dAnd_app, dOr_app, dNot_app, dAndT_app, dOrT_app, dNotT_app, dIf_app, dNil_app, dCons_app, dTup_app, dLst_app, dCall_app, dBlt_app, dIsi_app, dNoPart_app, dPart_app, dSl_app, dNext_app, dBreak_app, dCont_app, dRet_app, dRetOwn_app, dRetN_app, dDrop_app, dFreeze_app, dSet_app, dFLst_app, dOfF_app, dSetOwn_app, dAppend_app, dInsert_app, dFNil_app, dFVal_app, dFOwn_app, dPar_app, dUnpack_app, iSeq_app, iRange1_app, iRange2_app, dFor_app, dYes_app, dLc_app, dNeg_app, dSetLcV_app, dNever_app, iEnumD_app, dFld_app, dMeth0_app, dProp_app, dRaise_app, dMake_app, dDc_app, dDGet_app, dLocked_app, iKeysD_app, dPenGet_app, dPenSet_app, dRetPen_app, dRev_app, dJoin_app, dDict0_app, dDict1_app, dInC_app, dBits_app, ex_false, nD_snoc, and1N, bitP1, bitP0, has_way_ap, first_way_ap, eqD_int, neD_int, addN, add1N, orN, andN, xorN, ltN, gtN, shrN, inn, notInn, inlst, notinlst, eqD_way, neD_way, eqD_nonway, eqD_waynon, eqD_lst, neD_lst, eqD_bl, isN_way, isNot_way, isN_non, isNot_non, isN_int, isNot_int, len_way, len_book, len_masks, len_entry, len_lst, len_tup, tup_lst, tup_tup, tup_way, lst_way, lst_lst, int_int, way_nD, all_bl, any_bl, rngD_nD, rngD_len, len_nD, Int.toNat_natCast, ex_nil', ex_cons', ex_val, ex_vald, ex_bl, ex_sbl, ex_int, ex_lst, ex_tup, ex_own, ex_vtup, no_lt, no_tl, ex_way_lst, ex_way_tup, ex_book_lst, ex_book_tup, ex_entry_lst, ex_entry_tup, ex_fld_book, ex_fld_ways, len_ap, mask_of_ap, items_of_ap, all_items_ap, lies_within_ap, is_set_ap, is_item_ap, draw_ap, pen_ap, book_ap, init_ap, beq_self_eq_true, reduceCtorEq, if_false, Nat.zero_le, allVal, wipeE, setE, RF.ev, R.d, R.isVal, noLst, startE, List.map_cons, List.map_nil, List.set_cons_zero, List.set_cons_succ, List.getElem?_cons_zero, List.getElem?_cons_succ, List.length_cons, List.length_nil, List.replicate, List.cons_append, List.nil_append, List.append_nil, List.length_map, List.length_range, Nat.reduceSub, Nat.reduceAdd, Bool.not_true, Bool.not_false, Bool.not_not, Bool.false_eq_true, if_true, if_false, decide_eq_true_eq, eq_self, true_and, and_true, true_or, or_true, false_or, or_false, false_and, and_false, Bool.not_eq_true', decide_eq_false_iff_not, ite_not, exists_eq_left, exists_eq_left', eqD_lst_nil, neD_lst_nil, row_ap, natCast_eq, tup_nil, isi_way, in_entry, notin_entry, in_ways, notin_ways, ways_snoc, neD_int, dTupRg_app, dIndex_app, dRevL_app, iRevRg_app, dSaid_app, has_ap, dCmpC_app, dBinC_app, dIsC_app, dLstRg_app, dRaiseF_app])
/-! ### answers that clash -/
structure Pro (kb : List Entry) (ys ns : List Nat) : Prop where
  ya : ys.Pairwise (· < ·)
  yl : ∀ i ∈ ys, i < kb.length
  na : ns.Pairwise (· < ·)
  nl : ∀ i ∈ ns, i < kb.length
  dis : ∀ i ∈ ys, i ∉ ns
/-- the first of yes that is not in the greatest state, with its noes -/
def ClashAt (kb : List Entry) (ys ns : List Nat) (i : Nat) : Prop := ∃ r, Grt [mskB kb] (restM kb.length ns) r ∧ ys.find? (fun j => !decide (j ∈ bitsN r)) = some i
theorem ClashAt.no {kb : List Entry} {ys ns : List Nat} {i : Nat} (a : ClashAt kb ys ns i) : ¬ Ans kb ys ns := fun h => by
  obtain ⟨r, h1, h2⟩ := a
  have e := List.find?_some h2
  have m := List.mem_of_find?_eq_some h2
  simp only [Bool.not_eq_true', decide_eq_false_iff_not] at e
  exact e ((h.top h1).2.1 i m)
/-- y, n: any plain values -/
def AnsC (C X Y : Addr) (kb : List Entry) (y n : D) (x : XP) (P : List Nat → List Nat → Prop) : Prop := kb.length ≤ 24 ∧ pl y = true ∧ pl n = true ∧ (isSet (kb.length : Nat) y = false ∨ isSet (kb.length : Nat) n = false → x ⟨X, none⟩) ∧
  ∀ ys ns : List Nat, y = wayD ys → n = wayD ns → ys.Pairwise (· < ·) → (∀ i ∈ ys, i < kb.length) → ns.Pairwise (· < ·) → (∀ i ∈ ns, i < kb.length) → ((∃ i ∈ ys, i ∈ ns) → x ⟨Y, none⟩) ∧ ((∀ i ∈ ys, i ∉ ns) → P ys ns)
theorem AnsC.mk {C X Y : Addr} {kb : List Entry} {ys ns : List Nat} {x : XP} {P : List Nat → List Nat → Prop} (hk : kb.length ≤ 24) (h : Pro kb ys ns) (hp : P ys ns) : AnsC C X Y kb (wayD ys) (wayD ns) x P :=
  ⟨hk, pl_way _, pl_way _, (fun z => by
    rw [isSet_of h.ya h.yl, isSet_of h.na h.nl] at z
    rcases z with z | z <;> cases z), fun ys' ns' e1 e2 _ _ _ _ => by
    cases wayD_inj e1; cases wayD_inj e2
    exact ⟨fun ⟨i, h1, h2⟩ => absurd h2 (h.dis i h1), fun _ => hp⟩⟩
theorem AnsC.imp {C X Y : Addr} {kb : List Entry} {y n : D} {x x' : XP} {P P' : List Nat → List Nat → Prop} (h : AnsC C X Y kb y n x P) (hx : ∀ e, x e → x' e) (hp : ∀ ys ns, y = wayD ys → n = wayD ns → Pro kb ys ns → P ys ns → P' ys ns) : AnsC C X Y kb y n x' P' :=
  ⟨h.1, h.2.1, h.2.2.1, fun z => hx _ (h.2.2.2.1 z), fun ys ns e1 e2 a b c d => ⟨fun z => hx _ ((h.2.2.2.2 ys ns e1 e2 a b c d).1 z), fun z => hp ys ns e1 e2 ⟨a, b, c, d, z⟩ ((h.2.2.2.2 ys ns e1 e2 a b c d).2 z)⟩⟩
/-! ### law k29 -/
theorem srt_way {u : List Nat} (hu : u.Nodup) (hl : u.length < 64) : ∃ s : List Nat, s.Pairwise (· < ·) ∧ (∀ i, i ∈ s ↔ i ∈ u) ∧ sortedF [.lst (nD u)] = some (.lst (nD s)) := by
  obtain ⟨s, hp, hs, e⟩ := sorted_nD hl
  exact ⟨s, asc_nodup hs (hp.nodup_iff.mpr hu), fun i => hp.mem_iff, e⟩
theorem eqB_str {s t : Str} (hs : PyData.strOk s = true) (ht : PyData.strOk t = true) : eqB (.str s) (.str t) = some (decide (s = t)) := by
  by_cases c : s = t
  · subst c
    have e := eqD_same (a := .str s) (by show PyData.strOk s = true; exact hs)
    unfold eqD at e
    obtain ⟨c, h1, h2⟩ := Option.map_eq_some_iff.mp e
    cases h2
    rw [h1, decide_eq_true rfl]
  · have e := eqD_not (a := .str s) (b := .str t) (by show PyData.strOk s = true; exact hs) (by show PyData.strOk t = true; exact ht) (ne_str c)
    unfold eqD at e
    obtain ⟨c', h1, h2⟩ := Option.map_eq_some_iff.mp e
    cases h2
    rw [h1, decide_eq_false c]
local macro_rules | `(tactic| walk_at "v19") => `(tactic| try simp only [dVar_app, dC_app, dOp_app, dTest_app, dChain_app, dAnd_app, dOr_app, dNot_app, dAndT_app, dOrT_app, dNotT_app, dIf_app, dNil_app, dCons_app, dTup_app, dLst_app, dCall_app, dBlt_app, dIsi_app, dNoPart_app, dPart_app, dSl_app, dNext_app, dBreak_app, dCont_app, dRet_app, dRetOwn_app, dRetN_app, dDrop_app, dFreeze_app, dSet_app, dFLst_app, dOfF_app, dSetOwn_app, dAppend_app, dInsert_app, dFNil_app, dFVal_app, dFOwn_app, dPar_app, dUnpack_app, iSeq_app, iRange1_app, iRange2_app, dFor_app, dYes_app, dLc_app, dNeg_app, dSetLcV_app, dNever_app, iEnumD_app, dFld_app, dMeth0_app, dProp_app, dRaise_app, dMake_app, dDc_app, dDGet_app, dLocked_app, iKeysD_app, dPenGet_app, dPenSet_app, dRetPen_app, dRev_app, dJoin_app, dDict0_app, dDict1_app, dInC_app, dBits_app, ex_false, nD_snoc, and1N, bitP1, bitP0, has_way_ap, first_way_ap, eqD_int, neD_int, addN, add1N, orN, andN, xorN, ltN, gtN, shrN, inn, notInn, inlst, notinlst, eqD_way, neD_way, eqD_nonway, eqD_waynon, eqD_lst, neD_lst, eqD_bl, isN_way, isNot_way, isN_non, isNot_non, isN_int, isNot_int, len_way, len_book, len_masks, len_entry, len_lst, len_tup, tup_lst, tup_tup, tup_way, lst_way, lst_lst, int_int, way_nD, all_bl, any_bl, rngD_nD, rngD_len, len_nD, Int.toNat_natCast, ex_nil', ex_cons', ex_val, ex_vald, ex_bl, ex_sbl, ex_int, ex_lst, ex_tup, ex_own, ex_vtup, no_lt, no_tl, ex_way_lst, ex_way_tup, ex_book_lst, ex_book_tup, ex_entry_lst, ex_entry_tup, ex_fld_book, ex_fld_ways, len_ap, mask_of_ap, items_of_ap, all_items_ap, lies_within_ap, is_set_ap, is_item_ap, draw_ap, pen_ap, book_ap, init_ap, beq_self_eq_true, reduceCtorEq, if_false, Nat.zero_le, allVal, wipeE, setE, RF.ev, R.d, R.isVal, noLst, startE, List.map_cons, List.map_nil, List.set_cons_zero, List.set_cons_succ, List.getElem?_cons_zero, List.getElem?_cons_succ, List.length_cons, List.length_nil, List.replicate, List.cons_append, List.nil_append, List.append_nil, List.length_map, List.length_range, Nat.reduceSub, Nat.reduceAdd, Bool.not_true, Bool.not_false, Bool.not_not, Bool.false_eq_true, if_true, if_false, decide_eq_true_eq, eq_self, true_and, and_true, true_or, or_true, false_or, or_false, false_and, and_false, Bool.not_eq_true', decide_eq_false_iff_not, ite_not, exists_eq_left, exists_eq_left', eqD_lst_nil, neD_lst_nil, row_ap, natCast_eq, tup_nil, isi_way, in_entry, notin_entry, in_ways, notin_ways, ways_snoc, neD_int, dTupRg_app, dIndex_app, dRevL_app, iRevRg_app, dSaid_app, has_ap, dCmpC_app, dBinC_app, dIsC_app, dLstRg_app, dSetPopAt_app, dFLstRg_app])
/-! ### a clash is told in the same words -/
local macro_rules | `(tactic| walk_at "v20") => `(tactic| try simp only [dVar_app, dC_app, dOp_app, dTest_app, dChain_app, dAnd_app, dOr_app, dNot_app, dAndT_app, dOrT_app, dNotT_app, dIf_app, dNil_app, dCons_app, dTup_app, dLst_app, dCall_app, dBlt_app, dIsi_app, dNoPart_app, dPart_app, dSl_app, dNext_app, dBreak_app, dCont_app, dRet_app, dRetOwn_app, dRetN_app, dDrop_app, dFreeze_app, dSet_app, dFLst_app, dOfF_app, dSetOwn_app, dAppend_app, dInsert_app, dFNil_app, dFVal_app, dFOwn_app, dPar_app, dUnpack_app, iSeq_app, iRange1_app, iRange2_app, dFor_app, dYes_app, dLc_app, dNeg_app, dSetLcV_app, dNever_app, iEnumD_app, dFld_app, dMeth0_app, dProp_app, dRaise_app, dMake_app, dDc_app, dDGet_app, dLocked_app, iKeysD_app, dPenGet_app, dPenSet_app, dRetPen_app, dRev_app, dJoin_app, dDict0_app, dDict1_app, dInC_app, dBits_app, ex_false, nD_snoc, and1N, bitP1, bitP0, has_way_ap, first_way_ap, eqD_int, neD_int, addN, add1N, orN, andN, xorN, ltN, gtN, shrN, inn, notInn, inlst, notinlst, eqD_way, neD_way, eqD_nonway, eqD_waynon, eqD_lst, neD_lst, eqD_bl, isN_way, isNot_way, isN_non, isNot_non, isN_int, isNot_int, len_way, len_book, len_masks, len_entry, len_lst, len_tup, tup_lst, tup_tup, tup_way, lst_way, lst_lst, int_int, way_nD, all_bl, any_bl, rngD_nD, rngD_len, len_nD, Int.toNat_natCast, ex_nil', ex_cons', ex_val, ex_vald, ex_bl, ex_sbl, ex_int, ex_lst, ex_tup, ex_own, ex_vtup, no_lt, no_tl, ex_way_lst, ex_way_tup, ex_book_lst, ex_book_tup, ex_entry_lst, ex_entry_tup, ex_fld_book, ex_fld_ways, len_ap, mask_of_ap, items_of_ap, all_items_ap, lies_within_ap, is_set_ap, is_item_ap, draw_ap, pen_ap, book_ap, init_ap, beq_self_eq_true, reduceCtorEq, if_false, Nat.zero_le, allVal, wipeE, setE, RF.ev, R.d, R.isVal, noLst, startE, List.map_cons, List.map_nil, List.set_cons_zero, List.set_cons_succ, List.getElem?_cons_zero, List.getElem?_cons_succ, List.length_cons, List.length_nil, List.replicate, List.cons_append, List.nil_append, List.append_nil, List.length_map, List.length_range, Nat.reduceSub, Nat.reduceAdd, Bool.not_true, Bool.not_false, Bool.not_not, Bool.false_eq_true, if_true, if_false, decide_eq_true_eq, eq_self, true_and, and_true, true_or, or_true, false_or, or_false, false_and, and_false, Bool.not_eq_true', decide_eq_false_iff_not, ite_not, exists_eq_left, exists_eq_left', eqD_lst_nil, neD_lst_nil, row_ap, natCast_eq, tup_nil, isi_way, in_entry, notin_entry, in_ways, notin_ways, ways_snoc, neD_int, dTupRg_app, dIndex_app, dRevL_app, iRevRg_app, dSaid_app, has_ap, dCmpC_app, dBinC_app, dIsC_app, dLstRg_app, dSetPopAt_app, dFLstRg_app, dReprC_app, dFmt_app, dJs_nil, dJs_cons])
def F_isS : DF := fun ds q _ => ∃ a, ds = [a, a] ∧ eqD a a = some (.bl true) ∧ ReprOk a ∧ q (.bl true)
theorem s__law_isS : ∀ ds q x, F_isS ds q x → ds.length = 2 ∧ t__law_is { nx := fun _ => q .non, rt := q, ex := x } (startE 2 ds) := by
  rintro ds q x ⟨a, rfl, he, hr, hq⟩
  refine ⟨rfl, ?_⟩
  unfold t__law_is
  walk_at "v20"
  obtain ⟨s, e1, e2⟩ := hr
  rw [he]
  walk_at "v20"
  rw [e1]
  walk_at "v20"
  rw [eqD_str (by simp [SeqAt.shaped, PyData.canLay0, PyData.depth, e2])]
  walk_at "v20"
  exact hq
theorem isS_ap {a : D} {q : D → Prop} {x : XP} (he : eqD a a = some (.bl true)) (hr : ReprOk a) (h : q (.bl true)) : F_isS [a, a] q x := ⟨a, rfl, he, hr, h⟩
theorem isS_pt {a : D} {q : D → Prop} {x : XP} (ha : pt a 64 = true) (hr : ReprOk a) (h : q (.bl true)) : F_isS [a, a] q x := isS_ap (eqD_same ha) hr h
local macro_rules | `(tactic| walk_at "v21") => `(tactic| try simp only [dVar_app, dC_app, dOp_app, dTest_app, dChain_app, dAnd_app, dOr_app, dNot_app, dAndT_app, dOrT_app, dNotT_app, dIf_app, dNil_app, dCons_app, dTup_app, dLst_app, dCall_app, dBlt_app, dIsi_app, dNoPart_app, dPart_app, dSl_app, dNext_app, dBreak_app, dCont_app, dRet_app, dRetOwn_app, dRetN_app, dDrop_app, dFreeze_app, dSet_app, dFLst_app, dOfF_app, dSetOwn_app, dAppend_app, dInsert_app, dFNil_app, dFVal_app, dFOwn_app, dPar_app, dUnpack_app, iSeq_app, iRange1_app, iRange2_app, dFor_app, dYes_app, dLc_app, dNeg_app, dSetLcV_app, dNever_app, iEnumD_app, dFld_app, dMeth0_app, dProp_app, dRaise_app, dMake_app, dDc_app, dDGet_app, dLocked_app, iKeysD_app, dPenGet_app, dPenSet_app, dRetPen_app, dRev_app, dJoin_app, dDict0_app, dDict1_app, dInC_app, dBits_app, ex_false, nD_snoc, and1N, bitP1, bitP0, has_way_ap, first_way_ap, eqD_int, neD_int, addN, add1N, orN, andN, xorN, ltN, gtN, shrN, inn, notInn, inlst, notinlst, eqD_way, neD_way, eqD_nonway, eqD_waynon, eqD_lst, neD_lst, eqD_bl, isN_way, isNot_way, isN_non, isNot_non, isN_int, isNot_int, len_way, len_book, len_masks, len_entry, len_lst, len_tup, tup_lst, tup_tup, tup_way, lst_way, lst_lst, int_int, way_nD, all_bl, any_bl, rngD_nD, rngD_len, len_nD, Int.toNat_natCast, ex_nil', ex_cons', ex_val, ex_vald, ex_bl, ex_sbl, ex_int, ex_lst, ex_tup, ex_own, ex_vtup, no_lt, no_tl, ex_way_lst, ex_way_tup, ex_book_lst, ex_book_tup, ex_entry_lst, ex_entry_tup, ex_fld_book, ex_fld_ways, len_ap, mask_of_ap, items_of_ap, all_items_ap, lies_within_ap, is_set_ap, is_item_ap, draw_ap, pen_ap, book_ap, init_ap, beq_self_eq_true, reduceCtorEq, if_false, Nat.zero_le, allVal, wipeE, setE, RF.ev, R.d, R.isVal, noLst, startE, List.map_cons, List.map_nil, List.set_cons_zero, List.set_cons_succ, List.getElem?_cons_zero, List.getElem?_cons_succ, List.length_cons, List.length_nil, List.replicate, List.cons_append, List.nil_append, List.append_nil, List.length_map, List.length_range, Nat.reduceSub, Nat.reduceAdd, Bool.not_true, Bool.not_false, Bool.not_not, Bool.false_eq_true, if_true, if_false, decide_eq_true_eq, eq_self, true_and, and_true, true_or, or_true, false_or, or_false, false_and, and_false, Bool.not_eq_true', decide_eq_false_iff_not, ite_not, exists_eq_left, exists_eq_left', enD_book, natCast_eq, in_entry, notin_entry])
theorem TidyX.nil : TidyX [] [] := ⟨.nil, by simp, by simp⟩
local macro_rules | `(tactic| walk_at "v22") => `(tactic| try simp only [dVar_app, dC_app, dOp_app, dTest_app, dChain_app, dAnd_app, dOr_app, dNot_app, dAndT_app, dOrT_app, dNotT_app, dIf_app, dNil_app, dCons_app, dTup_app, dLst_app, dCall_app, dBlt_app, dIsi_app, dNoPart_app, dPart_app, dSl_app, dNext_app, dBreak_app, dCont_app, dRet_app, dRetOwn_app, dRetN_app, dDrop_app, dFreeze_app, dSet_app, dFLst_app, dOfF_app, dSetOwn_app, dAppend_app, dInsert_app, dFNil_app, dFVal_app, dFOwn_app, dPar_app, dUnpack_app, iSeq_app, iRange1_app, iRange2_app, dFor_app, dYes_app, dLc_app, dNeg_app, dSetLcV_app, dNever_app, iEnumD_app, dFld_app, dMeth0_app, dProp_app, dRaise_app, dMake_app, dDc_app, dDGet_app, dLocked_app, iKeysD_app, dPenGet_app, dPenSet_app, dRetPen_app, dRev_app, dJoin_app, dDict0_app, dDict1_app, dInC_app, dBits_app, ex_false, nD_snoc, and1N, bitP1, bitP0, has_way_ap, first_way_ap, eqD_int, neD_int, addN, add1N, orN, andN, xorN, ltN, gtN, shrN, inn, notInn, inlst, notinlst, eqD_way, neD_way, eqD_nonway, eqD_waynon, eqD_lst, neD_lst, eqD_bl, isN_way, isNot_way, isN_non, isNot_non, isN_int, isNot_int, len_way, len_book, len_masks, len_entry, len_lst, len_tup, tup_lst, tup_tup, tup_way, lst_way, lst_lst, int_int, way_nD, all_bl, any_bl, rngD_nD, rngD_len, len_nD, Int.toNat_natCast, ex_nil', ex_cons', ex_val, ex_vald, ex_bl, ex_sbl, ex_int, ex_lst, ex_tup, ex_own, ex_vtup, no_lt, no_tl, ex_way_lst, ex_way_tup, ex_book_lst, ex_book_tup, ex_entry_lst, ex_entry_tup, ex_fld_book, ex_fld_ways, len_ap, mask_of_ap, items_of_ap, all_items_ap, lies_within_ap, is_set_ap, is_item_ap, draw_ap, pen_ap, book_ap, init_ap, beq_self_eq_true, reduceCtorEq, if_false, Nat.zero_le, allVal, wipeE, setE, RF.ev, R.d, R.isVal, noLst, startE, List.map_cons, List.map_nil, List.set_cons_zero, List.set_cons_succ, List.getElem?_cons_zero, List.getElem?_cons_succ, List.length_cons, List.length_nil, List.replicate, List.cons_append, List.nil_append, List.append_nil, List.length_map, List.length_range, Nat.reduceSub, Nat.reduceAdd, Bool.not_true, Bool.not_false, Bool.not_not, Bool.false_eq_true, if_true, if_false, decide_eq_true_eq, eq_self, true_and, and_true, true_or, or_true, false_or, or_false, false_and, and_false, Bool.not_eq_true', decide_eq_false_iff_not, ite_not, exists_eq_left, exists_eq_left', eqD_lst_nil, neD_lst_nil, row_ap, natCast_eq, tup_nil, isi_way, in_entry, notin_entry, in_ways, notin_ways, ways_snoc, neD_int, dTupRg_app, dIndex_app, dRevL_app, iRevRg_app, dSaid_app, has_ap, dCmpC_app, dBinC_app, dIsC_app, dLstRg_app, dSetPopAt_app, dFLstRg_app, dReprC_app, dRaiseF_app])
local macro_rules | `(tactic| walk_at "v23") => `(tactic| try simp only [dVar_app, dC_app, dOp_app, dTest_app, dChain_app, dAnd_app, dOr_app, dNot_app, dAndT_app, dOrT_app, dNotT_app, dIf_app, dNil_app, dCons_app, dTup_app, dLst_app, dCall_app, dBlt_app, dIsi_app, dNoPart_app, dPart_app, dSl_app, dNext_app, dBreak_app, dCont_app, dRet_app, dRetOwn_app, dRetN_app, dDrop_app, dFreeze_app, dSet_app, dFLst_app, dOfF_app, dSetOwn_app, dAppend_app, dInsert_app, dFNil_app, dFVal_app, dFOwn_app, dPar_app, dUnpack_app, iSeq_app, iRange1_app, iRange2_app, dFor_app, dYes_app, dLc_app, dNeg_app, dSetLcV_app, dNever_app, iEnumD_app, dFld_app, dMeth0_app, dProp_app, dRaise_app, dMake_app, dDc_app, dDGet_app, dLocked_app, iKeysD_app, dPenGet_app, dPenSet_app, dRetPen_app, dRev_app, dJoin_app, dDict0_app, dDict1_app, dInC_app, dBits_app, ex_false, nD_snoc, and1N, bitP1, bitP0, has_way_ap, first_way_ap, eqD_int, neD_int, addN, add1N, orN, andN, xorN, ltN, gtN, shrN, inn, notInn, inlst, notinlst, eqD_way, neD_way, eqD_nonway, eqD_waynon, eqD_lst, neD_lst, eqD_bl, isN_way, isNot_way, isN_non, isNot_non, isN_int, isNot_int, len_way, len_book, len_masks, len_entry, len_lst, len_tup, tup_lst, tup_tup, tup_way, lst_way, lst_lst, int_int, way_nD, all_bl, any_bl, rngD_nD, rngD_len, len_nD, Int.toNat_natCast, ex_nil', ex_cons', ex_val, ex_vald, ex_bl, ex_sbl, ex_int, ex_lst, ex_tup, ex_own, ex_vtup, no_lt, no_tl, ex_way_lst, ex_way_tup, ex_book_lst, ex_book_tup, ex_entry_lst, ex_entry_tup, ex_fld_book, ex_fld_ways, len_ap, mask_of_ap, items_of_ap, all_items_ap, lies_within_ap, is_set_ap, is_item_ap, draw_ap, pen_ap, book_ap, init_ap, beq_self_eq_true, reduceCtorEq, if_false, Nat.zero_le, allVal, wipeE, setE, RF.ev, R.d, R.isVal, noLst, startE, List.map_cons, List.map_nil, List.set_cons_zero, List.set_cons_succ, List.getElem?_cons_zero, List.getElem?_cons_succ, List.length_cons, List.length_nil, List.replicate, List.cons_append, List.nil_append, List.append_nil, List.length_map, List.length_range, Nat.reduceSub, Nat.reduceAdd, Bool.not_true, Bool.not_false, Bool.not_not, Bool.false_eq_true, if_true, if_false, decide_eq_true_eq, eq_self, true_and, and_true, true_or, or_true, false_or, or_false, false_and, and_false, Bool.not_eq_true', decide_eq_false_iff_not, ite_not, exists_eq_left, exists_eq_left', eqD_lst_nil, neD_lst_nil, row_ap, natCast_eq, tup_nil, isi_way, in_entry, notin_entry, in_ways, notin_ways, ways_snoc, neD_int, dTupRg_app, dIndex_app, dRevL_app, iRevRg_app, dSaid_app, has_ap, dCmpC_app, dBinC_app, dIsC_app, dLstRg_app, dSetPopAt_app, dFLstRg_app, dReprC_app, dRaiseF_app, dForLam_app, dLamL_nil, dLamL_cons])
local macro_rules | `(tactic| walk_at "v24") => `(tactic| try simp only [dVar_app, dC_app, dOp_app, dTest_app, dChain_app, dAnd_app, dOr_app, dNot_app, dAndT_app, dOrT_app, dNotT_app, dIf_app, dNil_app, dCons_app, dTup_app, dLst_app, dCall_app, dBlt_app, dIsi_app, dNoPart_app, dPart_app, dSl_app, dNext_app, dBreak_app, dCont_app, dRet_app, dRetOwn_app, dRetN_app, dDrop_app, dFreeze_app, dSet_app, dFLst_app, dOfF_app, dSetOwn_app, dAppend_app, dInsert_app, dFNil_app, dFVal_app, dFOwn_app, dPar_app, dUnpack_app, iSeq_app, iRange1_app, iRange2_app, dFor_app, dYes_app, dLc_app, dNeg_app, dSetLcV_app, dNever_app, iEnumD_app, dFld_app, dMeth0_app, dProp_app, dRaise_app, dMake_app, dDc_app, dDGet_app, dLocked_app, iKeysD_app, dPenGet_app, dPenSet_app, dRetPen_app, dRev_app, dJoin_app, dDict0_app, dDict1_app, dInC_app, dBits_app, ex_false, nD_snoc, and1N, bitP1, bitP0, has_way_ap, first_way_ap, eqD_int, neD_int, addN, add1N, orN, andN, xorN, ltN, gtN, shrN, inn, notInn, inlst, notinlst, eqD_way, neD_way, eqD_nonway, eqD_waynon, eqD_lst, neD_lst, eqD_bl, isN_way, isNot_way, isN_non, isNot_non, isN_int, isNot_int, len_way, len_book, len_masks, len_entry, len_lst, len_tup, tup_lst, tup_tup, tup_way, lst_way, lst_lst, int_int, way_nD, all_bl, any_bl, rngD_nD, rngD_len, len_nD, Int.toNat_natCast, ex_nil', ex_cons', ex_val, ex_vald, ex_bl, ex_sbl, ex_int, ex_lst, ex_tup, ex_own, ex_vtup, no_lt, no_tl, ex_way_lst, ex_way_tup, ex_book_lst, ex_book_tup, ex_entry_lst, ex_entry_tup, ex_fld_book, ex_fld_ways, len_ap, mask_of_ap, items_of_ap, all_items_ap, lies_within_ap, is_set_ap, is_item_ap, draw_ap, pen_ap, book_ap, init_ap, beq_self_eq_true, reduceCtorEq, if_false, Nat.zero_le, allVal, wipeE, setE, RF.ev, R.d, R.isVal, noLst, startE, List.map_cons, List.map_nil, List.set_cons_zero, List.set_cons_succ, List.getElem?_cons_zero, List.getElem?_cons_succ, List.length_cons, List.length_nil, List.replicate, List.cons_append, List.nil_append, List.append_nil, List.length_map, List.length_range, Nat.reduceSub, Nat.reduceAdd, Bool.not_true, Bool.not_false, Bool.not_not, Bool.false_eq_true, if_true, if_false, decide_eq_true_eq, eq_self, true_and, and_true, true_or, or_true, false_or, or_false, false_and, and_false, Bool.not_eq_true', decide_eq_false_iff_not, ite_not, exists_eq_left, exists_eq_left', eqD_lst_nil, neD_lst_nil, row_ap, natCast_eq, tup_nil, isi_way, in_entry, notin_entry, in_ways, notin_ways, ways_snoc, neD_int, dTupRg_app, dIndex_app, has_ap, dCmpC_app, dBinC_app, dIsC_app])
/-! ### any row -/
theorem eqD_strs {s t : Str} (hs : PyData.strOk s = true) (ht : PyData.strOk t = true) : eqD (.str s) (.str t) = some (.bl (decide (s = t))) := by
  unfold eqD
  rw [eqB_str hs ht]
  rfl
/-! ### reasons, any values -/
def ItC (kb : List Entry) (d : D) (W : Addr) (x : XP) (P : Nat → Prop) : Prop := pl d = true ∧ (isItem (kb.length : Nat) d = false → x ⟨W, none⟩) ∧ ∀ i : Nat, d = .int (i : Nat) → i < kb.length → P i
theorem ItC.mk {kb : List Entry} {i : Nat} {W : Addr} {x : XP} {P : Nat → Prop} (hi : i < kb.length) (h : P i) : ItC kb (.int (i : Nat)) W x P := ⟨rfl, fun e => (by rw [isItem_nat hi] at e; cases e), fun j e _ => by cases natInt_inj e; exact h⟩
theorem ItC.bad {kb : List Entry} {d : D} {W : Addr} {x : XP} {P : Nat → Prop} (hd : pl d = true) (h : isItem (kb.length : Nat) d = false) (hx : x ⟨W, none⟩) : ItC kb d W x P := ⟨hd, fun _ => hx, fun i e hi => by subst e; rw [isItem_nat hi] at h; cases h⟩
theorem ItC.imp {kb : List Entry} {d : D} {W : Addr} {x x' : XP} {P P' : Nat → Prop} (h : ItC kb d W x P) (hx : ∀ e, x e → x' e) (hp : ∀ i, d = .int (i : Nat) → i < kb.length → P i → P' i) : ItC kb d W x' P' := ⟨h.1, fun z => hx _ (h.2.1 z), fun i e hi => hp i e hi (h.2.2 i e hi)⟩
/-! ### the reasons and the words agree -/
theorem difN_take {ss : List Str} : ∀ i, i ≤ ss.length → difN ss i = i → (ss.take i).Nodup
  | 0, _, _ => by simp
  | i + 1, hi, h => by
    have le := difN_le ss i
    unfold difN at h
    split at h
    · omega
    · rename_i c
      have ih := difN_take (ss := ss) i (by omega) (by omega)
      have e : ss.take (i + 1) = ss.take i ++ [ss.getD i Str.empty] := by rw [List.take_add_one, List.getElem?_eq_getElem (by omega), List.getD, List.getElem?_eq_getElem (by omega)]; rfl
      rw [e, List.nodup_append]
      refine ⟨ih, by simp, fun a ha b hb => ?_⟩
      rw [List.mem_singleton.mp hb]
      intro q
      exact c (List.any_eq_true.mpr ⟨a, ha, by rw [q]; exact beq_self_eq_true _⟩)
/-! ### texts of small signs -/
def Asc (z : Str) : Prop := ∀ c ∈ z.cps.toList, c < 128
theorem asc_name {z : Str} (h : nameS z = true) : Asc z := fun c hc => az_small c (nameS_az h c hc)
theorem asc_get {ss : List Str} (h : ∀ z ∈ ss, Asc z) (i : Nat) : Asc (ss.getD i Str.empty) := by
  rw [List.getD_eq_getElem?_getD]
  cases e : ss[i]? with
  | none => exact fun c hc => by cases (show c ∈ ([] : List Nat) from hc)
  | some z => exact h z (List.mem_of_getElem? e)
theorem asc_word {ss : List Str} (h : ∀ z ∈ ss, Asc z) (w : List Nat) : Asc (wordS ss w) := by
  unfold wordS
  split
  · exact (by decide : ∀ c ∈ ("-" : Str).cps.toList, c < 128)
  · refine join_mem (by decide) fun y hy => ?_
    obtain ⟨i, _, rfl⟩ := List.mem_map.mp hy
    exact asc_get h i
theorem asc_line {ss : List Str} (h : ∀ z ∈ ss, Asc z) {z : Str} (hz : Asc z) (e : Entry) : Asc (lineS ss z e) := by
  refine join_mem (by decide) fun y hy => ?_
  rcases List.mem_cons.mp hy with rfl | hy
  · intro c hc
    rw [str_app] at hc
    rcases List.mem_append.mp hc with q | q
    · exact hz c q
    · exact (by decide : ∀ c ∈ (":" : Str).cps.toList, c < 128) c q
  · obtain ⟨w, _, rfl⟩ := List.mem_map.mp hy
    exact asc_word h w
local macro_rules | `(tactic| walk_at "v25") => `(tactic| try simp only [dVar_app, dC_app, dOp_app, dTest_app, dChain_app, dAnd_app, dOr_app, dNot_app, dAndT_app, dOrT_app, dNotT_app, dIf_app, dNil_app, dCons_app, dTup_app, dLst_app, dCall_app, dBlt_app, dIsi_app, dNoPart_app, dPart_app, dSl_app, dNext_app, dBreak_app, dCont_app, dRet_app, dRetOwn_app, dRetN_app, dDrop_app, dFreeze_app, dSet_app, dFLst_app, dOfF_app, dSetOwn_app, dAppend_app, dInsert_app, dFNil_app, dFVal_app, dFOwn_app, dPar_app, dUnpack_app, iSeq_app, iRange1_app, iRange2_app, dFor_app, dYes_app, dLc_app, dNeg_app, dSetLcV_app, dNever_app, iEnumD_app, dFld_app, dMeth0_app, dProp_app, dRaise_app, dMake_app, dDc_app, dDGet_app, dLocked_app, iKeysD_app, dPenGet_app, dPenSet_app, dRetPen_app, dRev_app, dJoin_app, dDict0_app, dDict1_app, dInC_app, dBits_app, ex_false, nD_snoc, and1N, bitP1, bitP0, has_way_ap, first_way_ap, eqD_int, neD_int, addN, add1N, orN, andN, xorN, ltN, gtN, shrN, inn, notInn, inlst, notinlst, eqD_way, neD_way, eqD_nonway, eqD_waynon, eqD_lst, neD_lst, eqD_bl, isN_way, isNot_way, isN_non, isNot_non, isN_int, isNot_int, len_way, len_book, len_masks, len_entry, len_lst, len_tup, tup_lst, tup_tup, tup_way, lst_way, lst_lst, int_int, way_nD, all_bl, any_bl, rngD_nD, rngD_len, len_nD, Int.toNat_natCast, ex_nil', ex_cons', ex_val, ex_vald, ex_bl, ex_sbl, ex_int, ex_lst, ex_tup, ex_own, ex_vtup, no_lt, no_tl, ex_way_lst, ex_way_tup, ex_book_lst, ex_book_tup, ex_entry_lst, ex_entry_tup, ex_fld_book, ex_fld_ways, len_ap, mask_of_ap, items_of_ap, all_items_ap, lies_within_ap, is_set_ap, is_item_ap, draw_ap, pen_ap, book_ap, init_ap, beq_self_eq_true, reduceCtorEq, if_false, Nat.zero_le, allVal, wipeE, setE, RF.ev, R.d, R.isVal, noLst, startE, List.map_cons, List.map_nil, List.set_cons_zero, List.set_cons_succ, List.getElem?_cons_zero, List.getElem?_cons_succ, List.length_cons, List.length_nil, List.replicate, List.cons_append, List.nil_append, List.append_nil, List.length_map, List.length_range, Nat.reduceSub, Nat.reduceAdd, Bool.not_true, Bool.not_false, Bool.not_not, Bool.false_eq_true, if_true, if_false, decide_eq_true_eq, eq_self, true_and, and_true, true_or, or_true, false_or, or_false, false_and, and_false, Bool.not_eq_true', decide_eq_false_iff_not, ite_not, exists_eq_left, exists_eq_left', eqD_lst_nil, neD_lst_nil, row_ap, natCast_eq, tup_nil, isi_way, in_entry, notin_entry, in_ways, notin_ways, ways_snoc, neD_int, dTupRg_app, dIndex_app, has_ap, dCmpC_app, dBinC_app, dIsC_app, dRevL_app, iStrD_app, dSlS_app, dLenSet_app, dFmtS_app, dJs_nil, dJs_cons, dStar_app, dJoin_app, dFRep_app, dSplit_app, dPartn_app, dInDic_app, dSetDic_app, dPutDic_app, dRetDic_app, dInDct_app, dTupK_app, dLenSetL_app, dAppPop_app, dFList_app, dDGet_app, dRaiseF_app])
def t_name_of (F_is_name : DF) : DS := (dSeq (dUnpack [1, 2, 3] (dPartn (dOp ixD (dSplit (dVar 0) (dC (.str " "))) (dC (.int 0))) (dC (.str ":")))) (dSeq (dIfS (dAndT (dTest (dCall F_is_name (dCons (dVar 1) dNil))) (dAndT (dTest (dOp eqD (dVar 2) (dC (.str ":")))) (dTest (dOp eqD (dVar 3) (dC (.str "")))))) (dRet (dVar 1)) dNext) (dRet (dC .non))))
def t_items_by_name (F_name_of : DF) : DS := (dSeq (dSetDic 1) (dSeq (dFor (iEnumD (dVar 0)) (gTupN [2, 3]) (dSeq (dSet 4 (dCall F_name_of (dCons (dVar 3) dNil))) (dIfS (dAndT (dTest (dOp isNotA (dVar 4) (dC .non))) (dTest (dInDic true 1 (dVar 4)))) (dPutDic 1 (dVar 4) (dVar 2)) dNext))) (dRetDic 1)))
def t_way_of  : DS := (dSeq (dIfS (dTest (dOp eqD (dVar 0) (dC (.str "-")))) (dRet (dTup dNil)) dNext) (dSeq (dSet 3 (dSplit (dVar 0) (dC (.str "+")))) (dSeq (dIfS (dOrT (dNotT (dTest (dBlt allF (dCons (dOfF (dLc [4] (iSeq (dVar 3)) (gN 4) dYes (dAnd (dInDct false (dVar 4) (dVar 2)) (dOp neD (dDGet (dVar 2) (dVar 4)) (dVar 1))))) dNil)))) (dTest (dOp neD (dLenSetL (dVar 3)) (dBlt lenF (dCons (dVar 3) dNil))))) (dRet (dC .non)) dNext) (dRet (dBlt tupF (dCons (dBlt sortedF (dCons (dOfF (dLc [4] (iSeq (dVar 3)) (gN 4) dYes (dBlt intF (dCons (dDGet (dVar 2) (dVar 4)) dNil)))) dNil)) dNil))))))
def t_entry_of (F_name_of : DF) (F_way_of : DF) : DS := (dSeq (dSet 3 (dCall F_name_of (dCons (dVar 0) dNil))) (dSeq (dIfS (dOrT (dTest (dOp isA (dVar 3) (dC .non))) (dTest (dOp neD (dDGet (dVar 2) (dVar 3)) (dVar 1)))) (dRet (dC .non)) dNext) (dSeq (dSetLcV 4 (dLc [5] (iSeq (dSl (dSplit (dVar 0) (dC (.str " "))) (dPart (dC (.int 1))) dNoPart)) (gN 5) dYes (dCall F_way_of (dCons (dVar 5) (dCons (dVar 1) (dCons (dVar 2) dNil)))))) (dRet (dIf (dTest (dOp inD (dC .non) (dVar 4))) (dC .non) (dBlt tupF (dCons (dVar 4) dNil)))))))
def t_course_of (C : Addr) (X_BadText : Addr) (F_items_by_name : DF) (F_entry_of : DF) (F_Course___init__ : DF) : DS := (dSeq (dIfS (dNotT (dTest (dIsi "str" (dVar 0)))) (dRaiseF X_BadText ["line"] (dCons (dC (.int 0)) dNil)) dNext) (dSeq (dSet 1 (dSplit (dVar 0) (dC (.str "\n")))) (dSeq (dSet 2 (dCall F_items_by_name (dCons (dVar 1) dNil))) (dSeq (dSetOwn 3 (dFLst dNil)) (dSeq (dFor (iEnumD (dVar 1)) (gTupN [4, 5]) (dSeq (dSet 6 (dCall F_entry_of (dCons (dVar 5) (dCons (dVar 4) (dCons (dVar 2) dNil))))) (dSeq (dIfS (dOrT (dTest (dOp isA (dVar 6) (dC .non))) (dTest (dOp geI (dVar 4) (dC (.int 24))))) (dRaiseF X_BadText ["line"] (dCons (dOp addA (dVar 4) (dC (.int 1))) dNil)) dNext) (dAppend 3 (dVar 6))))) (dRet (dTup (dCons (dTupK (dVar 2)) (dCons (dMake C F_Course___init__ (dCons (dBlt tupF (dCons (dVar 3) dNil)) dNil)) dNil)))))))))
/-! ### parts without a sign -/
theorem az_no {z : Str} (h : nameS z = true) {c : Nat} (hc : c ∉ azL) : c ∉ TL.tl z := fun q => hc (nameS_az h c q)
theorem getN {ss : List Str} (h : ∀ z ∈ ss, nameS z = true) {i : Nat} (hi : i < ss.length) : nameS (ss.getD i Str.empty) = true := by
  rw [List.getD, List.getElem?_eq_getElem hi]
  exact h _ (List.getElem_mem _)
theorem join_no {sep : Str} {c : Nat} {ys : List Str} (hs : c ∉ TL.tl sep) (h : ∀ y ∈ ys, c ∉ TL.tl y) : c ∉ TL.tl (Txt.join sep ys) := fun q =>
  join_mem (P := fun d => d ≠ c) (fun d hd z => hs (z ▸ hd)) (fun y hy d hd z => h y hy (z ▸ hd)) c q rfl
theorem word_no {ss : List Str} (h : ∀ z ∈ ss, nameS z = true) {w : List Nat} (hw : ∀ i ∈ w, i < ss.length) {c : Nat} (hc : c ∉ azL) (h1 : c ≠ 43) (h2 : c ≠ 45) : c ∉ TL.tl (wordS ss w) := by
  unfold wordS
  split
  · intro q
    exact h2 (List.mem_singleton.mp q)
  · refine join_no (fun q => h1 (List.mem_singleton.mp q)) fun y hy => ?_
    obtain ⟨i, hi, rfl⟩ := List.mem_map.mp hy
    exact az_no (getN h (hw i hi)) hc
theorem tl_app (a b : Str) : TL.tl (a ++ b) = TL.tl a ++ TL.tl b := str_app a b
theorem head_no {z : Str} (h : nameS z = true) {c : Nat} (hc : c ∉ azL) (h1 : c ≠ 58) : c ∉ TL.tl (z ++ ":") := fun q => by
  rw [tl_app] at q
  rcases List.mem_append.mp q with q | q
  · exact az_no h hc q
  · exact h1 (List.mem_singleton.mp q)
structure RowsOk (ss : List Str) (e : Entry) : Prop where
  nm : ∀ z ∈ ss, nameS z = true
  it : ∀ w ∈ e, ∀ i ∈ w, i < ss.length
  ln : ∀ w ∈ e, w.length ≤ 24
  ew : e.length < 64
theorem line_split {ss : List Str} {z : Str} {e : Entry} (h : RowsOk ss e) (hz : nameS z = true) : Txt.split (lineS ss z e) " " = (z ++ ":") :: e.map (wordS ss) := by
  unfold lineS
  refine TL.split_join (s := 32) (S := []) rfl (by decide +kernel) (by simp) fun p hp => ?_
  rcases List.mem_cons.mp hp with rfl | hp
  · exact head_no hz (by decide) (by decide)
  · obtain ⟨w, hw, rfl⟩ := List.mem_map.mp hp
    exact word_no h.nm (h.it w hw) (by decide) (by decide) (by decide)
def F_name_of : DF := fun ds q _ => ∃ (ss : List Str) (z : Str) (e : Entry), ds = [.str (lineS ss z e)] ∧ RowsOk ss e ∧ nameS z = true ∧ q (.str z)
def F_way_of : DF := fun ds q _ => ∃ (ss : List Str) (w : List Nat) (i : Nat), ds = [.str (wordS ss w), .int (i : Nat), .dct (ss.map fun z => (Sum.inr z : Key)) (nD (List.range ss.length))] ∧ (∀ z ∈ ss, nameS z = true) ∧ ss.Nodup ∧ ss.length ≤ 24 ∧ (∀ j ∈ w, j < ss.length ∧ j ≠ i) ∧ w.Nodup ∧ ∀ v : List Nat, (∀ j, j ∈ v ↔ j ∈ w) → v.Pairwise (· < ·) → q (wayD v)
/-! ### a line, its entry -/
/-- every way of the entry lists each item once, not the entry's own -/
structure MixOk (n i : Nat) (e : Entry) : Prop where
  it : ∀ w ∈ e, w.Nodup ∧ ∀ j ∈ w, j < n ∧ j ≠ i
  ew : e.length < 64
/-- the ways of e, each in order -/
def Sorted2 (e' e : Entry) : Prop := All2 (fun v w : List Nat => (∀ j, j ∈ v ↔ j ∈ w) ∧ v.Pairwise (· < ·)) e' e
theorem MixOk.rows {ss : List Str} {n i : Nat} {e : Entry} (h : MixOk n i e) (hs : ∀ z ∈ ss, nameS z = true) (hl : ss.length = n) (hn : n ≤ 24) : RowsOk ss e := ⟨hs, fun w hw j hj => by rw [hl]; exact ((h.it w hw).2 j hj).1, fun w hw => Nat.le_trans (nodup_lt n w (h.it w hw).1 fun j hj => ((h.it w hw).2 j hj).1) hn, h.ew⟩
theorem lc_two {α β : Type} (h : α → D) (f : β → D) (P : β → α → Prop) {dg : DG} {te : DE} {env : SE} : ∀ {l : List α} {q : List D → Prop}, (∀ a ∈ l, ∃ env', dg (h a) env = some env' ∧ ∀ Q : R → Prop, (∀ b, P b a → Q (.val (f b))) → te env' Q noX) → (∀ l', All2 P l' l → q (l'.map f)) → dLcL dg dYes te (l.map h) env q
  | [], q, _, hq => hq [] .nil
  | a :: l, q, ha, hq => by
    obtain ⟨env', e1, e2⟩ := ha a List.mem_cons_self
    refine ⟨env', e1, ?_⟩
    dsimp only [dYes]
    rw [if_pos rfl]
    exact e2 _ fun b hb => ⟨_, rfl, lc_two h f P (fun c hc => ha c (List.mem_cons_of_mem _ hc)) fun l' hl => hq (b :: l') (.cons hb hl)⟩
def F_entry_of : DF := fun ds q _ => ∃ (ss : List Str) (e : Entry) (i : Nat), ds = [.str (lineS ss (ss.getD i Str.empty) e), .int (i : Nat), .dct (ss.map fun z => (Sum.inr z : Key)) (nD (List.range ss.length))] ∧ (∀ z ∈ ss, nameS z = true) ∧ ss.Nodup ∧ ss.length ≤ 24 ∧ i < ss.length ∧ MixOk ss.length i e ∧ ∀ e', Sorted2 e' e → q (entryD e')
/-! ### the names of a text -/
def linesS (ss : List Str) (b : List Entry) : List Str := (List.range ss.length).map fun i => lineS ss (ss.getD i Str.empty) (b.getD i [])
structure TxtOk (ss : List Str) (b : List Entry) : Prop where
  nm : ∀ z ∈ ss, nameS z = true
  nd : ss.Nodup
  ln : ss.length ≤ 24
  mx : ∀ i, i < ss.length → MixOk ss.length i (b.getD i [])
theorem for_rangeH (hh : Nat → D) {g : DG} {body : DS} {J : DEnds} {n : Nat} (I : Nat → SE → Prop) {env : SE} (h0 : I 0 env)
    (st : ∀ i, i < n → ∀ env (k : SE → Prop), I i env → (∀ e, I (i + 1) e → k e) → ∃ env', g (hh i) env = some env' ∧ body ⟨k, J.rt, J.nx, k, J.ex⟩ env') (e : ∀ env, I n env → J.nx env) : dForL g body J ((List.range n).map hh) env := by
  refine for_inv hh (fun l env => ∃ i, i + l.length = n ∧ l = List.range' i l.length ∧ I i env) ⟨0, by simp, by rw [List.length_range, List.range_eq_range'], h0⟩ ?_ ?_
  · rintro a r env k _ ⟨i, h1, h2, h3⟩ hk
    rw [List.length_cons] at h1 h2
    rw [List.range'_succ] at h2
    obtain ⟨e1, e2⟩ := List.cons.inj h2
    subst e1
    exact st a (by omega) env k h3 fun e he => hk e ⟨a + 1, by omega, e2, he⟩
  · rintro env ⟨i, h1, _, h3⟩
    rw [List.length_nil] at h1
    exact e env (by rw [← h1]; exact h3)
/-! ### orders -/
def F_items_by_name : DF := fun ds q _ => ∃ (ss : List Str) (b : List Entry), ds = [.lst ((linesS ss b).map D.str)] ∧ TxtOk ss b ∧ q (.dct (ss.map fun z => (Sum.inr z : Key)) (nD (List.range ss.length)))
theorem line_no {ss : List Str} {z : Str} {e : Entry} (h : RowsOk ss e) (hz : nameS z = true) : 10 ∉ TL.tl (lineS ss z e) := by
  unfold lineS
  refine join_no (by decide) fun p hp => ?_
  rcases List.mem_cons.mp hp with rfl | hp
  · exact head_no hz (by decide) (by decide)
  · obtain ⟨w, hw, rfl⟩ := List.mem_map.mp hp
    exact word_no h.nm (h.it w hw) (by decide) (by decide) (by decide)
theorem TxtOk.row {ss : List Str} {b : List Entry} (h : TxtOk ss b) {i : Nat} (hi : i < ss.length) : RowsOk ss (b.getD i []) := (h.mx i hi).rows h.nm rfl h.ln
/-! ### the course of a text -/
def F_course_of (C : Addr) : DF := fun ds q _ => ∃ (ss : List Str) (b : List Entry), ds = [.str (Txt.join "\n" (linesS ss b))] ∧ TxtOk ss b ∧ 1 ≤ ss.length ∧ (∀ (c : List Entry), c.length = ss.length → (∀ i, i < ss.length → Sorted2 (c.getD i []) (b.getD i [])) → BookOk c ∧ ∀ kb, All2 TidyX kb c → q (.tup [.tup (ss.map D.str), crsD C kb]))
/-! ### splitting at one sign -/
theorem spl_sub (s : Nat) : ∀ (l acc p : List Nat), p ∈ TL.spl [s] 0 acc l → (∀ c ∈ p, c ∈ acc ∨ c ∈ l) ∧ p.length ≤ acc.length + l.length
  | [], acc, p, h => by
    rw [TL.spl_nil, List.mem_singleton] at h
    subst h
    exact ⟨fun c hc => .inl hc, by simp⟩
  | c :: r, acc, p, h => by
    cases z : TL.pre [s] (c :: r) with
    | true =>
      rw [TL.spl_hit z] at h
      rcases List.mem_cons.mp h with e | h
      · subst e
        exact ⟨fun d hd => .inl hd, by omega⟩
      · obtain ⟨a, b⟩ := spl_sub s r [] p h
        refine ⟨fun d hd => ?_, by rw [List.length_cons]; rw [List.length_nil] at b; omega⟩
        rcases a d hd with q | q
        · cases q
        · exact .inr (List.mem_cons_of_mem _ q)
    | false =>
      rw [TL.spl_miss z] at h
      obtain ⟨a, b⟩ := spl_sub s r (acc ++ [c]) p h
      refine ⟨fun d hd => ?_, by rw [List.length_append] at b; rw [List.length_cons]; simp at b; omega⟩
      rcases a d hd with q | q
      · rcases List.mem_append.mp q with q | q
        · exact .inl q
        · exact .inr (by rw [List.mem_singleton.mp q]; exact List.mem_cons_self)
      · exact .inr (List.mem_cons_of_mem _ q)
theorem spl_some (s : Nat) : ∀ l acc : List Nat, TL.spl [s] 0 acc l ≠ []
  | [], acc => by rw [TL.spl_nil]; simp
  | c :: r, acc => by
    cases z : TL.pre [s] (c :: r) with
    | true => rw [TL.spl_hit z]; simp
    | false => rw [TL.spl_miss z]; exact spl_some s r _
theorem split_one {x y : Str} {s : Nat} (ey : TL.tl y = [s]) (hs : s < 256) : (Txt.split x y).map TL.tl = TL.spl [s] 0 [] (TL.tl x) := by
  have := TL.split_spl x y (by rw [ey]; simp) (TL.kind_ok (by
    rw [← Array.all_toList, List.all_eq_true]
    intro c hc
    have : c = s := by
      have : c ∈ TL.tl y := hc
      rw [ey] at this
      exact List.mem_singleton.mp this
    rw [this]
    exact decide_eq_true hs))
  rw [this, ey]
theorem split_sub {x y p : Str} {s : Nat} (ey : TL.tl y = [s]) (hs : s < 256) (hp : p ∈ Txt.split x y) : (∀ c ∈ TL.tl p, c ∈ TL.tl x) ∧ p.length ≤ x.length := by
  have e := split_one (x := x) ey hs
  have hm : TL.tl p ∈ TL.spl [s] 0 [] (TL.tl x) := by rw [← e]; exact List.mem_map_of_mem hp
  obtain ⟨a, b⟩ := spl_sub s _ _ _ hm
  refine ⟨fun c hc => (a c hc).elim (fun z => nomatch z) id, ?_⟩
  rw [str_lenN p, str_lenN x]
  rw [List.length_nil] at b
  show (TL.tl p).length ≤ (TL.tl x).length
  omega
theorem split_some {x y : Str} {s : Nat} (ey : TL.tl y = [s]) (hs : s < 256) : Txt.split x y ≠ [] := fun z => by
  have e := split_one (x := x) ey hs
  rw [z] at e
  exact spl_some s _ _ e.symm
/-- a text that repr can show -/
def OkT (z : Str) : Prop := Asc z ∧ z.length ≤ 1000000
theorem OkT.sub {x p : Str} (h : OkT x) (hc : ∀ c ∈ TL.tl p, c ∈ TL.tl x) (hl : p.length ≤ x.length) : OkT p := ⟨fun c h1 => h.1 c (hc c h1), Nat.le_trans hl h.2⟩
theorem OkT.ok {z : Str} (h : OkT z) : PyData.strOk z = true := strOk_of fun c hc => by have := h.1 c hc; omega
theorem par_sub (s : Nat) : ∀ (l acc a b : List Nat), TL.par [s] acc l = some (a, b) → (∀ c ∈ a, c ∈ acc ∨ c ∈ l) ∧ (∀ c ∈ b, c ∈ l) ∧ a.length + b.length ≤ acc.length + l.length
  | [], acc, a, b, h => by cases h
  | c :: r, acc, a, b, h => by
    unfold TL.par at h
    split at h
    · cases h
      refine ⟨fun d hd => .inl hd, fun d hd => List.mem_of_mem_drop hd, ?_⟩
      rw [List.length_drop, List.length_cons]
      simp
    · obtain ⟨x, y, z⟩ := par_sub s r (acc ++ [c]) a b h
      refine ⟨fun d hd => ?_, fun d hd => List.mem_cons_of_mem _ (y d hd), by rw [List.length_append] at z; simp at z; rw [List.length_cons]; omega⟩
      rcases x d hd with q | q
      · rcases List.mem_append.mp q with q | q
        · exact .inl q
        · exact .inr (by rw [List.mem_singleton.mp q]; exact List.mem_cons_self)
      · exact .inr (List.mem_cons_of_mem _ q)
theorem part_ok {x : Str} (h : OkT x) : OkT (Txt.partition x ":").1 ∧ OkT (Txt.partition x ":").2.1 ∧ OkT (Txt.partition x ":").2.2 := by
  have e0 : OkT Str.empty := ⟨(by unfold Asc; decide), (by decide)⟩
  have e1 : OkT ":" := ⟨(by unfold Asc; decide), (by decide +kernel)⟩
  rw [TL.partition_par x ":" (by decide)]
  cases z : TL.par (TL.tl (":" : Str)) [] (TL.tl x) with
  | none => exact ⟨h, e0, e0⟩
  | some p =>
    obtain ⟨a, b⟩ := p
    obtain ⟨q1, q2, q3⟩ := par_sub 58 (TL.tl x) [] a b z
    rw [List.length_nil] at q3
    have lx := str_lenN x
    have q4 : a.length + b.length ≤ x.length := by rw [lx]; show _ ≤ (TL.tl x).length; omega
    refine ⟨⟨fun c hc => ?_, ?_⟩, e1, ⟨fun c hc => ?_, ?_⟩⟩
    · rcases q1 c hc with w | w
      · cases w
      · exact h.1 c w
    · rw [str_lenN]; have := h.2; show a.length ≤ _; omega
    · exact h.1 c (q2 c hc)
    · rw [str_lenN]; have := h.2; show b.length ≤ _; omega
/-! ### the name with which a line begins -/
def nameO (s : Str) : Option Str :=
  if nameS (Txt.partition ((Txt.split s " ").headD Str.empty) ":").1 = true then
    if (Txt.partition ((Txt.split s " ").headD Str.empty) ":").2.1 = ":" then
      if (Txt.partition ((Txt.split s " ").headD Str.empty) ":").2.2 = "" then some (Txt.partition ((Txt.split s " ").headD Str.empty) ":").1 else none
    else none
  else none
def optS : Option Str → D
  | some z => .str z
  | none => .non
def F_name_ofG : DF := fun ds q _ => ∃ s : Str, ds = [.str s] ∧ OkT s ∧ q (optS (nameO s))
theorem s_name_ofG : ∀ ds q x, F_name_ofG ds q x → ds.length = 1 ∧ t_name_of F_is_name { nx := fun _ => q .non, rt := q, ex := x } (startE 4 ds) := by
  rintro ds q x ⟨s, rfl, h, hq⟩
  refine ⟨rfl, ?_⟩
  unfold t_name_of
  refine w_seq fun k hk => ?_
  walk_at "v25"
  have h2 := h.2
  have hne := split_some (x := s) (y := " ") (s := 32) rfl (by decide)
  have hd : (Txt.split s " ").getD 0 Str.empty = (Txt.split s " ").headD Str.empty := by
    cases Txt.split s " " <;> rfl
  have hl : 0 < (Txt.split s " ").length := List.length_pos_iff.mpr hne
  have hm : (Txt.split s " ").headD Str.empty ∈ Txt.split s " " := by
    cases z : Txt.split s " " with
    | nil => exact absurd z hne
    | cons a r => exact List.mem_cons_self
  obtain ⟨m1, m2⟩ := split_sub (y := " ") (s := 32) rfl (by decide) hm
  have ok := h.sub m1 m2
  obtain ⟨p1, p2, p3⟩ := part_ok ok
  refine ⟨_, rfl, _, rfl, by decide +kernel, by omega, _, ix_strsL (i := 0) hl, _, rfl, _, rfl, by decide +kernel, by rw [hd]; have := ok.2; omega, ?_⟩
  rw [hd]
  unfold nameO at hq
  generalize Txt.partition ((Txt.split s " ").headD Str.empty) ":" = pp at p1 p2 p3 hq ⊢
  refine hk _ (w_seq fun k hk => w_if fun A B hA hB => ?_)
  walk_at "v25"
  have bad : q .non → B := fun hn => hB (hk _ (by walk_at "v25"; exact hn))
  refine ⟨_, rfl, rfl, fun y hy => ?_, _, rfl, ?_⟩
  · cases hy
    exact p1.2
  by_cases c1 : nameS pp.1 = true
  · rw [if_pos (show isName (.str pp.1) = true from c1)]
    rw [if_pos c1] at hq
    refine ⟨_, eqD_strs p2.ok (by decide +kernel), _, rfl, ?_⟩
    by_cases c2 : pp.2.1 = ":"
    · rw [if_pos (decide_eq_true c2)]
      rw [if_pos c2] at hq
      refine ⟨_, eqD_strs p3.ok (by decide +kernel), _, rfl, ?_⟩
      by_cases c3 : pp.2.2 = ""
      · rw [if_pos (decide_eq_true c3)]
        rw [if_pos c3] at hq
        refine hA ?_
        walk_at "v25"
        exact hq
      · rw [if_neg (by rw [decide_eq_false c3]; exact Bool.false_ne_true)]
        rw [if_neg c3] at hq
        exact bad hq
    · rw [if_neg (by rw [decide_eq_false c2]; exact Bool.false_ne_true)]
      rw [if_neg c2] at hq
      exact bad hq
  · rw [if_neg (show ¬ isName (.str pp.1) = true from c1)]
    rw [if_neg c1] at hq
    exact bad hq
/-! ### the names of a text -/
def itemsAt (L : List Str) : Nat → List Str × List Nat
  | 0 => ([], [])
  | i + 1 => match nameO (L.getD i Str.empty) with
    | some z => if z ∈ (itemsAt L i).1 then itemsAt L i else ((itemsAt L i).1 ++ [z], (itemsAt L i).2 ++ [i])
    | none => itemsAt L i
theorem itemsAt_len (L : List Str) : ∀ i, (itemsAt L i).1.length ≤ i ∧ (itemsAt L i).2.length = (itemsAt L i).1.length
  | 0 => ⟨Nat.le_refl _, rfl⟩
  | i + 1 => by
    obtain ⟨a, b⟩ := itemsAt_len L i
    unfold itemsAt
    split
    · split
      · exact ⟨by omega, b⟩
      · exact ⟨by rw [List.length_append]; simp; omega, by rw [List.length_append, List.length_append, b]; rfl⟩
    · exact ⟨by omega, b⟩
theorem enD_strs (L : List Str) : enD (L.map D.str) = (List.range L.length).map fun i => .tup [.int (i : Nat), .str (L.getD i Str.empty)] := by
  unfold enD
  rw [List.length_map]
  refine List.map_congr_left fun i hi => ?_
  have hi' := List.mem_range.mp hi
  rw [List.getD, List.getElem?_map, List.getD, List.getElem?_eq_getElem hi']
  rfl
theorem inK_str {z : Str} {ks : List Str} : inK (.inr z) (ks.map fun z => (Sum.inr z : Key)) = decide (z ∈ ks) := by
  rw [Bool.eq_iff_iff, inK_iff, decide_eq_true_eq]
  constructor
  · intro h
    obtain ⟨y, hy, e⟩ := List.mem_map.mp h
    cases e
    exact hy
  · exact fun h => List.mem_map_of_mem h
def F_items_by_nameG : DF := fun ds q _ => ∃ L : List Str, ds = [.lst (L.map D.str)] ∧ (∀ l ∈ L, OkT l) ∧ L.length ≤ 1000000 ∧ q (.dct ((itemsAt L L.length).1.map fun z => (Sum.inr z : Key)) (nD (itemsAt L L.length).2))
theorem s_items_by_nameG : ∀ ds q x, F_items_by_nameG ds q x → ds.length = 1 ∧ t_items_by_name F_name_ofG { nx := fun _ => q .non, rt := q, ex := x } (startE 5 ds) := by
  rintro ds q x ⟨L, rfl, h, hl, hq⟩
  refine ⟨rfl, ?_⟩
  unfold t_items_by_name
  refine w_seq fun k hk => ?_
  walk_at "v25"
  refine ⟨rfl, hk _ (w_seq fun k hk => ?_)⟩
  walk_at "v25"
  rw [enD_strs]
  refine for_rangeH _ (fun i env => ∃ o2 o3 o4, env = [.val (.lst (L.map D.str)), .dic ((itemsAt L i).1.map fun z => (Sum.inr z : Key)) (nD (itemsAt L i).2), o2, o3, o4]) ⟨_, _, _, rfl⟩ ?_ ?_
  · rintro i hi env k2 ⟨o2, o3, o4, rfl⟩ hk2
    have hm : L.getD i Str.empty ∈ L := by rw [List.getD, List.getElem?_eq_getElem hi]; exact List.getElem_mem _
    have hlen := (itemsAt_len L i).1
    refine ⟨_, rfl, w_seq fun k3 hk3 => ?_⟩
    walk_at "v25"
    refine ⟨_, rfl, h _ hm, hk3 _ (w_if fun A B hA hB => ?_)⟩
    have st : itemsAt L (i + 1) = match nameO (L.getD i Str.empty) with
      | some z => if z ∈ (itemsAt L i).1 then itemsAt L i else ((itemsAt L i).1 ++ [z], (itemsAt L i).2 ++ [i])
      | none => itemsAt L i := rfl
    cases hn : nameO (L.getD i Str.empty) with
    | none =>
      rw [hn] at st
      walk_at "v25"
      refine ⟨_, rfl, _, rfl, ?_⟩
      rw [if_neg (show ¬ (!isNon (optS none)) = true from by decide)]
      refine hB ?_
      walk_at "v25"
      exact hk2 _ ⟨.val (.int (i : Nat)), .val (.str (L.getD i Str.empty)), .val (optS (nameO (L.getD i Str.empty))), by rw [st]⟩
    | some z =>
      rw [hn] at st
      walk_at "v25"
      refine ⟨_, rfl, _, rfl, ?_⟩
      rw [if_pos (show (!isNon (optS (some z))) = true from rfl)]
      refine ⟨_, _, _, rfl, rfl, ?_⟩
      rw [inK_str]
      by_cases c : z ∈ (itemsAt L i).1
      · rw [decide_eq_true c, if_neg (by decide)]
        refine hB ?_
        walk_at "v25"
        exact hk2 _ ⟨.val (.int (i : Nat)), .val (.str (L.getD i Str.empty)), .val (optS (nameO (L.getD i Str.empty))), by rw [st]; simp only [if_pos c]⟩
      · rw [decide_eq_false c, if_pos (by decide)]
        refine hA ?_
        walk_at "v25"
        have e1 : (itemsAt L (i + 1)).1.map (fun z => (Sum.inr z : Key)) = (itemsAt L i).1.map (fun z => (Sum.inr z : Key)) ++ [Sum.inr z] := by
          rw [st]; simp only [if_neg c, List.map_append, List.map_cons, List.map_nil]
        have e2 : nD (itemsAt L (i + 1)).2 = nD (itemsAt L i).2 ++ [D.int (i : Nat)] := by
          rw [st]; simp only [if_neg c]; unfold nD; rw [List.map_append]; rfl
        refine ⟨_, _, rfl, Sum.inr z, by rw [hn]; rfl, fun q => ?_, by rw [List.length_map]; omega, hk2 _ ⟨.val (.int (i : Nat)), .val (.str (L.getD i Str.empty)), .val (optS (nameO (L.getD i Str.empty))), by rw [e1, e2]⟩⟩
        obtain ⟨y, hy, e⟩ := List.mem_map.mp q
        cases e
        exact c hy
  · rintro env ⟨o2, o3, o4, rfl⟩
    refine hk _ ?_
    walk_at "v25"
    exact ⟨_, _, rfl, hq⟩
/-! ### a word -/
def plc (z : Str) : List Str → List Nat → Option Nat
  | k :: ks, p :: ps => if k = z then some p else plc z ks ps
  | _, _ => none
theorem plc_lk (z : Str) : ∀ (ks : List Str) (ps : List Nat), lkK (.inr z) (ks.map fun z => (Sum.inr z : Key)) (nD ps) = (plc z ks ps).map fun n => D.int (n : Nat)
  | [], _ => by unfold plc; rfl
  | _ :: _, [] => by unfold plc; rfl
  | k :: ks, p :: ps => by
    show (if (Sum.inr k : Key) = Sum.inr z then some (D.int (p : Nat)) else lkK (.inr z) (ks.map fun z => (Sum.inr z : Key)) (nD ps)) = _
    unfold plc
    by_cases c : k = z
    · rw [if_pos (by rw [c]), if_pos c]; rfl
    · rw [if_neg (fun q => c (Sum.inr.inj q)), if_neg c]
      exact plc_lk z ks ps
theorem plc_in {z : Str} : ∀ {ks : List Str} {ps : List Nat}, ps.length = ks.length → z ∈ ks → ∃ n, plc z ks ps = some n ∧ n ∈ ps
  | [], _, _, h => nomatch h
  | _ :: _, [], hl, _ => by simp at hl
  | k :: ks, p :: ps, hl, h => by
    unfold plc
    by_cases c : k = z
    · exact ⟨p, if_pos c, List.mem_cons_self⟩
    · rw [if_neg c]
      rcases List.mem_cons.mp h with q | q
      · exact absurd q.symm c
      · obtain ⟨n, a, b⟩ := plc_in (by simpa using hl) q
        exact ⟨n, a, List.mem_cons_of_mem _ b⟩
theorem plc_mem {z : Str} {n : Nat} : ∀ {ks : List Str} {ps : List Nat}, plc z ks ps = some n → n ∈ ps
  | [], _, h => by unfold plc at h; cases h
  | _ :: _, [], h => by unfold plc at h; cases h
  | k :: ks, p :: ps, h => by
    unfold plc at h
    split at h
    · cases h; exact List.mem_cons_self
    · exact List.mem_cons_of_mem _ (plc_mem h)
theorem plc_inj {y z : Str} {n : Nat} : ∀ {ks : List Str} {ps : List Nat}, ps.Nodup → plc y ks ps = some n → plc z ks ps = some n → y = z
  | [], _, _, h, _ => by unfold plc at h; cases h
  | _ :: _, [], _, h, _ => by unfold plc at h; cases h
  | k :: ks, p :: ps, nd, h1, h2 => by
    obtain ⟨n1, n2⟩ := List.nodup_cons.mp nd
    unfold plc at h1 h2
    split at h1
    · rename_i c1
      cases h1
      split at h2
      · rename_i c2
        exact c1.symm.trans c2
      · exact absurd (plc_mem h2) n1
    · split at h2
      · cases h2
        exact absurd (plc_mem h1) n1
      · exact plc_inj n2 h1 h2
def goodW (ks : List Str) (ps : List Nat) (i : Nat) (w : Str) : Bool :=
  (Txt.split w "+").all (fun z => decide (z ∈ ks) && !decide (plc z ks ps = some i)) && decide (difN (Txt.split w "+") (Txt.split w "+").length = (Txt.split w "+").length)
def F_way_ofG : DF := fun ds q _ => ∃ (w : Str) (ks : List Str) (ps : List Nat) (i : Nat), ds = [.str w, .int (i : Nat), .dct (ks.map fun z => (Sum.inr z : Key)) (nD ps)] ∧ OkT w ∧ w.length ≤ 900 ∧ ps.length = ks.length ∧ ps.Nodup ∧ (∀ p ∈ ps, p < 60) ∧
  (w = "-" → q (wayD [])) ∧ (w ≠ "-" → goodW ks ps i w = false → q .non) ∧ (w ≠ "-" → goodW ks ps i w = true → ∀ v : List Nat, (∀ j, j ∈ v ↔ ∃ z ∈ Txt.split w "+", plc z ks ps = some j) → v.Pairwise (· < ·) → q (wayD v))
theorem s_way_ofG : ∀ ds q x, F_way_ofG ds q x → ds.length = 3 ∧ t_way_of { nx := fun _ => q .non, rt := q, ex := x } (startE 5 ds) := by
  rintro ds q x ⟨w, ks, ps, i, rfl, ok, l9, hl, nd, h60, q1, q2, q3⟩
  refine ⟨rfl, ?_⟩
  unfold t_way_of
  refine w_seq fun k hk => w_if fun A B hA hB => ?_
  walk_at "v25"
  refine ⟨_, eqD_strs ok.ok (by decide +kernel), _, rfl, ?_⟩
  by_cases c : w = "-"
  · rw [if_pos (decide_eq_true c)]
    refine hA ?_
    walk_at "v25"
    exact q1 c
  rw [if_neg (by rw [decide_eq_false c]; exact Bool.false_ne_true)]
  replace q2 := q2 c
  replace q3 := q3 c
  refine hB (hk _ (w_seq fun k hk => ?_))
  walk_at "v25"
  refine ⟨_, rfl, _, rfl, by decide +kernel, by omega, ?_⟩
  have sl : (Txt.split w "+").length ≤ 902 := by
    have := PyProof.Rows.split_le w "+"
    omega
  unfold goodW at q2 q3
  generalize Txt.split w "+" = ns at sl q2 q3 ⊢
  refine hk _ (w_seq fun k hk => w_if fun A B hA hB => ?_)
  walk_at "v25"
  have el : ∀ z ∈ ns, ∀ Q : R → Prop, Q (.val (.bl (decide (z ∈ ks) && !decide (plc z ks ps = some i)))) → (dAnd (dInDct false (dVar 4) (dVar 2)) (dOp neD (dDGet (dVar 2) (dVar 4)) (dVar 1))) [.val (.str w), .val (.int (i : Nat)), .val (.dct (ks.map fun z => (Sum.inr z : Key)) (nD ps)), .val (.lst (ns.map D.str)), .val (.str z)] Q noX := fun z hz Q hQ => by
    walk_at "v25"
    refine ⟨_, _, _, rfl, rfl, ?_⟩
    rw [inK_str]
    by_cases m : z ∈ ks
    · obtain ⟨n, hn, _⟩ := plc_in hl m
      rw [decide_eq_true m, if_pos (by decide)]
      refine ⟨_, _, _, _, rfl, rfl, by rw [plc_lk, hn]; rfl, _, neD_int _ _, ?_⟩
      rw [decide_eq_true m, hn, Bool.true_and] at hQ
      have e : decide (((n : Nat) : Int) = (i : Nat)) = decide (some n = some i) := by
        by_cases q : n = i
        · rw [q, decide_eq_true rfl, decide_eq_true rfl]
        · rw [decide_eq_false (fun z => q (by omega)), decide_eq_false fun z => q (Option.some.inj z)]
      rw [e]
      exact hQ
    · rw [decide_eq_false m, if_neg (by decide)]
      rw [decide_eq_false m, Bool.false_and] at hQ
      exact hQ
  refine ⟨by omega, lc_all D.str (fun z => .bl (decide (z ∈ ks) && !decide (plc z ks ps = some i))) (l := ns) (fun z hz => ⟨_, rfl, fun Q hQ => el z hz Q hQ⟩) ?_⟩
  have e1 : allF [D.lst (ns.map fun z => D.bl (decide (z ∈ ks) && !decide (plc z ks ps = some i)))] = some (.bl (ns.all fun z => decide (z ∈ ks) && !decide (plc z ks ps = some i))) := by
    have z := all_bl (ns.map fun z => decide (z ∈ ks) && !decide (plc z ks ps = some i))
    rw [List.map_map, List.all_map] at z
    exact z
  refine ⟨_, e1, _, rfl, ?_⟩
  cases ca : ns.all fun z => decide (z ∈ ks) && !decide (plc z ks ps = some i) with
  | false =>
    rw [if_pos rfl]
    rw [ca, Bool.false_and] at q2
    refine hA ?_
    walk_at "v25"
    exact q2 rfl
  | true =>
    rw [if_neg (by decide)]
    rw [ca, Bool.true_and] at q2 q3
    refine ⟨ns, rfl, by omega, ?_⟩
    by_cases cd : difN ns ns.length = ns.length
    · rw [if_pos cd]
      replace q3 := q3 (decide_eq_true cd)
      have nn : ns.Nodup := by
        have := difN_take ns.length (Nat.le_refl _) cd
        rwa [List.take_length] at this
      have all_ : ∀ z ∈ ns, ∃ n, plc z ks ps = some n ∧ n ∈ ps := fun z hz => by
        have := List.all_eq_true.mp ca z hz
        rw [Bool.and_eq_true, decide_eq_true_eq] at this
        exact plc_in hl this.1
      refine hB (hk _ ?_)
      walk_at "v25"
      refine ⟨by omega, lc_all D.str (fun z => .int (((plc z ks ps).getD 0 : Nat) : Int)) (l := ns) (fun z hz => ⟨_, rfl, fun Q hQ => ?_⟩) ?_⟩
      · obtain ⟨n, hn, _⟩ := all_ z hz
        walk_at "v25"
        rw [hn] at hQ
        exact ⟨_, _, _, _, rfl, rfl, by rw [plc_lk, hn]; rfl, _, rfl, hQ⟩
      have em : (ns.map fun z => D.int (((plc z ks ps).getD 0 : Nat) : Int)) = nD (ns.map fun z => (plc z ks ps).getD 0) := by
        unfold nD
        rw [List.map_map]
        rfl
      have nu : (ns.map fun z => (plc z ks ps).getD 0).Nodup := by
        refine List.pairwise_map.mpr (nn.imp_of_mem fun {a b} ha hb n z => n ?_)
        obtain ⟨m1, h1, _⟩ := all_ a ha
        obtain ⟨m2, h2, _⟩ := all_ b hb
        rw [h1, h2] at z
        have z' : m1 = m2 := z
        exact plc_inj nd h1 (by rw [h2, z'])
      have lt : (ns.map fun z => (plc z ks ps).getD 0).length ≤ 60 := nodup_lt 60 _ nu fun j hj => by
        obtain ⟨z, hz, rfl⟩ := List.mem_map.mp hj
        obtain ⟨m, h, hm⟩ := all_ z hz
        rw [h]
        exact h60 m hm
      obtain ⟨v, s1, s2, s3⟩ := srt_way nu (by omega)
      rw [em]
      refine ⟨_, s3, _, rfl, q3 v (fun j => ?_) s1⟩
      rw [s2]
      constructor
      · intro hj
        obtain ⟨z, hz, rfl⟩ := List.mem_map.mp hj
        obtain ⟨m, h, _⟩ := all_ z hz
        exact ⟨z, hz, by rw [h]; rfl⟩
      · rintro ⟨z, hz, h⟩
        exact List.mem_map.mpr ⟨z, hz, by rw [h]; rfl⟩
    · rw [if_neg cd]
      refine hA ?_
      walk_at "v25"
      exact q2 (decide_eq_false cd)
/-! ### a line -/
/-- what way_of gives of a word -/
inductive WayD (ks : List Str) (ps : List Nat) (i : Nat) : D → Str → Prop
  | dash : WayD ks ps i (wayD []) "-"
  | bad {w : Str} : w ≠ "-" → goodW ks ps i w = false → WayD ks ps i .non w
  | way {w : Str} {v : List Nat} : w ≠ "-" → goodW ks ps i w = true → (∀ j, j ∈ v ↔ ∃ z ∈ Txt.split w "+", plc z ks ps = some j) → v.Pairwise (· < ·) → WayD ks ps i (wayD v) w
def goodX (ks : List Str) (ps : List Nat) (i : Nat) (w : Str) : Bool := decide (w = "-") || goodW ks ps i w
theorem ways_split {ks : List Str} {ps : List Nat} {i : Nat} : ∀ {ds : List D} {ws : List Str}, All2 (WayD ks ps i) ds ws → pts ds 63 = true ∧ (ws.all (goodX ks ps i) = true → ∃ e : Entry, ds = e.map wayD ∧ All2 (fun v w => WayD ks ps i (wayD v) w) e ws) ∧ (ws.all (goodX ks ps i) = false → D.non ∈ ds)
  | _, _, .nil => ⟨rfl, fun _ => ⟨[], rfl, .nil⟩, fun h => nomatch h⟩
  | _, _, .cons (a := d) (b := w) p r => by
    obtain ⟨a, b, c⟩ := ways_split r
    have hw : ∀ v : List Nat, pts [wayD v] 63 = true := fun v => pts_entry [v] 62
    cases p with
    | dash =>
      refine ⟨?_, fun h => ?_, fun h => ?_⟩
      · show (pt (wayD []) 63 && pts _ 63) = true
        rw [a]; rfl
      · rw [List.all_cons, Bool.and_eq_true] at h
        obtain ⟨e, e1, e2⟩ := b h.2
        exact ⟨[] :: e, by rw [e1]; rfl, .cons .dash e2⟩
      · rw [List.all_cons] at h
        have : goodX ks ps i "-" = true := by unfold goodX; rw [decide_eq_true rfl]; rfl
        rw [this, Bool.true_and] at h
        exact List.mem_cons_of_mem _ (c h)
    | bad n g =>
      refine ⟨?_, fun h => ?_, fun h => List.mem_cons_self⟩
      · show (pt .non 63 && pts _ 63) = true
        rw [a]; rfl
      · rw [List.all_cons, Bool.and_eq_true] at h
        have : goodX ks ps i w = false := by unfold goodX; rw [decide_eq_false n, g]; rfl
        rw [this] at h
        cases h.1
    | way n g m s =>
      rename_i v
      refine ⟨?_, fun h => ?_, fun h => ?_⟩
      · have := hw v
        have h1 : pt (wayD v) 63 = true := by
          have z : (pt (wayD v) 63 && pts [] 63) = true := this
          rw [Bool.and_eq_true] at z
          exact z.1
        show (pt (wayD v) 63 && pts _ 63) = true
        rw [a, h1]; rfl
      · rw [List.all_cons, Bool.and_eq_true] at h
        obtain ⟨e, e1, e2⟩ := b h.2
        exact ⟨v :: e, by rw [e1]; rfl, .cons (.way n g m s) e2⟩
      · rw [List.all_cons] at h
        have : goodX ks ps i w = true := by unfold goodX; rw [g, Bool.or_true]
        rw [this, Bool.true_and] at h
        exact List.mem_cons_of_mem _ (c h)
def F_entry_ofG : DF := fun ds q _ => ∃ (s : Str) (ks : List Str) (ps : List Nat) (i : Nat), ds = [.str s, .int (i : Nat), .dct (ks.map fun z => (Sum.inr z : Key)) (nD ps)] ∧ OkT s ∧ s.length ≤ 900 ∧ ps.length = ks.length ∧ ps.Nodup ∧ (∀ p ∈ ps, p < 60) ∧ (∀ z, nameO s = some z → z ∈ ks) ∧
  (nameO s = none → q .non) ∧ (∀ z, nameO s = some z → plc z ks ps ≠ some i → q .non) ∧
  (∀ z, nameO s = some z → plc z ks ps = some i → (((Txt.split s " ").drop 1).all (goodX ks ps i) = false → q .non) ∧ ∀ e : Entry, All2 (fun v w => WayD ks ps i (wayD v) w) e ((Txt.split s " ").drop 1) → q (entryD e))
theorem s_entry_ofG : ∀ ds q x, F_entry_ofG ds q x → ds.length = 3 ∧ t_entry_of F_name_ofG F_way_ofG { nx := fun _ => q .non, rt := q, ex := x } (startE 6 ds) := by
  rintro ds q x ⟨s, ks, ps, i, rfl, ok, l9, hl, nd, h60, hin, q1, q2, q3⟩
  refine ⟨rfl, ?_⟩
  unfold t_entry_of
  refine w_seq fun k hk => ?_
  walk_at "v25"
  refine ⟨s, rfl, ok, hk _ (w_seq fun k hk => w_if fun A B hA hB => ?_)⟩
  walk_at "v25"
  cases hn : nameO s with
  | none =>
    refine ⟨_, rfl, _, rfl, ?_⟩
    rw [if_pos (show isNon (optS none) = true from rfl)]
    refine hA ?_
    walk_at "v25"
    exact q1 hn
  | some z =>
    obtain ⟨n, hp, _⟩ := plc_in hl (hin z hn)
    refine ⟨_, rfl, _, rfl, ?_⟩
    rw [if_neg (show ¬ isNon (optS (some z)) = true from fun q => by cases q)]
    refine ⟨_, _, _, _, rfl, rfl, by rw [plc_lk, hp]; rfl, _, neD_int _ _, _, rfl, ?_⟩
    by_cases c : n = i
    · subst c
      rw [decide_eq_true rfl, if_neg (by decide)]
      obtain ⟨q4, q5⟩ := q3 z hn hp
      refine hB (hk _ (w_seq fun k hk => ?_))
      walk_at "v25"
      have ew : slD (.lst ((Txt.split s " ").map D.str)) (some 1) none = some (.lst (((Txt.split s " ").drop 1).map D.str)) := by
        refine (slFrom_lst (p := 1)).trans ?_
        rw [← List.map_drop]
      have sl := PyProof.Rows.split_le s " "
      have sub : ∀ w ∈ (Txt.split s " ").drop 1, OkT w ∧ w.length ≤ 900 := fun w hw => by
        obtain ⟨a, b⟩ := split_sub (x := s) (y := " ") (s := 32) rfl (by decide) (List.mem_of_mem_drop hw)
        exact ⟨ok.sub a b, by omega⟩
      refine .inl ⟨_, rfl, _, rfl, by decide +kernel, by omega, _, ew, _, rfl, by rw [List.length_map, List.length_drop]; omega, ?_⟩
      refine lc_two D.str (fun d : D => d) (WayD ks ps n) (fun w hw => ⟨_, rfl, fun Q hQ => ?_⟩) fun rs hrs => ?_
      · walk_at "v25"
        obtain ⟨o1, o2⟩ := sub w hw
        refine ⟨w, ks, ps, n, rfl, o1, o2, hl, nd, h60, fun e => ?_, fun ne g => hQ _ (.bad ne g), fun ne g v v1 v2 => hQ _ (.way ne g v1 v2)⟩
        subst e
        exact hQ _ .dash
      rw [List.map_id']
      obtain ⟨w1, w2, w3⟩ := ways_split hrs
      refine hk _ ?_
      walk_at "v25"
      obtain ⟨cc, ⟨_, e⟩, hc⟩ := inB_pt (x := .non) rfl w1
      have ei : inD .non (.lst rs) = some (.bl cc) := by unfold inD; rw [e]; rfl
      refine ⟨_, ei, _, rfl, ?_⟩
      cases ga : ((Txt.split s " ").drop 1).all (goodX ks ps n) with
      | true =>
        obtain ⟨en, e1, e2⟩ := w2 ga
        have : cc = false := by
          cases cc with
          | false => rfl
          | true =>
            have := hc.mp rfl
            rw [e1] at this
            obtain ⟨v, _, hv⟩ := List.mem_map.mp this
            cases hv
        subst this
        rw [if_neg Bool.false_ne_true, e1]
        exact q5 en e2
      | false =>
        have : cc = true := hc.mpr (w3 ga)
        subst this
        rw [if_pos rfl]
        exact q4 ga
    · rw [decide_eq_false (fun z => c (by omega)), if_pos (by decide)]
      refine hA ?_
      walk_at "v25"
      exact q2 z hn (by rw [hp]; exact fun q => c (Option.some.inj q))
theorem getD_left2 {α : Type} {l : List α} {a d : α} {j : Nat} (h : j < l.length) : (l ++ [a]).getD j d = l.getD j d := by
  rw [List.getD, List.getD, List.getElem?_append_left h]
theorem getD_snoc2 {α : Type} {l : List α} {a d : α} {i : Nat} (h : l.length = i) : (l ++ [a]).getD i d = a := by
  rw [List.getD, List.getElem?_append_right (by omega), show i - l.length = 0 by omega]
  rfl
theorem all2_memL2 {α β : Type} {P : α → β → Prop} : ∀ {xs : List α} {ys : List β}, All2 P xs ys → ∀ x ∈ xs, ∃ y ∈ ys, P x y
  | _, _, .nil, x, h => nomatch h
  | _, _, .cons p r, x, h => by
    rcases List.mem_cons.mp h with rfl | h
    · exact ⟨_, List.mem_cons_self, p⟩
    · obtain ⟨y, hy, q⟩ := all2_memL2 r x h
      exact ⟨y, List.mem_cons_of_mem _ hy, q⟩
theorem ways_good {ks : List Str} {ps : List Nat} {i : Nat} : ∀ {e : Entry} {ws : List Str}, All2 (fun v w => WayD ks ps i (wayD v) w) e ws → ws.all (goodX ks ps i) = true
  | _, _, .nil => rfl
  | _, _, .cons (a := v) (b := w) p r => by
    rw [List.all_cons, ways_good r, Bool.and_true]
    generalize hd : wayD v = d at p
    cases p with
    | dash => unfold goodX; rw [decide_eq_true rfl]; rfl
    | bad _ _ => cases hd
    | way _ g _ _ => unfold goodX; rw [g, Bool.or_true]
/-! ### a text -/
theorem itemsAt_lt (L : List Str) : ∀ i, (itemsAt L i).2.Nodup ∧ ∀ p ∈ (itemsAt L i).2, p < i
  | 0 => ⟨.nil, by intro p hp; cases hp⟩
  | i + 1 => by
    obtain ⟨a, b⟩ := itemsAt_lt L i
    have b' : ∀ p ∈ (itemsAt L i).2, p < i + 1 := fun p hp => by have := b p hp; omega
    unfold itemsAt
    split
    · split
      · exact ⟨a, b'⟩
      · refine ⟨List.nodup_append.mpr ⟨a, by simp, fun x hx y hy z => ?_⟩, fun p hp => ?_⟩
        · rw [List.mem_singleton.mp hy] at z
          have := b x hx
          omega
        · rcases List.mem_append.mp hp with q | q
          · exact b' p q
          · rw [List.mem_singleton.mp q]; omega
    · exact ⟨a, b'⟩
theorem itemsAt_in (L : List Str) : ∀ n i, i < n → ∀ z, nameO (L.getD i Str.empty) = some z → z ∈ (itemsAt L n).1
  | 0, i, h, _, _ => by omega
  | n + 1, i, h, z, hz => by
    have st : itemsAt L (n + 1) = match nameO (L.getD n Str.empty) with
      | some z => if z ∈ (itemsAt L n).1 then itemsAt L n else ((itemsAt L n).1 ++ [z], (itemsAt L n).2 ++ [n])
      | none => itemsAt L n := rfl
    by_cases c : i = n
    · subst c
      rw [st, hz]
      by_cases m : z ∈ (itemsAt L i).1
      · simp only [if_pos m]; exact m
      · simp only [if_neg m]; exact List.mem_append_right _ List.mem_cons_self
    · have ih := itemsAt_in L n i (by omega) z hz
      rw [st]
      split
      · split
        · exact ih
        · exact List.mem_append_left _ ih
      · exact ih
def lineOk (L : List Str) (i : Nat) : Bool :=
  (match nameO (L.getD i Str.empty) with
    | some z => decide (plc z (itemsAt L L.length).1 (itemsAt L L.length).2 = some i) && ((Txt.split (L.getD i Str.empty) " ").drop 1).all (goodX (itemsAt L L.length).1 (itemsAt L L.length).2 i)
    | none => false) && decide (i < 24)
structure LinesOk (L : List Str) : Prop where
  ok : ∀ l ∈ L, OkT l ∧ l.length ≤ 900 ∧ (Txt.split l " ").length ≤ 60
  len : L.length < 60
  pos : 1 ≤ L.length
def F_course_ofG (C X : Addr) : DF := fun ds q x => ∃ d : D, ds = [d] ∧ pl d = true ∧ ((∀ s, d ≠ .str s) → x ⟨X, some [("line", .int 0)]⟩) ∧
  ∀ s, d = .str s → s.length ≤ 1000000 ∧ LinesOk (Txt.split s "\n") ∧ (∀ i, i < (Txt.split s "\n").length → (∀ j, j < i → lineOk (Txt.split s "\n") j = true) → lineOk (Txt.split s "\n") i = false → x ⟨X, some [("line", .int ((i + 1 : Nat) : Int))]⟩) ∧
    ((∀ j, j < (Txt.split s "\n").length → lineOk (Txt.split s "\n") j = true) → ∀ (zs : List Str) (kb : List Entry), q (.tup [.tup (zs.map D.str), crsD C kb]))
theorem s_course_ofG (C X : Addr) : ∀ ds q x, F_course_ofG C X ds q x → ds.length = 1 ∧ t_course_of C X F_items_by_nameG F_entry_ofG (F_initT C) { nx := fun _ => q .non, rt := q, ex := x } (startE 7 ds) := by
  rintro ds q x ⟨d, rfl, hp, h0, hs⟩
  refine ⟨rfl, ?_⟩
  unfold t_course_of
  refine w_seq fun k hk => w_if fun A B hA hB => ?_
  walk_at "v25"
  refine ⟨_, isi_strD hp, ?_⟩
  by_cases c : ∃ s, d = .str s
  · obtain ⟨s, rfl⟩ := c
    obtain ⟨l1, ok, hbad, hgood⟩ := hs s rfl
    show if true = false then A else B
    rw [if_neg (by decide)]
    refine hB (hk _ (w_seq fun k hk => ?_))
    walk_at "v25"
    refine ⟨_, rfl, _, rfl, by decide +kernel, by omega, hk _ (w_seq fun k hk => ?_)⟩
    generalize Txt.split s "\n" = L at ok hbad hgood
    walk_at "v25"
    refine ⟨L, rfl, fun l hl => (ok.ok l hl).1, by have := ok.len; omega, hk _ (w_seq fun k hk => ?_)⟩
    walk_at "v25"
    refine hk _ (w_seq fun k hk => ?_)
    walk_at "v25"
    rw [enD_strs]
    have il := (itemsAt_len L L.length).2
    have il1 := (itemsAt_len L L.length).1
    obtain ⟨nd, lt⟩ := itemsAt_lt L L.length
    have hin := itemsAt_in L L.length
    generalize hks : (itemsAt L L.length).1 = ks at il il1 hin ⊢
    generalize hps : (itemsAt L L.length).2 = ps at il nd lt ⊢
    have l60 := ok.len
    refine for_rangeH _ (fun i env => ∃ (c : List Entry) (o4 o5 o6 : EV), env = [.val (.str s), .val (.lst (L.map D.str)), .val (.dct (ks.map fun z => (Sum.inr z : Key)) (nD ps)), .own (c.map entryD), o4, o5, o6] ∧ c.length = i ∧ (∀ j, j < i → lineOk L j = true) ∧ ∀ j, j < i → All2 (fun v w => WayD ks ps j (wayD v) w) (c.getD j []) ((Txt.split (L.getD j Str.empty) " ").drop 1)) ⟨[], _, _, _, rfl, rfl, fun j hj => absurd hj (Nat.not_lt_zero j), fun j hj => absurd hj (Nat.not_lt_zero j)⟩ ?_ ?_
    · rintro i hi env k2 ⟨c, o4, o5, o6, rfl, cl, hc1, hc2⟩ hk2
      have hm : L.getD i Str.empty ∈ L := by rw [List.getD, List.getElem?_eq_getElem hi]; exact List.getElem_mem _
      obtain ⟨t1, t2, t3⟩ := ok.ok _ hm
      have raise : lineOk L i = false → x ⟨X, some [("line", .int ((i + 1 : Nat) : Int))]⟩ := hbad i hi hc1
      have lo : lineOk L i = ((match nameO (L.getD i Str.empty) with
        | some z => decide (plc z ks ps = some i) && ((Txt.split (L.getD i Str.empty) " ").drop 1).all (goodX ks ps i)
        | none => false) && decide (i < 24)) := by rw [← hks, ← hps]; rfl
      refine ⟨_, rfl, w_seq fun k3 hk3 => ?_⟩
      walk_at "v25"
      have no : lineOk L i = false → ∀ e, (dRaiseF X ["line"] (dCons (dOp addA (dVar 4) (dC (.int 1))) dNil)) { nx := k2, rt := q, bk := k, ct := k2, ex := x } [.val (.str s), .val (.lst (L.map D.str)), .val (.dct (ks.map fun z => (Sum.inr z : Key)) (nD ps)), .own (c.map entryD), .val (.int (i : Nat)), .val (.str (L.getD i Str.empty)), e] := fun hb e => by
        walk_at "v25"
        exact ⟨by decide, rfl, raise hb⟩
      have badN : lineOk L i = false → k3 [.val (.str s), .val (.lst (L.map D.str)), .val (.dct (ks.map fun z => (Sum.inr z : Key)) (nD ps)), .own (c.map entryD), .val (.int (i : Nat)), .val (.str (L.getD i Str.empty)), .val .non] := fun hb => by
        refine hk3 _ (w_seq fun k4 hk4 => w_if fun A B hA hB => ?_)
        walk_at "v25"
        exact hA (no hb _)
      have good : ∀ e : Entry, (i < 24 → lineOk L i = true) → All2 (fun v w => WayD ks ps i (wayD v) w) e ((Txt.split (L.getD i Str.empty) " ").drop 1) → k3 [.val (.str s), .val (.lst (L.map D.str)), .val (.dct (ks.map fun z => (Sum.inr z : Key)) (nD ps)), .own (c.map entryD), .val (.int (i : Nat)), .val (.str (L.getD i Str.empty)), .val (entryD e)] := fun e hg he => by
        refine hk3 _ (w_seq fun k4 hk4 => w_if fun A B hA hB => ?_)
        walk_at "v25"
        refine ⟨_, rfl, _, rfl, ?_⟩
        rw [if_neg (fun z : isNon (entryD e) = true => by cases z)]
        refine ⟨_, rfl, _, rfl, ?_⟩
        by_cases c24 : i < 24
        · rw [if_neg (fun z => absurd (of_decide_eq_true z) (by omega))]
          refine hB (hk4 _ ?_)
          walk_at "v25"
          refine ⟨by first | (rw [List.length_map]; omega) | omega, hk2 _ ⟨c ++ [e], _, _, _, by rw [List.map_append]; rfl, by rw [List.length_append, cl]; rfl, fun j hj => ?_, fun j hj => ?_⟩⟩
          · by_cases q : j < i
            · exact hc1 j q
            · rw [show j = i by omega]; exact hg c24
          · by_cases q : j < c.length
            · rw [getD_left2 q]
              exact hc2 j (by omega)
            · have ej : j = i := by omega
              rw [ej, getD_snoc2 cl]
              exact he
        · rw [if_pos (decide_eq_true (by omega))]
          refine hA (no ?_ _)
          rw [lo, decide_eq_false c24, Bool.and_false]
      refine ⟨L.getD i Str.empty, ks, ps, i, rfl, t1, t2, il, nd, fun p hp => by have := lt p hp; omega, hin i hi, fun hn => badN (by rw [lo, hn]; rfl), fun z hz hp => badN (by rw [lo, hz]; simp only [decide_eq_false hp, Bool.false_and]), fun z hz hp => ⟨fun hg => badN (by rw [lo, hz]; simp only [hg, Bool.and_false, Bool.false_and]), fun e he => good e (fun c24 => ?_) he⟩⟩
      rw [lo, hz]
      simp only [decide_eq_true hp, decide_eq_true c24, Bool.true_and, Bool.and_true]
      exact ways_good he
    · rintro env ⟨c, o4, o5, o6, rfl, cl, hc1, hc2⟩
      refine hk _ ?_
      walk_at "v25"
      refine ⟨_, _, rfl, c, rfl, ?_, fun kb hkb => ⟨by decide, ?_⟩⟩
      · have h24 : L.length ≤ 24 := by
          have := hc1 (L.length - 1) (by have := ok.pos; omega)
          unfold lineOk at this
          rw [Bool.and_eq_true, decide_eq_true_eq] at this
          omega
        have at_ : ∀ j e, c[j]? = some e → j < L.length ∧ All2 (fun v w => WayD ks ps j (wayD v) w) e ((Txt.split (L.getD j Str.empty) " ").drop 1) := fun j e he => by
          have hj : j < L.length := by rw [← cl]; exact (List.getElem?_eq_some_iff.mp he).1
          have := hc2 j hj
          rw [List.getD, he] at this
          exact ⟨hj, this⟩
        have wd : ∀ {j : Nat} {v : List Nat} {w : Str}, WayD ks ps j (wayD v) w → v.Pairwise (· < ·) ∧ (∀ k ∈ v, k ∈ ps) ∧ j ∉ v := fun {j v w} h => by
          generalize hd : wayD v = d at h
          cases h with
          | dash =>
            have : v = [] := by
              cases v with
              | nil => rfl
              | cons _ _ => cases hd
            subst this
            exact ⟨.nil, by simp, by simp⟩
          | bad _ _ => cases hd
          | @way _ v' _ g m s =>
            have : v = v' := wayD_inj hd
            subst this
            refine ⟨s, fun k hk => ?_, fun hj => ?_⟩
            · obtain ⟨z, _, hz⟩ := (m k).mp hk
              exact plc_mem hz
            · obtain ⟨z, hz, hp⟩ := (m j).mp hj
              unfold goodW at g
              rw [Bool.and_eq_true] at g
              have := List.all_eq_true.mp g.1 z hz
              rw [Bool.and_eq_true, decide_eq_true hp] at this
              cases this.2
        refine ⟨by rw [cl]; exact ok.pos, by rw [cl]; exact h24, fun e he => ?_, fun e he v hv => ?_, fun j e he v hv => ?_⟩
        · obtain ⟨j, hj⟩ := List.mem_iff_getElem?.mp he
          obtain ⟨hj', a⟩ := at_ j e hj
          have l1 := All2.len a
          have hm : L.getD j Str.empty ∈ L := by rw [List.getD, List.getElem?_eq_getElem hj']; exact List.getElem_mem _
          have l2 := (ok.ok _ hm).2.2
          rw [List.length_drop] at l1
          omega
        · obtain ⟨j, hj⟩ := List.mem_iff_getElem?.mp he
          obtain ⟨hj', a⟩ := at_ j e hj
          obtain ⟨w, _, hw⟩ := all2_memL2 a v hv
          obtain ⟨s1, s2, _⟩ := wd hw
          exact ⟨s1, fun k hk => by rw [cl]; exact lt k (s2 k hk)⟩
        · obtain ⟨_, a⟩ := at_ j e he
          obtain ⟨w, _, hw⟩ := all2_memL2 a v hv
          exact (wd hw).2.2
      · have e1 : (ks.map fun z => (Sum.inr z : Key)).map dKey = ks.map D.str := by rw [List.map_map]; rfl
        rw [e1]
        exact hgood hc1 ks kb
  · cases d with
    | str s => exact absurd ⟨s, rfl⟩ c
    | _ =>
      show if false = false then A else B
      rw [if_pos rfl]
      refine hA ?_
      walk_at "v25"
      exact ⟨by decide, rfl, h0 fun s e => c ⟨s, e⟩⟩

def t__law_is_name  : DS := (dRet (dAnd (dChain leI leI (dC (.int 1)) (dBlt lenF (dCons (dVar 0) dNil)) (dC (.int 8))) (dBlt allF (dCons (dOfF (dLc [1] (iStrD (dVar 0)) (gN 1) dYes (dOp inSD (dVar 1) (dC (.str "abcdefghijklmnopqrstuvwxyz"))))) dNil))))
def t__law_head (F__law_is_name : DF) : DS := (dSeq (dSet 1 (dOp ixD (dSplit (dVar 0) (dC (.str " "))) (dC (.int 0)))) (dRet (dIf (dAndT (dTest (dOp gtI (dBlt lenF (dCons (dVar 1) dNil)) (dC (.int 1)))) (dAndT (dTest (dOp eqD (dOp ixSD (dVar 1) (dOp subD (dBlt lenF (dCons (dVar 1) dNil)) (dC (.int 1)))) (dC (.str ":")))) (dTest (dCall F__law_is_name (dCons (dSlS (dVar 1) dNoPart (dPart (dOp subD (dBlt lenF (dCons (dVar 1) dNil)) (dC (.int 1))))) dNil))))) (dSlS (dVar 1) dNoPart (dPart (dOp subD (dBlt lenF (dCons (dVar 1) dNil)) (dC (.int 1))))) (dC (.str "")))))
def t__law_bad_line (F__law_head : DF) : DS := (dSeq (dSet 1 (dSplit (dVar 0) (dC (.str "\n")))) (dSeq (dSetLcV 2 (dLc [5] (iSeq (dVar 1)) (gN 5) dYes (dCall F__law_head (dCons (dVar 5) dNil)))) (dSeq (dFor (iRange1 (dBlt lenF (dCons (dVar 1) dNil))) (gN 3) (dSeq (dIfS (dOrT (dTest (dOp gtI (dVar 3) (dC (.int 23)))) (dOrT (dTest (dOp eqD (dOp ixD (dVar 2) (dVar 3)) (dC (.str "")))) (dTest (dOp inD (dOp ixD (dVar 2) (dVar 3)) (dSl (dVar 2) dNoPart (dPart (dVar 3))))))) (dRet (dOp addA (dVar 3) (dC (.int 1)))) dNext) (dFor (iSeq (dSl (dSplit (dOp ixD (dVar 1) (dVar 3)) (dC (.str " "))) (dPart (dC (.int 1))) dNoPart)) (gN 4) (dSeq (dSet 6 (dSplit (dVar 4) (dC (.str "+")))) (dFor (iRange1 (dBlt lenF (dCons (dVar 6) dNil))) (gN 7) (dIfS (dAndT (dTest (dOp neD (dVar 4) (dC (.str "-")))) (dOrT (dTest (dOp notInD (dOp ixD (dVar 6) (dVar 7)) (dVar 2))) (dTest (dOp inD (dOp ixD (dVar 6) (dVar 7)) (dOp addA (dLst (dCons (dC (.str "")) (dCons (dOp ixD (dVar 2) (dVar 3)) dNil))) (dSl (dVar 6) dNoPart (dPart (dVar 7)))))))) (dRet (dOp addA (dVar 3) (dC (.int 1)))) dNext)))))) (dRet (dC (.int 0))))))
def F__law_is_name : DF := fun ds q _ => ∃ z : Str, ds = [.str z] ∧ z.length ≤ 1000000 ∧ q (.bl (nameS z))
theorem s__law_is_name : ∀ ds q x, F__law_is_name ds q x → ds.length = 1 ∧ t__law_is_name { nx := fun _ => q .non, rt := q, ex := x } (startE 2 ds) := by
  rintro ds q x ⟨z, rfl, hl, hq⟩
  refine ⟨rfl, ?_⟩
  unfold t__law_is_name
  walk_at "v25"
  have el : lenF [.str z] = some (.int (z.length : Nat)) := if_pos (by omega)
  refine ⟨_, el, decide ((1 : Int) ≤ (z.length : Nat)), rfl, ?_⟩
  by_cases c1 : 1 ≤ z.length
  · rw [decide_eq_true (show (1 : Int) ≤ (z.length : Nat) by omega), if_pos rfl]
    refine ⟨.bl (decide (((z.length : Nat) : Int) ≤ 8)), rfl, _, rfl, ?_⟩
    by_cases c2 : z.length ≤ 8
    · rw [decide_eq_true (show ((z.length : Nat) : Int) ≤ 8 by omega), if_pos rfl]
      refine ⟨z, rfl, by rw [sgs, List.length_map, Array.length_toList]; show z.length ≤ _; omega, ?_⟩
      show dLcL _ _ _ (z.cps.toList.map fun c => D.str ⟨#[c]⟩) _ _
      refine lc_all (fun c : Nat => D.str ⟨#[c]⟩) (fun c => D.bl (decide (c ∈ azL))) (fun c hc => ⟨_, rfl, fun Q hQ => ?_⟩) ?_
      · walk_at "v25"
        exact ⟨_, rfl, hQ⟩
      · have e : (z.cps.toList.map fun c => D.bl (decide (c ∈ azL))) = (z.cps.toList.map fun c => decide (c ∈ azL)).map D.bl := by
          rw [List.map_map]
          rfl
        have e2 : nameS z = (z.cps.toList.map fun c => decide (c ∈ azL)).all id := by
          unfold nameS
          rw [decide_eq_true c1, decide_eq_true c2, Bool.true_and, Bool.true_and, List.all_map]
          rfl
        rw [e2] at hq
        exact ⟨_, by rw [e, all_bl], hq⟩
    · rw [decide_eq_false (show ¬ ((z.length : Nat) : Int) ≤ 8 by omega), if_neg Bool.false_ne_true]
      have : nameS z = false := by unfold nameS; rw [decide_eq_false c2, Bool.false_and, Bool.and_false]
      rw [this] at hq
      exact hq
  · rw [decide_eq_false (show ¬ (1 : Int) ≤ (z.length : Nat) by omega), if_neg Bool.false_ne_true]
    have : nameS z = false := by unfold nameS; rw [decide_eq_false c1, Bool.false_and]
    rw [this] at hq
    exact hq

/-! ### the text of a course -/
/-! ### books near a book -/
def EOk (n i : Nat) (e : Entry) : Prop := e.length < 64 ∧ ∀ w ∈ e, WayOk n w ∧ i ∉ w
theorem BookOk.of {b : List Entry} (h1 : 1 ≤ b.length) (h2 : b.length ≤ 24) (h : ∀ i, i < b.length → EOk b.length i (b.getD i [])) : BookOk b := by
  have key : ∀ i e, b[i]? = some e → EOk b.length i e := fun i e he => by
    have hi := (List.getElem?_eq_some_iff.mp he).1
    have := h i hi
    rw [List.getD, he] at this
    exact this
  have mem : ∀ e ∈ b, ∃ i, EOk b.length i e := fun e he => by
    obtain ⟨i, hi⟩ := List.mem_iff_getElem?.mp he
    exact ⟨i, key i e hi⟩
  exact ⟨h1, h2, fun e he => (mem e he).elim fun i h => h.1, fun e he w hw => (mem e he).elim fun i h => (h.2 w hw).1, fun i e he w hw => ((key i e he).2 w hw).2⟩
/-! ### books of just so many items -/
theorem All2.at_ {α β : Type} {P : α → β → Prop} {l : List α} {m : List β} (h : All2 P l m) : ∀ {j : Nat} {d : β}, m[j]? = some d → ∃ a, l[j]? = some a ∧ P a d := by
  induction h with
  | nil => intro j d e; simp at e
  | cons p _ ih =>
    intro j d e
    cases j with
    | zero => simp at e; subst e; exact ⟨_, by simp, p⟩
    | succ j => simpa using ih (by simpa using e)
theorem l_bk_in6 (J : DEnds) (n it s : Nat) (m : D) (bo : EV) (h1 : 1 ≤ n) (h2 : n < 1000) (hs : s < 6) : ∀ (l : List D) (e : Entry) (o7 o8 o9 : EV), EnOk n it e → e.length + l.length ≤ 5 →
    (∀ e o7 o8 o9, EnOk n it e → e.length ≤ 5 → J.nx [.val .pen, .val m, .val (.int (it : Nat)), .val (.int (n : Nat)), .val (.int (s : Nat)), bo, .own (e.map wayD), o7, o8, o9]) →
    dForL (gN 7) (bkBody F__law_draw F__law_way) J l [.val .pen, .val m, .val (.int (it : Nat)), .val (.int (n : Nat)), .val (.int (s : Nat)), bo, .own (e.map wayD), o7, o8, o9]
  | [], e, o7, o8, o9, he, hl, h => h e o7 o8 o9 he (by simpa using hl)
  | d :: l, e, o7, o8, o9, he, hl, h => by
    have hl' : e.length + l.length + 1 ≤ 5 := by simp at hl; omega
    have app : ∀ (w : List Nat) (o9 : EV), WayOk n w → it ∉ w → ∃ ds, some (EV.own (e.map wayD)) = some (.own ds) ∧ ds.length < 16777216 ∧ ∃ d1, R.val (wayD w) = .val d1 ∧
        dForL (gN 7) (bkBody F__law_draw F__law_way) J l [.val .pen, .val m, .val (.int (it : Nat)), .val (.int (n : Nat)), .val (.int (s : Nat)), bo, .own (ds ++ [d1]), .val d, .val (wayD w), o9] := by
      intro w o9 hw hn
      refine ⟨_, rfl, by simp; omega, _, rfl, ?_⟩
      have := l_bk_in6 J n it s m bo h1 h2 hs l (e ++ [w]) (.val d) (.val (wayD w)) o9 (he.add hw hn) (by simp; omega) h
      simpa using this
    refine ⟨_, rfl, ?_⟩
    unfold bkBody
    simp only [dSeq, dSet, dIfS, dTest, dOp, dCall, dCons, dNil, dVar, dLst, dTup, dC, dAppend, dNext, dBlt, dOfF, dLc, iSeq, List.set_cons_zero, List.set_cons_succ, List.getElem?_cons_zero, List.getElem?_cons_succ, List.map, R.d]
    obtain ⟨v, ev, v1, v5⟩ := tab2 hs
    refine ⟨[.int 1, .int 3, .int 2, .int 3, .int 5, .int 2], rfl, by simp, _, ev, n, it, v, rfl, h1, h2, by omega, fun w hw hn => ⟨.inl rfl, _, rfl, [.int 0, .int 1, .int 5], rfl, by simp, _, inD_tup s [0, 1, 5], _, rfl, ?_⟩⟩
    by_cases c : (s : Int) ∈ ([0, 1, 5] : List Int)
    · rw [decide_eq_true c]
      simp only [if_true]
      refine .inr ⟨nD w, rfl, ?_, lc_filterN (p := fun k => decide (k < it)) (fun k hk q hq => ⟨_, ltN k it, _, rfl, hq⟩) (fun k hk q hq => hq) ?_⟩
      · have hb : w.length ≤ n := by have := asc_len (n := n) w 0 hw.asc fun i hi => ⟨Nat.zero_le _, hw.lt i hi⟩; omega
        simp [nD]; omega
      refine ⟨_, rfl, _, rfl, ?_⟩
      exact app (w.filter fun k => decide (k < it)) _ ⟨hw.asc.filter _, fun i hi => hw.lt i (List.mem_filter.mp hi).1⟩ fun z => hn (List.mem_filter.mp z).1
    · rw [decide_eq_false c]
      simp only [Bool.false_eq_true, if_false]
      exact app w _ hw hn
def Ens6 (n : Nat) (b : List Entry) : Prop := ∀ (i : Nat) e, b[i]? = some e → EnOk n i e ∧ e.length ≤ 6
theorem Ens6.add {n : Nat} {b : List Entry} {e : Entry} (h : Ens6 n b) (he : EnOk n b.length e) (hl : e.length ≤ 6) : Ens6 n (b ++ [e]) := by
  intro i e' hi
  by_cases c : i < b.length
  · rw [List.getElem?_append_left c] at hi
    exact h i e' hi
  · have hlt := (List.getElem?_eq_some_iff.mp hi).1
    simp at hlt
    have : i = b.length := by omega
    subst this
    rw [List.getElem?_append_right (Nat.le_refl _)] at hi
    simp at hi
    subst hi
    exact ⟨he, hl⟩
theorem l_bk_out6 (J : DEnds) (n s : Nat) (m : D) (h1 : 1 ≤ n) (h2 : n < 1000) (hs : s < 6) : ∀ (k : Nat) (b : List Entry) (o2 o6 o7 o8 o9 : EV), Ens6 n b → b.length + k = n →
    (∀ b o2 o6 o7 o8 o9, Ens6 n b → b.length = n → J.nx [.val .pen, .val m, o2, .val (.int (n : Nat)), .val (.int (s : Nat)), .own (b.map entryD), o6, o7, o8, o9]) →
    dForL (gN 2) (bkTurn F__law_draw F__law_way) J (rg b.length k) [.val .pen, .val m, o2, .val (.int (n : Nat)), .val (.int (s : Nat)), .own (b.map entryD), o6, o7, o8, o9]
  | 0, b, o2, o6, o7, o8, o9, hb, hl, h => h b o2 o6 o7 o8 o9 hb (by omega)
  | k + 1, b, o2, o6, o7, o8, o9, hb, hl, h => by
    refine ⟨_, rfl, ?_⟩
    -- the end of a turn
    have fin : ∀ (e : Entry) (o7 o8 o9 : EV), EnOk n b.length e → e.length ≤ 6 → ∃ ds, some (EV.own (b.map entryD)) = some (.own ds) ∧ ds.length < 16777216 ∧ ∃ d, tupF [.lst (e.map wayD)] = some d ∧ ∃ d1, R.val d = .val d1 ∧
        dForL (gN 2) (bkTurn F__law_draw F__law_way) J (rg (b.length + 1) k) [.val .pen, .val m, .val (.int (b.length : Nat)), .val (.int (n : Nat)), .val (.int (s : Nat)), .own (ds ++ [d1]), .own (e.map wayD), o7, o8, o9] := by
      intro e o7 o8 o9 he hl2
      refine ⟨_, rfl, by simp; omega, _, rfl, _, rfl, ?_⟩
      have := l_bk_out6 J n s m h1 h2 hs k (b ++ [e]) (.val (.int (b.length : Nat))) (.own (e.map wayD)) o7 o8 o9 (hb.add he (by omega)) (by simp; omega) h
      rw [List.length_append] at this
      simpa [entryD] using this
    -- from the third statement on
    have mid : ∀ (e : Entry) (o7 o8 o9 : EV), EnOk n b.length e → e.length ≤ 5 →
        dSeq (dIfS (dAndT (dTest (dOp gtI (dVar 4) (dC (.int 1)))) (dTest (dOp eqD (dCall F__law_draw (dCons (dVar 0) (dCons (dC (.int 3)) dNil))) (dC (.int 0))))) (dAppend 6 (dTup dNil)) dNext) (dSeq (dIfS (dAndT (dTest (dOp inD (dVar 4) (dTup (dCons (dC (.int 2)) (dCons (dC (.int 4)) dNil))))) (dTest (dOp eqD (dCall F__law_draw (dCons (dVar 0) (dCons (dC (.int 5)) dNil))) (dC (.int 0))))) (dSetOwn 6 (dFLst dNil)) dNext) (dAppend 5 (dBlt tupF (dCons (dVar 6) dNil))))
          { J with nx := fun env => dForL (gN 2) (bkTurn F__law_draw F__law_way) J (rg (b.length + 1) k) env, ct := fun env => dForL (gN 2) (bkTurn F__law_draw F__law_way) J (rg (b.length + 1) k) env, bk := J.nx }
          [.val .pen, .val m, .val (.int (b.length : Nat)), .val (.int (n : Nat)), .val (.int (s : Nat)), .own (b.map entryD), .own (e.map wayD), o7, o8, o9] := by
      intro e o7 o8 o9 he hl2
      have late : ∀ (e : Entry), EnOk n b.length e → e.length ≤ 6 → dSeq (dIfS (dAndT (dTest (dOp inD (dVar 4) (dTup (dCons (dC (.int 2)) (dCons (dC (.int 4)) dNil))))) (dTest (dOp eqD (dCall F__law_draw (dCons (dVar 0) (dCons (dC (.int 5)) dNil))) (dC (.int 0))))) (dSetOwn 6 (dFLst dNil)) dNext) (dAppend 5 (dBlt tupF (dCons (dVar 6) dNil)))
          { J with nx := fun env => dForL (gN 2) (bkTurn F__law_draw F__law_way) J (rg (b.length + 1) k) env, ct := fun env => dForL (gN 2) (bkTurn F__law_draw F__law_way) J (rg (b.length + 1) k) env, bk := J.nx }
          [.val .pen, .val m, .val (.int (b.length : Nat)), .val (.int (n : Nat)), .val (.int (s : Nat)), .own (b.map entryD), .own (e.map wayD), o7, o8, o9] := by
        intro e he hl2
        simp only [dSeq, dIfS, dAndT, dTest, dOp, dCall, dCons, dNil, dVar, dTup, dC, dAppend, dSetOwn, dFLst, dNext, dBlt, List.set_cons_zero, List.set_cons_succ, List.getElem?_cons_zero, List.getElem?_cons_succ, List.map, R.d]
        refine ⟨[.int 2, .int 4], rfl, by simp, _, inD_tup s [2, 4], _, rfl, ?_⟩
        by_cases c : (s : Int) ∈ ([2, 4] : List Int)
        · rw [decide_eq_true c]
          simp only [if_true]
          refine ⟨5, rfl, by decide, by decide, fun i _ _ => ⟨.inl rfl, _, eqD_int i 0, _, rfl, ?_⟩⟩
          by_cases c2 : i = 0
          · rw [decide_eq_true c2]
            simp only [if_true]
            exact ⟨[], rfl, by simp, fin [] o7 o8 o9 (EnOk.nil _ _) (by simp)⟩
          · rw [decide_eq_false c2]
            simp only [Bool.false_eq_true, if_false]
            exact fin e o7 o8 o9 he hl2
        · rw [decide_eq_false c]
          simp only [Bool.false_eq_true, if_false]
          exact fin e o7 o8 o9 he hl2
      unfold dSeq
      simp only [dIfS, dAndT, dTest, dOp, dCall, dCons, dNil, dVar, dTup, dC, dAppend, dNext, List.set_cons_zero, List.set_cons_succ, List.getElem?_cons_zero, List.getElem?_cons_succ, List.map, R.d]
      refine ⟨_, gtN s 1, _, rfl, ?_⟩
      by_cases c : 1 < s
      · rw [decide_eq_true c]
        simp only [if_true]
        refine ⟨3, rfl, by decide, by decide, fun i _ _ => ⟨.inl rfl, _, eqD_int i 0, _, rfl, ?_⟩⟩
        by_cases c2 : i = 0
        · rw [decide_eq_true c2]
          simp only [if_true]
          refine ⟨_, rfl, by simp; omega, [], rfl, by simp, _, rfl, ?_⟩
          have := late (e ++ [[]]) (he.add ⟨.nil, by simp⟩ (by simp)) (by simp; omega)
          have z : (e ++ [[]]).map wayD = e.map wayD ++ [.tup []] := by simp [wayD, nD]
          rw [z] at this
          exact this
        · rw [decide_eq_false c2]
          simp only [Bool.false_eq_true, if_false]
          exact late e he (by omega)
      · rw [decide_eq_false c]
        simp only [Bool.false_eq_true, if_false]
        exact late e he (by omega)
    change ∃ ds : List D, ([] : List R) = ds.map R.val ∧ ds.length ≤ 16777216 ∧ _
    refine ⟨[], rfl, by simp, ?_⟩
    dsimp only
    rw [dSeq_app]
    simp only [dFor, iRange1, dCall, dCons, dVar, dOp, dC, dLst, dNil, List.set_cons_zero, List.set_cons_succ, List.getElem?_cons_zero, List.getElem?_cons_succ, List.map, R.d]
    obtain ⟨v, ev, v1, v5⟩ := tab1 hs
    refine ⟨[.int 1, .int 2, .int 3, .int 3, .int 4, .int 2], rfl, by simp, _, ev, v, rfl, by omega, by omega, fun i hi0 hi1 => ⟨.inl rfl, _, addI 1 i, _, rfl, by omega, by omega, trivial, ?_⟩⟩
    refine l_bk_in6 _ n b.length s m _ h1 h2 hs _ [] _ _ _ (EnOk.nil _ _) (by rw [rngD_len]; simp; omega) fun e o7 o8 o9 he hl2 => ?_
    exact mid e o7 o8 o9 he hl2
def F_book6 : DF := fun ds q _ => ∃ most : Nat, ds = [.pen, .int (most : Nat)] ∧ 1 ≤ most ∧ most ≤ 24 ∧ ∀ b, BookOk b → (∀ e ∈ b, e.length ≤ 6) → b.length ≤ most → q (bookD b)
theorem book_ok6 {n : Nat} {b : List Entry} (h : Ens6 n b) (hl : b.length = n) (h1 : 1 ≤ n) (h2 : n ≤ 24) : BookOk b ∧ ∀ e ∈ b, e.length ≤ 6 := by
  refine ⟨book_ok (fun i e hi => ⟨(h i e hi).1, by have := (h i e hi).2; omega⟩) hl h1 h2, fun e he => ?_⟩
  obtain ⟨i, hi⟩ := List.mem_iff_getElem?.mp he
  exact (h i e hi).2
theorem s__law_book6 : ∀ ds q x, F_book6 ds q x → ds.length = 2 ∧ t__law_book F__law_draw F__law_way { nx := fun _ => q .non, rt := q, ex := x } (startE 10 ds) := by
  rintro ds q x ⟨most, rfl, h1, h2, hq⟩
  refine ⟨rfl, ?_⟩
  change dPar [3, 4, 5] _ _ _
  simp only [dPar, dFVal, dFOwn, dFNil, dFLst, dCall, dCons, dNil, dVar, dOp, dC, startE, List.map, List.length, Nat.reduceSub, List.replicate, List.cons_append, List.nil_append, List.getElem?_cons_zero, List.getElem?_cons_succ, R.d]
  refine ⟨most, rfl, by omega, by omega, fun i hi0 hi1 => ⟨.inl rfl, _, addI 1 i, _, rfl, 6, rfl, by decide, by decide, fun j hj0 hj1 => ⟨.inl rfl, _, rfl, [], rfl, by simp, by simp, ?_⟩⟩⟩
  obtain ⟨n, hn⟩ : ∃ n : Nat, 1 + i = n := ⟨(1 + i).toNat, by omega⟩
  obtain ⟨s, rfl⟩ : ∃ s : Nat, j = s := ⟨j.toNat, by omega⟩
  rw [hn]
  rw [dSeq_app]
  simp only [dFor, iRange1, dVar, setE, RF.ev, List.set_cons_zero, List.set_cons_succ, List.getElem?_cons_zero, List.getElem?_cons_succ, R.d]
  refine ⟨_, rfl, by omega, by omega, trivial, ?_⟩
  rw [Int.toNat_natCast, rngD_rg]
  refine l_bk_out6 _ n s _ (by omega) (by omega) (by omega) n [] _ _ _ _ _ (fun i e h => by simp at h) (by simp) fun b o2 o6 o7 o8 o9 hb hl => ?_
  simp only [dRet, dBlt, dCons, dNil, dVar, List.getElem?_cons_zero, List.getElem?_cons_succ, List.map, R.d]
  exact ⟨_, rfl, _, rfl, hq b (book_ok6 hb hl (by omega) (by omega)).1 (book_ok6 hb hl (by omega) (by omega)).2 (by omega)⟩
local macro_rules | `(tactic| walk_at "v26") => `(tactic| try simp only [dVar_app, dC_app, dOp_app, dTest_app, dChain_app, dAnd_app, dOr_app, dNot_app, dAndT_app, dOrT_app, dNotT_app, dIf_app, dNil_app, dCons_app, dTup_app, dLst_app, dCall_app, dBlt_app, dIsi_app, dNoPart_app, dPart_app, dSl_app, dNext_app, dBreak_app, dCont_app, dRet_app, dRetOwn_app, dRetN_app, dDrop_app, dFreeze_app, dSet_app, dFLst_app, dOfF_app, dSetOwn_app, dAppend_app, dInsert_app, dFNil_app, dFVal_app, dFOwn_app, dPar_app, dUnpack_app, iSeq_app, iRange1_app, iRange2_app, dFor_app, dYes_app, dLc_app, dNeg_app, dSetLcV_app, dNever_app, iEnumD_app, dFld_app, dMeth0_app, dProp_app, dRaise_app, dMake_app, dDc_app, dDGet_app, dLocked_app, iKeysD_app, dPenGet_app, dPenSet_app, dRetPen_app, dRev_app, dJoin_app, dDict0_app, dDict1_app, dInC_app, dBits_app, ex_false, nD_snoc, and1N, bitP1, bitP0, has_way_ap, first_way_ap, eqD_int, neD_int, addN, add1N, orN, andN, xorN, ltN, gtN, shrN, inn, notInn, inlst, notinlst, eqD_way, neD_way, eqD_nonway, eqD_waynon, eqD_lst, neD_lst, eqD_bl, isN_way, isNot_way, isN_non, isNot_non, isN_int, isNot_int, len_way, len_book, len_masks, len_entry, len_lst, len_tup, tup_lst, tup_tup, tup_way, lst_way, lst_lst, int_int, way_nD, all_bl, any_bl, rngD_nD, rngD_len, len_nD, Int.toNat_natCast, ex_nil', ex_cons', ex_val, ex_vald, ex_bl, ex_sbl, ex_int, ex_lst, ex_tup, ex_own, ex_vtup, no_lt, no_tl, ex_way_lst, ex_way_tup, ex_book_lst, ex_book_tup, ex_entry_lst, ex_entry_tup, ex_fld_book, ex_fld_ways, len_ap, mask_of_ap, items_of_ap, all_items_ap, lies_within_ap, is_set_ap, is_item_ap, draw_ap, pen_ap, book_ap, init_ap, beq_self_eq_true, reduceCtorEq, if_false, Nat.zero_le, allVal, wipeE, setE, RF.ev, R.d, R.isVal, noLst, startE, List.map_cons, List.map_nil, List.set_cons_zero, List.set_cons_succ, List.getElem?_cons_zero, List.getElem?_cons_succ, List.length_cons, List.length_nil, List.replicate, List.cons_append, List.nil_append, List.append_nil, List.length_map, List.length_range, Nat.reduceSub, Nat.reduceAdd, Bool.not_true, Bool.not_false, Bool.not_not, Bool.false_eq_true, if_true, if_false, decide_eq_true_eq, eq_self, true_and, and_true, true_or, or_true, false_or, or_false, false_and, and_false, Bool.not_eq_true', decide_eq_false_iff_not, ite_not, exists_eq_left, exists_eq_left', eqD_lst_nil, neD_lst_nil, row_ap, natCast_eq, tup_nil, isi_way, in_entry, notin_entry, in_ways, notin_ways, ways_snoc, neD_int, dTupRg_app, dIndex_app, has_ap, dCmpC_app, dBinC_app, dIsC_app, dRevL_app, iStrD_app, dSlS_app, dLenSet_app, dFmtS_app, dJs_nil, dJs_cons, dStar_app, dJoin_app, dFRep_app, dSplit_app, dPartn_app, dInDic_app, dSetDic_app, dPutDic_app, dRetDic_app, dInDct_app, dTupK_app, dLenSetL_app, dAppPop_app, dFList_app, dDGet_app, dRaiseF_app, dReplC_app, dFSplit_app, dSetIx_app, dSaid_app])
/-! ### texts as lists of signs -/
/-- small signs, no line's end, at most m signs, at most k of them blanks -/
structure LO (m k : Nat) (l : List Nat) : Prop where
  sm : ∀ c ∈ l, c < 128 ∧ c ≠ 10
  len : l.length ≤ m
  sp : l.count 32 ≤ k
theorem LO.mono {m k m' k' : Nat} {l : List Nat} (h : LO m k l) (hm : m ≤ m') (hk : k ≤ k') : LO m' k' l := ⟨h.sm, Nat.le_trans h.len hm, Nat.le_trans h.sp hk⟩
theorem LO.app {m k m' k' : Nat} {a b : List Nat} (h : LO m k a) (h' : LO m' k' b) : LO (m + m') (k + k') (a ++ b) :=
  ⟨fun c hc => (List.mem_append.mp hc).elim (h.sm c) (h'.sm c), by rw [List.length_append]; exact Nat.add_le_add h.len h'.len, by rw [List.count_append]; exact Nat.add_le_add h.sp h'.sp⟩
theorem LO.sub {m k : Nat} {a b : List Nat} (h : LO m k b) (s : a.Sublist b) : LO m k a :=
  ⟨fun c hc => h.sm c (s.subset hc), Nat.le_trans s.length_le h.len, Nat.le_trans (s.count_le 32) h.sp⟩
theorem LO.perm {m k : Nat} {a b : List Nat} (h : LO m k a) (p : a.Perm b) : LO m k b :=
  ⟨fun c hc => h.sm c (p.mem_iff.mpr hc), by rw [← p.length_eq]; exact h.len, by rw [← p.count_eq]; exact h.sp⟩
def LS (m k : Nat) (z : Str) : Prop := LO m k (TL.tl z)
theorem LS.app {m k m' k' : Nat} {a b : Str} (h : LS m k a) (h' : LS m' k' b) : LS (m + m') (k + k') (a ++ b) := by
  unfold LS
  rw [tl_app]
  exact LO.app h h'
theorem LS.len {m k : Nat} {z : Str} (h : LS m k z) : z.length ≤ m := by rw [str_lenN]; exact LO.len h
theorem LS.okT {m k : Nat} {z : Str} (h : LS m k z) (hm : m ≤ 1000000) : OkT z := ⟨fun c hc => (h.sm c hc).1, Nat.le_trans h.len hm⟩
theorem spl_len (s : Nat) : ∀ l acc : List Nat, (TL.spl [s] 0 acc l).length = l.count s + 1
  | [], acc => by rw [TL.spl_nil]; rfl
  | c :: r, acc => by
    by_cases e : c = s
    · subst e
      rw [TL.spl_hit (show TL.pre [c] (c :: r) = true from TL.pre_self [c] r), List.length_cons, List.count_cons_self]
      exact congrArg (· + 1) (spl_len c r [])
    · rw [TL.spl_miss (TL.pre_of_head [] r e), spl_len s r _, List.count_cons_of_ne e]
theorem split_len {x y : Str} {s : Nat} (ey : TL.tl y = [s]) (hs : s < 256) : (Txt.split x y).length = (TL.tl x).count s + 1 := by
  have := congrArg List.length (split_one (x := x) ey hs)
  rw [List.length_map] at this
  rw [this, spl_len]
theorem spl_flat (s : Nat) : ∀ l acc : List Nat, (TL.spl [s] 0 acc l).flatten.Sublist (acc ++ l)
  | [], acc => by rw [TL.spl_nil]; simp
  | c :: r, acc => by
    by_cases e : c = s
    · subst e
      rw [TL.spl_hit (show TL.pre [c] (c :: r) = true from TL.pre_self [c] r), List.flatten_cons]
      refine List.Sublist.append (List.Sublist.refl _) ?_
      exact ((spl_flat c r []).trans (by rw [List.nil_append]; exact List.Sublist.refl _)).cons c
    · rw [TL.spl_miss (TL.pre_of_head [] r e)]
      have := spl_flat s r (acc ++ [c])
      rwa [List.append_assoc] at this
theorem joinL_nil : ∀ ps : List (List Nat), TL.joinL [] ps = ps.flatten
  | [] => rfl
  | [p] => by simp [TL.joinL]
  | p :: q :: r => by
    have := joinL_nil (q :: r)
    rw [List.flatten_cons, ← this]
    simp [TL.joinL]
theorem repl_sub (x : Str) : (TL.tl (Txt.replace x ":" "")).Sublist (TL.tl x) := by
  have e1 : Txt.replace x ":" "" = Str.join "" (Txt.split x ":") := StrLaws.replace_one x "" 58
  rw [e1, TL.tl_join, show TL.tl ("" : Str) = [] from rfl, joinL_nil, split_one (s := 58) rfl (by decide)]
  exact spl_flat 58 _ []
theorem cutS_lo {z : Str} (k : Nat) : TL.tl (cutS z none (some (k : Nat))) = (TL.tl z).take k := by
  have h0 : HT.sIx z.length 0 none = 0 := rfl
  have h1 : HT.sIx z.length z.length (some (k : Nat)) = min k z.length := HT.sIx_nat ..
  unfold cutS
  show ((z.cps.toList.drop (HT.sIx z.length 0 none)).take (HT.sIx z.length z.length (some (k : Nat)) - HT.sIx z.length 0 none)).toArray.toList = _
  rw [h0, h1, List.drop_zero, Nat.sub_zero, List.toList_toArray]
  have hl : z.cps.toList.length = z.length := by simp [Str.length]
  show _ = z.cps.toList.take k
  by_cases c : k ≤ z.length
  · rw [Nat.min_eq_left c]
  · rw [Nat.min_eq_right (by omega), List.take_of_length_le (by omega), List.take_of_length_le (by omega)]
theorem cutS_hi {z : Str} (k : Nat) : TL.tl (cutS z (some (k : Nat)) none) = (TL.tl z).drop k := by
  have h0 : HT.sIx z.length z.length none = z.length := rfl
  have h1 : HT.sIx z.length 0 (some (k : Nat)) = min k z.length := HT.sIx_nat ..
  unfold cutS
  show ((z.cps.toList.drop (HT.sIx z.length 0 (some (k : Nat)))).take (HT.sIx z.length z.length none - HT.sIx z.length 0 (some (k : Nat)))).toArray.toList = _
  rw [h0, h1, List.toList_toArray]
  have hl : z.cps.toList.length = z.length := by simp [Str.length]
  show _ = z.cps.toList.drop k
  by_cases c : k ≤ z.length
  · rw [Nat.min_eq_left c, List.take_of_length_le (by rw [List.length_drop]; omega)]
  · rw [Nat.min_eq_right (by omega), List.drop_eq_nil_of_le (by omega), List.drop_eq_nil_of_le (by omega), List.take_nil]
/-! ### the head of a line -/
theorem par_inv (s : Nat) : ∀ (l acc a b : List Nat), TL.par [s] acc l = some (a, b) → acc ++ l = a ++ s :: b
  | [], _, _, _, h => by cases h
  | c :: r, acc, a, b, h => by
    by_cases e : c = s
    · subst e
      rw [TL.par_hit (show TL.pre [c] (c :: r) = true from TL.pre_self [c] r)] at h
      cases h
      rfl
    · rw [TL.par_miss (TL.pre_of_head [] r e)] at h
      have := par_inv s r _ a b h
      rw [← this, List.append_assoc]
      rfl
theorem part_colon {w : Str} (h : (Txt.partition w ":").2.1 = ":") (h2 : (Txt.partition w ":").2.2 = "") : TL.tl w = TL.tl (Txt.partition w ":").1 ++ [58] := by
  rw [TL.partition_par w ":" (by decide)] at h h2 ⊢
  cases z : TL.par (TL.tl (":" : Str)) [] (TL.tl w) with
  | none =>
    rw [z] at h
    exact absurd (show Str.empty = ":" from h) (by decide +kernel)
  | some p =>
    obtain ⟨a, b⟩ := p
    have e := par_inv 58 _ _ _ _ z
    rw [z] at h2
    have hb : b = [] := by
      have : (⟨b.toArray⟩ : Str) = "" := h2
      exact congrArg TL.tl this
    subst hb
    rw [List.nil_append] at e
    exact e
/-- the head of a line, as the law says it -/
def headS (l : Str) : Str := (nameO l).getD ""
theorem headS_some {l z : Str} (h : nameO l = some z) : headS l = z := by unfold headS; rw [h]; rfl
theorem headS_none {l : Str} (h : nameO l = none) : headS l = "" := by unfold headS; rw [h]; rfl
theorem nameO_name {l z : Str} (h : nameO l = some z) : nameS z = true := by
  unfold nameO at h
  split at h
  · rename_i c
    split at h
    · split at h
      · cases h; exact c
      · cases h
    · cases h
  · cases h
theorem nameS_ne {z : Str} (h : nameS z = true) : z ≠ "" := fun e => by
  have := (nameS_le h).1
  rw [e] at this
  exact absurd this (by decide +kernel)
/-- the word w = the line's first one -/
theorem nameO_of {l w : Str} (hw : (Txt.split l " ").headD Str.empty = w) : nameO l = if (decide (1 < w.length) && decide ((TL.tl w).getLast? = some 58) && nameS ⟨((TL.tl w).dropLast).toArray⟩) = true then some ⟨((TL.tl w).dropLast).toArray⟩ else none := by
  unfold nameO
  rw [hw]
  by_cases c : (decide (1 < w.length) && decide ((TL.tl w).getLast? = some 58) && nameS ⟨((TL.tl w).dropLast).toArray⟩) = true
  · rw [if_pos c]
    rw [Bool.and_eq_true, Bool.and_eq_true, decide_eq_true_eq, decide_eq_true_eq] at c
    obtain ⟨⟨c1, c2⟩, c3⟩ := c
    have ne : TL.tl w ≠ [] := fun z => by rw [z] at c2; cases c2
    have e : TL.tl w = (TL.tl w).dropLast ++ [58] := by
      have := List.dropLast_concat_getLast ne
      rw [List.getLast?_eq_some_getLast ne] at c2
      rw [Option.some.inj c2] at this
      exact this.symm
    have no : 58 ∉ TL.tl (⟨((TL.tl w).dropLast).toArray⟩ : Str) := az_no c3 (by decide)
    have e2 : w = (⟨((TL.tl w).dropLast).toArray⟩ : Str) ++ ":" ++ Str.empty := by
      refine str_eq ?_
      rw [str_app, str_app]
      show TL.tl w = ((TL.tl w).dropLast ++ [58]) ++ []
      rw [List.append_nil]
      exact e
    have p : Txt.partition w ":" = ((⟨((TL.tl w).dropLast).toArray⟩ : Str), (":" : Str), Str.empty) := by
      have := TL.partition_app (y := ":") (s := 58) (S := []) (b := Str.empty) rfl no
      rwa [← e2] at this
    rw [p]
    show (if nameS _ = true then if (":" : Str) = ":" then if Str.empty = "" then some _ else none else none else none) = _
    rw [if_pos c3, if_pos rfl, if_pos (show Str.empty = "" from rfl)]
  · rw [if_neg c]
    by_cases c1 : nameS (Txt.partition w ":").1 = true
    · rw [if_pos c1]
      by_cases c2 : (Txt.partition w ":").2.1 = ":"
      · rw [if_pos c2]
        by_cases c3 : (Txt.partition w ":").2.2 = ""
        · refine absurd ?_ c
          have e := part_colon c2 c3
          rw [e, List.dropLast_concat, List.getLast?_concat]
          have l1 : 1 < w.length := by
            have h1 := (nameS_le c1).1
            rw [str_lenN] at h1 ⊢
            show 1 < (TL.tl w).length
            rw [e, List.length_append, List.length_singleton]
            have h3 : 1 ≤ (TL.tl (Txt.partition w ":").1).length := h1
            omega
          rw [decide_eq_true l1, decide_eq_true rfl]
          exact c1
        · rw [if_neg c3]
      · rw [if_neg c2]
    · rw [if_neg c1]

theorem addS2 {a b : Str} (h : a.length + b.length ≤ 16777216) : addA (.str a) (.str b) = some (.str (a ++ b)) := by
  have : addD (.str a) (.str b) = some (.str (a ++ b)) := if_pos h
  show (addD _ _).or _ = _
  rw [this]; rfl
theorem atI_end {l : List Nat} {w : Nat} (h : l.length = w + 1) : atI l ((w : Nat) : Int) = l.getLast? := by
  rw [List.getLast?_eq_getElem?, h]
  show _ = l[w]?
  rw [List.getElem?_eq_getElem (by omega)]
  exact atI_nat (List.getElem?_eq_getElem (by omega))
def F_head : DF := fun ds q _ => ∃ l : Str, ds = [.str l] ∧ OkT l ∧ q (.str (headS l))
theorem s__law_head : ∀ ds q x, F_head ds q x → ds.length = 1 ∧ t__law_head F__law_is_name { nx := fun _ => q .non, rt := q, ex := x } (startE 2 ds) := by
  rintro ds q x ⟨l, rfl, ok, hq⟩
  refine ⟨rfl, ?_⟩
  unfold t__law_head
  refine w_seq fun k hk => ?_
  walk_at "v26"
  have h2 := ok.2
  have hne := split_some (x := l) (y := " ") (s := 32) rfl (by decide)
  have hl : 0 < (Txt.split l " ").length := List.length_pos_iff.mpr hne
  have hd : (Txt.split l " ").getD 0 Str.empty = (Txt.split l " ").headD Str.empty := by
    cases Txt.split l " " <;> rfl
  have hm : (Txt.split l " ").headD Str.empty ∈ Txt.split l " " := by
    cases z : Txt.split l " " with
    | nil => exact absurd z hne
    | cons a r => exact List.mem_cons_self
  obtain ⟨m1, m2⟩ := split_sub (y := " ") (s := 32) rfl (by decide) hm
  have okw := ok.sub m1 m2
  refine ⟨_, rfl, _, rfl, by decide +kernel, by omega, _, ix_strsL (i := 0) hl, ?_⟩
  rw [hd]
  generalize hw : (Txt.split l " ").headD Str.empty = w at okw ⊢
  have e0 := nameO_of hw
  refine hk _ ?_
  walk_at "v26"
  have ow := okw.2
  have el : lenF [.str w] = some (.int (w.length : Nat)) := if_pos (by omega)
  refine ⟨_, el, _, rfl, _, rfl, ?_⟩
  by_cases c1 : 1 < w.length
  · rw [decide_eq_true (show ((w.length : Nat) : Int) > 1 by omega), if_pos rfl]
    rw [decide_eq_true c1, Bool.true_and] at e0
    obtain ⟨n, hn⟩ : ∃ n, w.length = n + 1 := ⟨w.length - 1, by omega⟩
    have ln : (TL.tl w).length = n + 1 := by rw [← hn, str_lenN]
    have e1 : ((w.length : Nat) : Int) - 1 = (n : Nat) := by omega
    have ne : TL.tl w ≠ [] := fun z => by rw [z] at ln; cases ln
    have tk : (TL.tl w).take n = (TL.tl w).dropLast := by rw [List.dropLast_eq_take, ln]; rfl
    refine ⟨_, el, _, rfl, _, (by
      rw [e1]
      show (if w.length ≤ 16777216 then (atI w.cps.toList ((n : Nat) : Int)).map fun c => D.str ⟨#[c]⟩ else none) = _
      rw [if_pos (by omega), atI_end (show w.cps.toList.length = n + 1 from ln), show w.cps.toList = TL.tl w from rfl, List.getLast?_eq_some_getLast ne]
      rfl), ?_⟩
    have cs : (TL.tl w).getLast ne < 128 := okw.1 _ (List.getLast_mem ne)
    have e3 : decide ((⟨#[(TL.tl w).getLast ne]⟩ : Str) = ":") = decide ((TL.tl w).getLast? = some 58) := by
      rw [List.getLast?_eq_some_getLast ne]
      by_cases q : (TL.tl w).getLast ne = 58
      · rw [q, decide_eq_true (show (⟨#[58]⟩ : Str) = ":" from rfl), decide_eq_true rfl]
      · rw [decide_eq_false (fun z => q (by have := congrArg TL.tl z; exact (List.cons.inj this).1)), decide_eq_false fun z => q (Option.some.inj z)]
    refine ⟨_, eqD_strs (strOk_of fun c hc => by
      have : c = (TL.tl w).getLast ne := List.mem_singleton.mp hc
      omega) (by decide +kernel), _, rfl, ?_⟩
    rw [e3]
    have ec : cutS w none (some (((w.length : Nat) : Int) - 1)) = (⟨((TL.tl w).dropLast).toArray⟩ : Str) := by
      rw [e1]
      refine str_eq ?_
      show TL.tl (cutS w none (some (n : Nat))) = (TL.tl w).dropLast
      rw [cutS_lo, tk]
    have lc : (⟨((TL.tl w).dropLast).toArray⟩ : Str).length ≤ 1000000 := by
      rw [str_lenN]
      show ((TL.tl w).dropLast).length ≤ _
      rw [List.length_dropLast]
      omega
    by_cases c2 : (TL.tl w).getLast? = some 58
    · rw [decide_eq_true c2, if_pos rfl]
      rw [decide_eq_true c2, Bool.true_and] at e0
      refine ⟨_, el, _, rfl, _, rfl, _, rfl, by omega, _, by rw [ec], lc, _, rfl, ?_⟩
      by_cases c3 : nameS ⟨((TL.tl w).dropLast).toArray⟩ = true
      · rw [if_pos c3]
        rw [if_pos c3] at e0
        refine ⟨_, el, _, rfl, _, rfl, w, rfl, by omega, ?_⟩
        rw [ec, ← headS_some e0]
        exact hq
      · rw [if_neg c3]
        rw [if_neg c3] at e0
        rw [← headS_none e0]
        exact hq
    · rw [decide_eq_false c2, if_neg Bool.false_ne_true]
      rw [decide_eq_false c2, Bool.false_and, if_neg Bool.false_ne_true] at e0
      rw [← headS_none e0]
      exact hq
  · rw [decide_eq_false (show ¬ ((w.length : Nat) : Int) > 1 by omega), if_neg Bool.false_ne_true]
    rw [decide_eq_false c1, Bool.false_and, Bool.false_and, if_neg Bool.false_ne_true] at e0
    rw [← headS_none e0]
    exact hq

theorem itemsAt_out (L : List Str) : ∀ n z, z ∈ (itemsAt L n).1 → ∃ i, i < n ∧ nameO (L.getD i Str.empty) = some z
  | 0, z, h => by cases h
  | n + 1, z, h => by
    have st : itemsAt L (n + 1) = match nameO (L.getD n Str.empty) with
      | some z => if z ∈ (itemsAt L n).1 then itemsAt L n else ((itemsAt L n).1 ++ [z], (itemsAt L n).2 ++ [n])
      | none => itemsAt L n := rfl
    have ih : z ∈ (itemsAt L n).1 → ∃ i, i < n + 1 ∧ nameO (L.getD i Str.empty) = some z := fun q => by
      obtain ⟨i, h1, h2⟩ := itemsAt_out L n z q
      exact ⟨i, by omega, h2⟩
    rw [st] at h
    split at h
    · rename_i y hy
      split at h
      · exact ih h
      · rcases List.mem_append.mp h with q | q
        · exact ih q
        · rw [List.mem_singleton.mp q]
          exact ⟨n, by omega, hy⟩
    · exact ih h
theorem plc_snoc {z : Str} {n : Nat} : ∀ {ks : List Str} {ps : List Nat}, ps.length = ks.length → z ∉ ks → plc z (ks ++ [z]) (ps ++ [n]) = some n
  | [], [], _, _ => by
    show (if z = z then some n else _) = _
    rw [if_pos rfl]
  | [], _ :: _, h, _ => by simp at h
  | _ :: _, [], h, _ => by simp at h
  | k :: ks, p :: ps, hl, h => by
    show (if k = z then some p else plc z (ks ++ [z]) (ps ++ [n])) = _
    rw [if_neg fun e => h (by rw [e]; exact List.mem_cons_self)]
    exact plc_snoc (by simpa using hl) fun q => h (List.mem_cons_of_mem _ q)
theorem plc_app {y z : Str} {n m : Nat} : ∀ {ks : List Str} {ps : List Nat}, plc z ks ps = some n → plc z (ks ++ [y]) (ps ++ [m]) = some n
  | [], _, h => by unfold plc at h; cases h
  | _ :: _, [], h => by unfold plc at h; cases h
  | k :: ks, p :: ps, h => by
    unfold plc at h
    show (if k = z then some p else plc z (ks ++ [y]) (ps ++ [m])) = _
    split at h
    · rename_i c; rw [if_pos c]; exact h
    · rename_i c; rw [if_neg c]; exact plc_app h
/-- the first line with the name -/
theorem plc_first (L : List Str) {i : Nat} {z : Str} (hz : nameO (L.getD i Str.empty) = some z) (hf : ∀ j, j < i → nameO (L.getD j Str.empty) ≠ some z) : ∀ n, i < n → plc z (itemsAt L n).1 (itemsAt L n).2 = some i
  | 0, h => by omega
  | n + 1, h => by
    have st : itemsAt L (n + 1) = match nameO (L.getD n Str.empty) with
      | some z => if z ∈ (itemsAt L n).1 then itemsAt L n else ((itemsAt L n).1 ++ [z], (itemsAt L n).2 ++ [n])
      | none => itemsAt L n := rfl
    by_cases c : i = n
    · subst c
      have no : z ∉ (itemsAt L i).1 := fun q => by
        obtain ⟨j, h1, h2⟩ := itemsAt_out L i z q
        exact hf j h1 h2
      rw [st, hz]
      simp only [if_neg no]
      exact plc_snoc (itemsAt_len L i).2 no
    · have ih := plc_first L hz hf n (by omega)
      rw [st]
      split
      · split
        · exact ih
        · exact plc_app ih
      · exact ih
theorem first_of {p : Nat → Prop} : ∀ n, p n → ∃ i, i ≤ n ∧ p i ∧ ∀ j, j < i → ¬ p j := fun n => by
  induction n using Nat.strongRecOn with
  | ind n ih =>
    intro h
    by_cases c : ∃ j, j < n ∧ p j
    · obtain ⟨j, h1, h2⟩ := c
      obtain ⟨i, a, b⟩ := ih j h1 h2
      exact ⟨i, by omega, b⟩
    · exact ⟨n, Nat.le_refl _, h, fun j hj q => c ⟨j, hj, q⟩⟩
/-- the place of a name is i just where it stands at i and not before -/
theorem plc_at {L : List Str} {n i : Nat} {z : Str} (hi : i < n) (hz : nameO (L.getD i Str.empty) = some z) : plc z (itemsAt L n).1 (itemsAt L n).2 = some i ↔ ∀ j, j < i → nameO (L.getD j Str.empty) ≠ some z := by
  obtain ⟨f, h1, h2, h3⟩ := first_of (p := fun j => nameO (L.getD j Str.empty) = some z) i hz
  have e := plc_first L h2 h3 n (by omega)
  constructor
  · intro q
    rw [e] at q
    cases q
    exact h3
  · intro q
    by_cases c : f = i
    · rw [e, c]
    · exact absurd h2 (q f (by omega))
/-! ### a line, as the law looks at it -/
def headsL (L : List Str) : List Str := L.map headS
theorem headsL_get {L : List Str} {j : Nat} (h : j < L.length) : (headsL L).getD j Str.empty = headS (L.getD j Str.empty) := by
  unfold headsL
  rw [List.getD, List.getElem?_map, List.getD, List.getElem?_eq_getElem h]
  rfl
theorem headS_is {l z : Str} (hz : z ≠ "") : headS l = z ↔ nameO l = some z := by
  unfold headS
  cases nameO l with
  | none => exact ⟨fun h => absurd h.symm hz, fun h => by cases h⟩
  | some y => exact ⟨fun h => congrArg some h, fun h => Option.some.inj h⟩
theorem mem_take_heads {L : List Str} {i : Nat} (hi : i ≤ L.length) {z : Str} (hz : z ≠ "") : z ∈ (headsL L).take i ↔ ∃ j, j < i ∧ nameO (L.getD j Str.empty) = some z := by
  constructor
  · intro h
    obtain ⟨j, hj, e⟩ := List.mem_take_iff_getElem.mp h
    have hl : j < L.length := by
      have : (headsL L).length = L.length := List.length_map ..
      omega
    refine ⟨j, by omega, (headS_is hz).mp ?_⟩
    rw [← headsL_get hl, ← e, List.getD, List.getElem?_eq_getElem]
    rfl
  · rintro ⟨j, hj, e⟩
    have hl : j < L.length := by omega
    have hl2 : j < (headsL L).length := by
      have : (headsL L).length = L.length := List.length_map ..
      omega
    refine List.mem_take_iff_getElem.mpr ⟨j, by omega, ?_⟩
    have := headsL_get hl
    rw [List.getD, List.getElem?_eq_getElem hl2] at this
    exact this.trans ((headS_is hz).mpr e)
/-- the parts of a word, as the law says that they are bad -/
def badP (H : List Str) (z : Str) (ps : List Str) (a : Nat) : Bool := !decide (ps.getD a Str.empty ∈ H) || decide (ps.getD a Str.empty ∈ ("" : Str) :: z :: ps.take a)
theorem difN_iff (ss : List Str) : ∀ n, difN ss n = n ↔ ∀ a, a < n → ss.getD a Str.empty ∉ ss.take a
  | 0 => ⟨fun _ a h => by omega, fun _ => rfl⟩
  | n + 1 => by
    have ih := difN_iff ss n
    have le := difN_le ss n
    have st : difN ss (n + 1) = if (ss.take n).any (· == ss.getD n Str.empty) then difN ss n else difN ss n + 1 := rfl
    rw [st]
    by_cases c : ss.getD n Str.empty ∈ ss.take n
    · rw [if_pos (show ((ss.take n).any fun x => x == ss.getD n Str.empty) = true from List.any_eq_true.mpr ⟨_, c, beq_self_eq_true _⟩)]
      exact ⟨fun h => by omega, fun h => absurd c (h n (by omega))⟩
    · rw [if_neg fun q => by
        obtain ⟨y, hy, e⟩ := List.any_eq_true.mp q
        exact c (by rw [← eq_of_beq e]; exact hy)]
      constructor
      · intro h a ha
        by_cases e : a = n
        · rw [e]; exact c
        · exact ih.mp (by omega) a (by omega)
      · intro h
        rw [ih.mpr fun a ha => h a (by omega)]
theorem goodW_iff {L : List Str} {i : Nat} {z w : Str} (hi : i < L.length) (hz : nameO (L.getD i Str.empty) = some z) (hp : plc z (itemsAt L L.length).1 (itemsAt L L.length).2 = some i) :
    goodW (itemsAt L L.length).1 (itemsAt L L.length).2 i w = true ↔ ∀ a, a < (Txt.split w "+").length → badP (headsL L) z (Txt.split w "+") a = false := by
  have nd := (itemsAt_lt L L.length).1
  have inH : ∀ p : Str, p ≠ "" → (p ∈ (itemsAt L L.length).1 ↔ p ∈ headsL L) := fun p hp => by
    have := mem_take_heads (L := L) (i := L.length) (Nat.le_refl _) hp
    rw [List.take_of_length_le (show (headsL L).length ≤ L.length by unfold headsL; rw [List.length_map]; exact Nat.le_refl _)] at this
    rw [this]
    exact ⟨fun q => itemsAt_out L L.length p q, fun ⟨j, h1, h2⟩ => itemsAt_in L L.length j h1 p h2⟩
  have noE : ("" : Str) ∉ (itemsAt L L.length).1 := fun q => by
    obtain ⟨j, _, h2⟩ := itemsAt_out L L.length _ q
    exact nameS_ne (nameO_name h2) rfl
  unfold goodW
  rw [Bool.and_eq_true, List.all_eq_true, decide_eq_true_eq, difN_iff]
  generalize Txt.split w "+" = ps
  have one : ∀ p : Str, (decide (p ∈ (itemsAt L L.length).1) && !decide (plc p (itemsAt L L.length).1 (itemsAt L L.length).2 = some i)) = true ↔ p ∈ headsL L ∧ p ≠ "" ∧ p ≠ z := fun p => by
    rw [Bool.and_eq_true, decide_eq_true_eq, Bool.not_eq_true', decide_eq_false_iff_not]
    constructor
    · rintro ⟨h1, h2⟩
      have hp : p ≠ "" := fun e => noE (by rw [← e]; exact h1)
      exact ⟨(inH p hp).mp h1, hp, fun e => h2 (by rw [e]; assumption)⟩
    · rintro ⟨h1, h2, h3⟩
      exact ⟨(inH p h2).mpr h1, fun q => h3 (plc_inj nd q hp)⟩
  have bad : ∀ a, badP (headsL L) z ps a = false ↔ (ps.getD a Str.empty ∈ headsL L ∧ ps.getD a Str.empty ≠ "" ∧ ps.getD a Str.empty ≠ z) ∧ ps.getD a Str.empty ∉ ps.take a := fun a => by
    unfold badP
    rw [Bool.or_eq_false_iff, Bool.not_eq_false', decide_eq_true_eq, decide_eq_false_iff_not, List.mem_cons, List.mem_cons, not_or, not_or]
    exact ⟨fun ⟨a, b, c, d⟩ => ⟨⟨a, b, c⟩, d⟩, fun ⟨⟨a, b, c⟩, d⟩ => ⟨a, b, c, d⟩⟩
  constructor
  · rintro ⟨h1, h2⟩ a ha
    refine (bad a).mpr ⟨(one _).mp (h1 _ ?_), h2 a ha⟩
    rw [List.getD, List.getElem?_eq_getElem ha]
    exact List.getElem_mem _
  · intro h
    refine ⟨fun p hp => ?_, fun a ha => ((bad a).mp (h a ha)).2⟩
    obtain ⟨a, ha, e⟩ := List.mem_iff_getElem.mp hp
    have := ((bad a).mp (h a ha)).1
    rw [List.getD, List.getElem?_eq_getElem ha] at this
    rw [← e]
    exact (one _).mpr this
/-- a line is good, as the law looks at it -/
theorem lineOk_iff {L : List Str} {i : Nat} (hi : i < L.length) : lineOk L i = true ↔ i ≤ 23 ∧ headS (L.getD i Str.empty) ≠ "" ∧ headS (L.getD i Str.empty) ∉ (headsL L).take i ∧
    ∀ w ∈ (Txt.split (L.getD i Str.empty) " ").drop 1, w = "-" ∨ ∀ a, a < (Txt.split w "+").length → badP (headsL L) (headS (L.getD i Str.empty)) (Txt.split w "+") a = false := by
  unfold lineOk
  cases hn : nameO (L.getD i Str.empty) with
  | none =>
    rw [headS_none hn]
    exact ⟨fun h => (nomatch h), fun h => absurd rfl h.2.1⟩
  | some z =>
    have ne := nameS_ne (nameO_name hn)
    rw [headS_some hn, mem_take_heads (Nat.le_of_lt hi) ne]
    show ((decide _ && List.all _ _) && decide _) = true ↔ _
    rw [Bool.and_eq_true, Bool.and_eq_true, decide_eq_true_eq, decide_eq_true_eq, plc_at hi hn, List.all_eq_true]
    constructor
    · rintro ⟨⟨h1, h2⟩, h3⟩
      refine ⟨by omega, ne, fun ⟨j, a, b⟩ => h1 j a b, fun w hw => ?_⟩
      have := h2 w hw
      unfold goodX at this
      rw [Bool.or_eq_true, decide_eq_true_eq] at this
      rcases this with q | q
      · exact .inl q
      · exact .inr ((goodW_iff hi hn ((plc_at hi hn).mpr h1)).mp q)
    · rintro ⟨h1, _, h2, h3⟩
      have h2' : ∀ j, j < i → nameO (L.getD j Str.empty) ≠ some z := fun j a b => h2 ⟨j, a, b⟩
      refine ⟨⟨h2', fun w hw => ?_⟩, by omega⟩
      unfold goodX
      rw [Bool.or_eq_true, decide_eq_true_eq]
      rcases h3 w hw with q | q
      · exact .inl q
      · exact .inr ((goodW_iff hi hn ((plc_at hi hn).mpr h2')).mpr q)

def F_bad_line : DF := fun ds q _ => ∃ s : Str, ds = [.str s] ∧ s.length ≤ 1000000 ∧ LinesOk (Txt.split s "\n") ∧
  (∀ i, i < (Txt.split s "\n").length → (∀ j, j < i → lineOk (Txt.split s "\n") j = true) → lineOk (Txt.split s "\n") i = false → q (.int ((i + 1 : Nat) : Int))) ∧
  ((∀ j, j < (Txt.split s "\n").length → lineOk (Txt.split s "\n") j = true) → q (.int 0))
theorem headS_ok {l : Str} : PyData.strOk (headS l) = true := by
  cases h : nameO l with
  | none => rw [headS_none h]; decide +kernel
  | some z => rw [headS_some h]; exact strOk_name (nameO_name h)
theorem headsL_ok {L : List Str} : ∀ y ∈ headsL L, PyData.strOk y = true := fun y hy => by
  obtain ⟨l, _, rfl⟩ := List.mem_map.mp hy
  exact headS_ok
theorem neD_strs {s t : Str} (hs : PyData.strOk s = true) (ht : PyData.strOk t = true) : neD (.str s) (.str t) = some (.bl (!decide (s = t))) := by
  unfold neD
  rw [eqB_str hs ht]
  rfl
theorem cut_to8 (xs : List D) (k : Nat) : cutD xs none (some (k : Nat)) = xs.take k := by
  unfold cutD
  rw [HT.sIx_none, HT.sIx_nat, List.drop_zero, Nat.sub_zero]
  rcases Nat.le_total k xs.length with h | h
  · rw [Nat.min_eq_left h]
  · rw [Nat.min_eq_right h, List.take_of_length_le (Nat.le_refl _), List.take_of_length_le h]
theorem cutL_lo {ss : List Str} {k : Nat} : slD (.lst (ss.map D.str)) none (some (k : Nat)) = some (.lst ((ss.take k).map D.str)) := by
  show some (D.lst (cutD _ _ _)) = _
  rw [cut_to8, List.map_take]
theorem cutL_hi {ss : List Str} {k : Nat} : slD (.lst (ss.map D.str)) (some (k : Nat)) none = some (.lst ((ss.drop k).map D.str)) := by
  show some (D.lst (cutD _ _ _)) = _
  rw [cut_dropG, List.map_drop]
theorem s__law_bad_line : ∀ ds q x, F_bad_line ds q x → ds.length = 1 ∧ t__law_bad_line F_head { nx := fun _ => q .non, rt := q, ex := x } (startE 8 ds) := by
  rintro ds q x ⟨s, rfl, ls, ok, hbad, hgood⟩
  refine ⟨rfl, ?_⟩
  unfold t__law_bad_line
  refine w_seq fun k hk => ?_
  walk_at "v26"
  refine ⟨_, rfl, _, rfl, by decide +kernel, by omega, ?_⟩
  generalize Txt.split s "\n" = L at ok hbad hgood ⊢
  refine hk _ (w_seq fun k hk => ?_)
  walk_at "v26"
  have l60 := ok.len
  refine ⟨by omega, lc_all D.str (fun l => .str (headS l)) (l := L) (fun l hl => ⟨_, rfl, fun Q hQ => ?_⟩) ?_⟩
  · walk_at "v26"
    exact ⟨l, rfl, (ok.ok l hl).1, hQ⟩
  have eh : (L.map fun l => D.str (headS l)) = (headsL L).map D.str := by unfold headsL; rw [List.map_map]; rfl
  have hlen : (headsL L).length = L.length := by unfold headsL; rw [List.length_map]
  rw [eh]
  refine hk _ (w_seq fun k hk => ?_)
  walk_at "v26"
  refine ⟨by omega, by omega, for_range (fun i env => ∃ o4 o3 o5 o6 o7, env = [.val (.str s), .val (.lst (L.map D.str)), .val (.lst ((headsL L).map D.str)), o3, o4, o5, o6, o7] ∧ ∀ j, j < i → lineOk L j = true) ⟨_, _, _, _, _, rfl, fun j hj => absurd hj (Nat.not_lt_zero j)⟩ ?_ ?_⟩
  · rintro i hi env k2 ⟨o4, o3, o5, o6, o7, rfl, hdone⟩ hk2
    have hm : L.getD i Str.empty ∈ L := by rw [List.getD, List.getElem?_eq_getElem hi]; exact List.getElem_mem _
    obtain ⟨t1, t2, t3⟩ := ok.ok _ hm
    have bad : lineOk L i = false → q (.int ((i + 1 : Nat) : Int)) := hbad i hi hdone
    have lio := lineOk_iff hi
    have hh : ixD (.lst ((headsL L).map D.str)) (.int (i : Nat)) = some (.str (headS (L.getD i Str.empty))) := by
      rw [ix_strsL (by omega), headsL_get hi]
    have nextI : lineOk L i = true → ∀ o4 o5 o6 o7, k2 [.val (.str s), .val (.lst (L.map D.str)), .val (.lst ((headsL L).map D.str)), .val (.int (i : Nat)), o4, o5, o6, o7] := fun h o4 o5 o6 o7 => hk2 _ ⟨_, _, _, _, _, rfl, fun j hj => by
      by_cases c : j = i
      · rw [c]; exact h
      · exact hdone j (by omega)⟩
    generalize headS (L.getD i Str.empty) = z at hh lio
    have zok : PyData.strOk z = true := by
      have := headsL_ok (L := L) ((headsL L).getD i Str.empty) (by rw [List.getD, List.getElem?_eq_getElem (by omega)]; exact List.getElem_mem _)
      have e := ix_strsL (ss := headsL L) (i := i) (by omega)
      rw [hh] at e
      cases e
      exact this
    refine ⟨_, rfl, w_seq fun k3 hk3 => w_if fun A B hA hB => ?_⟩
    have hA' : lineOk L i = false → A := fun h => hA (by
      walk_at "v26"
      exact bad h)
    have no : ¬ (lineOk L i = true) → lineOk L i = false := fun h => by
      cases c : lineOk L i with
      | false => rfl
      | true => exact absurd c h
    walk_at "v26"
    refine ⟨_, rfl, _, rfl, ?_⟩
    by_cases c1 : i ≤ 23
    · rw [decide_eq_false (show ¬ ((i : Nat) : Int) > 23 by omega), if_neg Bool.false_ne_true]
      refine ⟨_, hh, _, eqD_strs zok (by decide +kernel), _, rfl, ?_⟩
      by_cases c2 : z = ""
      · rw [decide_eq_true c2, if_pos rfl]
        exact hA' (no fun h => (lio.mp h).2.1 c2)
      · rw [decide_eq_false c2, if_neg Bool.false_ne_true]
        refine ⟨_, hh, _, cutL_lo, _, (in_strsN zok fun y hy => headsL_ok y (List.mem_of_mem_take hy)).1, _, rfl, ?_⟩
        by_cases c3 : z ∈ (headsL L).take i
        · rw [decide_eq_true c3, if_pos rfl]
          exact hA' (no fun h => (lio.mp h).2.2.1 c3)
        · rw [decide_eq_false c3, if_neg Bool.false_ne_true]
          refine hB (hk3 _ ?_)
          walk_at "v26"
          have hs1 := t1.2
          refine .inl ⟨_, ix_strsL hi, _, rfl, _, rfl, by decide +kernel, by omega, _, cutL_hi (k := 1), _, rfl, ?_⟩
          have wl : ∀ w ∈ (Txt.split (L.getD i Str.empty) " ").drop 1, OkT w ∧ w.length ≤ 900 := fun w hw => by
            obtain ⟨a1, a2⟩ := split_sub (y := " ") (s := 32) rfl (by decide) (List.mem_of_mem_drop hw)
            exact ⟨t1.sub a1 a2, by omega⟩
          refine for_inv D.str (fun rest env => ∃ (dn : List Str) (o4 o5 o6 o7 : EV), env = [.val (.str s), .val (.lst (L.map D.str)), .val (.lst ((headsL L).map D.str)), .val (.int (i : Nat)), o4, o5, o6, o7] ∧ dn ++ rest = (Txt.split (L.getD i Str.empty) " ").drop 1 ∧ ∀ w ∈ dn, w = "-" ∨ ∀ a, a < (Txt.split w "+").length → badP (headsL L) z (Txt.split w "+") a = false) ⟨[], _, _, _, _, rfl, rfl, fun w hw => by cases hw⟩ ?_ ?_
          · rintro w rest env k5 hw ⟨dn, o4, o5, o6, o7, rfl, hdn, hg⟩ hk5
            obtain ⟨w1, w2⟩ := wl w hw
            refine ⟨_, rfl, w_seq fun k6 hk6 => ?_⟩
            walk_at "v26"
            refine ⟨_, rfl, _, rfl, by decide +kernel, by omega, hk6 _ ?_⟩
            walk_at "v26"
            have pl : (Txt.split w "+").length ≤ 902 := by
              have := PyProof.Rows.split_le w "+"
              omega
            have po : ∀ y ∈ Txt.split w "+", PyData.strOk y = true := fun y hy => by
              obtain ⟨a1, a2⟩ := split_sub (y := "+") (s := 43) rfl (by decide) hy
              exact (w1.sub a1 a2).ok
            have bw : ∀ a, a < (Txt.split w "+").length → w ≠ "-" → badP (headsL L) z (Txt.split w "+") a = true → lineOk L i = false := fun a ha hd hb => no fun h => by
              rcases (lio.mp h).2.2.2 w (by rw [← hdn]; exact List.mem_append_right _ List.mem_cons_self) with r | r
              · exact hd r
              · have := r a ha
                rw [hb] at this
                cases this
            have hg2 : (w = "-" ∨ ∀ a, a < (Txt.split w "+").length → badP (headsL L) z (Txt.split w "+") a = false) → ∀ w' ∈ dn ++ [w], w' = "-" ∨ ∀ a, a < (Txt.split w' "+").length → badP (headsL L) z (Txt.split w' "+") a = false := fun h w' hw' => by
              rcases List.mem_append.mp hw' with r | r
              · exact hg w' r
              · rw [List.mem_singleton.mp r]; exact h
            have e5 : dn ++ [w] ++ rest = (Txt.split (L.getD i Str.empty) " ").drop 1 := by rw [List.append_assoc]; exact hdn
            generalize Txt.split w "+" = ps at pl po bw hg2 ⊢
            have el : lenF [.lst (ps.map D.str)] = some (.int (ps.length : Nat)) := by
              show some (D.int ((ps.map D.str).length : Nat)) = _
              rw [List.length_map]
            refine ⟨by omega, by omega, for_range (fun at' env => ∃ o5 o7, env = [.val (.str s), .val (.lst (L.map D.str)), .val (.lst ((headsL L).map D.str)), .val (.int (i : Nat)), .val (.str w), o5, .val (.lst (ps.map D.str)), o7] ∧ (w = "-" ∨ ∀ a, a < at' → badP (headsL L) z ps a = false)) ⟨_, _, rfl, .inr fun a ha => absurd ha (Nat.not_lt_zero a)⟩ ?_ ?_⟩
            · rintro at' hat env k7 ⟨o5, o7, rfl, hp⟩ hk7
              refine ⟨_, rfl, w_if fun A B hA hB => ?_⟩
              have nxt : (w = "-" ∨ badP (headsL L) z ps at' = false) → B := fun h => hB (by
                walk_at "v26"
                refine hk7 _ ⟨_, _, rfl, ?_⟩
                rcases h with h | h
                · exact .inl h
                · rcases hp with r | r
                  · exact .inl r
                  · refine .inr fun a ha => ?_
                    by_cases c : a = at'
                    · rw [c]; exact h
                    · exact r a (by omega))
              have out : w ≠ "-" → badP (headsL L) z ps at' = true → A := fun h1 h2 => hA (by
                walk_at "v26"
                exact bad (bw at' hat h1 h2))
              have pg : PyData.strOk (ps.getD at' Str.empty) = true := po _ (by rw [List.getD, List.getElem?_eq_getElem hat]; exact List.getElem_mem _)
              walk_at "v26"
              refine ⟨_, neD_strs w1.ok (by decide +kernel), _, rfl, ?_⟩
              by_cases d1 : w = "-"
              · rw [decide_eq_true d1, Bool.not_true, if_neg Bool.false_ne_true]
                exact nxt (.inl d1)
              rw [decide_eq_false d1, Bool.not_false, if_pos rfl]
              refine ⟨_, ix_strsL hat, _, (in_strsN pg headsL_ok).2, _, rfl, ?_⟩
              by_cases d2 : ps.getD at' Str.empty ∈ headsL L
              · rw [decide_eq_true d2, Bool.not_true, if_neg Bool.false_ne_true]
                have lt : ((ps.take at').map D.str).length ≤ 902 := by rw [List.length_map, List.length_take]; omega
                refine ⟨_, ix_strsL hat, _, hh, by decide, _, cutL_lo, _, catL (by simp only [List.length_cons, List.length_nil]; omega), _, (in_strsN (ss := "" :: z :: ps.take at') pg fun y hy => ?_).1, _, rfl, ?_⟩
                · rcases List.mem_cons.mp hy with r | r
                  · rw [r]; decide +kernel
                  · rcases List.mem_cons.mp r with r | r
                    · rw [r]; exact zok
                    · exact po y (List.mem_of_mem_take r)
                by_cases d3 : ps.getD at' Str.empty ∈ ("" : Str) :: z :: ps.take at'
                · rw [decide_eq_true d3, if_pos rfl]
                  refine out d1 ?_
                  unfold badP
                  rw [decide_eq_true d3, Bool.or_true]
                · rw [decide_eq_false d3, if_neg Bool.false_ne_true]
                  refine nxt (.inr ?_)
                  unfold badP
                  rw [decide_eq_true d2, decide_eq_false d3]
                  rfl
              · rw [decide_eq_false d2, Bool.not_false, if_pos rfl]
                refine out d1 ?_
                unfold badP
                rw [decide_eq_false d2]
                rfl
            · rintro env ⟨o5, o7, rfl, hp⟩
              exact hk5 _ ⟨dn ++ [w], _, _, _, _, rfl, e5, hg2 hp⟩
          · rintro env ⟨dn, o4, o5, o6, o7, rfl, hdn, hg⟩
            rw [List.append_nil] at hdn
            refine nextI (lio.mpr ⟨c1, c2, c3, fun w hw => hg w (by rw [hdn]; exact hw)⟩) _ _ _ _
    · rw [decide_eq_true (show ((i : Nat) : Int) > 23 by omega), if_pos rfl]
      exact hA' (no fun h => c1 (lio.mp h).1)
  · rintro env ⟨o4, o3, o5, o6, o7, rfl, hdone⟩
    refine hk _ ?_
    walk_at "v26"
    exact hgood hdone

def t__law_spoilt (F__law_draw : DF) : DS := (dSeq (dPar [4, 5] (dFVal (dCall F__law_draw (dCons (dVar 0) (dCons (dOp addA (dBlt lenF (dCons (dVar 1) dNil)) (dC (.int 1))) dNil))) (dFVal (dOp ixSD (dC (.str " +-:aA9")) (dCall F__law_draw (dCons (dVar 0) (dCons (dC (.int 7)) dNil)))) dFNil))) (dSeq (dPar [6, 7] (dFVal (dOp ixD (dVar 2) (dCall F__law_draw (dCons (dVar 0) (dCons (dBlt lenF (dCons (dVar 2) dNil)) dNil)))) (dFVal (dOp ixD (dVar 2) (dCall F__law_draw (dCons (dVar 0) (dCons (dBlt lenF (dCons (dVar 2) dNil)) dNil)))) dFNil))) (dSeq (dSet 3 (dLst (dCons (dOp addA (dOp addA (dSlS (dVar 1) dNoPart (dPart (dVar 4))) (dVar 5)) (dSlS (dVar 1) (dPart (dVar 4)) dNoPart)) (dCons (dOp addA (dSlS (dVar 1) dNoPart (dPart (dVar 4))) (dSlS (dVar 1) (dPart (dOp addA (dVar 4) (dC (.int 1)))) dNoPart)) (dCons (dOp addA (dVar 1) (dC (.str " "))) (dCons (dOp addA (dC (.str " ")) (dVar 1)) (dCons (dC (.str "")) (dCons (dOp addA (dOp addA (dVar 1) (dC (.str " "))) (dVar 6)) dNil)))))))) (dSeq (dSet 3 (dOp addA (dVar 3) (dLst (dCons (dOp addA (dOp addA (dOp addA (dOp addA (dVar 1) (dC (.str " "))) (dVar 6)) (dC (.str "+"))) (dVar 7)) (dCons (dOp addA (dVar 1) (dC (.str " -"))) (dCons (dOp addA (dVar 1) (dC (.str " nobody"))) (dCons (dReplC (dVar 1) ":" "") (dCons (dOp addA (dVar 6) (dC (.str ":"))) (dCons (dOp addA (dOp addA (dVar 1) (dC (.str "+"))) (dVar 6)) dNil))))))))) (dRet (dOp ixD (dVar 3) (dCall F__law_draw (dCons (dVar 0) (dCons (dC (.int 12)) dNil)))))))))
def t_law58 (TL : Addr) (W : WRel) (F__law_cell_at : DF) (F__law_pen_of : DF) (F__law_book : DF) (F__law_names : DF) (F__law_text : DF) (F__law_draw : DF) (F__law_spoilt : DF) (F_course_of : DF) (F__law_bad_line : DF) (F__law_is : DF) : DS := (dSeq (dFor (iSeq (dOp addA (dLst (dCons (dCall F__law_cell_at (dCons (dVar 0) (dCons (dC (.int 0)) dNil))) dNil)) (dSl (dVar 0) (dPart (dC (.int 1))) (dPart (dC (.int 8)))))) (gN 1) (dSeq (dSet 2 (dCall F__law_pen_of (dCons (dVar 1) dNil))) (dSeq (dSet 3 (dCall F__law_book (dCons (dVar 2) (dCons (dC (.int 8)) dNil)))) (dSeq (dSet 4 (dCall F__law_names (dCons (dVar 2) (dCons (dBlt lenF (dCons (dVar 3) dNil)) (dCons (dC (.int 3)) dNil))))) (dSeq (dSet 5 (dCall F__law_text (dCons (dVar 4) (dCons (dVar 3) dNil)))) (dSeq (dFor (iRange1 (dC (.int 5))) (gN 6) (dSeq (dSetOwn 11 (dFSplit (dVar 5) (dC (.str "\n")))) (dSeq (dFor (iRange1 (dOp addA (dC (.int 1)) (dCall F__law_draw (dCons (dVar 2) (dCons (dC (.int 2)) dNil))))) (gN 12) (dSeq (dSet 13 (dCall F__law_draw (dCons (dVar 2) (dCons (dBlt lenF (dCons (dVar 11) dNil)) dNil)))) (dSetIx 11 (dCall F__law_spoilt (dCons (dVar 2) (dCons (dOp ixD (dVar 11) (dVar 13)) (dCons (dVar 4) dNil)))) (dVar 13)))) (dSeq (dSet 13 (dCall F__law_draw (dCons (dVar 2) (dCons (dBlt lenF (dCons (dVar 11) dNil)) dNil)))) (dFreeze 11 (dSeq (dSet 11 (dOp ixD (dLst (dCons (dVar 11) (dCons (dVar 11) (dCons (dOp addA (dSl (dVar 11) dNoPart (dPart (dVar 13))) (dSl (dVar 11) (dPart (dOp addA (dVar 13) (dC (.int 1)))) dNoPart)) (dCons (dOp addA (dOp addA (dSl (dVar 11) dNoPart (dPart (dVar 13))) (dLst (dCons (dOp ixD (dVar 11) (dVar 13)) dNil))) (dSl (dVar 11) (dPart (dVar 13)) dNoPart)) dNil))))) (dCall F__law_draw (dCons (dVar 2) (dCons (dC (.int 4)) dNil))))) (dSeq (dSet 9 (dJoin "\n" (dVar 11))) (dSeq (dPar [14, 15] (dFVal (dCall F__law_bad_line (dCons (dVar 9) dNil)) (dFVal (dSaid 17 TL W (dCall F_course_of (dCons (dVar 9) dNil))) dFNil))) (dIfS (dOrT (dTest (dOp neD (dOp ixD (dVar 15) (dC (.int 0))) (dOp ixD (dLst (dCons (dC (.str "told")) (dCons (dC (.str "text")) dNil))) (dBlt intF (dCons (dOp gtI (dVar 14) (dC (.int 0))) dNil))))) (dAndT (dTest (dOp gtI (dVar 14) (dC (.int 0)))) (dNotT (dTest (dCall F__law_is (dCons (dVar 15) (dCons (dTup (dCons (dC (.str "text")) (dCons (dVar 14) dNil))) dNil))))))) (dRet (dC (.bl false))) dNext))))))))) (dSeq (dSet 7 (dOp ixD (dLst (dCons (dC (.str "abcdefgh")) (dCons (dC (.str "abcdefghi")) (dCons (dC (.str "zzzzzzz")) dNil)))) (dCall F__law_draw (dCons (dVar 2) (dCons (dC (.int 3)) dNil))))) (dSeq (dSet 8 (dJoin "\n" (dOfF (dLc [16] (iRange1 (dC (.int 24))) (gN 16) dYes (dOp addA (dOp ixSD (dC (.str "abcdefghijklmnopqrstuvwx")) (dVar 16)) (dC (.str ":"))))))) (dSeq (dFor (iSeq (dLst (dCons (dOp addA (dVar 7) (dC (.str ": -"))) (dCons (dOp addA (dOp addA (dOp addA (dOp addA (dC (.str "a: ")) (dVar 7)) (dC (.str "\n"))) (dVar 7)) (dC (.str ": -"))) (dCons (dVar 8) (dCons (dOp addA (dVar 8) (dC (.str "\nqq: -"))) (dCons (dOp addA (dVar 8) (dC (.str "\n"))) (dCons (dC (.str "")) (dCons (dC (.str "\n")) (dCons (dC (.str ":")) (dCons (dC (.str " ")) (dCons (dOp addA (dVar 5) (dC (.str "\n"))) dNil)))))))))))) (gN 9) (dSeq (dPar [14, 15] (dFVal (dCall F__law_bad_line (dCons (dVar 9) dNil)) (dFVal (dSaid 17 TL W (dCall F_course_of (dCons (dVar 9) dNil))) dFNil))) (dIfS (dOrT (dTest (dOp neD (dOp ixD (dVar 15) (dC (.int 0))) (dOp ixD (dLst (dCons (dC (.str "told")) (dCons (dC (.str "text")) dNil))) (dBlt intF (dCons (dOp gtI (dVar 14) (dC (.int 0))) dNil))))) (dAndT (dTest (dOp gtI (dVar 14) (dC (.int 0)))) (dNotT (dTest (dCall F__law_is (dCons (dVar 15) (dCons (dTup (dCons (dC (.str "text")) (dCons (dVar 14) dNil))) dNil))))))) (dRet (dC (.bl false))) dNext))) (dFor (iSeq (dLst (dCons (dC .non) (dCons (dC (.int 0)) (dCons (dC (.bl true)) (dCons (dLst dNil) (dCons (dTup dNil) (dCons dDict0 (dCons (dLst (dCons (dVar 5) dNil)) (dCons (dTup (dCons (dC (.str "a: -")) dNil)) dNil)))))))))) (gN 10) (dIfS (dNotT (dTest (dCall F__law_is (dCons (dSaid 17 TL W (dCall F_course_of (dCons (dVar 10) dNil))) (dCons (dTup (dCons (dC (.str "text")) (dCons (dC (.int 0)) dNil))) dNil))))) (dRet (dC (.bl false))) dNext))))))))))) (dRet (dC (.bl true))))
def F_spoilt : DF := fun ds q _ => ∃ (l : Str) (ss : List Str) (m k : Nat), ds = [.pen, .str l, .lst (ss.map D.str)] ∧ LS m k l ∧ m ≤ 800 ∧ ss ≠ [] ∧ ss.length ≤ 24 ∧ (∀ z ∈ ss, nameS z = true) ∧ ∀ l', LS (m + 18) (k + 1) l' → q (.str l')
theorem LS.lit {z : Str} {m k : Nat} (h : (TL.tl z).all (fun c => decide (c < 128) && decide (c ≠ 10)) = true) (hm : (TL.tl z).length ≤ m) (hk : (TL.tl z).count 32 ≤ k) : LS m k z :=
  ⟨fun c hc => by have := List.all_eq_true.mp h c hc; rw [Bool.and_eq_true, decide_eq_true_eq, decide_eq_true_eq] at this; exact this, hm, hk⟩
theorem LS.name {z : Str} (h : nameS z = true) : LS 8 0 z := by
  refine ⟨fun c hc => ?_, ?_, ?_⟩
  · have := nameS_az h c hc
    exact ⟨az_small c this, fun e => by rw [e] at this; exact absurd this (by decide)⟩
  · have := (nameS_le h).2
    rw [str_lenN] at this
    exact this
  · rw [List.count_eq_zero_of_not_mem (az_no h (by decide))]
    exact Nat.le_refl _
theorem sign_at : ∀ k, k < 7 → ∃ c, c < 128 ∧ c ≠ 10 ∧ ixSD (.str " +-:aA9") (.int (k : Nat)) = some (.str ⟨#[c]⟩) := by
  have : ∀ k, k < 7 → ∃ c, ([32, 43, 45, 58, 97, 65, 57] : List Nat)[k]? = some c ∧ c < 128 ∧ c ≠ 10 := by decide
  intro k hk
  obtain ⟨c, h1, h2, h3⟩ := this k hk
  refine ⟨c, h2, h3, ?_⟩
  show (if (" +-:aA9" : Str).length ≤ 16777216 then (atI (TL.tl (" +-:aA9" : Str)) ((k : Nat) : Int)).map fun c => D.str ⟨#[c]⟩ else none) = _
  rw [if_pos (by decide +kernel), atI_nat (show (TL.tl (" +-:aA9" : Str))[k]? = some c from h1)]
  rfl
/-- an expression gives a text with this -/
def Ev (env : SE) (te : DE) (P : Str → Prop) : Prop := ∀ (q : R → Prop) (x : XP), (∀ z, P z → q (.val (.str z))) → te env q x
theorem Ev.wk {env : SE} {te : DE} {P P' : Str → Prop} (h : Ev env te P) (i : ∀ z, P z → P' z) : Ev env te P' := fun q x hq => h q x fun z hz => hq z (i z hz)
theorem Ev.var {env : SE} {i : Nat} {z : Str} {P : Str → Prop} (h : env[i]? = some (.val (.str z))) (hz : P z) : Ev env (dVar i) P := fun q x hq => by
  rw [dVar_app, h]
  exact hq z hz
theorem Ev.lit {env : SE} {z : Str} {P : Str → Prop} (hz : P z) : Ev env (dC (.str z)) P := fun q x hq => hq z hz
theorem Ev.add {env : SE} {te tu : DE} {m k m' k' : Nat} (h : Ev env te (LS m k)) (h' : Ev env tu (LS m' k')) (l : m + m' ≤ 16777216) : Ev env (dOp addA te tu) (LS (m + m') (k + k')) := fun q x hq => by
  rw [dOp_app]
  refine h _ _ fun z hz => h' _ _ fun y hy => ⟨_, addS2 (by have := hz.len; have := hy.len; omega), hq _ (hz.app hy)⟩
theorem LS.mono {m k m' k' : Nat} {z : Str} (h : LS m k z) (hm : m ≤ m') (hk : k ≤ k') : LS m' k' z := LO.mono h hm hk
theorem s__law_spoilt : ∀ ds q x, F_spoilt ds q x → ds.length = 3 ∧ t__law_spoilt F__law_draw { nx := fun _ => q .non, rt := q, ex := x } (startE 8 ds) := by
  rintro ds q x ⟨l, ss, m, k1, rfl, hl, hm, hne, h24, hs, hq⟩
  refine ⟨rfl, ?_⟩
  unfold t__law_spoilt
  have ll := hl.len
  have el : lenF [.str l] = some (.int (l.length : Nat)) := if_pos (by omega)
  have es : lenF [.lst (ss.map D.str)] = some (.int (ss.length : Nat)) := by
    show some (D.int ((ss.map D.str).length : Nat)) = _
    rw [List.length_map]
  have sp := List.length_pos_iff.mpr hne
  refine w_seq fun k hk => ?_
  walk_at "v26"
  refine ⟨_, el, _, rfl, draw_ap.mpr ⟨by omega, by omega, fun a ha => ⟨by decide, by decide, fun b hb => ?_⟩⟩⟩
  obtain ⟨c, c1, c2, c3⟩ := sign_at b (by omega)
  refine ⟨_, c3, hk _ (w_seq fun k hk => ?_)⟩
  walk_at "v26"
  refine ⟨by omega, by omega, fun i hi => ⟨_, ix_strsL (by omega), by omega, by omega, fun j hj => ⟨_, ix_strsL (by omega), ?_⟩⟩⟩
  have ho := getN hs (i := i) (by omega)
  have hp := getN hs (i := j) (by omega)
  generalize ss.getD i Str.empty = own at ho ⊢
  generalize ss.getD j Str.empty = oth at hp ⊢
  have o8 := LS.name ho
  have p8 := LS.name hp
  refine hk _ (w_seq fun k hk => ?_)
  simp only [dSet_app, dLst_app, dCons_app, dNil_app]
  have mk : ∀ {m' k' : Nat} {z : Str}, m' ≤ m + 18 → k' ≤ k1 + 1 → LS m' k' z → LS (m + 18) (k1 + 1) z := fun h1 h2 h => h.mono h1 h2
  have b1 : LS 1 1 (" " : Str) := LS.lit (by decide) (by decide) (by decide)
  have b2 : LS 1 0 ("+" : Str) := LS.lit (by decide) (by decide) (by decide)
  have b3 : LS 2 1 (" -" : Str) := LS.lit (by decide) (by decide) (by decide)
  have b4 : LS 7 1 (" nobody" : Str) := LS.lit (by decide) (by decide) (by decide)
  have b5 : LS 1 0 (":" : Str) := LS.lit (by decide) (by decide) (by decide)
  have b6 : LS 0 0 ("" : Str) := LS.lit (by decide) (by decide) (by decide)
  have bc : LS 1 1 (⟨#[c]⟩ : Str) := ⟨fun d hd => by rw [List.mem_singleton.mp hd]; exact ⟨c1, c2⟩, Nat.le_refl 1, by rw [show TL.tl (⟨#[c]⟩ : Str) = [c] from rfl]; exact Nat.le_trans List.count_le_length (Nat.le_refl 1)⟩
  have la : a ≤ l.length := by omega
  have lr : l.length = (TL.tl l).length := str_lenN l
  have hlo : Ev [.val .pen, .val (.str l), .val (.lst (ss.map D.str)), .no, .val (.int (a : Nat)), .val (.str ⟨#[c]⟩), .val (.str own), .val (.str oth)] (dSlS (dVar 1) dNoPart (dPart (dVar 4))) (fun z => TL.tl z = (TL.tl l).take a) := fun q x hq => by
    walk_at "v26"
    exact ⟨l, rfl, by omega, hq _ (cutS_lo a)⟩
  have hhi : Ev [.val .pen, .val (.str l), .val (.lst (ss.map D.str)), .no, .val (.int (a : Nat)), .val (.str ⟨#[c]⟩), .val (.str own), .val (.str oth)] (dSlS (dVar 1) (dPart (dVar 4)) dNoPart) (fun z => TL.tl z = (TL.tl l).drop a) := fun q x hq => by
    walk_at "v26"
    exact ⟨l, rfl, by omega, hq _ (cutS_hi a)⟩
  have hh1 : Ev [.val .pen, .val (.str l), .val (.lst (ss.map D.str)), .no, .val (.int (a : Nat)), .val (.str ⟨#[c]⟩), .val (.str own), .val (.str oth)] (dSlS (dVar 1) (dPart (dOp addA (dVar 4) (dC (.int 1)))) dNoPart) (fun z => TL.tl z = (TL.tl l).drop (a + 1)) := fun q x hq => by
    walk_at "v26"
    exact ⟨l, rfl, by omega, hq _ (cutS_hi (a + 1))⟩
  have e0 : Ev [.val .pen, .val (.str l), .val (.lst (ss.map D.str)), .no, .val (.int (a : Nat)), .val (.str ⟨#[c]⟩), .val (.str own), .val (.str oth)] (dOp addA (dOp addA (dSlS (dVar 1) dNoPart (dPart (dVar 4))) (dVar 5)) (dSlS (dVar 1) (dPart (dVar 4)) dNoPart)) (LS (m + 18) (k1 + 1)) := fun q x hq => by
    simp only [dOp_app]
    refine hlo _ _ fun z hz => ?_
    refine Ev.var (P := fun y => y = (⟨#[c]⟩ : Str)) (i := 5) rfl rfl _ _ fun y hy => ?_
    subst hy
    have lz : z.length ≤ 800 := by rw [str_lenN]; show (TL.tl z).length ≤ _; rw [hz, List.length_take]; omega
    refine ⟨_, addS2 (by have : (⟨#[c]⟩ : Str).length = 1 := rfl; omega), hhi _ _ fun y hy => ?_⟩
    have ly : y.length ≤ 800 := by rw [str_lenN]; show (TL.tl y).length ≤ _; rw [hy, List.length_drop]; omega
    have l2 : (z ++ (⟨#[c]⟩ : Str)).length ≤ 801 := by
      rw [str_lenN, str_app]
      show (TL.tl z ++ [c]).length ≤ _
      rw [List.length_append, hz, List.length_take, List.length_singleton]
      omega
    refine ⟨_, addS2 (by omega), hq _ ?_⟩
    show LO _ _ (TL.tl (z ++ ⟨#[c]⟩ ++ y))
    rw [tl_app, tl_app, hz, hy]
    refine LO.perm (a := TL.tl (⟨#[c]⟩ : Str) ++ TL.tl l) ((LO.app bc hl).mono (by omega) (by omega)) ?_
    have := List.perm_append_comm (l₁ := TL.tl (⟨#[c]⟩ : Str)) (l₂ := (TL.tl l).take a)
    have h3 := this.append_right ((TL.tl l).drop a)
    rw [List.append_assoc, List.take_append_drop] at h3
    exact h3
  have e1 : Ev [.val .pen, .val (.str l), .val (.lst (ss.map D.str)), .no, .val (.int (a : Nat)), .val (.str ⟨#[c]⟩), .val (.str own), .val (.str oth)] (dOp addA (dSlS (dVar 1) dNoPart (dPart (dVar 4))) (dSlS (dVar 1) (dPart (dOp addA (dVar 4) (dC (.int 1)))) dNoPart)) (LS (m + 18) (k1 + 1)) := fun q x hq => by
    simp only [dOp_app]
    refine hlo _ _ fun z hz => hh1 _ _ fun y hy => ?_
    have lz : z.length ≤ 800 := by rw [str_lenN]; show (TL.tl z).length ≤ _; rw [hz, List.length_take]; omega
    have ly : y.length ≤ 800 := by rw [str_lenN]; show (TL.tl y).length ≤ _; rw [hy, List.length_drop]; omega
    refine ⟨_, addS2 (by omega), hq _ ?_⟩
    show LO _ _ (TL.tl (z ++ y))
    rw [tl_app, hz, hy]
    refine (LO.sub hl ?_).mono (by omega) (by omega)
    have h3 : ((TL.tl l).take a ++ (TL.tl l).drop (a + 1)).Sublist ((TL.tl l).take a ++ (TL.tl l).drop a) := List.Sublist.append (List.Sublist.refl _) (List.drop_sublist_drop_left _ (by omega))
    rwa [List.take_append_drop] at h3
  have vl : ∀ o3, Ev [.val .pen, .val (.str l), .val (.lst (ss.map D.str)), o3, .val (.int (a : Nat)), .val (.str ⟨#[c]⟩), .val (.str own), .val (.str oth)] (dVar 1) (LS m k1) := fun o3 => Ev.var rfl hl
  have vo : ∀ o3, Ev [.val .pen, .val (.str l), .val (.lst (ss.map D.str)), o3, .val (.int (a : Nat)), .val (.str ⟨#[c]⟩), .val (.str own), .val (.str oth)] (dVar 6) (LS 8 0) := fun o3 => Ev.var rfl o8
  have vp : ∀ o3, Ev [.val .pen, .val (.str l), .val (.lst (ss.map D.str)), o3, .val (.int (a : Nat)), .val (.str ⟨#[c]⟩), .val (.str own), .val (.str oth)] (dVar 7) (LS 8 0) := fun o3 => Ev.var rfl p8
  refine e0 _ _ fun z0 h0 => e1 _ _ fun z1 h1 => ((vl _).add (Ev.lit b1) (by omega)) _ _ fun z2 h2 => (Ev.add (Ev.lit b1) (vl _) (by omega)) _ _ fun z3 h3 => (Ev.lit b6) _ _ fun z4 h4 => (((vl _).add (Ev.lit b1) (by omega)).add (vo _) (by omega)) _ _ fun z5 h5 => ?_
  refine ⟨[.str z0, .str z1, .str z2, .str z3, .str z4, .str z5], rfl, Nat.le_of_ble_eq_true rfl, _, rfl, hk _ (w_seq fun k hk => ?_)⟩
  simp only [dSet_app, dLst_app, dCons_app, dNil_app]
  rw [dOp_app, dVar_app]
  show _
  simp only [List.set_cons_zero, List.set_cons_succ, List.getElem?_cons_succ, List.getElem?_cons_zero]
  simp only [dLst_app, dCons_app, dNil_app]
  refine ((((((vl _).add (Ev.lit b1) (by omega)).add (vo _) (by omega)).add (Ev.lit b2) (by omega)).add (vp _) (by omega))) _ _ fun z6 h6 => ((vl _).add (Ev.lit b3) (by omega)) _ _ fun z7 h7 => ((vl _).add (Ev.lit b4) (by omega)) _ _ fun z8 h8 => ?_
  rw [dReplC_app]
  refine (vl _) _ _ fun y hy => ?_
  have yl := hy.len
  refine ⟨y, rfl, by rw [show ("" : Str).length = 0 from rfl, Nat.mul_zero]; omega, ?_⟩
  have h9 : LS (m + 18) (k1 + 1) (Txt.replace y ":" "") := (LO.sub hy (repl_sub y)).mono (by omega) (by omega)
  generalize Txt.replace y ":" "" = z9 at h9 ⊢
  refine ((vo _).add (Ev.lit b5) (by omega)) _ _ fun z10 h10 => (((vl _).add (Ev.lit b2) (by omega)).add (vo _) (by omega)) _ _ fun z11 h11 => ?_
  refine ⟨[.str z6, .str z7, .str z8, .str z9, .str z10, .str z11], rfl, Nat.le_of_ble_eq_true rfl, _, catL (Nat.le_of_ble_eq_true rfl), _, rfl, hk _ ?_⟩
  walk_at "v26"
  have all_ : ∀ z ∈ [z0, z1, z2, z3, z4, z5, z6, z7, z8, z9, z10, z11], LS (m + 18) (k1 + 1) z := by
    intro z hz
    simp only [List.mem_cons, List.not_mem_nil, or_false] at hz
    rcases hz with rfl | rfl | rfl | rfl | rfl | rfl | rfl | rfl | rfl | rfl | rfl | rfl
    · exact h0
    · exact h1
    · exact h2.mono (by omega) (by omega)
    · exact h3.mono (by omega) (by omega)
    · exact h4.mono (by omega) (by omega)
    · exact h5.mono (by omega) (by omega)
    · exact h6.mono (by omega) (by omega)
    · exact h7.mono (by omega) (by omega)
    · exact h8.mono (by omega) (by omega)
    · exact h9
    · exact h10.mono (by omega) (by omega)
    · exact h11.mono (by omega) (by omega)
  refine ⟨by decide, by decide, fun i hi => ?_⟩
  have hi' : i < [z0, z1, z2, z3, z4, z5, z6, z7, z8, z9, z10, z11].length := by show i < 12; omega
  refine ⟨_, ix_strsL (ss := [z0, z1, z2, z3, z4, z5, z6, z7, z8, z9, z10, z11]) hi', hq _ (all_ _ ?_)⟩
  rw [List.getD, List.getElem?_eq_getElem hi']
  exact List.getElem_mem _

/-! ### texts of many lines -/
theorem linesOk_lines {L : List Str} (h1 : 1 ≤ L.length) (h2 : L.length < 60) (h : ∀ l ∈ L, LS 900 59 l) : LinesOk L :=
  ⟨fun l hl => ⟨(h l hl).okT (by decide), (h l hl).len, by rw [split_len (s := 32) rfl (by decide)]; have := (h l hl).sp; show (TL.tl l).count 32 + 1 ≤ 60; omega⟩, h2, h1⟩
theorem LS.no10 {m k : Nat} {l : Str} (h : LS m k l) : 10 ∉ TL.tl l := fun z => (h.sm 10 z).2 rfl
theorem split_lines {L : List Str} {m k : Nat} (h1 : L ≠ []) (h : ∀ l ∈ L, LS m k l) : Txt.split (Txt.join "\n" L) "\n" = L :=
  TL.split_join (s := 10) (S := []) rfl (by decide +kernel) h1 fun p hp => (h p hp).no10
theorem join_le {L : List Str} {m k : Nat} (h : ∀ l ∈ L, LS m k l) (hl : L.length ≤ 60) (hm : m ≤ 900) : (L.map (·.length)).sum + L.length * ("\n" : Str).length ≤ 60000 ∧ (Txt.join "\n" L).length ≤ 60000 := by
  have s1 : (L.map (·.length)).sum ≤ L.length * 900 := sum_leN fun p hp => Nat.le_trans (h p hp).len hm
  have s3 : ("\n" : Str).length = 1 := by decide +kernel
  have l := join_len "\n" L
  rw [s3] at l ⊢
  omega
theorem spl_snoc (s : Nat) : ∀ l acc : List Nat, TL.spl [s] 0 acc (l ++ [s]) = TL.spl [s] 0 acc l ++ [[]]
  | [], acc => by
    rw [List.nil_append, TL.spl_hit (show TL.pre [s] [s] = true from TL.pre_self [s] []), TL.spl_nil, TL.spl_nil]
    rfl
  | c :: r, acc => by
    by_cases e : c = s
    · subst e
      rw [List.cons_append, TL.spl_hit (show TL.pre [c] (c :: (r ++ [c])) = true from TL.pre_self [c] _), TL.spl_hit (show TL.pre [c] (c :: r) = true from TL.pre_self [c] _)]
      rw [List.cons_append]
      exact congrArg _ (spl_snoc c r [])
    · rw [List.cons_append, TL.spl_miss (TL.pre_of_head [] _ e), TL.spl_miss (TL.pre_of_head [] _ e)]
      exact spl_snoc s r _
theorem split_snoc (s : Str) : Txt.split (s ++ "\n") "\n" = Txt.split s "\n" ++ [("" : Str)] := by
  refine TL.map_tl_inj ?_
  rw [List.map_append, split_one (s := 10) rfl (by decide), split_one (s := 10) rfl (by decide), tl_app]
  exact spl_snoc 10 _ []
/-- a short text of any lines -/
theorem linesOk_txt {s : Str} (h1 : ∀ c ∈ TL.tl s, c < 128) (h2 : (TL.tl s).length ≤ 900) (h3 : (TL.tl s).count 32 ≤ 59) (h4 : (TL.tl s).count 10 ≤ 58) : LinesOk (Txt.split s "\n") := by
  have e := split_one (x := s) (y := "\n") (s := 10) rfl (by decide)
  have fl := spl_flat 10 (TL.tl s) []
  rw [List.nil_append, ← e] at fl
  have sub : ∀ l ∈ Txt.split s "\n", (TL.tl l).Sublist (TL.tl s) := fun l hl => (List.sublist_flatten_of_mem (List.mem_map_of_mem hl)).trans fl
  refine ⟨fun l hl => ?_, ?_, ?_⟩
  · have sb := sub l hl
    have le : l.length ≤ 900 := by rw [str_lenN]; exact Nat.le_trans sb.length_le h2
    refine ⟨⟨fun c hc => h1 c (sb.subset hc), by omega⟩, le, ?_⟩
    rw [split_len (s := 32) rfl (by decide)]
    have := sb.count_le 32
    omega
  · rw [split_len (s := 10) rfl (by decide)]; omega
  · rw [split_len (s := 10) rfl (by decide)]; omega
theorem count_lineS {ss : List Str} {z : Str} {e : Entry} (h : RowsOk ss e) (hz : nameS z = true) : (TL.tl (lineS ss z e)).count 32 = e.length := by
  have := congrArg List.length (line_split h hz)
  rw [split_len (s := 32) rfl (by decide), List.length_cons, List.length_map] at this
  omega
theorem len_word8 {ss : List Str} (h : ∀ z ∈ ss, z.length ≤ 8) {w : List Nat} (hw : w.length ≤ 8) : (wordS ss w).length ≤ 72 := by
  unfold wordS
  split
  · decide +kernel
  · have l := join_len "+" (w.map fun i => ss.getD i Str.empty)
    have s1 : ((w.map fun i => ss.getD i Str.empty).map (·.length)).sum ≤ (w.map fun i => ss.getD i Str.empty).length * 8 := sum_leN fun p hp => by
      obtain ⟨i, _, rfl⟩ := List.mem_map.mp hp
      exact getS_le h i
    have s3 : ("+" : Str).length = 1 := by decide +kernel
    rw [List.length_map] at s1 l
    rw [s3] at l
    omega
theorem LS_line {ss : List Str} {z : Str} {e : Entry} (h : RowsOk ss e) (hz : nameS z = true) (he : e.length ≤ 6) (hw : ∀ w ∈ e, w.length ≤ 8) : LS 500 6 (lineS ss z e) := by
  refine ⟨fun c hc => ?_, ?_, by rw [count_lineS h hz]; exact he⟩
  · refine ⟨?_, fun q => line_no h hz (by rw [← q]; exact hc)⟩
    exact asc_line (fun y hy => asc_name (h.nm y hy)) (asc_name hz) e c hc
  · have e8 : ∀ y ∈ ss, y.length ≤ 8 := fun y hy => (nameS_le (h.nm y hy)).2
    have l := join_len " " ((z ++ ":") :: e.map (wordS ss))
    have s3 : (" " : Str).length = 1 := by decide +kernel
    have s1 : ((e.map (wordS ss)).map (·.length)).sum ≤ (e.map (wordS ss)).length * 72 := sum_leN fun p hp => by
      obtain ⟨w, hw', rfl⟩ := List.mem_map.mp hp
      exact len_word8 e8 (hw w hw')
    have s2 : (z ++ ":").length ≤ 9 := by
      have := (nameS_le hz).2
      rw [str_lenN] at this ⊢
      rw [str_app, List.length_append]
      have : (":" : Str).cps.toList.length = 1 := by decide +kernel
      omega
    rw [List.map_cons, List.sum_cons, List.length_cons, s3, List.length_map] at l
    rw [List.length_map] at s1
    rw [← str_lenN]
    unfold lineS
    omega

theorem first_bad (p : Nat → Bool) : ∀ n, (∀ j, j < n → p j = true) ∨ ∃ i, i < n ∧ (∀ j, j < i → p j = true) ∧ p i = false
  | 0 => .inl fun j hj => absurd hj (Nat.not_lt_zero j)
  | n + 1 => by
    rcases first_bad p n with h | ⟨i, ha, hb, hc⟩
    · cases e : p n with
      | false => exact .inr ⟨n, by omega, h, e⟩
      | true =>
        refine .inl fun j hj => ?_
        by_cases q : j = n
        · rw [q, e]
        · exact h j (by omega)
    · exact .inr ⟨i, by omega, hb, hc⟩
theorem text_pair (i : Nat) (hi : i < 1000) : pt (.tup [.str "text", .int (i : Nat)]) 64 = true ∧ ReprOk (.tup [.str "text", .int (i : Nat)]) := by
  have h : decide (((i : Nat) : Int).natAbs.log2 < 1920) = true := by
    refine decide_eq_true ?_
    rw [Int.natAbs_natCast]
    by_cases z : i = 0
    · rw [z]; decide
    · exact (Nat.log2_lt z).mpr (Nat.lt_trans hi (by decide))
  refine ⟨(by show (PyData.strOk "text" && (true && true)) = true; decide +kernel), rok_ok ?_ (by show 4 + 1 + (0 + 1 + 0) ≤ 5000; decide)⟩
  show (rok (.str "text") 63 && (decide (((i : Nat) : Int).natAbs.log2 < 1920) && true)) = true
  rw [h]
  decide +kernel
/-- the two answers to a text agree -/
theorem chk58 (TL C X : Addr) {s : Str} {J : DEnds} {o0 o1 o2 o3 o4 o5 o6 o7 o8 o10 o11 o12 o13 o14 o15 o16 : EV} (h1 : s.length ≤ 1000000) (h2 : LinesOk (Txt.split s "\n"))
    (hk : ∀ a b, J.nx [o0, o1, o2, o3, o4, o5, o6, o7, o8, .val (.str s), o10, o11, o12, o13, a, b, o16, .val (.tab TL lamQ)]) :
    (dSeq (dPar [14, 15] (dFVal (dCall F_bad_line (dCons (dVar 9) dNil)) (dFVal (dSaid 17 TL (wTextR X) (dCall (F_course_ofG C X) (dCons (dVar 9) dNil))) dFNil))) (dIfS (dOrT (dTest (dOp neD (dOp ixD (dVar 15) (dC (.int 0))) (dOp ixD (dLst (dCons (dC (.str "told")) (dCons (dC (.str "text")) dNil))) (dBlt intF (dCons (dOp gtI (dVar 14) (dC (.int 0))) dNil))))) (dAndT (dTest (dOp gtI (dVar 14) (dC (.int 0)))) (dNotT (dTest (dCall F_isS (dCons (dVar 15) (dCons (dTup (dCons (dC (.str "text")) (dCons (dVar 14) dNil))) dNil))))))) (dRet (dC (.bl false))) dNext)) J [o0, o1, o2, o3, o4, o5, o6, o7, o8, .val (.str s), o10, o11, o12, o13, o14, o15, o16, .val (.tab TL lamQ)] := by
  refine w_seq fun k hk' => ?_
  walk_at "v26"
  rcases first_bad (lineOk (Txt.split s "\n")) (Txt.split s "\n").length with h | ⟨i, a, b, c⟩
  · refine ⟨s, rfl, h1, h2, fun i hi ha hb => by rw [h i hi] at hb; (cases hb), fun _ => ?_⟩
    refine ⟨.str s, rfl, rfl, fun hn => absurd rfl (hn s), ?_⟩
    rintro s' hs'
    cases hs'
    refine ⟨h1, h2, fun i hi _ hb => by rw [h i hi] at hb; (cases hb), fun _ zs kb => hk' _ (w_if fun A B hA hB => ?_)⟩
    walk_at "v26"
    refine ⟨_, rfl, by decide, _, rfl, _, rfl, _, rfl, _, neD_str (s := "told") (by decide +kernel), _, rfl, ?_⟩
    rw [if_neg Bool.false_ne_true]
    refine ⟨_, rfl, _, rfl, ?_⟩
    rw [if_neg (by decide)]
    refine hB ?_
    walk_at "v26"
    exact hk _ _
  · have i60 := h2.len
    refine ⟨s, rfl, h1, h2, fun i' hi ha hb => ?_, fun h => by rw [h i a] at c; (cases c)⟩
    have ei : i' = i := by
      rcases Nat.lt_trichotomy i' i with q | q | q
      · rw [b i' q] at hb; cases hb
      · exact q
      · rw [ha i q] at c; cases c
    subst ei
    obtain ⟨t1, t2⟩ := text_pair (i' + 1) (by omega)
    refine ⟨.str s, rfl, rfl, fun hn => absurd rfl (hn s), ?_⟩
    rintro s' hs'
    cases hs'
    refine ⟨h1, h2, fun i'' hi'' ha'' hb'' => ?_, fun h => by rw [h i' a] at c; (cases c)⟩
    have ei : i'' = i' := by
      rcases Nat.lt_trichotomy i'' i' with q | q | q
      · rw [b i'' q] at hb''; cases hb''
      · exact q
      · rw [ha'' i' q] at c; cases c
    subst ei
    refine ⟨_, _, ⟨_, rfl, rfl, rfl⟩, hk' _ (w_if fun A B hA hB => ?_)⟩
    walk_at "v26"
    have e1 : decide (((i'' + 1 : Nat) : Int) > 0) = true := decide_eq_true (by omega)
    refine ⟨_, rfl, by decide, _, rfl, _, rfl, D.str "text", (by rw [e1]; rfl), _, neD_str (s := "text") (by decide +kernel), _, rfl, ?_⟩
    rw [if_neg Bool.false_ne_true]
    refine ⟨_, rfl, _, rfl, ?_⟩
    rw [if_pos e1]
    refine ⟨by decide, isS_pt t1 t2 ⟨_, rfl, ?_⟩⟩
    rw [if_neg (by decide)]
    refine hB ?_
    walk_at "v26"
    exact hk _ _

/-- a text of a few lines -/
structure LT (m k n : Nat) (s : Str) : Prop where
  sm : ∀ c ∈ TL.tl s, c < 128
  len : (TL.tl s).length ≤ m
  sp : (TL.tl s).count 32 ≤ k
  nl : (TL.tl s).count 10 ≤ n
theorem LT.lit {m k n : Nat} {s : Str} (h : (TL.tl s).all (fun c => decide (c < 128)) = true) (h1 : (TL.tl s).length ≤ m) (h2 : (TL.tl s).count 32 ≤ k) (h3 : (TL.tl s).count 10 ≤ n) : LT m k n s :=
  ⟨fun c hc => of_decide_eq_true (List.all_eq_true.mp h c hc), h1, h2, h3⟩
theorem LT.app {m k n m' k' n' : Nat} {a b : Str} (h : LT m k n a) (h' : LT m' k' n' b) : LT (m + m') (k + k') (n + n') (a ++ b) := by
  refine ⟨fun c hc => ?_, ?_, ?_, ?_⟩
  · rw [tl_app] at hc
    exact (List.mem_append.mp hc).elim (h.sm c) (h'.sm c)
  · rw [tl_app, List.length_append]; exact Nat.add_le_add h.len h'.len
  · rw [tl_app, List.count_append]; exact Nat.add_le_add h.sp h'.sp
  · rw [tl_app, List.count_append]; exact Nat.add_le_add h.nl h'.nl
theorem LT.ok {m k n : Nat} {s : Str} (h : LT m k n s) (hm : m ≤ 900) (hk : k ≤ 59) (hn : n ≤ 58) : s.length ≤ 1000000 ∧ LinesOk (Txt.split s "\n") :=
  ⟨by have := h.len; rw [str_lenN]; show (TL.tl s).length ≤ _; omega, linesOk_txt h.sm (Nat.le_trans h.len hm) (Nat.le_trans h.sp hk) (Nat.le_trans h.nl hn)⟩
theorem LT.len' {m k n : Nat} {s : Str} (h : LT m k n s) : s.length ≤ m := by rw [str_lenN]; exact h.len
theorem Ev.addT {env : SE} {te tu : DE} {m k n m' k' n' : Nat} (h : Ev env te (LT m k n)) (h' : Ev env tu (LT m' k' n')) (l : m + m' ≤ 16777216) : Ev env (dOp addA te tu) (LT (m + m') (k + k') (n + n')) := fun q x hq => by
  rw [dOp_app]
  refine h _ _ fun z hz => h' _ _ fun y hy => ⟨_, addS2 (by have := hz.len'; have := hy.len'; omega), hq _ (hz.app hy)⟩
def manyL : List Str := (List.range 24).map fun k => (⟨#[97 + k]⟩ : Str) ++ ":"
theorem many_lt : LT 80 0 30 (Txt.join "\n" manyL) := by
  have e : TL.tl (Txt.join "\n" manyL) = TL.joinL [10] ((List.range 24).map fun k => [97 + k, 58]) := by
    rw [TL.join_eq, TL.tl_join]
    rfl
  refine ⟨?_, ?_, ?_, ?_⟩ <;> rw [e]
  · decide +kernel
  · decide +kernel
  · decide +kernel
  · decide +kernel
theorem s_law58 (TL C X_BadText : Addr) : ∀ ds q x, F_law ds q x → ds.length = 1 ∧ t_law58 TL (wTextR X_BadText) F__law_cell_at F__law_pen_of F_book6 F_names F_law_text F__law_draw F_spoilt (F_course_ofG C X_BadText) F_bad_line F_isS { nx := fun _ => q .non, rt := q, ex := x } ((startE 18 ds).set 17 (.val (.tab TL lamQ))) := by
  rintro ds q x ⟨ns, rfl, hl, hq⟩
  refine ⟨rfl, ?_⟩
  unfold t_law58
  refine law_anyE (fun env => ∃ o1 o2 o3 o4 o5 o6 o7 o8 o9 o10 o11 o12 o13 o14 o15 o16, env = [.val (.scr (iD ns)), o1, o2, o3, o4, o5, o6, o7, o8, o9, o10, o11, o12, o13, o14, o15, o16, .val (.tab TL lamQ)]) hl hq rfl ⟨_, _, _, _, _, _, _, _, _, _, _, _, _, _, _, _, rfl⟩ ?_
  rintro J z env ⟨o1, o2, o3, o4, o5, o6, o7, o8, o9, o10, o11, o12, o13, o14, o15, o16, rfl⟩ hJ hJr hJx
  refine w_seq fun k hk => ?_
  walk_at "v26"
  refine hk _ (w_seq fun k hk => ?_)
  walk_at "v26"
  refine ⟨8, rfl, by decide, by decide, fun b hb hb6 hbl => ?_⟩
  walk_at "v26"
  refine hk _ (w_seq fun k hk => ?_)
  walk_at "v26"
  have hbl24 := hb.le
  have h1 := hb.pos
  refine ⟨b.length, 3, rfl, hb.le, by decide, by decide, fun ss hs => hk _ (w_seq fun k hk => ?_)⟩
  walk_at "v26"
  obtain ⟨hs1, hs2, hs3⟩ := hs
  have e8 : ∀ y ∈ ss, y.length ≤ 8 := fun y hy => (nameS_le (hs2 y hy)).2
  have tok : TxtOk ss b := ⟨hs2, hs3, by rw [hs1]; exact hb.le, fun j hj => by
    rw [hs1] at hj ⊢
    have he := List.mem_of_getElem? (getD_get hj)
    exact ⟨fun w hw => ⟨(hb.way _ he w hw).asc.imp fun h => Nat.ne_of_lt h, fun i hi => ⟨(hb.way _ he w hw).lt i hi, fun z => hb.own j _ (getD_get hj) w hw (z ▸ hi)⟩⟩, hb.len _ he⟩⟩
  have lines : ∀ l ∈ linesS ss b, LS 500 6 l := fun l hl' => by
    obtain ⟨j, hj, rfl⟩ := List.mem_map.mp hl'
    have hj' := List.mem_range.mp hj
    have hjb : j < b.length := by omega
    have he := List.mem_of_getElem? (getD_get hjb)
    exact LS_line (tok.row hj') (getN hs2 hj') (hb6 _ he) fun w hw => by
      have := nodup_lt b.length w ((hb.way _ he w hw).asc.imp fun h => Nat.ne_of_lt h) fun i hi => (hb.way _ he w hw).lt i hi
      omega
  have ll : (linesS ss b).length = b.length := by unfold linesS; rw [List.length_map, List.length_range, hs1]
  have et : textS ss b = Txt.join "\n" (linesS ss b) := by unfold textS linesS; rw [hs1]
  have lne : linesS ss b ≠ [] := fun z => by rw [z] at ll; simp at ll; omega
  refine ⟨ss, b, rfl, hb, hs1, e8, ?_⟩
  rw [et]
  have sne : ss ≠ [] := fun z => by rw [z] at hs1; simp at hs1; omega
  generalize linesS ss b = G at lines ll lne ⊢
  refine hk _ (w_seq fun k hk => ?_)
  walk_at "v26"
  have tsp : Txt.split (Txt.join "\n" G) "\n" = G := split_lines lne lines
  have tle := join_le lines (by omega) (by decide)
  refine ⟨by decide, by decide, for_range (fun i env => ∃ o6 o7 o8 o9 o10 o11 o12 o13 o14 o15 o16, env = [.val (.scr (iD ns)), .val (.int z), .val .pen, .val (bookD b), .val (.lst (ss.map D.str)), .val (.str (Txt.join "\n" G)), o6, o7, o8, o9, o10, o11, o12, o13, o14, o15, o16, .val (.tab TL lamQ)]) ⟨_, _, _, _, _, _, _, _, _, _, _, rfl⟩ ?_ ?_⟩
  · rintro i hi env k2 ⟨o6, o7, o8, o9, o10, o11, o12, o13, o14, o15, o16, rfl⟩ hk2
    refine ⟨_, rfl, w_seq fun k3 hk3 => ?_⟩
    walk_at "v26"
    refine ⟨_, rfl, _, rfl, by decide +kernel, by omega, ?_⟩
    rw [tsp]
    refine hk3 _ (w_seq fun k4 hk4 => ?_)
    walk_at "v26"
    refine ⟨by decide, by decide, fun d hd => ⟨_, rfl, _, rfl, by omega, by omega, ?_⟩⟩
    have hd2 : (1 + (d : Int)).toNat = d + 1 := by omega
    rw [hd2]
    refine for_range (fun t env => ∃ (L : List Str) (o12 o13 : EV), env = [.val (.scr (iD ns)), .val (.int z), .val .pen, .val (bookD b), .val (.lst (ss.map D.str)), .val (.str (Txt.join "\n" G)), .val (.int (i : Nat)), o7, o8, o9, o10, .own (L.map D.str), o12, o13, o14, o15, o16, .val (.tab TL lamQ)] ∧ L.length = b.length ∧ ∀ l ∈ L, LS (500 + 18 * t) (6 + t) l) ⟨G, _, _, rfl, ll, lines⟩ ?_ ?_
    · rintro t ht env k5 ⟨L, o12, o13, rfl, hL, hLS⟩ hk5
      refine ⟨_, rfl, w_seq fun k6 hk6 => ?_⟩
      walk_at "v26"
      refine ⟨by omega, by omega, fun at' hat => hk6 _ ?_⟩
      have hat' : at' < L.length := by omega
      walk_at "v26"
      have hm : L.getD at' Str.empty ∈ L := by rw [List.getD, List.getElem?_eq_getElem hat']; exact List.getElem_mem _
      refine ⟨_, ix_strsL hat', L.getD at' Str.empty, ss, 500 + 18 * t, 6 + t, rfl, hLS _ hm, by omega, sne, by omega, hs2, fun l' hl' => ⟨at', rfl, hat', ?_⟩⟩
      have eS : (L.map D.str).set at' (.str l') = (L.set at' l').map D.str := by rw [List.map_set]
      rw [eS]
      refine hk5 _ ⟨L.set at' l', _, _, rfl, by rw [List.length_set]; exact hL, fun l hl2 => ?_⟩
      rcases List.mem_or_eq_of_mem_set hl2 with q1 | q1
      · exact (hLS l q1).mono (by omega) (by omega)
      · rw [q1]; exact hl'.mono (by omega) (by omega)
    · rintro env ⟨L, o12, o13, rfl, hL, hLS⟩
      have hLS' : ∀ l ∈ L, LS 900 50 l := fun l hl' => (hLS l hl').mono (by omega) (by omega)
      refine hk4 _ (w_seq fun k6 hk6 => ?_)
      walk_at "v26"
      refine ⟨by omega, by omega, fun at' hat => hk6 _ ?_⟩
      have hat' : at' < L.length := by omega
      rw [dFreeze_app]
      refine ⟨_, rfl, w_seq fun k7 hk7 => ?_⟩
      walk_at "v26"
      have tk : (L.take at').length ≤ 8 := by rw [List.length_take]; omega
      have dr : ∀ n, (L.drop n).length ≤ 8 := fun n => by rw [List.length_drop]; omega
      refine ⟨_, cutL_lo, _, cutL_hi, _, catL (by rw [List.length_map, List.length_map]; have := dr (at' + 1); omega), _, cutL_lo, _, ix_strsL hat', by decide, _, catL (by rw [List.length_map]; show _ + 1 ≤ _; omega), _, cutL_hi, _, catL (by rw [List.length_append, List.length_map, List.length_map]; have := dr at'; show _ + 1 + _ ≤ _; omega), by decide, by decide, by decide, fun c hc => ?_⟩
      have hm : L.getD at' Str.empty ∈ L := by rw [List.getD, List.getElem?_eq_getElem hat']; exact List.getElem_mem _
      have ch : ∃ M : List Str, ixD (.lst [.lst (L.map D.str), .lst (L.map D.str), .lst ((L.take at').map D.str ++ (L.drop (at' + 1)).map D.str), .lst ((L.take at').map D.str ++ [D.str (L.getD at' Str.empty)] ++ (L.drop at').map D.str)]) (.int (c : Nat)) = some (.lst (M.map D.str)) ∧ M.length ≤ 20 ∧ ∀ l ∈ M, l ∈ L := by
        have c4 : c < 4 := by omega
        match c, c4 with
        | 0, _ => exact ⟨L, rfl, by omega, fun _ h => h⟩
        | 1, _ => exact ⟨L, rfl, by omega, fun _ h => h⟩
        | 2, _ =>
          refine ⟨L.take at' ++ L.drop (at' + 1), by rw [List.map_append]; rfl, by rw [List.length_append]; have := dr (at' + 1); omega, fun l h => ?_⟩
          rcases List.mem_append.mp h with h | h
          · exact List.mem_of_mem_take h
          · exact List.mem_of_mem_drop h
        | 3, _ =>
          refine ⟨L.take at' ++ [L.getD at' Str.empty] ++ L.drop at', by rw [List.map_append, List.map_append]; rfl, by rw [List.length_append, List.length_append]; have := dr at'; show _ + 1 + _ ≤ _; omega, fun l h => ?_⟩
          rcases List.mem_append.mp h with h | h
          · rcases List.mem_append.mp h with h | h
            · exact List.mem_of_mem_take h
            · rw [List.mem_singleton.mp h]; exact hm
          · exact List.mem_of_mem_drop h
      obtain ⟨M, eM, lM, inM⟩ := ch
      have hM : ∀ l ∈ M, LS 900 50 l := fun l h => hLS' l (inM l h)
      have jM := join_le hM (by omega) (by decide)
      refine ⟨_, eM, hk7 _ (w_seq fun k8 hk8 => ?_)⟩
      walk_at "v26"
      refine ⟨_, M, rfl, strsOf_mapT M, by omega, hk8 _ ?_⟩
      refine chk58 TL C X_BadText (by omega) ?_ fun a b => hk2 _ ⟨_, _, _, _, _, _, _, _, _, _, _, rfl⟩
      by_cases cM : M = []
      · subst cM
        exact linesOk_txt (by decide) (by decide) (by decide) (by decide)
      · rw [split_lines cM hM]
        exact linesOk_lines (List.length_pos_iff.mpr cM) (by omega) fun l h => (hM l h).mono (by decide) (by decide)
  · rintro env ⟨o6, o7, o8, o9, o10, o11, o12, o13, o14, o15, o16, rfl⟩
    refine hk _ (w_seq fun k hk => ?_)
    walk_at "v26"
    refine ⟨by decide, by decide, by decide, fun c hc => ?_⟩
    have ch : ∃ lg : Str, ixD (.lst [.str "abcdefgh", .str "abcdefghi", .str "zzzzzzz"]) (.int (c : Nat)) = some (.str lg) ∧ LT 9 0 0 lg := by
      have c3 : c < 3 := by omega
      match c, c3 with
      | 0, _ => exact ⟨_, rfl, LT.lit (by decide) (by decide) (by decide) (by decide)⟩
      | 1, _ => exact ⟨_, rfl, LT.lit (by decide) (by decide) (by decide) (by decide)⟩
      | 2, _ => exact ⟨_, rfl, LT.lit (by decide) (by decide) (by decide) (by decide)⟩
    obtain ⟨lg, eg, hg⟩ := ch
    refine ⟨_, eg, hk _ (w_seq fun k hk => ?_)⟩
    walk_at "v26"
    refine ⟨by decide, by decide, by decide, ?_⟩
    refine lc_all (fun i : Nat => D.int (i : Nat)) (fun i => D.str ((⟨#[97 + i]⟩ : Str) ++ ":")) (l := List.range 24) (fun i hi => ⟨_, rfl, fun Q hQ => ?_⟩) ?_
    · have hi' := List.mem_range.mp hi
      walk_at "v26"
      exact ⟨_, let_at i hi', _, addS2 (by show 1 + (":" : Str).length ≤ 16777216; decide +kernel), hQ⟩
    have em : ((List.range 24).map fun i => D.str ((⟨#[97 + i]⟩ : Str) ++ ":")) = manyL.map D.str := by unfold manyL; rw [List.map_map]; rfl
    rw [em]
    have ml : (manyL.map (·.length)).sum + manyL.length * ("\n" : Str).length ≤ 16777216 := by decide +kernel
    refine ⟨_, manyL, rfl, strsOf_mapT manyL, ml, hk _ (w_seq fun k hk => ?_)⟩
    have hmany := many_lt
    generalize Txt.join "\n" manyL = many at hmany ⊢
    generalize hT : Txt.join "\n" G = T at tsp tle ⊢
    have v7 : Ev [.val (.scr (iD ns)), .val (.int z), .val .pen, .val (bookD b), .val (.lst (ss.map D.str)), .val (.str T), o6, .val (.str lg), .val (.str many), o9, o10, o11, o12, o13, o14, o15, o16, .val (.tab TL lamQ)] (dVar 7) (LT 9 0 0) := Ev.var rfl hg
    have v8 : Ev [.val (.scr (iD ns)), .val (.int z), .val .pen, .val (bookD b), .val (.lst (ss.map D.str)), .val (.str T), o6, .val (.str lg), .val (.str many), o9, o10, o11, o12, o13, o14, o15, o16, .val (.tab TL lamQ)] (dVar 8) (LT 80 0 30) := Ev.var rfl hmany
    have l1 : LT 3 1 0 (": -" : Str) := LT.lit (by decide) (by decide) (by decide) (by decide)
    have l2 : LT 3 1 0 ("a: " : Str) := LT.lit (by decide) (by decide) (by decide) (by decide)
    have l3 : LT 1 0 1 ("\n" : Str) := LT.lit (by decide) (by decide) (by decide) (by decide)
    have l4 : LT 6 1 1 ("\nqq: -" : Str) := LT.lit (by decide) (by decide) (by decide) (by decide)
    have l5 : LT 0 0 0 ("" : Str) := LT.lit (by decide) (by decide) (by decide) (by decide)
    have l6 : LT 1 0 0 (":" : Str) := LT.lit (by decide) (by decide) (by decide) (by decide)
    have l7 : LT 1 1 0 (" " : Str) := LT.lit (by decide) (by decide) (by decide) (by decide)
    simp only [dFor_app, iSeq_app, dLst_app, dCons_app, dNil_app]
    refine .inl ?_
    refine (v7.addT (Ev.lit l1) (by omega)) _ _ fun z0 h0 => (((((Ev.lit l2).addT v7 (by omega)).addT (Ev.lit l3) (by omega)).addT v7 (by omega)).addT (Ev.lit l1) (by omega)) _ _ fun z1 h1 => v8 _ _ fun z2 h2 => (v8.addT (Ev.lit l4) (by omega)) _ _ fun z3 h3 => (v8.addT (Ev.lit l3) (by omega)) _ _ fun z4 h4 => (Ev.lit l5) _ _ fun z5 h5 => (Ev.lit l3) _ _ fun z6 h6 => (Ev.lit l6) _ _ fun z7 h7 => (Ev.lit l7) _ _ fun z8 h8 => ?_
    simp only [dOp_app, dVar_app, dC_app, List.getElem?_cons_succ, List.getElem?_cons_zero]
    refine ⟨_, addS2 (by show T.length + 1 ≤ _; omega), [.str z0, .str z1, .str z2, .str z3, .str z4, .str z5, .str z6, .str z7, .str z8, .str (T ++ "\n")], rfl, Nat.le_of_ble_eq_true rfl, _, rfl, rfl, ?_⟩
    have all_ : ∀ y ∈ [z0, z1, z2, z3, z4, z5, z6, z7, z8, T ++ "\n"], y.length ≤ 1000000 ∧ LinesOk (Txt.split y "\n") := by
      intro y hy
      simp only [List.mem_cons, List.not_mem_nil, or_false] at hy
      rcases hy with rfl | rfl | rfl | rfl | rfl | rfl | rfl | rfl | rfl | rfl
      · exact h0.ok (by omega) (by omega) (by omega)
      · exact h1.ok (by omega) (by omega) (by omega)
      · exact h2.ok (by omega) (by omega) (by omega)
      · exact h3.ok (by omega) (by omega) (by omega)
      · exact h4.ok (by omega) (by omega) (by omega)
      · exact h5.ok (by omega) (by omega) (by omega)
      · exact h6.ok (by omega) (by omega) (by omega)
      · exact h7.ok (by omega) (by omega) (by omega)
      · exact h8.ok (by omega) (by omega) (by omega)
      · refine ⟨by rw [str_lenN, str_app, List.length_append, ← str_lenN]; show T.length + 1 ≤ _; omega, ?_⟩
        rw [split_snoc, tsp]
        refine linesOk_lines (by rw [List.length_append]; show 1 ≤ _ + 1; omega) (by rw [List.length_append]; show _ + 1 < _; omega) fun l hl' => ?_
        rcases List.mem_append.mp hl' with q1 | q1
        · exact (lines l q1).mono (by decide) (by decide)
        · rw [List.mem_singleton.mp q1]
          exact LS.lit (by decide) (by decide) (by decide)
    refine for_any D.str (l := [z0, z1, z2, z3, z4, z5, z6, z7, z8, T ++ "\n"]) (fun env => ∃ o9 o10 o11 o12 o13 o14 o15, env = [.val (.scr (iD ns)), .val (.int z), .val .pen, .val (bookD b), .val (.lst (ss.map D.str)), .val (.str T), o6, .val (.str lg), .val (.str many), o9, o10, o11, o12, o13, o14, o15, o16, .val (.tab TL lamQ)]) ⟨_, _, _, _, _, _, _, rfl⟩ ?_ ?_
    · rintro y env k9 hy ⟨o9, o10, o11, o12, o13, o14, o15, rfl⟩ hk9
      obtain ⟨y1, y2⟩ := all_ y hy
      exact ⟨_, rfl, chk58 TL C X_BadText y1 y2 fun a b => hk9 _ ⟨_, _, _, _, _, _, _, rfl⟩⟩
    · rintro env ⟨o9, o10, o11, o12, o13, o14, o15, rfl⟩
      refine hk _ ?_
      simp only [dFor_app, iSeq_app, dLst_app, dTup_app, dCons_app, dNil_app, dC_app, dDict0_app, dVar_app, List.getElem?_cons_succ, List.getElem?_cons_zero]
      refine .inl ?_
      refine ⟨[], rfl, by decide, [], rfl, by decide, [.str T], rfl, Nat.le_of_ble_eq_true rfl, [.str "a: -"], rfl, Nat.le_of_ble_eq_true rfl, [.non, .int 0, .bl true, .lst [], .tup [], .dct [] [], .lst [.str T], .tup [.str "a: -"]], rfl, Nat.le_of_ble_eq_true rfl, _, rfl, rfl, ?_⟩
      have all2 : ∀ d ∈ [D.non, .int 0, .bl true, .lst [], .tup [], .dct [] [], .lst [.str T], .tup [.str "a: -"]], pl d = true ∧ ∀ s, d ≠ .str s := by
        intro d hd
        simp only [List.mem_cons, List.not_mem_nil, or_false] at hd
        rcases hd with rfl | rfl | rfl | rfl | rfl | rfl | rfl | rfl <;> exact ⟨rfl, fun s h => by cases h⟩
      obtain ⟨t1, t2⟩ := text_pair 0 (by decide)
      refine for_invD (fun _ env => ∃ o10, env = [.val (.scr (iD ns)), .val (.int z), .val .pen, .val (bookD b), .val (.lst (ss.map D.str)), .val (.str T), o6, .val (.str lg), .val (.str many), o9, o10, o11, o12, o13, o14, o15, o16, .val (.tab TL lamQ)]) ⟨_, rfl⟩ ?_ ?_
      · rintro d _ env k9 hd ⟨o10, rfl⟩ hk9
        obtain ⟨p1, p2⟩ := all2 d hd
        refine ⟨_, rfl, w_if fun A B hA hB => ?_⟩
        walk_at "v26"
        refine ⟨d, rfl, p1, fun _ => ⟨_, _, ⟨_, rfl, rfl, rfl⟩, by decide, isS_pt t1 t2 ⟨_, rfl, ?_⟩⟩, fun s hs' => absurd hs' (p2 s)⟩
        rw [if_neg (by decide)]
        refine hB ?_
        walk_at "v26"
        exact hk9 _ ⟨_, rfl⟩
      · rintro env ⟨o10, rfl⟩
        exact hJ _ ⟨_, _, _, _, _, _, _, _, _, _, _, _, _, _, _, _, rfl⟩

end QD
namespace QD
open PySem PySem.Spec PyProof.Rows L2
def topS (i : Nat) : Stmt := PySem.Challenge.pw_learnways_k58_bad_texts.main.body.getD i (.Pass ⟨0, 0, 0, 0⟩)
structure CrsG (K : PySem.W.Frag) (mg : Str → Option Value) (C : Addr) : Prop where
  cls : Cls K C
  n_book : NoAttr K C "book"
  n_ways : NoAttr K C "_ways"
  most : ConI K mg "Course" C "MOST" 24

theorem sc__law_pen_of : FnScope ["_law_cell", "_law_left"] ["_law_cell"] (defScope (topS 60)) := ⟨rfl, rfl, rfl, by decide +kernel, rfl, by decide +kernel, by decide +kernel⟩
theorem g__law_pen_of {P : Program} {w : World} {K : PySem.W.Frag} {mg : Str → Option Value} {base : Heap} {f : Addr} {fd : FuncData} {F : DF} (fn : Fun K "_law_pen_of" "_law_pen_of" (topS 60) f fd) (T : Tx mg)  (pure : ∀ ds q x, F ds q x → ds.length = 1 ∧ t__law_pen_of  { nx := fun _ => q .non, rt := q, ex := x } (startE 2 ds)) : FnG P w K mg base 1 f fd ["_law_cell"] (spOf K F) :=
  def_ok fn sc__law_pen_of (fun cdv A callers s H E B po => (pds_cons (pd_set 1 (pd_blt (ok_max2 B.calm) T.max boot_max_ (pda_cons (pd_bty ok_int T.int boot_int_ (pda_cons (pd_var 0) pda_nil)) (pda_cons (pd_op ok_sub pd_int (pd_bty ok_int T.int boot_int_ (pda_cons (pd_var 0) pda_nil))) pda_nil))) B.nd)
  (pds_one (pd_retPen (pf_lst (pda_cons (pd_var 1) (pda_cons (pd_bty ok_int T.int boot_int_ (pda_cons (pd_cmp ok_ge (pd_var 1) (pd_op ok_pow pd_int pd_int) (nomark _)) pda_nil)) (pda_cons (pd_op ok_mod (pd_var 1) pd_int) pda_nil)))))))) pure
theorem sc__law_next : FnScope ["_law_root"] ["_law_root"] (defScope (topS 59)) := ⟨rfl, rfl, rfl, by decide +kernel, rfl, by decide +kernel, by decide +kernel⟩
theorem g__law_next {P : Program} {w : World} {K : PySem.W.Frag} {mg : Str → Option Value} {base : Heap} {f : Addr} {fd : FuncData} {F : DF} (fn : Fun K "_law_next" "_law_next" (topS 59) f fd) (T : Tx mg)  (pure : ∀ ds q x, F ds q x → ds.length = 1 ∧ t__law_next  { nx := fun _ => q .non, rt := q, ex := x } (startE 1 ds)) : FnG P w K mg base 1 f fd ["_law_root"] (spOf K F) :=
  def_ok fn sc__law_next (fun cdv A callers s H E B po => (pds_cons (pd_set 0 (pd_op ok_mod (pd_op ok_addA (pd_var 0) pd_int) pd_int) B.nd)
  (pds_one (pd_ret (pd_op ok_mod (pd_op ok_addA (pd_op ok_addA (pd_op ok_mulA (pd_var 0) (pd_var 0)) (pd_op ok_mulA pd_int (pd_var 0))) pd_int) pd_int))))) pure
theorem sc__law_draw : FnScope ["_law_pen", "_law_many", "_law_found"] ["_law_pen", "_law_many"] (defScope (topS 61)) := ⟨rfl, rfl, rfl, by decide +kernel, rfl, by decide +kernel, by decide +kernel⟩
theorem g__law_draw {P : Program} {w : World} {K : PySem.W.Frag} {mg : Str → Option Value} {base : Heap} {f : Addr} {fd : FuncData} {F__law_next F : DF} (fn : Fun K "_law_draw" "_law_draw" (topS 61) f fd) (T : Tx mg) (C__law_next : CalG P w K mg base 1 "_law_next" (spOf K F__law_next) []) (pure : ∀ ds q x, F ds q x → ds.length = 2 ∧ t__law_draw F__law_next { nx := fun _ => q .non, rt := q, ex := x } (startE 3 ds)) : FnG P w K mg base 2 f fd ["_law_pen", "_law_many"] (spOf K F) :=
  def_ok fn sc__law_draw (fun cdv A callers s H E B po => (pds_cons (pd_ifS (PDW.pt (pdw_and (pdt_cmp (ok_eq B.u64) (pd_penGet (k := 1) (pd_var 0)) pd_int (nomark _)) (pdw_and1 (pdt_cmp ok_gt (pd_penGet (k := 0) (pd_var 0)) pd_int (nomark _))))) (pds_cons (pd_set 2 (pd_op ok_mod (pd_penGet (k := 0) (pd_var 0)) (pd_var 1)) B.nd)
  (pds_cons (pd_penSet 0 (k := 0) (pd_op ok_fdiv (pd_penGet (k := 0) (pd_var 0)) (pd_var 1)))
  (pds_one (pd_ret (pd_var 2))))) pds_nil)
  (pds_cons (pd_penSet 0 (k := 2) (pd_call C__law_next B (by decide) (pda_cons (pd_op ok_addA (pd_call C__law_next B (by decide) (pda_cons (pd_penGet (k := 2) (pd_var 0)) pda_nil)) pd_int) pda_nil)))
  (pds_one (pd_ret (pd_op ok_mod (pd_op ok_fdiv (pd_penGet (k := 2) (pd_var 0)) pd_int) (pd_var 1))))))) pure
theorem sc__law_way : FnScope ["_law_pen", "_law_n", "_law_item", "_law_most", "_law_found", "_law_turn", "_law_one"] ["_law_pen", "_law_n", "_law_item", "_law_most"] (defScope (topS 62)) := ⟨rfl, rfl, rfl, by decide +kernel, rfl, by decide +kernel, by decide +kernel⟩
theorem g__law_way {P : Program} {w : World} {K : PySem.W.Frag} {mg : Str → Option Value} {base : Heap} {f : Addr} {fd : FuncData} {F__law_draw F : DF} (fn : Fun K "_law_way" "_law_way" (topS 62) f fd) (T : Tx mg) (C__law_draw : CalG P w K mg base 2 "_law_draw" (spOf K F__law_draw) []) (pure : ∀ ds q x, F ds q x → ds.length = 4 ∧ t__law_way F__law_draw { nx := fun _ => q .non, rt := q, ex := x } (startE 7 ds)) : FnG P w K mg base 3 f fd ["_law_pen", "_law_n", "_law_item", "_law_most"] (spOf K F) :=
  def_ok fn sc__law_way (fun cdv A callers s H E B po => (pds_cons (pd_setOwn 4 (pf_lst pda_nil) B.nd)
  (pds_cons (pd_for po B.calm (pdi_range1 (pd_call C__law_draw B (by decide) (pda_cons (pd_var 0) (pda_cons (pd_op ok_addA (pd_var 3) pd_int) pda_nil))) T.range) (pgd_name 5 B.nd) (pds_cons (pd_set 6 (pd_call C__law_draw B (by decide) (pda_cons (pd_var 0) (pda_cons (pd_var 1) pda_nil))) B.nd)
  (pds_one (pd_ifS (PDW.pt (pdw_and (pdt_cmp (ok_ne B.u64) (pd_var 6) (pd_var 2) (nomark _)) (pdw_and1 (pdt_cmp (ok_notIn B.u65) (pd_var 6) (pd_var 4) (by with_unfolding_all rfl))))) (pds_one (pd_append 4 (pd_var 6))) pds_nil))))
  (pds_one (pd_ret (pd_bty ok_tuple T.tuple boot_tuple_ (pda_cons (pd_blt ok_sorted T.sorted boot_sorted_ (pda_cons (pd_ofF (pf_lc (own := [("_law_one", 6)]) (is := [6]) (dg := (gN 6)) B.calm B.nd (pdi_seq (pd_var 4)) (blkOk_by (N := ["_law_pen", "_law_n", "_law_item", "_law_most", "_law_found", "_law_turn", "_law_one"]) (sc := defScope (topS 62)) (by decide +kernel)) (comp_name 6 B.nd (fun s H C cl fp => rfl) (fun s H C cl fp => by first | exact Or.inl rfl | exact Or.inr rfl) (fun s H C cl fp => by first | exact Or.inl rfl | exact Or.inr rfl)) (fun s H C cl fp => BC.ptd B fun Bk => ptsd_nil) (fun s H C cl fp => BC.pd B fun Bk => (pd_bty ok_int T.int boot_int_ (pda_cons (pd_var 6) pda_nil))))) pda_nil)) pda_nil))))))) pure
theorem sc__law_book : FnScope ["_law_pen", "_law_most", "_law_item", "_law_n", "_law_shape", "_law_book_here", "_law_entry", "_law_turn", "_law_way_here", "_law_one"] ["_law_pen", "_law_most"] (defScope (topS 63)) := ⟨rfl, rfl, rfl, by decide +kernel, rfl, by decide +kernel, by decide +kernel⟩
theorem g__law_book {P : Program} {w : World} {K : PySem.W.Frag} {mg : Str → Option Value} {base : Heap} {f : Addr} {fd : FuncData} {F__law_draw F__law_way F : DF} (fn : Fun K "_law_book" "_law_book" (topS 63) f fd) (T : Tx mg) (C__law_draw : CalG P w K mg base 2 "_law_draw" (spOf K F__law_draw) []) (C__law_way : CalG P w K mg base 3 "_law_way" (spOf K F__law_way) []) (pure : ∀ ds q x, F ds q x → ds.length = 2 ∧ t__law_book F__law_draw F__law_way { nx := fun _ => q .non, rt := q, ex := x } (startE 10 ds)) : FnG P w K mg base 4 f fd ["_law_pen", "_law_most"] (spOf K F) :=
  def_ok fn sc__law_book (fun cdv A callers s H E B po => (pds_cons (pd_par3 3 4 5 (paf_val (pd_op ok_addA pd_int (pd_call C__law_draw B (by decide) (pda_cons (pd_var 0) (pda_cons (pd_var 1) pda_nil)))) (paf_val (pd_call C__law_draw B (by decide) (pda_cons (pd_var 0) (pda_cons pd_int pda_nil))) (paf_own (pf_lst pda_nil) paf_nil))) B.calm B.nd)
  (pds_cons (pd_for po B.calm (pdi_range1 (pd_var 3) T.range) (pgd_name 2 B.nd) (pds_cons (pd_setOwn 6 (pf_lst pda_nil) B.nd)
  (pds_cons (pd_for po B.calm (pdi_range1 (pd_op ok_addA pd_int (pd_call C__law_draw B (by decide) (pda_cons (pd_var 0) (pda_cons (pd_ix (pd_lst (pda_cons pd_int (pda_cons pd_int (pda_cons pd_int (pda_cons pd_int (pda_cons pd_int (pda_cons pd_int pda_nil))))))) (pd_var 4)) pda_nil)))) T.range) (pgd_name 7 B.nd) (pds_cons (pd_set 8 (pd_call C__law_way B (by decide) (pda_cons (pd_var 0) (pda_cons (pd_var 3) (pda_cons (pd_var 2) (pda_cons (pd_ix (pd_lst (pda_cons pd_int (pda_cons pd_int (pda_cons pd_int (pda_cons pd_int (pda_cons pd_int (pda_cons pd_int pda_nil))))))) (pd_var 4)) pda_nil))))) B.nd)
  (pds_cons (pd_ifS (pdt_cmp (ok_in B.u65) (pd_var 4) (pd_tup (pda_cons pd_int (pda_cons pd_int (pda_cons pd_int pda_nil)))) (by with_unfolding_all rfl)) (pds_one (pd_set 8 (pd_bty ok_tuple T.tuple boot_tuple_ (pda_cons (pd_ofF (pf_lc (own := [("_law_one", 9)]) (is := [9]) (dg := (gN 9)) B.calm B.nd (pdi_seq (pd_var 8)) (blkOk_by (N := ["_law_pen", "_law_most", "_law_item", "_law_n", "_law_shape", "_law_book_here", "_law_entry", "_law_turn", "_law_way_here", "_law_one"]) (sc := defScope (topS 63)) (by decide +kernel)) (comp_name 9 B.nd (fun s H C cl fp => rfl) (fun s H C cl fp => by first | exact Or.inl rfl | exact Or.inr rfl) (fun s H C cl fp => by first | exact Or.inl rfl | exact Or.inr rfl)) (fun s H C cl fp => BC.ptd B fun Bk => (ptsd_one (pdt_cmp (ok_ltA Bk.u65) (pd_var 9) (pd_var 2) (nomark _)))) (fun s H C cl fp => BC.pd B fun Bk => (pd_var 9)))) pda_nil)) B.nd)) pds_nil)
  (pds_one (pd_append 6 (pd_var 8))))))
  (pds_cons (pd_ifS (PDW.pt (pdw_and (pdt_cmp ok_gt (pd_var 4) pd_int (nomark _)) (pdw_and1 (pdt_cmp (ok_eq B.u64) (pd_call C__law_draw B (by decide) (pda_cons (pd_var 0) (pda_cons pd_int pda_nil))) pd_int (nomark _))))) (pds_one (pd_append 6 (pd_tup pda_nil))) pds_nil)
  (pds_cons (pd_ifS (PDW.pt (pdw_and (pdt_cmp (ok_in B.u65) (pd_var 4) (pd_tup (pda_cons pd_int (pda_cons pd_int pda_nil))) (by with_unfolding_all rfl)) (pdw_and1 (pdt_cmp (ok_eq B.u64) (pd_call C__law_draw B (by decide) (pda_cons (pd_var 0) (pda_cons pd_int pda_nil))) pd_int (nomark _))))) (pds_one (pd_setOwn 6 (pf_lst pda_nil) B.nd)) pds_nil)
  (pds_one (pd_append 5 (pd_bty ok_tuple T.tuple boot_tuple_ (pda_cons (pd_var 6) pda_nil)))))))))
  (pds_one (pd_ret (pd_bty ok_tuple T.tuple boot_tuple_ (pda_cons (pd_var 5) pda_nil))))))) pure
theorem sc__law_names : FnScope ["_law_pen", "_law_n", "_law_most", "_law_found", "_law_place", "_law_name", "_law_turn"] ["_law_pen", "_law_n", "_law_most"] (defScope (topS 67)) := ⟨rfl, rfl, rfl, by decide +kernel, rfl, by decide +kernel, by decide +kernel⟩
theorem g__law_names {P : Program} {w : World} {K : PySem.W.Frag} {mg : Str → Option Value} {base : Heap} {f : Addr} {fd : FuncData} {F__law_draw F : DF} (fn : Fun K "_law_names" "_law_names" (topS 67) f fd) (T : Tx mg) (C__law_draw : CalG P w K mg base 2 "_law_draw" (spOf K F__law_draw) []) (pure : ∀ ds q x, F ds q x → ds.length = 3 ∧ t__law_names F__law_draw { nx := fun _ => q .non, rt := q, ex := x } (startE 7 ds)) : FnG P w K mg base 3 f fd ["_law_pen", "_law_n", "_law_most"] (spOf K F) :=
  def_ok fn sc__law_names (fun cdv A callers s H E B po => (pds_cons (pd_setOwn 3 (pf_lst pda_nil) B.nd)
  (pds_cons (pd_for po B.calm (pdi_range1 (pd_var 1) T.range) (pgd_name 4 B.nd) (pds_cons (pd_set 5 pd_str B.nd)
  (pds_cons (pd_for po B.calm (pdi_range1 (pd_op ok_addA pd_int (pd_call C__law_draw B (by decide) (pda_cons (pd_var 0) (pda_cons (pd_ix (pd_lst (pda_cons pd_int (pda_cons pd_int (pda_cons (pd_var 2) pda_nil)))) (pd_call C__law_draw B (by decide) (pda_cons (pd_var 0) (pda_cons pd_int pda_nil)))) pda_nil)))) T.range) (pgd_name 6 B.nd) (pds_one (pd_set 5 (pd_op ok_addA (pd_var 5) (pd_ixS pd_str (pd_call C__law_draw B (by decide) (pda_cons (pd_var 0) (pda_cons pd_int pda_nil))))) B.nd)))
  (pds_cons (pd_ifS (pdt_cmp (ok_in B.u65) (pd_var 5) (pd_var 3) (by with_unfolding_all rfl)) (pds_one (pd_set 5 (pd_op ok_addA (pd_op ok_addA pd_str (pd_ixS pd_str (pd_var 4))) (pd_sliceS (pd_var 5) pdo_none (pdo_some pd_int))) B.nd)) pds_nil)
  (pds_one (pd_append 3 (pd_var 5)))))))
  (pds_one (pd_retOwn 3))))) pure
theorem sc__law_text : FnScope ["_law_names_here", "_law_book_here", "_law_lines", "_law_item", "_law_words", "_law_way_here", "_law_one"] ["_law_names_here", "_law_book_here"] (defScope (topS 68)) := ⟨rfl, rfl, rfl, by decide +kernel, rfl, by decide +kernel, by decide +kernel⟩
theorem g__law_text {P : Program} {w : World} {K : PySem.W.Frag} {mg : Str → Option Value} {base : Heap} {f : Addr} {fd : FuncData} {F : DF} (fn : Fun K "_law_text" "_law_text" (topS 68) f fd) (T : Tx mg)  (pure : ∀ ds q x, F ds q x → ds.length = 2 ∧ t__law_text  { nx := fun _ => q .non, rt := q, ex := x } (startE 7 ds)) : FnG P w K mg base 1 f fd ["_law_names_here", "_law_book_here"] (spOf K F) :=
  def_ok fn sc__law_text (fun cdv A callers s H E B po => (pds_cons (pd_setOwn 2 (pf_lst pda_nil) B.nd)
  (pds_cons (pd_for po B.calm (pdi_range1 (pd_blt ok_len T.len boot_len_ (pda_cons (pd_var 1) pda_nil)) T.range) (pgd_name 3 B.nd) (pds_cons (pd_setOwn 4 (pf_lst (pda_cons (pd_op ok_addA (pd_ix (pd_var 0) (pd_var 3)) pd_str) pda_nil)) B.nd)
  (pds_cons (pd_for po B.calm (pdi_seq (pd_ix (pd_var 1) (pd_var 3))) (pgd_name 5 B.nd) (pds_one (pd_append 4 (pd_if (pdt_cmp (ok_eq B.u64) (pd_var 5) (pd_tup pda_nil) (nomark _)) pd_str (pd_join (pd_ofF (pf_lc (own := [("_law_one", 6)]) (is := [6]) (dg := (gN 6)) B.calm B.nd (pdi_seq (pd_var 5)) (blkOk_by (N := ["_law_names_here", "_law_book_here", "_law_lines", "_law_item", "_law_words", "_law_way_here", "_law_one"]) (sc := defScope (topS 68)) (by decide +kernel)) (comp_name 6 B.nd (fun s H C cl fp => rfl) (fun s H C cl fp => by first | exact Or.inl rfl | exact Or.inr rfl) (fun s H C cl fp => by first | exact Or.inl rfl | exact Or.inr rfl)) (fun s H C cl fp => BC.ptd B fun Bk => ptsd_nil) (fun s H C cl fp => BC.pd B fun Bk => (pd_ix (pd_var 0) (pd_var 6))))))))))
  (pds_one (pd_append 2 (pd_join (pd_var 4)))))))
  (pds_one (pd_ret (pd_join (pd_var 2))))))) pure
theorem sc__law_cell_at : FnScope ["_law_script", "_law_k"] ["_law_script", "_law_k"] (defScope (topS 58)) := ⟨rfl, rfl, rfl, by decide +kernel, rfl, by decide +kernel, by decide +kernel⟩
theorem g__law_cell_at {P : Program} {w : World} {K : PySem.W.Frag} {mg : Str → Option Value} {base : Heap} {f : Addr} {fd : FuncData} {F : DF} (fn : Fun K "_law_cell_at" "_law_cell_at" (topS 58) f fd) (T : Tx mg)  (pure : ∀ ds q x, F ds q x → ds.length = 2 ∧ t__law_cell_at  { nx := fun _ => q .non, rt := q, ex := x } (startE 2 ds)) : FnG P w K mg base 1 f fd ["_law_script", "_law_k"] (spOf K F) :=
  def_ok fn sc__law_cell_at (fun cdv A callers s H E B po => (pds_cons (pd_ifS (pdt_cmp (ok_ltA B.u65) (pd_var 1) (pd_blt ok_len T.len boot_len_ (pda_cons (pd_var 0) pda_nil)) (nomark _)) (pds_one (pd_ret (pd_ix (pd_var 0) (pd_var 1)))) pds_nil)
  (pds_one (pd_ret pd_int)))) pure
theorem sc__law_spoilt : FnScope ["_law_pen", "_law_line", "_law_names_here", "_law_some", "_law_at", "_law_sign", "_law_own", "_law_other"] ["_law_pen", "_law_line", "_law_names_here"] (defScope (topS 72)) := ⟨rfl, rfl, rfl, by decide +kernel, rfl, by decide +kernel, by decide +kernel⟩
theorem g__law_spoilt {P : Program} {w : World} {K : PySem.W.Frag} {mg : Str → Option Value} {base : Heap} {f : Addr} {fd : FuncData} {F__law_draw F : DF} (fn : Fun K "_law_spoilt" "_law_spoilt" (topS 72) f fd) (T : Tx mg) (C__law_draw : CalG P w K mg base 2 "_law_draw" (spOf K F__law_draw) []) (pure : ∀ ds q x, F ds q x → ds.length = 3 ∧ t__law_spoilt F__law_draw { nx := fun _ => q .non, rt := q, ex := x } (startE 8 ds)) : FnG P w K mg base 3 f fd ["_law_pen", "_law_line", "_law_names_here"] (spOf K F) :=
  def_ok fn sc__law_spoilt (fun cdv A callers s H E B po => (pds_cons (pd_par2 4 5 (paf_val (pd_call C__law_draw B (by decide) (pda_cons (pd_var 0) (pda_cons (pd_op ok_addA (pd_blt ok_len T.len boot_len_ (pda_cons (pd_var 1) pda_nil)) pd_int) pda_nil))) (paf_val (pd_ixS pd_str (pd_call C__law_draw B (by decide) (pda_cons (pd_var 0) (pda_cons pd_int pda_nil)))) paf_nil)) B.calm B.nd)
  (pds_cons (pd_par2 6 7 (paf_val (pd_ix (pd_var 2) (pd_call C__law_draw B (by decide) (pda_cons (pd_var 0) (pda_cons (pd_blt ok_len T.len boot_len_ (pda_cons (pd_var 2) pda_nil)) pda_nil)))) (paf_val (pd_ix (pd_var 2) (pd_call C__law_draw B (by decide) (pda_cons (pd_var 0) (pda_cons (pd_blt ok_len T.len boot_len_ (pda_cons (pd_var 2) pda_nil)) pda_nil)))) paf_nil)) B.calm B.nd)
  (pds_cons (pd_set 3 (pd_lst (pda_cons (pd_op ok_addA (pd_op ok_addA (pd_sliceS (pd_var 1) pdo_none (pdo_some (pd_var 4))) (pd_var 5)) (pd_sliceS (pd_var 1) (pdo_some (pd_var 4)) pdo_none)) (pda_cons (pd_op ok_addA (pd_sliceS (pd_var 1) pdo_none (pdo_some (pd_var 4))) (pd_sliceS (pd_var 1) (pdo_some (pd_op ok_addA (pd_var 4) pd_int)) pdo_none)) (pda_cons (pd_op ok_addA (pd_var 1) pd_str) (pda_cons (pd_op ok_addA pd_str (pd_var 1)) (pda_cons pd_str (pda_cons (pd_op ok_addA (pd_op ok_addA (pd_var 1) pd_str) (pd_var 6)) pda_nil))))))) B.nd)
  (pds_cons (pd_set 3 (pd_op ok_addA (pd_var 3) (pd_lst (pda_cons (pd_op ok_addA (pd_op ok_addA (pd_op ok_addA (pd_op ok_addA (pd_var 1) pd_str) (pd_var 6)) pd_str) (pd_var 7)) (pda_cons (pd_op ok_addA (pd_var 1) pd_str) (pda_tok ok_addA (pd_var 1) (pdat_cons (pet_replD (pd_var 1)) (pdat_of (pda_cons (pd_op ok_addA (pd_var 6) pd_str) (pda_cons (pd_op ok_addA (pd_op ok_addA (pd_var 1) pd_str) (pd_var 6)) pda_nil))))))))) B.nd)
  (pds_one (pd_ret (pd_ix (pd_var 3) (pd_call C__law_draw B (by decide) (pda_cons (pd_var 0) (pda_cons pd_int pda_nil))))))))))) pure
theorem sc__law_is_name : FnScope ["_law_word_here", "_law_sign"] ["_law_word_here"] (defScope (topS 69)) := ⟨rfl, rfl, rfl, by decide +kernel, rfl, by decide +kernel, by decide +kernel⟩
theorem g__law_is_name {P : Program} {w : World} {K : PySem.W.Frag} {mg : Str → Option Value} {base : Heap} {f : Addr} {fd : FuncData} {F : DF} (fn : Fun K "_law_is_name" "_law_is_name" (topS 69) f fd) (T : Tx mg)  (pure : ∀ ds q x, F ds q x → ds.length = 1 ∧ t__law_is_name  { nx := fun _ => q .non, rt := q, ex := x } (startE 2 ds)) : FnG P w K mg base 1 f fd ["_law_word_here"] (spOf K F) :=
  def_ok fn sc__law_is_name (fun cdv A callers s H E B po => (pds_one (pd_ret (pd_and (pd_chain ok_le ok_le pd_int (pd_blt ok_len T.len boot_len_ (pda_cons (pd_var 0) pda_nil)) pd_int) (pd_one (pd_blt (ok_all B.calm) T.all boot_all_ (pda_cons (pd_ofF (pf_lc (own := [("_law_sign", 1)]) (is := [1]) (dg := (gN 1)) B.calm B.nd (pdi_str (pd_var 0)) (blkOk_by (N := ["_law_word_here", "_law_sign"]) (sc := defScope (topS 69)) (by decide +kernel)) (comp_name 1 B.nd (fun s H C cl fp => rfl) (fun s H C cl fp => by first | exact Or.inl rfl | exact Or.inr rfl) (fun s H C cl fp => by first | exact Or.inl rfl | exact Or.inr rfl)) (fun s H C cl fp => BC.ptd B fun Bk => ptsd_nil) (fun s H C cl fp => BC.pd B fun Bk => (pd_cmp ok_inS (pd_var 1) pd_str (by with_unfolding_all rfl))))) pda_nil))))))) pure
theorem sc__law_head : FnScope ["_law_line", "_law_word_here"] ["_law_line"] (defScope (topS 70)) := ⟨rfl, rfl, rfl, by decide +kernel, rfl, by decide +kernel, by decide +kernel⟩
theorem g__law_head {P : Program} {w : World} {K : PySem.W.Frag} {mg : Str → Option Value} {base : Heap} {f : Addr} {fd : FuncData} {F__law_is_name F : DF} (fn : Fun K "_law_head" "_law_head" (topS 70) f fd) (T : Tx mg) (C__law_is_name : CalG P w K mg base 1 "_law_is_name" (spOf K F__law_is_name) []) (pure : ∀ ds q x, F ds q x → ds.length = 1 ∧ t__law_head F__law_is_name { nx := fun _ => q .non, rt := q, ex := x } (startE 2 ds)) : FnG P w K mg base 2 f fd ["_law_line"] (spOf K F) :=
  def_ok fn sc__law_head (fun cdv A callers s H E B po => (pds_cons (pd_set 1 (pd_ix (pd_split (pd_var 0) pd_str) pd_int) B.nd)
  (pds_one (pd_ret (pd_if (PDW.pt (pdw_and (pdt_cmp ok_gt (pd_blt ok_len T.len boot_len_ (pda_cons (pd_var 1) pda_nil)) pd_int (nomark _)) (pdw_and (pdt_cmp (ok_eq B.u64) (pd_ixS (pd_var 1) (pd_op ok_sub (pd_blt ok_len T.len boot_len_ (pda_cons (pd_var 1) pda_nil)) pd_int)) pd_str (nomark _)) (pdw_and1 (pdt_val (pd_call C__law_is_name B (by decide) (pda_cons (pd_sliceS (pd_var 1) pdo_none (pdo_some (pd_op ok_sub (pd_blt ok_len T.len boot_len_ (pda_cons (pd_var 1) pda_nil)) pd_int))) pda_nil))))))) (pd_sliceS (pd_var 1) pdo_none (pdo_some (pd_op ok_sub (pd_blt ok_len T.len boot_len_ (pda_cons (pd_var 1) pda_nil)) pd_int))) pd_str))))) pure
theorem sc__law_bad_line : FnScope ["_law_text_here", "_law_lines", "_law_heads", "_law_place", "_law_word_here", "_law_line", "_law_parts", "_law_at"] ["_law_text_here"] (defScope (topS 71)) := ⟨rfl, rfl, rfl, by decide +kernel, rfl, by decide +kernel, by decide +kernel⟩
theorem g__law_bad_line {P : Program} {w : World} {K : PySem.W.Frag} {mg : Str → Option Value} {base : Heap} {f : Addr} {fd : FuncData} {F__law_head F : DF} (fn : Fun K "_law_bad_line" "_law_bad_line" (topS 71) f fd) (T : Tx mg) (C__law_head : CalG P w K mg base 2 "_law_head" (spOf K F__law_head) []) (pure : ∀ ds q x, F ds q x → ds.length = 1 ∧ t__law_bad_line F__law_head { nx := fun _ => q .non, rt := q, ex := x } (startE 8 ds)) : FnG P w K mg base 3 f fd ["_law_text_here"] (spOf K F) :=
  def_ok fn sc__law_bad_line (fun cdv A callers s H E B po => (pds_cons (pd_set 1 (pd_split (pd_var 0) pd_str) B.nd)
  (pds_cons (pd_setLcV 2 (own := [("_law_line", 5)]) (is := [5]) (dg := (gN 5)) B.calm B.nd (pdi_seq (pd_var 1)) (blkOk_by (N := ["_law_text_here", "_law_lines", "_law_heads", "_law_place", "_law_word_here", "_law_line", "_law_parts", "_law_at"]) (sc := defScope (topS 71)) (by decide +kernel)) (comp_name 5 B.nd (fun s H C cl fp => rfl) (fun s H C cl fp => by first | exact Or.inl rfl | exact Or.inr rfl) (fun s H C cl fp => by first | exact Or.inl rfl | exact Or.inr rfl)) (fun s H C cl fp => BC.ptd B fun Bk => ptsd_nil) (fun s H C cl fp => BC.pd B fun Bk => (pd_call C__law_head Bk (by decide) (pda_cons (pd_var 5) pda_nil))))
  (pds_cons (pd_for po B.calm (pdi_range1 (pd_blt ok_len T.len boot_len_ (pda_cons (pd_var 1) pda_nil)) T.range) (pgd_name 3 B.nd) (pds_cons (pd_ifS (PDW.pt (pdw_or (pdt_cmp ok_gt (pd_var 3) pd_int (nomark _)) (pdw_or (pdt_cmp (ok_eq B.u64) (pd_ix (pd_var 2) (pd_var 3)) pd_str (nomark _)) (pdw_or1 (pdt_cmp (ok_in B.u65) (pd_ix (pd_var 2) (pd_var 3)) (pd_slice (pd_var 2) pdo_none (pdo_some (pd_var 3))) (by with_unfolding_all rfl)))))) (pds_one (pd_ret (pd_op ok_addA (pd_var 3) pd_int))) pds_nil)
  (pds_one (pd_for po B.calm (pdi_seq (pd_slice (pd_split (pd_ix (pd_var 1) (pd_var 3)) pd_str) (pdo_some pd_int) pdo_none)) (pgd_name 4 B.nd) (pds_cons (pd_set 6 (pd_split (pd_var 4) pd_str) B.nd)
  (pds_one (pd_for po B.calm (pdi_range1 (pd_blt ok_len T.len boot_len_ (pda_cons (pd_var 6) pda_nil)) T.range) (pgd_name 7 B.nd) (pds_one (pd_ifS (PDW.pt (pdw_and (pdt_cmp (ok_ne B.u64) (pd_var 4) pd_str (nomark _)) (pdw_and1 (PDW.pt (pdw_or (pdt_cmp (ok_notIn B.u65) (pd_ix (pd_var 6) (pd_var 7)) (pd_var 2) (by with_unfolding_all rfl)) (pdw_or1 (pdt_cmp (ok_in B.u65) (pd_ix (pd_var 6) (pd_var 7)) (pd_op ok_addA (pd_lst (pda_cons pd_str (pda_cons (pd_ix (pd_var 2) (pd_var 3)) pda_nil))) (pd_slice (pd_var 6) pdo_none (pdo_some (pd_var 7)))) (by with_unfolding_all rfl)))))))) (pds_one (pd_ret (pd_op ok_addA (pd_var 3) pd_int))) pds_nil)))))))))
  (pds_one (pd_ret pd_int)))))) pure
theorem sc__law_word : FnScope ["_law_e", "_law_marks", "_law_names_here", "_law_flag"] ["_law_e"] (defScope (topS 65)) := ⟨rfl, rfl, rfl, by decide +kernel, rfl, by decide +kernel, by decide +kernel⟩
theorem g__law_word {P : Program} {w : World} {K : PySem.W.Frag} {mg : Str → Option Value} {base : Heap} {f : Addr} {fd : FuncData} {W : WRel} (fn : Fun K "_law_word" "_law_word" (topS 65) f fd) (T : Tx mg) (TE : TxE mg) (kn : ∀ e bs w, W e bs w → KnX K mg bs e.C) (pure : ∀ e bs w, W e bs w → ∀ a d, t__law_word a d bs { nx := fun _ => False, rt := fun r => r = w, ex := noX } (startE 4 [.exo a d (xns e) (xds e)])) : FnW P w K mg base 1 f fd "_law_e" (spW K W) :=
  def_okW (t := t__law_word) fn sc__law_word kn (fun cdv A callers s H p C d bs KX B => (pds_cons (pd_set 1 (pd_lst (pda_cons (pd_isW (y := "NoCourse") KX B T.isinstance (pd_var 0)) (pda_cons (pd_isW (y := "NoItem") KX B T.isinstance (pd_var 0)) (pda_cons (pd_isW (y := "NoSet") KX B T.isinstance (pd_var 0)) (pda_cons (pd_isW (y := "NoState") KX B T.isinstance (pd_var 0)) pda_nil))))) B.nd)
  (pds_cons (pd_set 1 (pd_op ok_addA (pd_var 1) (pd_lst (pda_cons (pd_isW (y := "NoOrder") KX B T.isinstance (pd_var 0)) (pda_cons (pd_isW (y := "NoAnswers") KX B T.isinstance (pd_var 0)) (pda_cons (pd_isW (y := "NoDurations") KX B T.isinstance (pd_var 0)) pda_nil))))) B.nd)
  (pds_cons (pd_set 1 (pd_op ok_addA (pd_var 1) (pd_lst (pda_cons (pd_isW (y := "NoNames") KX B T.isinstance (pd_var 0)) (pda_cons (pd_isW (y := "NoPlace") KX B T.isinstance (pd_var 0)) (pda_cons (pd_isW (y := "NoDeed") KX B T.isinstance (pd_var 0)) (pda_cons (pd_isW (y := "OtherCourse") KX B T.isinstance (pd_var 0)) pda_nil)))))) B.nd)
  (pds_cons (pd_set 1 (pd_op ok_addA (pd_var 1) (pd_lst (pda_cons (pd_isW (y := "Clash") KX B T.isinstance (pd_var 0)) (pda_cons (pd_isW (y := "TooMany") KX B T.isinstance (pd_var 0)) (pda_cons (pd_isW (y := "BadText") KX B T.isinstance (pd_var 0)) pda_nil))))) B.nd)
  (pds_cons (pd_ifS (PDW.pt (pdw_or (pdt_not (pdt_val (pd_isWV KX B TE T.isinstance (pd_var 0)))) (pdw_or1 (pdt_val (pd_isWT KX B TE T.isinstance (pd_var 0)))))) (pds_one (pd_ret (pd_tup (pda_cons pd_str pda_nil)))) pds_nil)
  (pds_cons (pd_ifS (pdt_cmp (ok_ne B.u64) (pd_cntT (pd_var 1)) pd_int (nomark _)) (pds_one (pd_ret (pd_tup (pda_cons pd_str pda_nil)))) pds_nil)
  (pds_cons (pd_set 2 (pd_lst (pda_cons pd_str (pda_cons pd_str (pda_cons pd_str (pda_cons pd_str (pda_cons pd_str (pda_cons pd_str (pda_cons pd_str (pda_cons pd_str (pda_cons pd_str (pda_cons pd_str (pda_cons pd_str pda_nil)))))))))))) B.nd)
  (pds_cons (pd_set 3 (pd_ix (pd_op ok_addA (pd_var 2) (pd_lst (pda_cons pd_str (pda_cons pd_str (pda_cons pd_str pda_nil))))) (pd_idxT (pd_var 1))) B.nd)
  (pds_cons (pd_ifS (pdt_cmp (ok_eq B.u64) (pd_var 3) pd_str (nomark _)) (pds_one (pd_ret (pd_tup (pda_cons (pd_var 3) (pda_cons (pd_xfW (f := "item") KX B (pd_var 0)) (pda_cons (pd_xfW (f := "noes") KX B (pd_var 0)) pda_nil)))))) pds_nil)
  (pds_cons (pd_ifS (pdt_cmp (ok_eq B.u64) (pd_var 3) pd_str (nomark _)) (pds_one (pd_ret (pd_tup (pda_cons (pd_var 3) (pda_cons (pd_xfW (f := "limit") KX B (pd_var 0)) pda_nil))))) pds_nil)
  (pds_one (pd_ret (pd_if (pdt_cmp (ok_eq B.u64) (pd_var 3) pd_str (nomark _)) (pd_tup (pda_cons (pd_var 3) (pda_cons (pd_xfW (f := "line") KX B (pd_var 0)) pda_nil))) (pd_tup (pda_cons (pd_var 3) pda_nil)))))))))))))))) pure
theorem sc__law_said : FnScope ["_law_call", "_law_e"] ["_law_call"] (defScope (topS 66)) := ⟨rfl, rfl, rfl, by decide +kernel, rfl, by decide +kernel, by decide +kernel⟩
theorem sc__law_is : FnScope ["_law_value", "_law_due"] ["_law_value", "_law_due"] (defScope (topS 64)) := ⟨rfl, rfl, rfl, by decide +kernel, rfl, by decide +kernel, by decide +kernel⟩
theorem g__law_is {P : Program} {w : World} {K : PySem.W.Frag} {mg : Str → Option Value} {base : Heap} {f : Addr} {fd : FuncData} {F : DF} (fn : Fun K "_law_is" "_law_is" (topS 64) f fd) (T : Tx mg)  (pure : ∀ ds q x, F ds q x → ds.length = 2 ∧ t__law_is  { nx := fun _ => q .non, rt := q, ex := x } (startE 2 ds)) : FnG P w K mg base 1 f fd ["_law_value", "_law_due"] (spOf K F) :=
  def_ok fn sc__law_is (fun cdv A callers s H E B po => (pds_one (pd_ret (pd_and (pd_cmp (ok_eq B.u64) (pd_var 0) (pd_var 1) (nomark _)) (pd_one (pd_cmp (ok_eq B.u64) (pd_blt (ok_repr B.gd B.u65) T.repr boot_repr_ (pda_cons (pd_var 0) pda_nil)) (pd_blt (ok_repr B.gd B.u65) T.repr boot_repr_ (pda_cons (pd_var 1) pda_nil)) (nomark _))))))) pure
theorem sc_is_name : FnScope ["value", "letter"] ["value"] (defScope (topS 51)) := ⟨rfl, rfl, rfl, by decide +kernel, rfl, by decide +kernel, by decide +kernel⟩
theorem g_is_name {P : Program} {w : World} {K : PySem.W.Frag} {mg : Str → Option Value} {base : Heap} {f : Addr} {fd : FuncData} {F : DF} (fn : Fun K "is_name" "is_name" (topS 51) f fd) (T : Tx mg) (N_LONGEST_NAME : ∃ t, mg "LONGEST_NAME" = some (.int 8 t)) (N_LETTERS : ∃ t, mg "LETTERS" = some (.str "abcdefghijklmnopqrstuvwxyz" t)) (pure : ∀ ds q x, F ds q x → ds.length = 1 ∧ t_is_name  { nx := fun _ => q .non, rt := q, ex := x } (startE 2 ds)) : FnG P w K mg base 1 f fd ["value"] (spOf K F) :=
  def_ok fn sc_is_name (fun cdv A callers s H E B po => (pds_cons (pd_ifS (PDW.pt (pdw_or (pdt_not (pdt_val (pd_isi T.isinstance T.str boot_str_ (pd_var 0)))) (pdw_or1 (pdt_not (pdt_chain ok_le ok_le pd_int (pd_blt ok_len T.len boot_len_ (pda_cons (pd_var 0) pda_nil)) (pd_gint N_LONGEST_NAME)))))) (pds_one (pd_ret pd_bl)) pds_nil)
  (pds_one (pd_ret (pd_blt (ok_all B.calm) T.all boot_all_ (pda_cons (pd_ofF (pf_lc (own := [("letter", 1)]) (is := [1]) (dg := (gN 1)) B.calm B.nd (pdi_str (pd_var 0)) (blkOk_by (N := ["value", "letter"]) (sc := defScope (topS 51)) (by decide +kernel)) (comp_name 1 B.nd (fun s H C cl fp => rfl) (fun s H C cl fp => by first | exact Or.inl rfl | exact Or.inr rfl) (fun s H C cl fp => by first | exact Or.inl rfl | exact Or.inr rfl)) (fun s H C cl fp => BC.ptd B fun Bk => ptsd_nil) (fun s H C cl fp => BC.pd B fun Bk => (pd_cmp ok_inS (pd_var 1) (pd_gstr N_LETTERS) (by with_unfolding_all rfl))))) pda_nil)))))) pure
theorem sc_name_of : FnScope ["line", "first", "colon", "rest"] ["line"] (defScope (topS 53)) := ⟨rfl, rfl, rfl, by decide +kernel, rfl, by decide +kernel, by decide +kernel⟩
theorem g_name_of {P : Program} {w : World} {K : PySem.W.Frag} {mg : Str → Option Value} {base : Heap} {f : Addr} {fd : FuncData} {F_is_name F : DF} (fn : Fun K "name_of" "name_of" (topS 53) f fd) (T : Tx mg) (C_is_name : CalG P w K mg base 1 "is_name" (spOf K F_is_name) []) (pure : ∀ ds q x, F ds q x → ds.length = 1 ∧ t_name_of F_is_name { nx := fun _ => q .non, rt := q, ex := x } (startE 4 ds)) : FnG P w K mg base 2 f fd ["line"] (spOf K F) :=
  def_ok fn sc_name_of (fun cdv A callers s H E B po => (pds_cons (pd_unpack (pd_partn (pd_ix (pd_split (pd_var 0) pd_str) pd_int) pd_str) (GN.cons (i := 1) rfl (by first | exact Or.inl rfl | exact Or.inr rfl) (by first | exact Or.inl rfl | exact Or.inr rfl) (GN.cons (i := 2) rfl (by first | exact Or.inl rfl | exact Or.inr rfl) (by first | exact Or.inl rfl | exact Or.inr rfl) (GN.cons (i := 3) rfl (by first | exact Or.inl rfl | exact Or.inr rfl) (by first | exact Or.inl rfl | exact Or.inr rfl) GN.nil rfl) rfl) rfl) B.calm B.nd)
  (pds_cons (pd_ifS (PDW.pt (pdw_and (pdt_val (pd_call C_is_name B (by decide) (pda_cons (pd_var 1) pda_nil))) (pdw_and (pdt_cmp (ok_eq B.u64) (pd_var 2) pd_str (nomark _)) (pdw_and1 (pdt_cmp (ok_eq B.u64) (pd_var 3) pd_str (nomark _)))))) (pds_one (pd_ret (pd_var 1))) pds_nil)
  (pds_one (pd_ret pd_non))))) pure
theorem sc_items_by_name : FnScope ["lines", "items", "place", "line", "name"] ["lines"] (defScope (topS 54)) := ⟨rfl, rfl, rfl, by decide +kernel, rfl, by decide +kernel, by decide +kernel⟩
theorem g_items_by_name {P : Program} {w : World} {K : PySem.W.Frag} {mg : Str → Option Value} {base : Heap} {f : Addr} {fd : FuncData} {F_name_of F : DF} (fn : Fun K "items_by_name" "items_by_name" (topS 54) f fd) (T : Tx mg) (C_name_of : CalG P w K mg base 2 "name_of" (spOf K F_name_of) []) (pure : ∀ ds q x, F ds q x → ds.length = 1 ∧ t_items_by_name F_name_of { nx := fun _ => q .non, rt := q, ex := x } (startE 5 ds)) : FnG P w K mg base 3 f fd ["lines"] (spOf K F) :=
  def_ok fn sc_items_by_name (fun cdv A callers s H E B po => (pds_cons (pd_setDic 1 B.nd)
  (pds_cons (pd_for po B.calm (pdi_enum (pd_var 0) T.enumerate) (pgd_names (GN.cons (i := 2) rfl (by first | exact Or.inl rfl | exact Or.inr rfl) (by first | exact Or.inl rfl | exact Or.inr rfl) (GN.cons (i := 3) rfl (by first | exact Or.inl rfl | exact Or.inr rfl) (by first | exact Or.inl rfl | exact Or.inr rfl) GN.nil rfl) rfl) B.calm B.nd) (pds_cons (pd_set 4 (pd_call C_name_of B (by decide) (pda_cons (pd_var 3) pda_nil)) B.nd)
  (pds_one (pd_ifS (PDW.pt (pdw_and (pdt_cmp ok_isNotA (pd_var 4) pd_non (nomark _)) (pdw_and1 (pdt_notInDic 1 B (pd_var 4))))) (pds_one (pd_putDic 1 B (pd_var 4) (pd_var 2))) pds_nil))))
  (pds_one (pd_retDic 1))))) pure
theorem sc_way_of : FnScope ["word", "item", "items", "names", "name"] ["word", "item", "items"] (defScope (topS 56)) := ⟨rfl, rfl, rfl, by decide +kernel, rfl, by decide +kernel, by decide +kernel⟩
theorem g_way_of {P : Program} {w : World} {K : PySem.W.Frag} {mg : Str → Option Value} {base : Heap} {f : Addr} {fd : FuncData} {F : DF} (fn : Fun K "way_of" "way_of" (topS 56) f fd) (T : Tx mg) (TS : mg "set" = none) (N_NO_ITEMS : ∃ t, mg "NO_ITEMS" = some (.str "-" t)) (pure : ∀ ds q x, F ds q x → ds.length = 3 ∧ t_way_of  { nx := fun _ => q .non, rt := q, ex := x } (startE 5 ds)) : FnG P w K mg base 1 f fd ["word", "item", "items"] (spOf K F) :=
  def_ok fn sc_way_of (fun cdv A callers s H E B po => (pds_cons (pd_ifS (pdt_cmp (ok_eq B.u64) (pd_var 0) (pd_gstr N_NO_ITEMS) (nomark _)) (pds_one (pd_ret (pd_tup pda_nil))) pds_nil)
  (pds_cons (pd_set 3 (pd_split (pd_var 0) pd_str) B.nd)
  (pds_cons (pd_ifS (PDW.pt (pdw_or (pdt_not (pdt_val (pd_blt (ok_all B.calm) T.all boot_all_ (pda_cons (pd_ofF (pf_lc (own := [("name", 4)]) (is := [4]) (dg := (gN 4)) B.calm B.nd (pdi_seq (pd_var 3)) (blkOk_by (N := ["word", "item", "items", "names", "name"]) (sc := defScope (topS 56)) (by decide +kernel)) (comp_name 4 B.nd (fun s H C cl fp => rfl) (fun s H C cl fp => by first | exact Or.inl rfl | exact Or.inr rfl) (fun s H C cl fp => by first | exact Or.inl rfl | exact Or.inr rfl)) (fun s H C cl fp => BC.ptd B fun Bk => ptsd_nil) (fun s H C cl fp => BC.pd B fun Bk => (pd_and (pd_inDct Bk (pd_var 4) (pd_var 2)) (pd_one (pd_cmp (ok_ne Bk.u64) (pd_dget Bk (pd_var 2) (pd_var 4)) (pd_var 1) (nomark _))))))) pda_nil)))) (pdw_or1 (pdt_cmp (ok_ne B.u64) (pd_lenSetL B.calm T.len TS (pd_var 3)) (pd_blt ok_len T.len boot_len_ (pda_cons (pd_var 3) pda_nil)) (nomark _))))) (pds_one (pd_ret pd_non)) pds_nil)
  (pds_one (pd_ret (pd_bty ok_tuple T.tuple boot_tuple_ (pda_cons (pd_blt ok_sorted T.sorted boot_sorted_ (pda_cons (pd_ofF (pf_lc (own := [("name", 4)]) (is := [4]) (dg := (gN 4)) B.calm B.nd (pdi_seq (pd_var 3)) (blkOk_by (N := ["word", "item", "items", "names", "name"]) (sc := defScope (topS 56)) (by decide +kernel)) (comp_name 4 B.nd (fun s H C cl fp => rfl) (fun s H C cl fp => by first | exact Or.inl rfl | exact Or.inr rfl) (fun s H C cl fp => by first | exact Or.inl rfl | exact Or.inr rfl)) (fun s H C cl fp => BC.ptd B fun Bk => ptsd_nil) (fun s H C cl fp => BC.pd B fun Bk => (pd_bty ok_int T.int boot_int_ (pda_cons (pd_dget Bk (pd_var 2) (pd_var 4)) pda_nil))))) pda_nil)) pda_nil)))))))) pure
theorem sc_entry_of : FnScope ["line", "place", "items", "name", "ways", "word"] ["line", "place", "items"] (defScope (topS 55)) := ⟨rfl, rfl, rfl, by decide +kernel, rfl, by decide +kernel, by decide +kernel⟩
theorem g_entry_of {P : Program} {w : World} {K : PySem.W.Frag} {mg : Str → Option Value} {base : Heap} {f : Addr} {fd : FuncData} {F_name_of F_way_of F : DF} (fn : Fun K "entry_of" "entry_of" (topS 55) f fd) (T : Tx mg) (C_name_of : CalG P w K mg base 2 "name_of" (spOf K F_name_of) []) (C_way_of : CalG P w K mg base 1 "way_of" (spOf K F_way_of) []) (pure : ∀ ds q x, F ds q x → ds.length = 3 ∧ t_entry_of F_name_of F_way_of { nx := fun _ => q .non, rt := q, ex := x } (startE 6 ds)) : FnG P w K mg base 3 f fd ["line", "place", "items"] (spOf K F) :=
  def_ok fn sc_entry_of (fun cdv A callers s H E B po => (pds_cons (pd_set 3 (pd_call C_name_of B (by decide) (pda_cons (pd_var 0) pda_nil)) B.nd)
  (pds_cons (pd_ifS (PDW.pt (pdw_or (pdt_cmp ok_isA (pd_var 3) pd_non (nomark _)) (pdw_or1 (pdt_cmp (ok_ne B.u64) (pd_dget B (pd_var 2) (pd_var 3)) (pd_var 1) (nomark _))))) (pds_one (pd_ret pd_non)) pds_nil)
  (pds_cons (pd_setLcV 4 (own := [("word", 5)]) (is := [5]) (dg := (gN 5)) B.calm B.nd (pdi_seq (pd_slice (pd_split (pd_var 0) pd_str) (pdo_some pd_int) pdo_none)) (blkOk_by (N := ["line", "place", "items", "name", "ways", "word"]) (sc := defScope (topS 55)) (by decide +kernel)) (comp_name 5 B.nd (fun s H C cl fp => rfl) (fun s H C cl fp => by first | exact Or.inl rfl | exact Or.inr rfl) (fun s H C cl fp => by first | exact Or.inl rfl | exact Or.inr rfl)) (fun s H C cl fp => BC.ptd B fun Bk => ptsd_nil) (fun s H C cl fp => BC.pd B fun Bk => (pd_call C_way_of Bk (by decide) (pda_cons (pd_var 5) (pda_cons (pd_var 1) (pda_cons (pd_var 2) pda_nil))))))
  (pds_one (pd_ret (pd_if (pdt_cmp (ok_in B.u65) pd_non (pd_var 4) (by with_unfolding_all rfl)) pd_non (pd_bty ok_tuple T.tuple boot_tuple_ (pda_cons (pd_var 4) pda_nil))))))))) pure
theorem sc_is_integer : FnScope ["value"] ["value"] (defScope (topS 2)) := ⟨rfl, rfl, rfl, by decide +kernel, rfl, by decide +kernel, by decide +kernel⟩
theorem g_is_integer {P : Program} {w : World} {K : PySem.W.Frag} {mg : Str → Option Value} {base : Heap} {f : Addr} {fd : FuncData} {F : DF} (fn : Fun K "is_integer" "is_integer" (topS 2) f fd) (T : Tx mg)  (pure : ∀ ds q x, F ds q x → ds.length = 1 ∧ t_is_integer  { nx := fun _ => q .non, rt := q, ex := x } (startE 1 ds)) : FnG P w K mg base 1 f fd ["value"] (spOf K F) :=
  def_ok fn sc_is_integer (fun cdv A callers s H E B po => (pds_one (pd_ret (pd_and (pd_isi T.isinstance T.int boot_int_ (pd_var 0)) (pd_one (pd_not (pd_isi T.isinstance T.bool boot_bool_ (pd_var 0)))))))) pure
theorem sc_is_item : FnScope ["value", "count"] ["value", "count"] (defScope (topS 3)) := ⟨rfl, rfl, rfl, by decide +kernel, rfl, by decide +kernel, by decide +kernel⟩
theorem g_is_item {P : Program} {w : World} {K : PySem.W.Frag} {mg : Str → Option Value} {base : Heap} {f : Addr} {fd : FuncData} {F_is_integer F : DF} (fn : Fun K "is_item" "is_item" (topS 3) f fd) (T : Tx mg) (C_is_integer : CalG P w K mg base 1 "is_integer" (spOf K F_is_integer) []) (pure : ∀ ds q x, F ds q x → ds.length = 2 ∧ t_is_item F_is_integer { nx := fun _ => q .non, rt := q, ex := x } (startE 2 ds)) : FnG P w K mg base 2 f fd ["value", "count"] (spOf K F) :=
  def_ok fn sc_is_item (fun cdv A callers s H E B po => (pds_one (pd_ret (pd_and (pd_call C_is_integer B (by decide) (pda_cons (pd_var 0) pda_nil)) (pd_one (pd_chain ok_le (ok_ltA B.u65) pd_int (pd_var 0) (pd_var 1))))))) pure
theorem sc_is_set : FnScope ["value", "count", "least", "item"] ["value", "count"] (defScope (topS 4)) := ⟨rfl, rfl, rfl, by decide +kernel, rfl, by decide +kernel, by decide +kernel⟩
theorem g_is_set {P : Program} {w : World} {K : PySem.W.Frag} {mg : Str → Option Value} {base : Heap} {f : Addr} {fd : FuncData} {F_is_item F : DF} (fn : Fun K "is_set" "is_set" (topS 4) f fd) (T : Tx mg) (C_is_item : CalG P w K mg base 2 "is_item" (spOf K F_is_item) []) (pure : ∀ ds q x, F ds q x → ds.length = 2 ∧ t_is_set F_is_item { nx := fun _ => q .non, rt := q, ex := x } (startE 4 ds)) : FnG P w K mg base 3 f fd ["value", "count"] (spOf K F) :=
  def_ok fn sc_is_set (fun cdv A callers s H E B po => (pds_cons (pd_ifS (pdt_not (pdt_val (pd_isi T.isinstance T.tuple boot_tuple_ (pd_var 0)))) (pds_one (pd_ret pd_bl)) pds_nil)
  (pds_cons (pd_set 2 pd_int B.nd)
  (pds_cons (pd_for po B.calm (pdi_seq (pd_var 0)) (pgd_name 3 B.nd) (pds_cons (pd_ifS (PDW.pt (pdw_or (pdt_not (pdt_val (pd_call C_is_item B (by decide) (pda_cons (pd_var 3) (pda_cons (pd_var 1) pda_nil))))) (pdw_or1 (pdt_cmp (ok_ltA B.u65) (pd_var 3) (pd_var 2) (nomark _))))) (pds_one (pd_ret pd_bl)) pds_nil)
  (pds_one (pd_set 2 (pd_op ok_addA (pd_var 3) pd_int) B.nd))))
  (pds_one (pd_ret pd_bl)))))) pure
theorem sc_is_entry : FnScope ["value", "item", "count", "way"] ["value", "item", "count"] (defScope (topS 5)) := ⟨rfl, rfl, rfl, by decide +kernel, rfl, by decide +kernel, by decide +kernel⟩
theorem g_is_entry {P : Program} {w : World} {K : PySem.W.Frag} {mg : Str → Option Value} {base : Heap} {f : Addr} {fd : FuncData} {F_is_set F : DF} (fn : Fun K "is_entry" "is_entry" (topS 5) f fd) (T : Tx mg) (C_is_set : CalG P w K mg base 3 "is_set" (spOf K F_is_set) []) (pure : ∀ ds q x, F ds q x → ds.length = 3 ∧ t_is_entry F_is_set { nx := fun _ => q .non, rt := q, ex := x } (startE 4 ds)) : FnG P w K mg base 4 f fd ["value", "item", "count"] (spOf K F) :=
  def_ok fn sc_is_entry (fun cdv A callers s H E B po => (pds_cons (pd_ifS (pdt_not (pdt_val (pd_isi T.isinstance T.tuple boot_tuple_ (pd_var 0)))) (pds_one (pd_ret pd_bl)) pds_nil)
  (pds_cons (pd_for po B.calm (pdi_seq (pd_var 0)) (pgd_name 3 B.nd) (pds_one (pd_ifS (PDW.pt (pdw_or (pdt_not (pdt_val (pd_call C_is_set B (by decide) (pda_cons (pd_var 3) (pda_cons (pd_var 2) pda_nil))))) (pdw_or1 (pdt_cmp (ok_in B.u65) (pd_var 1) (pd_var 3) (by with_unfolding_all rfl))))) (pds_one (pd_ret pd_bl)) pds_nil)))
  (pds_one (pd_ret pd_bl))))) pure
theorem sc_is_ways : FnScope ["value", "most", "item", "entry"] ["value", "most"] (defScope (topS 6)) := ⟨rfl, rfl, rfl, by decide +kernel, rfl, by decide +kernel, by decide +kernel⟩
theorem g_is_ways {P : Program} {w : World} {K : PySem.W.Frag} {mg : Str → Option Value} {base : Heap} {f : Addr} {fd : FuncData} {F_is_entry F : DF} (fn : Fun K "is_ways" "is_ways" (topS 6) f fd) (T : Tx mg) (C_is_entry : CalG P w K mg base 4 "is_entry" (spOf K F_is_entry) []) (pure : ∀ ds q x, F ds q x → ds.length = 2 ∧ t_is_ways F_is_entry { nx := fun _ => q .non, rt := q, ex := x } (startE 4 ds)) : FnG P w K mg base 5 f fd ["value", "most"] (spOf K F) :=
  def_ok fn sc_is_ways (fun cdv A callers s H E B po => (pds_cons (pd_ifS (PDW.pt (pdw_or (pdt_not (pdt_val (pd_isi T.isinstance T.tuple boot_tuple_ (pd_var 0)))) (pdw_or1 (pdt_not (pdt_chain ok_le ok_le pd_int (pd_blt ok_len T.len boot_len_ (pda_cons (pd_var 0) pda_nil)) (pd_var 1)))))) (pds_one (pd_ret pd_bl)) pds_nil)
  (pds_cons (pd_for po B.calm (pdi_enum (pd_var 0) T.enumerate) (pgd_names (GN.cons (i := 2) rfl (by first | exact Or.inl rfl | exact Or.inr rfl) (by first | exact Or.inl rfl | exact Or.inr rfl) (GN.cons (i := 3) rfl (by first | exact Or.inl rfl | exact Or.inr rfl) (by first | exact Or.inl rfl | exact Or.inr rfl) GN.nil rfl) rfl) B.calm B.nd) (pds_one (pd_ifS (pdt_not (pdt_val (pd_call C_is_entry B (by decide) (pda_cons (pd_var 3) (pda_cons (pd_var 2) (pda_cons (pd_blt ok_len T.len boot_len_ (pda_cons (pd_var 0) pda_nil)) pda_nil)))))) (pds_one (pd_ret pd_bl)) pds_nil)))
  (pds_one (pd_ret pd_bl))))) pure
theorem sc_rank_of : FnScope ["way", "rank", "item"] ["way"] (defScope (topS 41)) := ⟨rfl, rfl, rfl, by decide +kernel, rfl, by decide +kernel, by decide +kernel⟩
theorem g_rank_of {P : Program} {w : World} {K : PySem.W.Frag} {mg : Str → Option Value} {base : Heap} {f : Addr} {fd : FuncData} {C : Addr} {F : DF} (fn : Fun K "rank_of" "rank_of" (topS 41) f fd) (T : Tx mg) (U : CrsG K mg C) (pure : ∀ ds q x, F ds q x → ds.length = 1 ∧ t_rank_of C { nx := fun _ => q .non, rt := q, ex := x } (startE 3 ds)) : FnG P w K mg base 1 f fd ["way"] (spOf K F) :=
  def_ok fn sc_rank_of (fun cdv A callers s H E B po => (pds_cons (pd_set 1 (pd_blt ok_len T.len boot_len_ (pda_cons (pd_var 0) pda_nil)) B.nd)
  (pds_cons (pd_for po B.calm (pdi_seq (pd_var 0)) (pgd_name 2 B.nd) (pds_one (pd_set 1 (pd_op ok_addA (pd_op ok_mulA (pd_var 1) (pd_con U.most)) (pd_var 2)) B.nd)))
  (pds_one (pd_ret (pd_var 1)))))) pure
theorem sc_in_order : FnScope ["ways", "ranked", "way", "rank"] ["ways"] (defScope (topS 42)) := ⟨rfl, rfl, rfl, by decide +kernel, rfl, by decide +kernel, by decide +kernel⟩
theorem g_in_order {P : Program} {w : World} {K : PySem.W.Frag} {mg : Str → Option Value} {base : Heap} {f : Addr} {fd : FuncData} {F_rank_of F : DF} (fn : Fun K "in_order" "in_order" (topS 42) f fd) (T : Tx mg) (C_rank_of : CalG P w K mg base 1 "rank_of" (spOf K F_rank_of) []) (pure : ∀ ds q x, F ds q x → ds.length = 1 ∧ t_in_order F_rank_of { nx := fun _ => q .non, rt := q, ex := x } (startE 4 ds)) : FnG P w K mg base 2 f fd ["ways"] (spOf K F) :=
  def_ok fn sc_in_order (fun cdv A callers s H E B po => (pds_cons (pd_set 1 (pd_dc (own := [("way", 2)]) (is := [2]) (dg := gN 2) B.calm B.nd (pdi_seq (pd_var 0)) (blkOk_by (N := ["ways", "ranked", "way", "rank"]) (sc := defScope (topS 42)) (by decide +kernel)) (comp_name 2 B.nd (fun s H C cl fp => rfl) (fun s H C cl fp => by first | exact Or.inl rfl | exact Or.inr rfl) (fun s H C cl fp => by first | exact Or.inl rfl | exact Or.inr rfl)) (fun s H C cl fp => BC.pd B fun Bk => (pd_call C_rank_of Bk (by decide) (pda_cons (pd_var 2) pda_nil))) (fun s H C cl fp => BC.pd B fun Bk => (pd_var 2))) B.nd)
  (pds_one (pd_ret (pd_ofF (pf_lc (own := [("rank", 3)]) (is := [3]) (dg := (gN 3)) B.calm B.nd (pdi_seq (pd_blt ok_sorted T.sorted boot_sorted_ (pda_cons (pd_locked 1 (pd_ofF (pf_lc (own := [("rank", 3)]) (is := [3]) (dg := (gN 3)) B.calm B.nd (pdi_keys (pd_var 1)) (blkOk_by (N := ["ways", "ranked", "way", "rank"]) (sc := defScope (topS 42)) (by decide +kernel)) (comp_name 3 B.nd (fun s H C cl fp => rfl) (fun s H C cl fp => by first | exact Or.inl rfl | exact Or.inr rfl) (fun s H C cl fp => by first | exact Or.inl rfl | exact Or.inr rfl)) (fun s H C cl fp => BC.ptd B fun Bk => ptsd_nil) (fun s H C cl fp => BC.pd B fun Bk => (pd_bty ok_int T.int boot_int_ (pda_cons (pd_var 3) pda_nil)))))) pda_nil))) (blkOk_by (N := ["ways", "ranked", "way", "rank"]) (sc := defScope (topS 42)) (by decide +kernel)) (comp_name 3 B.nd (fun s H C cl fp => rfl) (fun s H C cl fp => by first | exact Or.inl rfl | exact Or.inr rfl) (fun s H C cl fp => by first | exact Or.inl rfl | exact Or.inr rfl)) (fun s H C cl fp => BC.ptd B fun Bk => ptsd_nil) (fun s H C cl fp => BC.pd B fun Bk => (pd_dget Bk (pd_var 1) (pd_var 3))))))))) pure
theorem sc_lies_within : FnScope ["way", "items"] ["way", "items"] (defScope (topS 27)) := ⟨rfl, rfl, rfl, by decide +kernel, rfl, by decide +kernel, by decide +kernel⟩
theorem g_lies_within {P : Program} {w : World} {K : PySem.W.Frag} {mg : Str → Option Value} {base : Heap} {f : Addr} {fd : FuncData} {F : DF} (fn : Fun K "lies_within" "lies_within" (topS 27) f fd) (T : Tx mg)  (pure : ∀ ds q x, F ds q x → ds.length = 2 ∧ t_lies_within  { nx := fun _ => q .non, rt := q, ex := x } (startE 2 ds)) : FnG P w K mg base 1 f fd ["way", "items"] (spOf K F) :=
  def_ok fn sc_lies_within (fun cdv A callers s H E B po => (pds_one (pd_ret (pd_cmp (ok_eq B.u64) (pd_op ok_band (pd_var 0) (pd_var 1)) (pd_var 0) (nomark _))))) pure
theorem sc_first_way : FnScope ["ways", "items", "way"] ["ways", "items"] (defScope (topS 28)) := ⟨rfl, rfl, rfl, by decide +kernel, rfl, by decide +kernel, by decide +kernel⟩
theorem g_first_way {P : Program} {w : World} {K : PySem.W.Frag} {mg : Str → Option Value} {base : Heap} {f : Addr} {fd : FuncData} {F_lies_within F : DF} (fn : Fun K "first_way" "first_way" (topS 28) f fd) (T : Tx mg) (C_lies_within : CalG P w K mg base 1 "lies_within" (spOf K F_lies_within) []) (pure : ∀ ds q x, F ds q x → ds.length = 2 ∧ t_first_way F_lies_within { nx := fun _ => q .non, rt := q, ex := x } (startE 3 ds)) : FnG P w K mg base 2 f fd ["ways", "items"] (spOf K F) :=
  def_ok fn sc_first_way (fun cdv A callers s H E B po => (pds_cons (pd_for po B.calm (pdi_seq (pd_var 0)) (pgd_name 2 B.nd) (pds_one (pd_ifS (pdt_val (pd_call C_lies_within B (by decide) (pda_cons (pd_var 2) (pda_cons (pd_var 1) pda_nil)))) (pds_one (pd_ret (pd_var 2))) pds_nil)))
  (pds_one (pd_ret pd_non)))) pure
theorem sc_has_way : FnScope ["ways", "items"] ["ways", "items"] (defScope (topS 29)) := ⟨rfl, rfl, rfl, by decide +kernel, rfl, by decide +kernel, by decide +kernel⟩
theorem g_has_way {P : Program} {w : World} {K : PySem.W.Frag} {mg : Str → Option Value} {base : Heap} {f : Addr} {fd : FuncData} {F_first_way F : DF} (fn : Fun K "has_way" "has_way" (topS 29) f fd) (T : Tx mg) (C_first_way : CalG P w K mg base 2 "first_way" (spOf K F_first_way) []) (pure : ∀ ds q x, F ds q x → ds.length = 2 ∧ t_has_way F_first_way { nx := fun _ => q .non, rt := q, ex := x } (startE 2 ds)) : FnG P w K mg base 3 f fd ["ways", "items"] (spOf K F) :=
  def_ok fn sc_has_way (fun cdv A callers s H E B po => (pds_one (pd_ret (pd_cmp ok_isNotA (pd_call C_first_way B (by decide) (pda_cons (pd_var 0) (pda_cons (pd_var 1) pda_nil))) pd_non (nomark _))))) pure
theorem sc_mask_of : FnScope ["items", "mask", "item"] ["items"] (defScope (topS 24)) := ⟨rfl, rfl, rfl, by decide +kernel, rfl, by decide +kernel, by decide +kernel⟩
theorem g_mask_of {P : Program} {w : World} {K : PySem.W.Frag} {mg : Str → Option Value} {base : Heap} {f : Addr} {fd : FuncData} {F : DF} (fn : Fun K "mask_of" "mask_of" (topS 24) f fd) (T : Tx mg)  (pure : ∀ ds q x, F ds q x → ds.length = 1 ∧ t_mask_of  { nx := fun _ => q .non, rt := q, ex := x } (startE 3 ds)) : FnG P w K mg base 1 f fd ["items"] (spOf K F) :=
  def_ok fn sc_mask_of (fun cdv A callers s H E B po => (pds_cons (pd_set 1 pd_int B.nd)
  (pds_cons (pd_for po B.calm (pdi_seq (pd_var 0)) (pgd_name 2 B.nd) (pds_one (pd_set 1 (pd_op ok_bor (pd_var 1) (pd_op ok_shl pd_int (pd_var 2))) B.nd)))
  (pds_one (pd_ret (pd_var 1)))))) pure
theorem sc_tidy : FnScope ["ways", "kept", "masks", "way"] ["ways"] (defScope (topS 43)) := ⟨rfl, rfl, rfl, by decide +kernel, rfl, by decide +kernel, by decide +kernel⟩
theorem g_tidy {P : Program} {w : World} {K : PySem.W.Frag} {mg : Str → Option Value} {base : Heap} {f : Addr} {fd : FuncData} {F_in_order F_has_way F_mask_of F : DF} (fn : Fun K "tidy" "tidy" (topS 43) f fd) (T : Tx mg) (C_in_order : CalG P w K mg base 2 "in_order" (spOf K F_in_order) []) (C_has_way : CalG P w K mg base 3 "has_way" (spOf K F_has_way) []) (C_mask_of : CalG P w K mg base 1 "mask_of" (spOf K F_mask_of) []) (pure : ∀ ds q x, F ds q x → ds.length = 1 ∧ t_tidy F_in_order F_has_way F_mask_of { nx := fun _ => q .non, rt := q, ex := x } (startE 4 ds)) : FnG P w K mg base 4 f fd ["ways"] (spOf K F) :=
  def_ok fn sc_tidy (fun cdv A callers s H E B po => (pds_cons (pd_setOwn 1 (pf_lst pda_nil) B.nd)
  (pds_cons (pd_setOwn 2 (pf_lst pda_nil) B.nd)
  (pds_cons (pd_for po B.calm (pdi_seq (pd_call C_in_order B (by decide) (pda_cons (pd_var 0) pda_nil))) (pgd_name 3 B.nd) (pds_one (pd_ifS (pdt_not (pdt_val (pd_call C_has_way B (by decide) (pda_cons (pd_var 2) (pda_cons (pd_call C_mask_of B (by decide) (pda_cons (pd_var 3) pda_nil)) pda_nil))))) (pds_cons (pd_append 1 (pd_var 3))
  (pds_one (pd_append 2 (pd_call C_mask_of B (by decide) (pda_cons (pd_var 3) pda_nil))))) pds_nil)))
  (pds_one (pd_ret (pd_bty ok_tuple T.tuple boot_tuple_ (pda_cons (pd_var 1) pda_nil)))))))) pure
theorem sc_masks_of : FnScope ["ways", "way"] ["ways"] (defScope (topS 44)) := ⟨rfl, rfl, rfl, by decide +kernel, rfl, by decide +kernel, by decide +kernel⟩
theorem g_masks_of {P : Program} {w : World} {K : PySem.W.Frag} {mg : Str → Option Value} {base : Heap} {f : Addr} {fd : FuncData} {F_mask_of F : DF} (fn : Fun K "masks_of" "masks_of" (topS 44) f fd) (T : Tx mg) (C_mask_of : CalG P w K mg base 1 "mask_of" (spOf K F_mask_of) []) (pure : ∀ ds q x, F ds q x → ds.length = 1 ∧ t_masks_of F_mask_of { nx := fun _ => q .non, rt := q, ex := x } (startE 2 ds)) : FnG P w K mg base 2 f fd ["ways"] (spOf K F) :=
  def_ok fn sc_masks_of (fun cdv A callers s H E B po => (pds_one (pd_ret (pd_bty ok_tuple T.tuple boot_tuple_ (pda_cons (pd_ofF (pf_lc (own := [("way", 1)]) (is := [1]) (dg := (gN 1)) B.calm B.nd (pdi_seq (pd_var 0)) (blkOk_by (N := ["ways", "way"]) (sc := defScope (topS 44)) (by decide +kernel)) (comp_name 1 B.nd (fun s H C cl fp => rfl) (fun s H C cl fp => by first | exact Or.inl rfl | exact Or.inr rfl) (fun s H C cl fp => by first | exact Or.inl rfl | exact Or.inr rfl)) (fun s H C cl fp => BC.ptd B fun Bk => ptsd_nil) (fun s H C cl fp => BC.pd B fun Bk => (pd_call C_mask_of Bk (by decide) (pda_cons (pd_var 1) pda_nil))))) pda_nil))))) pure
theorem sc_Course___init__ : FnScope ["self", "ways", "entry"] ["self", "ways"] (defScope (inClass (topS 38) 1)) := ⟨rfl, rfl, rfl, by decide +kernel, rfl, by decide +kernel, by decide +kernel⟩
theorem g_Course___init__ {P : Program} {w : World} {K : PySem.W.Frag} {mg : Str → Option Value} {base : Heap} {f : Addr} {fd : FuncData} {C : Addr} {X_NoCourse : Addr} {F_is_ways F_tidy F_masks_of : DF} {F : DF} (fn : Fun K "__init__" "Course.__init__" (inClass (topS 38) 1) f fd) (T : Tx mg) (U : CrsG K mg C) (E_NoCourse : ExcG K mg "NoCourse" X_NoCourse) (C_is_ways : CalG P w K mg base 5 "is_ways" (spOf K F_is_ways) []) (C_tidy : CalG P w K mg base 4 "tidy" (spOf K F_tidy) []) (C_masks_of : CalG P w K mg base 2 "masks_of" (spOf K F_masks_of) []) (pure : ∀ ds q x, F ds q x → ds.length + 1 = 2 ∧ t_Course___init__ C X_NoCourse F_is_ways F_tidy F_masks_of ((.no : EV) :: startE 2 ds) [] [] (fun ns es => q (.ins C ns es)) x) : FnG P w K mg base 6 f fd ["self", "ways"] (spIni K C F) :=
  ini_ok fn sc_Course___init__ (fun cdv A callers s H E B po => (pn_if (pdt_not (pdt_val (pd_call C_is_ways B (by decide) (pda_cons (pd_var 1) (pda_cons (pd_con U.most) pda_nil))))) (pds_one (pd_raise E_NoCourse B)) (pn_set U.cls U.n_ways rfl (by first | exact Or.inl rfl | exact Or.inr (Or.inl rfl)) rfl rfl (pd_bty ok_tuple T.tuple boot_tuple_ (pda_cons (pd_ofF (pf_lc (own := [("entry", 2)]) (is := [2]) (dg := (gN 2)) B.calm B.nd (pdi_seq (pd_var 1)) (blkOk_by (N := ["self", "ways", "entry"]) (sc := defScope (inClass (topS 38) 1)) (by decide +kernel)) (comp_name 2 B.nd (fun s H C cl fp => rfl) (fun s H C cl fp => by first | exact Or.inl rfl | exact Or.inr rfl) (fun s H C cl fp => by first | exact Or.inl rfl | exact Or.inr rfl)) (fun s H C cl fp => BC.ptd B fun Bk => ptsd_nil) (fun s H C cl fp => BC.pd B fun Bk => (pd_call C_tidy Bk (by decide) (pda_cons (pd_var 2) pda_nil))))) pda_nil)) (pn_set U.cls U.n_book rfl (by first | exact Or.inl rfl | exact Or.inr (Or.inl rfl)) rfl rfl (pd_bty ok_tuple T.tuple boot_tuple_ (pda_cons (pd_ofF (pf_lc (own := [("entry", 2)]) (is := [2]) (dg := (gN 2)) B.calm B.nd (pdi_seq (pd_fld U.cls U.n_ways (pd_var 0))) (blkOk_by (N := ["self", "ways", "entry"]) (sc := defScope (inClass (topS 38) 1)) (by decide +kernel)) (comp_name 2 B.nd (fun s H C cl fp => rfl) (fun s H C cl fp => by first | exact Or.inl rfl | exact Or.inr rfl) (fun s H C cl fp => by first | exact Or.inl rfl | exact Or.inr rfl)) (fun s H C cl fp => BC.ptd B fun Bk => ptsd_nil) (fun s H C cl fp => BC.pd B fun Bk => (pd_call C_masks_of Bk (by decide) (pda_cons (pd_var 2) pda_nil))))) pda_nil)) pn_nil rfl) rfl))) (by simp) pure
theorem sc_course_of : FnScope ["text", "lines", "items", "entries", "place", "line", "entry"] ["text"] (defScope (topS 52)) := ⟨rfl, rfl, rfl, by decide +kernel, rfl, by decide +kernel, by decide +kernel⟩
theorem g_course_of {P : Program} {w : World} {K : PySem.W.Frag} {mg : Str → Option Value} {base : Heap} {f : Addr} {fd : FuncData} {C : Addr} {X_BadText : Addr} {F_items_by_name F_entry_of F_Course___init__ F : DF} (fn : Fun K "course_of" "course_of" (topS 52) f fd) (T : Tx mg) (U : CrsG K mg C) (R_BadText : RaiF P w K mg base 1 "BadText" X_BadText ["line"]) (C_items_by_name : CalG P w K mg base 3 "items_by_name" (spOf K F_items_by_name) []) (C_entry_of : CalG P w K mg base 3 "entry_of" (spOf K F_entry_of) []) (M_init : MakG P w K mg base 6 "Course" C F_Course___init__) (pure : ∀ ds q x, F ds q x → ds.length = 1 ∧ t_course_of C X_BadText F_items_by_name F_entry_of F_Course___init__ { nx := fun _ => q .non, rt := q, ex := x } (startE 7 ds)) : FnG P w K mg base 8 f fd ["text"] (spOf K F) :=
  def_ok fn sc_course_of (fun cdv A callers s H E B po => (pds_cons (pd_ifS (pdt_not (pdt_val (pd_isi T.isinstance T.str boot_str_ (pd_var 0)))) (pds_one (pd_raiseF R_BadText B (by decide) (pda_cons pd_int pda_nil))) pds_nil)
  (pds_cons (pd_set 1 (pd_split (pd_var 0) pd_str) B.nd)
  (pds_cons (pd_set 2 (pd_call C_items_by_name B (by decide) (pda_cons (pd_var 1) pda_nil)) B.nd)
  (pds_cons (pd_setOwn 3 (pf_lst pda_nil) B.nd)
  (pds_cons (pd_for po B.calm (pdi_enum (pd_var 1) T.enumerate) (pgd_names (GN.cons (i := 4) rfl (by first | exact Or.inl rfl | exact Or.inr rfl) (by first | exact Or.inl rfl | exact Or.inr rfl) (GN.cons (i := 5) rfl (by first | exact Or.inl rfl | exact Or.inr rfl) (by first | exact Or.inl rfl | exact Or.inr rfl) GN.nil rfl) rfl) B.calm B.nd) (pds_cons (pd_set 6 (pd_call C_entry_of B (by decide) (pda_cons (pd_var 5) (pda_cons (pd_var 4) (pda_cons (pd_var 2) pda_nil)))) B.nd)
  (pds_cons (pd_ifS (PDW.pt (pdw_or (pdt_cmp ok_isA (pd_var 6) pd_non (nomark _)) (pdw_or1 (pdt_cmp ok_ge (pd_var 4) (pd_con U.most) (nomark _))))) (pds_one (pd_raiseF R_BadText B (by decide) (pda_cons (pd_op ok_addA (pd_var 4) pd_int) pda_nil))) pds_nil)
  (pds_one (pd_append 3 (pd_var 6))))))
  (pds_one (pd_ret (pd_tup (pda_cons (pd_tupK B.calm T.tuple (pd_var 2)) (pda_cons (pd_make M_init B (by decide) (pda_cons (pd_bty ok_tuple T.tuple boot_tuple_ (pda_cons (pd_var 3) pda_nil)) pda_nil)) pda_nil))))))))))) pure
theorem sc_law : FnScope ["_law_script", "_law_cell", "_law_pen", "_law_book_here", "_law_names_here", "_law_good", "_law_turn", "_law_long", "_law_many", "_law_text_here", "_law_value", "_law_lines", "_law_step", "_law_at", "_law_line", "_law_said_here", "_law_place", "#"] ["_law_script"] (defScope (topS 73)) := ⟨rfl, rfl, rfl, by decide +kernel, rfl, by decide +kernel, by decide +kernel⟩
theorem g_law {P : Program} {w : World} {K : PySem.W.Frag} {mg : Str → Option Value} {base : Heap} {f c TL : Addr} {fd : FuncData} {W : WRel} {F__law_cell_at F__law_pen_of F__law_book F__law_names F__law_text F__law_draw F__law_spoilt F_course_of F__law_bad_line F__law_is F : DF} (fn : Fun K "law" "law" (topS 73) f fd) (T : Tx mg) (C__law_cell_at : CalG P w K mg base 1 "_law_cell_at" (spOf K F__law_cell_at) []) (C__law_pen_of : CalG P w K mg base 1 "_law_pen_of" (spOf K F__law_pen_of) []) (C__law_book : CalG P w K mg base 4 "_law_book" (spOf K F__law_book) []) (C__law_names : CalG P w K mg base 3 "_law_names" (spOf K F__law_names) []) (C__law_text : CalG P w K mg base 1 "_law_text" (spOf K F__law_text) []) (C__law_draw : CalG P w K mg base 2 "_law_draw" (spOf K F__law_draw) []) (C__law_spoilt : CalG P w K mg base 3 "_law_spoilt" (spOf K F__law_spoilt) []) (C_course_of : CalG P w K mg base 8 "course_of" (spOf K F_course_of) []) (C__law_bad_line : CalG P w K mg base 3 "_law_bad_line" (spOf K F__law_bad_line) []) (C__law_is : CalG P w K mg base 1 "_law_is" (spOf K F__law_is) []) (ec : fd.code = .ref c) (TB : LamX.TabB base mg c TL) (SG : SaidG P w K mg base 8 W) (pure : ∀ ds q x, F ds q x → ds.length = 1 ∧ t_law58 TL W F__law_cell_at F__law_pen_of F__law_book F__law_names F__law_text F__law_draw F__law_spoilt F_course_of F__law_bad_line F__law_is { nx := fun _ => q .non, rt := q, ex := x } ((startE 18 ds).set 17 (.val (.tab TL lamQ)))) : FnG P w K mg base 11 f fd ["_law_script"] (spT K TL F) :=
  def_okT 17 fn sc_law rfl (fun h => by rcases h with h | h | h <;> exact absurd h (by decide +kernel)) ec (fun cdv A callers s H E ecd B po => (pds_cons (pd_for po B.calm (pdi_seq (pd_op ok_addA (pd_lst (pda_cons (pd_call C__law_cell_at B (by decide) (pda_cons (pd_var 0) (pda_cons pd_int pda_nil))) pda_nil)) (pd_slice (pd_var 0) (pdo_some pd_int) (pdo_some pd_int)))) (pgd_name 1 B.nd) (pds_cons (pd_set 2 (pd_call C__law_pen_of B (by decide) (pda_cons (pd_var 1) pda_nil)) B.nd)
  (pds_cons (pd_set 3 (pd_call C__law_book B (by decide) (pda_cons (pd_var 2) (pda_cons pd_int pda_nil))) B.nd)
  (pds_cons (pd_set 4 (pd_call C__law_names B (by decide) (pda_cons (pd_var 2) (pda_cons (pd_blt ok_len T.len boot_len_ (pda_cons (pd_var 3) pda_nil)) (pda_cons pd_int pda_nil)))) B.nd)
  (pds_cons (pd_set 5 (pd_call C__law_text B (by decide) (pda_cons (pd_var 4) (pda_cons (pd_var 3) pda_nil))) B.nd)
  (pds_cons (pd_for po B.calm (pdi_range1 pd_int T.range) (pgd_name 6 B.nd) (pds_cons (pd_setOwn 11 (pf_split (pd_var 5) pd_str) B.nd)
  (pds_cons (pd_for po B.calm (pdi_range1 (pd_op ok_addA pd_int (pd_call C__law_draw B (by decide) (pda_cons (pd_var 2) (pda_cons pd_int pda_nil)))) T.range) (pgd_name 12 B.nd) (pds_cons (pd_set 13 (pd_call C__law_draw B (by decide) (pda_cons (pd_var 2) (pda_cons (pd_blt ok_len T.len boot_len_ (pda_cons (pd_var 11) pda_nil)) pda_nil))) B.nd)
  (pds_one (pd_setIx 11 (pd_call C__law_spoilt B (by decide) (pda_cons (pd_var 2) (pda_cons (pd_ix (pd_var 11) (pd_var 13)) (pda_cons (pd_var 4) pda_nil)))) (pd_var 13)))))
  (pds_cons (pd_set 13 (pd_call C__law_draw B (by decide) (pda_cons (pd_var 2) (pda_cons (pd_blt ok_len T.len boot_len_ (pda_cons (pd_var 11) pda_nil)) pda_nil))) B.nd)
  (pd_freeze 11 (pds_cons (pd_set 11 (pd_ix (pd_lst (pda_cons (pd_var 11) (pda_cons (pd_var 11) (pda_cons (pd_op ok_addA (pd_slice (pd_var 11) pdo_none (pdo_some (pd_var 13))) (pd_slice (pd_var 11) (pdo_some (pd_op ok_addA (pd_var 13) pd_int)) pdo_none)) (pda_cons (pd_op ok_addA (pd_op ok_addA (pd_slice (pd_var 11) pdo_none (pdo_some (pd_var 13))) (pd_lst (pda_cons (pd_ix (pd_var 11) (pd_var 13)) pda_nil))) (pd_slice (pd_var 11) (pdo_some (pd_var 13)) pdo_none)) pda_nil))))) (pd_call C__law_draw B (by decide) (pda_cons (pd_var 2) (pda_cons pd_int pda_nil)))) B.nd)
  (pds_cons (pd_set 9 (pd_join (pd_var 11)) B.nd)
  (pds_cons (pd_par2 14 15 (paf_val (pd_call C__law_bad_line B (by decide) (pda_cons (pd_var 9) pda_nil)) (paf_val (pd_said 17 SG B (by decide) ⟨⟨c, TB, ecd⟩, rfl, rfl, LamX.lamS_by (show LamX.lamSB (defScope (topS 73)) _ = true by decide +kernel)⟩ (fun _ _ _ => rfl) (fun E1 A1 cs1 s1 H1 f1 c1 Bl => (pd_call C_course_of Bl (by decide) (pda_cons (pd_var 9) pda_nil)))) paf_nil)) B.calm B.nd)
  (pds_one (pd_ifS (PDW.pt (pdw_or (pdt_cmp (ok_ne B.u64) (pd_ix (pd_var 15) pd_int) (pd_ix (pd_lst (pda_cons pd_str (pda_cons pd_str pda_nil))) (pd_bty ok_int T.int boot_int_ (pda_cons (pd_cmp ok_gt (pd_var 14) pd_int (nomark _)) pda_nil))) (nomark _)) (pdw_or1 (PDW.pt (pdw_and (pdt_cmp ok_gt (pd_var 14) pd_int (nomark _)) (pdw_and1 (pdt_not (pdt_val (pd_call C__law_is B (by decide) (pda_cons (pd_var 15) (pda_cons (pd_tup (pda_cons pd_str (pda_cons (pd_var 14) pda_nil))) pda_nil))))))))))) (pds_one (pd_ret pd_bl)) pds_nil))))))))))
  (pds_cons (pd_set 7 (pd_ix (pd_lst (pda_cons pd_str (pda_cons pd_str (pda_cons pd_str pda_nil)))) (pd_call C__law_draw B (by decide) (pda_cons (pd_var 2) (pda_cons pd_int pda_nil)))) B.nd)
  (pds_cons (pd_set 8 (pd_join (pd_ofF (pf_lc (own := [("_law_place", 16)]) (is := [16]) (dg := (gN 16)) B.calm B.nd (pdi_range1 pd_int T.range) (blkOk_by (N := ["_law_script", "_law_cell", "_law_pen", "_law_book_here", "_law_names_here", "_law_good", "_law_turn", "_law_long", "_law_many", "_law_text_here", "_law_value", "_law_lines", "_law_step", "_law_at", "_law_line", "_law_said_here", "_law_place", "#"]) (sc := defScope (topS 73)) (by decide +kernel)) (comp_name 16 B.nd (fun s H C cl fp => rfl) (fun s H C cl fp => by first | exact Or.inl rfl | exact Or.inr rfl) (fun s H C cl fp => by first | exact Or.inl rfl | exact Or.inr rfl)) (fun s H C cl fp => BC.ptd B fun Bk => ptsd_nil) (fun s H C cl fp => BC.pd B fun Bk => (pd_op ok_addA (pd_ixS pd_str (pd_var 16)) pd_str))))) B.nd)
  (pds_cons (pd_for po B.calm (pdi_seq (pd_lst (pda_cons (pd_op ok_addA (pd_var 7) pd_str) (pda_cons (pd_op ok_addA (pd_op ok_addA (pd_op ok_addA (pd_op ok_addA pd_str (pd_var 7)) pd_str) (pd_var 7)) pd_str) (pda_cons (pd_var 8) (pda_cons (pd_op ok_addA (pd_var 8) pd_str) (pda_cons (pd_op ok_addA (pd_var 8) pd_str) (pda_cons pd_str (pda_cons pd_str (pda_cons pd_str (pda_cons pd_str (pda_cons (pd_op ok_addA (pd_var 5) pd_str) pda_nil)))))))))))) (pgd_name 9 B.nd) (pds_cons (pd_par2 14 15 (paf_val (pd_call C__law_bad_line B (by decide) (pda_cons (pd_var 9) pda_nil)) (paf_val (pd_said 17 SG B (by decide) ⟨⟨c, TB, ecd⟩, rfl, rfl, LamX.lamS_by (show LamX.lamSB (defScope (topS 73)) _ = true by decide +kernel)⟩ (fun _ _ _ => rfl) (fun E1 A1 cs1 s1 H1 f1 c1 Bl => (pd_call C_course_of Bl (by decide) (pda_cons (pd_var 9) pda_nil)))) paf_nil)) B.calm B.nd)
  (pds_one (pd_ifS (PDW.pt (pdw_or (pdt_cmp (ok_ne B.u64) (pd_ix (pd_var 15) pd_int) (pd_ix (pd_lst (pda_cons pd_str (pda_cons pd_str pda_nil))) (pd_bty ok_int T.int boot_int_ (pda_cons (pd_cmp ok_gt (pd_var 14) pd_int (nomark _)) pda_nil))) (nomark _)) (pdw_or1 (PDW.pt (pdw_and (pdt_cmp ok_gt (pd_var 14) pd_int (nomark _)) (pdw_and1 (pdt_not (pdt_val (pd_call C__law_is B (by decide) (pda_cons (pd_var 15) (pda_cons (pd_tup (pda_cons pd_str (pda_cons (pd_var 14) pda_nil))) pda_nil))))))))))) (pds_one (pd_ret pd_bl)) pds_nil))))
  (pds_one (pd_for po B.calm (pdi_seq (pd_lst (pda_cons pd_non (pda_cons pd_int (pda_cons pd_bl (pda_cons (pd_lst pda_nil) (pda_cons (pd_tup pda_nil) (pda_cons pd_dict0 (pda_cons (pd_lst (pda_cons (pd_var 5) pda_nil)) (pda_cons (pd_tup (pda_cons pd_str pda_nil)) pda_nil)))))))))) (pgd_name 10 B.nd) (pds_one (pd_ifS (pdt_not (pdt_val (pd_call C__law_is B (by decide) (pda_cons (pd_said 17 SG B (by decide) ⟨⟨c, TB, ecd⟩, rfl, rfl, LamX.lamS_by (show LamX.lamSB (defScope (topS 73)) _ = true by decide +kernel)⟩ (fun _ _ _ => rfl) (fun E1 A1 cs1 s1 H1 f1 c1 Bl => (pd_call C_course_of Bl (by decide) (pda_cons (pd_var 10) pda_nil)))) (pda_cons (pd_tup (pda_cons pd_str (pda_cons pd_int pda_nil))) pda_nil))))) (pds_one (pd_ret pd_bl)) pds_nil)))))))))))))
  (pds_one (pd_ret pd_bl)))) pure
set_option maxHeartbeats 0 in
theorem all_mk {w : World} {K : PySem.W.Frag} {h : Heap} {mg : Str → Option Value} {fa C : Addr} (X : K.In h) (G : h.Ns mainGlobals mg) (hfa : mg "law" = some (.ref fa))
    {X_NoCourse : Addr} {X_BadText : Addr} {nm_BadText : Str} {qn_BadText : Str} {NN_BadText : Addr} {bs_BadText : List Value} {bm_BadText : List Value} {sn_BadText : List Str} {sub_BadText : List Value} {ab_BadText : Bool} {col_BadText : Option Bool} {dd_BadText : Option Addr} {k0_BadText : Option Value} {k1_BadText : Option Value} {k2_BadText : Option Value} {k3_BadText : Option Value} {k5_BadText : Option Value} {fI_BadText cc_BadText cda_BadText : Addr} {oc_BadText kV_BadText dc_BadText pm_BadText ct_BadText : Value} {od_BadText an_BadText : Option Addr} {sl_BadText : Array (Option Value)} {XL : Addr} {f1 : Addr} {oc1 : Value} {kV1 : Value} {dc1 : Value} {pm1 : Value} {cd1 : Value} {ct1 : Value} {od1 an1 : Option Addr} {sl1 : Array (Option Value)} {f2 : Addr} {oc2 : Value} {kV2 : Value} {dc2 : Value} {pm2 : Value} {cd2 : Value} {ct2 : Value} {od2 an2 : Option Addr} {sl2 : Array (Option Value)} {f3 : Addr} {oc3 : Value} {kV3 : Value} {dc3 : Value} {pm3 : Value} {cd3 : Value} {ct3 : Value} {od3 an3 : Option Addr} {sl3 : Array (Option Value)} {f4 : Addr} {oc4 : Value} {kV4 : Value} {dc4 : Value} {pm4 : Value} {cd4 : Value} {ct4 : Value} {od4 an4 : Option Addr} {sl4 : Array (Option Value)} {f5 : Addr} {oc5 : Value} {kV5 : Value} {dc5 : Value} {pm5 : Value} {cd5 : Value} {ct5 : Value} {od5 an5 : Option Addr} {sl5 : Array (Option Value)} {f6 : Addr} {oc6 : Value} {kV6 : Value} {dc6 : Value} {pm6 : Value} {cd6 : Value} {ct6 : Value} {od6 an6 : Option Addr} {sl6 : Array (Option Value)} {f7 : Addr} {oc7 : Value} {kV7 : Value} {dc7 : Value} {pm7 : Value} {cd7 : Value} {ct7 : Value} {od7 an7 : Option Addr} {sl7 : Array (Option Value)} {f8 : Addr} {oc8 : Value} {kV8 : Value} {dc8 : Value} {pm8 : Value} {cd8 : Value} {ct8 : Value} {od8 an8 : Option Addr} {sl8 : Array (Option Value)} {f9 : Addr} {oc9 : Value} {kV9 : Value} {dc9 : Value} {pm9 : Value} {cd9 : Value} {ct9 : Value} {od9 an9 : Option Addr} {sl9 : Array (Option Value)} {f10 : Addr} {oc10 : Value} {kV10 : Value} {dc10 : Value} {pm10 : Value} {cd10 : Value} {ct10 : Value} {od10 an10 : Option Addr} {sl10 : Array (Option Value)} {f11 : Addr} {oc11 : Value} {kV11 : Value} {dc11 : Value} {pm11 : Value} {cd11 : Value} {ct11 : Value} {od11 an11 : Option Addr} {sl11 : Array (Option Value)} {f12 : Addr} {oc12 : Value} {kV12 : Value} {dc12 : Value} {pm12 : Value} {cd12 : Value} {ct12 : Value} {od12 an12 : Option Addr} {sl12 : Array (Option Value)} {f13 : Addr} {oc13 : Value} {kV13 : Value} {dc13 : Value} {pm13 : Value} {cd13 : Value} {ct13 : Value} {od13 an13 : Option Addr} {sl13 : Array (Option Value)} {f14 : Addr} {oc14 : Value} {kV14 : Value} {dc14 : Value} {pm14 : Value} {cd14 : Value} {ct14 : Value} {od14 an14 : Option Addr} {sl14 : Array (Option Value)} {f15 : Addr} {oc15 : Value} {kV15 : Value} {dc15 : Value} {pm15 : Value} {cd15 : Value} {ct15 : Value} {od15 an15 : Option Addr} {sl15 : Array (Option Value)} {f16 : Addr} {oc16 : Value} {kV16 : Value} {dc16 : Value} {pm16 : Value} {cd16 : Value} {ct16 : Value} {od16 an16 : Option Addr} {sl16 : Array (Option Value)} {f17 : Addr} {oc17 : Value} {kV17 : Value} {dc17 : Value} {pm17 : Value} {cd17 : Value} {ct17 : Value} {od17 an17 : Option Addr} {sl17 : Array (Option Value)} {f18 : Addr} {oc18 : Value} {kV18 : Value} {dc18 : Value} {pm18 : Value} {cd18 : Value} {ct18 : Value} {od18 an18 : Option Addr} {sl18 : Array (Option Value)} {f20 : Addr} {oc20 : Value} {kV20 : Value} {dc20 : Value} {pm20 : Value} {cd20 : Value} {ct20 : Value} {od20 an20 : Option Addr} {sl20 : Array (Option Value)} {f21 : Addr} {oc21 : Value} {kV21 : Value} {dc21 : Value} {pm21 : Value} {cd21 : Value} {ct21 : Value} {od21 an21 : Option Addr} {sl21 : Array (Option Value)} {f22 : Addr} {oc22 : Value} {kV22 : Value} {dc22 : Value} {pm22 : Value} {cd22 : Value} {ct22 : Value} {od22 an22 : Option Addr} {sl22 : Array (Option Value)} {f23 : Addr} {oc23 : Value} {kV23 : Value} {dc23 : Value} {pm23 : Value} {cd23 : Value} {ct23 : Value} {od23 an23 : Option Addr} {sl23 : Array (Option Value)} {f24 : Addr} {oc24 : Value} {kV24 : Value} {dc24 : Value} {pm24 : Value} {cd24 : Value} {ct24 : Value} {od24 an24 : Option Addr} {sl24 : Array (Option Value)} {f25 : Addr} {oc25 : Value} {kV25 : Value} {dc25 : Value} {pm25 : Value} {cd25 : Value} {ct25 : Value} {od25 an25 : Option Addr} {sl25 : Array (Option Value)} {f26 : Addr} {oc26 : Value} {kV26 : Value} {dc26 : Value} {pm26 : Value} {cd26 : Value} {ct26 : Value} {od26 an26 : Option Addr} {sl26 : Array (Option Value)} {f27 : Addr} {oc27 : Value} {kV27 : Value} {dc27 : Value} {pm27 : Value} {cd27 : Value} {ct27 : Value} {od27 an27 : Option Addr} {sl27 : Array (Option Value)} {f28 : Addr} {oc28 : Value} {kV28 : Value} {dc28 : Value} {pm28 : Value} {cd28 : Value} {ct28 : Value} {od28 an28 : Option Addr} {sl28 : Array (Option Value)} {f29 : Addr} {oc29 : Value} {kV29 : Value} {dc29 : Value} {pm29 : Value} {cd29 : Value} {ct29 : Value} {od29 an29 : Option Addr} {sl29 : Array (Option Value)} {f30 : Addr} {oc30 : Value} {kV30 : Value} {dc30 : Value} {pm30 : Value} {cd30 : Value} {ct30 : Value} {od30 an30 : Option Addr} {sl30 : Array (Option Value)} {f31 : Addr} {oc31 : Value} {kV31 : Value} {dc31 : Value} {pm31 : Value} {cd31 : Value} {ct31 : Value} {od31 an31 : Option Addr} {sl31 : Array (Option Value)} {f32 : Addr} {oc32 : Value} {kV32 : Value} {dc32 : Value} {pm32 : Value} {cd32 : Value} {ct32 : Value} {od32 an32 : Option Addr} {sl32 : Array (Option Value)} {f33 : Addr} {oc33 : Value} {kV33 : Value} {dc33 : Value} {pm33 : Value} {cd33 : Value} {ct33 : Value} {od33 an33 : Option Addr} {sl33 : Array (Option Value)} {f34 : Addr} {oc34 : Value} {kV34 : Value} {dc34 : Value} {pm34 : Value} {cd34 : Value} {ct34 : Value} {od34 an34 : Option Addr} {sl34 : Array (Option Value)} {f35 : Addr} {oc35 : Value} {kV35 : Value} {dc35 : Value} {pm35 : Value} {cd35 : Value} {ct35 : Value} {od35 an35 : Option Addr} {sl35 : Array (Option Value)} {f36 : Addr} {oc36 : Value} {kV36 : Value} {dc36 : Value} {pm36 : Value} {cd36 : Value} {ct36 : Value} {od36 an36 : Option Addr} {sl36 : Array (Option Value)} {f37 : Addr} {oc37 : Value} {kV37 : Value} {dc37 : Value} {pm37 : Value} {ct37 : Value} {cL TL : Addr} {od37 an37 : Option Addr} {sl37 : Array (Option Value)} {mt : Tok} {coc : Value} {cod : Option Addr} {cvs : Array Value} {csl : Array (Option Value)} {ct_LONGEST_NAME : Tok} {ct_LETTERS : Tok} {ct_NO_ITEMS : Tok}
    (aC : PySem.W.nsIn K mainGlobals "Course" = some (some (.ref C)))
    (aX_NoCourse : PySem.W.nsIn K mainGlobals "NoCourse" = some (some (.ref X_NoCourse)))
    (kX_NoCourse : PySem.W.keepIn K (.ref X_NoCourse) = true)
    (eX_NoCourse : PySem.W.excIn K X_NoCourse [.type "ValueError", .type "Exception", .type "BaseException", .type "object"] "ValueError.__new__" = true)
    (sX_NoCourse : PySem.W.subIn K (.ref X_NoCourse) (.type "BaseException") = some true)
    (tX_NoCourse : PySem.W.typeIn K (.ref X_NoCourse) = some (.type "type"))
    (aX_BadText : PySem.W.nsIn K mainGlobals "BadText" = some (some (.ref X_BadText)))
    (oC_BadText : K.lookup X_BadText = some (excClassObj nm_BadText qn_BadText X_BadText NN_BadText bs_BadText bm_BadText true sn_BadText sub_BadText ab_BadText col_BadText dd_BadText k0_BadText k1_BadText k2_BadText k3_BadText k5_BadText "ValueError.__new__"))
    (oR_BadText : PySem.HandSPX.refsVE bm_BadText = true)
    (oS_BadText : PySem.W.findIn K (.ref X_BadText) "__setattr__" = some (some (.builtin "object.__setattr__")))
    (sX_BadText : PySem.W.subIn K (.ref X_BadText) (.type "BaseException") = some true)
    (tX_BadText : PySem.W.typeIn K (.ref X_BadText) = some (.type "type"))
    (kX_BadText : PySem.W.keepIn K (.ref X_BadText) = true)
    (ii_BadText : PySem.W.findIn K (.ref X_BadText) "__init__" = some (some (.ref fI_BadText)))
    (ti_BadText : PySem.W.typeIn K (.ref fI_BadText) = some (.type "function"))
    (l_BadText : K.lookup fI_BadText = some ⟨oc_BadText, od_BadText, .func (PySem.W.ksFn "__init__" "BadText.__init__" (defArgs (inClass (topS 22) 0)) (defBody (inClass (topS 22) 0)) (defScope (inClass (topS 22) 0)) .none kV_BadText dc_BadText pm_BadText an_BadText (.ref cda_BadText) ct_BadText cc_BadText), sl_BadText⟩)
    (c_BadText : PySem.W.codeIn K (.ref cda_BadText) "BadText.__init__" = true)
    (fB_BadText : fileB PySem.Challenge.rw_learnways_k58_bad_texts.prog K cda_BadText = true)
    (cB_BadText : cellB K cc_BadText X_BadText = true)
    (su_BadText : PySem.W.ks_superIn K X_BadText X_BadText "__init__" = some (some (.builtin "ValueError.__init__")))
    (va_BadText : PySem.W.subIn K (.ref X_BadText) (.type "ValueError") = some true)
    (ow_BadText : PySem.W.mroIn K X_BadText (.ref X_BadText) = some true)
    (no_BadText_line : PySem.W.findIn K (.ref X_BadText) "line" = some none)
    (nX_BadText : knB K (bsOf "BadText") X_BadText = true)
    (z_super : PySem.W.nsIn K mainGlobals "super" = some none)
    (z_op : PySem.W.nsIn K cStatics "thirdparty.any" = some none)
    (aXL : PySem.W.nsIn K mainGlobals "LearnError" = some (some (.ref XL)))
    (mX_BadText : PySem.W.exmOne K (.ref X_BadText) (.ref XL) = some true)
    (z_ValueError : PySem.W.nsIn K mainGlobals "ValueError" = some none)
    (z_LookupError : PySem.W.nsIn K mainGlobals "LookupError" = some none)
    (z_TypeError : PySem.W.nsIn K mainGlobals "TypeError" = some none)
    (z_ArithmeticError : PySem.W.nsIn K mainGlobals "ArithmeticError" = some none)
    (z_RuntimeError : PySem.W.nsIn K mainGlobals "RuntimeError" = some none)
    (a1 : PySem.W.nsIn K mainGlobals "_law_pen_of" = some (some (.ref f1)))
    (l1 : K.lookup f1 = some ⟨oc1, od1, .func (PySem.W.fnOf "_law_pen_of" "_law_pen_of" (defArgs (topS 60)) (defBody (topS 60)) (defScope (topS 60)) .none kV1 dc1 pm1 an1 cd1 ct1), sl1⟩)
    (c1 : PySem.W.codeIn K cd1 "_law_pen_of" = true)
    (k1 : PySem.W.keepIn K (.ref f1) = true)
    (a2 : PySem.W.nsIn K mainGlobals "_law_next" = some (some (.ref f2)))
    (l2 : K.lookup f2 = some ⟨oc2, od2, .func (PySem.W.fnOf "_law_next" "_law_next" (defArgs (topS 59)) (defBody (topS 59)) (defScope (topS 59)) .none kV2 dc2 pm2 an2 cd2 ct2), sl2⟩)
    (c2 : PySem.W.codeIn K cd2 "_law_next" = true)
    (k2 : PySem.W.keepIn K (.ref f2) = true)
    (a3 : PySem.W.nsIn K mainGlobals "_law_draw" = some (some (.ref f3)))
    (l3 : K.lookup f3 = some ⟨oc3, od3, .func (PySem.W.fnOf "_law_draw" "_law_draw" (defArgs (topS 61)) (defBody (topS 61)) (defScope (topS 61)) .none kV3 dc3 pm3 an3 cd3 ct3), sl3⟩)
    (c3 : PySem.W.codeIn K cd3 "_law_draw" = true)
    (k3 : PySem.W.keepIn K (.ref f3) = true)
    (a4 : PySem.W.nsIn K mainGlobals "_law_way" = some (some (.ref f4)))
    (l4 : K.lookup f4 = some ⟨oc4, od4, .func (PySem.W.fnOf "_law_way" "_law_way" (defArgs (topS 62)) (defBody (topS 62)) (defScope (topS 62)) .none kV4 dc4 pm4 an4 cd4 ct4), sl4⟩)
    (c4 : PySem.W.codeIn K cd4 "_law_way" = true)
    (k4 : PySem.W.keepIn K (.ref f4) = true)
    (a5 : PySem.W.nsIn K mainGlobals "_law_book" = some (some (.ref f5)))
    (l5 : K.lookup f5 = some ⟨oc5, od5, .func (PySem.W.fnOf "_law_book" "_law_book" (defArgs (topS 63)) (defBody (topS 63)) (defScope (topS 63)) .none kV5 dc5 pm5 an5 cd5 ct5), sl5⟩)
    (c5 : PySem.W.codeIn K cd5 "_law_book" = true)
    (k5 : PySem.W.keepIn K (.ref f5) = true)
    (a6 : PySem.W.nsIn K mainGlobals "_law_names" = some (some (.ref f6)))
    (l6 : K.lookup f6 = some ⟨oc6, od6, .func (PySem.W.fnOf "_law_names" "_law_names" (defArgs (topS 67)) (defBody (topS 67)) (defScope (topS 67)) .none kV6 dc6 pm6 an6 cd6 ct6), sl6⟩)
    (c6 : PySem.W.codeIn K cd6 "_law_names" = true)
    (k6 : PySem.W.keepIn K (.ref f6) = true)
    (a7 : PySem.W.nsIn K mainGlobals "_law_text" = some (some (.ref f7)))
    (l7 : K.lookup f7 = some ⟨oc7, od7, .func (PySem.W.fnOf "_law_text" "_law_text" (defArgs (topS 68)) (defBody (topS 68)) (defScope (topS 68)) .none kV7 dc7 pm7 an7 cd7 ct7), sl7⟩)
    (c7 : PySem.W.codeIn K cd7 "_law_text" = true)
    (k7 : PySem.W.keepIn K (.ref f7) = true)
    (a8 : PySem.W.nsIn K mainGlobals "_law_cell_at" = some (some (.ref f8)))
    (l8 : K.lookup f8 = some ⟨oc8, od8, .func (PySem.W.fnOf "_law_cell_at" "_law_cell_at" (defArgs (topS 58)) (defBody (topS 58)) (defScope (topS 58)) .none kV8 dc8 pm8 an8 cd8 ct8), sl8⟩)
    (c8 : PySem.W.codeIn K cd8 "_law_cell_at" = true)
    (k8 : PySem.W.keepIn K (.ref f8) = true)
    (a9 : PySem.W.nsIn K mainGlobals "_law_spoilt" = some (some (.ref f9)))
    (l9 : K.lookup f9 = some ⟨oc9, od9, .func (PySem.W.fnOf "_law_spoilt" "_law_spoilt" (defArgs (topS 72)) (defBody (topS 72)) (defScope (topS 72)) .none kV9 dc9 pm9 an9 cd9 ct9), sl9⟩)
    (c9 : PySem.W.codeIn K cd9 "_law_spoilt" = true)
    (k9 : PySem.W.keepIn K (.ref f9) = true)
    (a10 : PySem.W.nsIn K mainGlobals "_law_is_name" = some (some (.ref f10)))
    (l10 : K.lookup f10 = some ⟨oc10, od10, .func (PySem.W.fnOf "_law_is_name" "_law_is_name" (defArgs (topS 69)) (defBody (topS 69)) (defScope (topS 69)) .none kV10 dc10 pm10 an10 cd10 ct10), sl10⟩)
    (c10 : PySem.W.codeIn K cd10 "_law_is_name" = true)
    (k10 : PySem.W.keepIn K (.ref f10) = true)
    (a11 : PySem.W.nsIn K mainGlobals "_law_head" = some (some (.ref f11)))
    (l11 : K.lookup f11 = some ⟨oc11, od11, .func (PySem.W.fnOf "_law_head" "_law_head" (defArgs (topS 70)) (defBody (topS 70)) (defScope (topS 70)) .none kV11 dc11 pm11 an11 cd11 ct11), sl11⟩)
    (c11 : PySem.W.codeIn K cd11 "_law_head" = true)
    (k11 : PySem.W.keepIn K (.ref f11) = true)
    (a12 : PySem.W.nsIn K mainGlobals "_law_bad_line" = some (some (.ref f12)))
    (l12 : K.lookup f12 = some ⟨oc12, od12, .func (PySem.W.fnOf "_law_bad_line" "_law_bad_line" (defArgs (topS 71)) (defBody (topS 71)) (defScope (topS 71)) .none kV12 dc12 pm12 an12 cd12 ct12), sl12⟩)
    (c12 : PySem.W.codeIn K cd12 "_law_bad_line" = true)
    (k12 : PySem.W.keepIn K (.ref f12) = true)
    (a13 : PySem.W.nsIn K mainGlobals "_law_word" = some (some (.ref f13)))
    (l13 : K.lookup f13 = some ⟨oc13, od13, .func (PySem.W.fnOf "_law_word" "_law_word" (defArgs (topS 65)) (defBody (topS 65)) (defScope (topS 65)) .none kV13 dc13 pm13 an13 cd13 ct13), sl13⟩)
    (c13 : PySem.W.codeIn K cd13 "_law_word" = true)
    (k13 : PySem.W.keepIn K (.ref f13) = true)
    (a14 : PySem.W.nsIn K mainGlobals "_law_said" = some (some (.ref f14)))
    (l14 : K.lookup f14 = some ⟨oc14, od14, .func (PySem.W.fnOf "_law_said" "_law_said" (defArgs (topS 66)) (defBody (topS 66)) (defScope (topS 66)) .none kV14 dc14 pm14 an14 cd14 ct14), sl14⟩)
    (c14 : PySem.W.codeIn K cd14 "_law_said" = true)
    (k14 : PySem.W.keepIn K (.ref f14) = true)
    (a15 : PySem.W.nsIn K mainGlobals "_law_is" = some (some (.ref f15)))
    (l15 : K.lookup f15 = some ⟨oc15, od15, .func (PySem.W.fnOf "_law_is" "_law_is" (defArgs (topS 64)) (defBody (topS 64)) (defScope (topS 64)) .none kV15 dc15 pm15 an15 cd15 ct15), sl15⟩)
    (c15 : PySem.W.codeIn K cd15 "_law_is" = true)
    (k15 : PySem.W.keepIn K (.ref f15) = true)
    (a16 : PySem.W.nsIn K mainGlobals "is_name" = some (some (.ref f16)))
    (l16 : K.lookup f16 = some ⟨oc16, od16, .func (PySem.W.fnOf "is_name" "is_name" (defArgs (topS 51)) (defBody (topS 51)) (defScope (topS 51)) .none kV16 dc16 pm16 an16 cd16 ct16), sl16⟩)
    (c16 : PySem.W.codeIn K cd16 "is_name" = true)
    (k16 : PySem.W.keepIn K (.ref f16) = true)
    (a17 : PySem.W.nsIn K mainGlobals "name_of" = some (some (.ref f17)))
    (l17 : K.lookup f17 = some ⟨oc17, od17, .func (PySem.W.fnOf "name_of" "name_of" (defArgs (topS 53)) (defBody (topS 53)) (defScope (topS 53)) .none kV17 dc17 pm17 an17 cd17 ct17), sl17⟩)
    (c17 : PySem.W.codeIn K cd17 "name_of" = true)
    (k17 : PySem.W.keepIn K (.ref f17) = true)
    (a18 : PySem.W.nsIn K mainGlobals "items_by_name" = some (some (.ref f18)))
    (l18 : K.lookup f18 = some ⟨oc18, od18, .func (PySem.W.fnOf "items_by_name" "items_by_name" (defArgs (topS 54)) (defBody (topS 54)) (defScope (topS 54)) .none kV18 dc18 pm18 an18 cd18 ct18), sl18⟩)
    (c18 : PySem.W.codeIn K cd18 "items_by_name" = true)
    (k18 : PySem.W.keepIn K (.ref f18) = true)
    (a20 : PySem.W.nsIn K mainGlobals "way_of" = some (some (.ref f20)))
    (l20 : K.lookup f20 = some ⟨oc20, od20, .func (PySem.W.fnOf "way_of" "way_of" (defArgs (topS 56)) (defBody (topS 56)) (defScope (topS 56)) .none kV20 dc20 pm20 an20 cd20 ct20), sl20⟩)
    (c20 : PySem.W.codeIn K cd20 "way_of" = true)
    (k20 : PySem.W.keepIn K (.ref f20) = true)
    (a21 : PySem.W.nsIn K mainGlobals "entry_of" = some (some (.ref f21)))
    (l21 : K.lookup f21 = some ⟨oc21, od21, .func (PySem.W.fnOf "entry_of" "entry_of" (defArgs (topS 55)) (defBody (topS 55)) (defScope (topS 55)) .none kV21 dc21 pm21 an21 cd21 ct21), sl21⟩)
    (c21 : PySem.W.codeIn K cd21 "entry_of" = true)
    (k21 : PySem.W.keepIn K (.ref f21) = true)
    (a22 : PySem.W.nsIn K mainGlobals "is_integer" = some (some (.ref f22)))
    (l22 : K.lookup f22 = some ⟨oc22, od22, .func (PySem.W.fnOf "is_integer" "is_integer" (defArgs (topS 2)) (defBody (topS 2)) (defScope (topS 2)) .none kV22 dc22 pm22 an22 cd22 ct22), sl22⟩)
    (c22 : PySem.W.codeIn K cd22 "is_integer" = true)
    (k22 : PySem.W.keepIn K (.ref f22) = true)
    (a23 : PySem.W.nsIn K mainGlobals "is_item" = some (some (.ref f23)))
    (l23 : K.lookup f23 = some ⟨oc23, od23, .func (PySem.W.fnOf "is_item" "is_item" (defArgs (topS 3)) (defBody (topS 3)) (defScope (topS 3)) .none kV23 dc23 pm23 an23 cd23 ct23), sl23⟩)
    (c23 : PySem.W.codeIn K cd23 "is_item" = true)
    (k23 : PySem.W.keepIn K (.ref f23) = true)
    (a24 : PySem.W.nsIn K mainGlobals "is_set" = some (some (.ref f24)))
    (l24 : K.lookup f24 = some ⟨oc24, od24, .func (PySem.W.fnOf "is_set" "is_set" (defArgs (topS 4)) (defBody (topS 4)) (defScope (topS 4)) .none kV24 dc24 pm24 an24 cd24 ct24), sl24⟩)
    (c24 : PySem.W.codeIn K cd24 "is_set" = true)
    (k24 : PySem.W.keepIn K (.ref f24) = true)
    (a25 : PySem.W.nsIn K mainGlobals "is_entry" = some (some (.ref f25)))
    (l25 : K.lookup f25 = some ⟨oc25, od25, .func (PySem.W.fnOf "is_entry" "is_entry" (defArgs (topS 5)) (defBody (topS 5)) (defScope (topS 5)) .none kV25 dc25 pm25 an25 cd25 ct25), sl25⟩)
    (c25 : PySem.W.codeIn K cd25 "is_entry" = true)
    (k25 : PySem.W.keepIn K (.ref f25) = true)
    (a26 : PySem.W.nsIn K mainGlobals "is_ways" = some (some (.ref f26)))
    (l26 : K.lookup f26 = some ⟨oc26, od26, .func (PySem.W.fnOf "is_ways" "is_ways" (defArgs (topS 6)) (defBody (topS 6)) (defScope (topS 6)) .none kV26 dc26 pm26 an26 cd26 ct26), sl26⟩)
    (c26 : PySem.W.codeIn K cd26 "is_ways" = true)
    (k26 : PySem.W.keepIn K (.ref f26) = true)
    (a27 : PySem.W.nsIn K mainGlobals "rank_of" = some (some (.ref f27)))
    (l27 : K.lookup f27 = some ⟨oc27, od27, .func (PySem.W.fnOf "rank_of" "rank_of" (defArgs (topS 41)) (defBody (topS 41)) (defScope (topS 41)) .none kV27 dc27 pm27 an27 cd27 ct27), sl27⟩)
    (c27 : PySem.W.codeIn K cd27 "rank_of" = true)
    (k27 : PySem.W.keepIn K (.ref f27) = true)
    (a28 : PySem.W.nsIn K mainGlobals "in_order" = some (some (.ref f28)))
    (l28 : K.lookup f28 = some ⟨oc28, od28, .func (PySem.W.fnOf "in_order" "in_order" (defArgs (topS 42)) (defBody (topS 42)) (defScope (topS 42)) .none kV28 dc28 pm28 an28 cd28 ct28), sl28⟩)
    (c28 : PySem.W.codeIn K cd28 "in_order" = true)
    (k28 : PySem.W.keepIn K (.ref f28) = true)
    (a29 : PySem.W.nsIn K mainGlobals "lies_within" = some (some (.ref f29)))
    (l29 : K.lookup f29 = some ⟨oc29, od29, .func (PySem.W.fnOf "lies_within" "lies_within" (defArgs (topS 27)) (defBody (topS 27)) (defScope (topS 27)) .none kV29 dc29 pm29 an29 cd29 ct29), sl29⟩)
    (c29 : PySem.W.codeIn K cd29 "lies_within" = true)
    (k29 : PySem.W.keepIn K (.ref f29) = true)
    (a30 : PySem.W.nsIn K mainGlobals "first_way" = some (some (.ref f30)))
    (l30 : K.lookup f30 = some ⟨oc30, od30, .func (PySem.W.fnOf "first_way" "first_way" (defArgs (topS 28)) (defBody (topS 28)) (defScope (topS 28)) .none kV30 dc30 pm30 an30 cd30 ct30), sl30⟩)
    (c30 : PySem.W.codeIn K cd30 "first_way" = true)
    (k30 : PySem.W.keepIn K (.ref f30) = true)
    (a31 : PySem.W.nsIn K mainGlobals "has_way" = some (some (.ref f31)))
    (l31 : K.lookup f31 = some ⟨oc31, od31, .func (PySem.W.fnOf "has_way" "has_way" (defArgs (topS 29)) (defBody (topS 29)) (defScope (topS 29)) .none kV31 dc31 pm31 an31 cd31 ct31), sl31⟩)
    (c31 : PySem.W.codeIn K cd31 "has_way" = true)
    (k31 : PySem.W.keepIn K (.ref f31) = true)
    (a32 : PySem.W.nsIn K mainGlobals "mask_of" = some (some (.ref f32)))
    (l32 : K.lookup f32 = some ⟨oc32, od32, .func (PySem.W.fnOf "mask_of" "mask_of" (defArgs (topS 24)) (defBody (topS 24)) (defScope (topS 24)) .none kV32 dc32 pm32 an32 cd32 ct32), sl32⟩)
    (c32 : PySem.W.codeIn K cd32 "mask_of" = true)
    (k32 : PySem.W.keepIn K (.ref f32) = true)
    (a33 : PySem.W.nsIn K mainGlobals "tidy" = some (some (.ref f33)))
    (l33 : K.lookup f33 = some ⟨oc33, od33, .func (PySem.W.fnOf "tidy" "tidy" (defArgs (topS 43)) (defBody (topS 43)) (defScope (topS 43)) .none kV33 dc33 pm33 an33 cd33 ct33), sl33⟩)
    (c33 : PySem.W.codeIn K cd33 "tidy" = true)
    (k33 : PySem.W.keepIn K (.ref f33) = true)
    (a34 : PySem.W.nsIn K mainGlobals "masks_of" = some (some (.ref f34)))
    (l34 : K.lookup f34 = some ⟨oc34, od34, .func (PySem.W.fnOf "masks_of" "masks_of" (defArgs (topS 44)) (defBody (topS 44)) (defScope (topS 44)) .none kV34 dc34 pm34 an34 cd34 ct34), sl34⟩)
    (c34 : PySem.W.codeIn K cd34 "masks_of" = true)
    (k34 : PySem.W.keepIn K (.ref f34) = true)
    (a35 : PySem.W.findIn K (.ref C) "__init__" = some (some (.ref f35)))
    (i35 : PySem.W.isFn K (.ref f35) = true)
    (l35 : K.lookup f35 = some ⟨oc35, od35, .func (PySem.W.fnOf "__init__" "Course.__init__" (defArgs (inClass (topS 38) 1)) (defBody (inClass (topS 38) 1)) (defScope (inClass (topS 38) 1)) .none kV35 dc35 pm35 an35 cd35 ct35), sl35⟩)
    (c35 : PySem.W.codeIn K cd35 "Course.__init__" = true)
    (k35 : PySem.W.keepIn K (.ref f35) = true)
    (a36 : PySem.W.nsIn K mainGlobals "course_of" = some (some (.ref f36)))
    (l36 : K.lookup f36 = some ⟨oc36, od36, .func (PySem.W.fnOf "course_of" "course_of" (defArgs (topS 52)) (defBody (topS 52)) (defScope (topS 52)) .none kV36 dc36 pm36 an36 cd36 ct36), sl36⟩)
    (c36 : PySem.W.codeIn K cd36 "course_of" = true)
    (k36 : PySem.W.keepIn K (.ref f36) = true)
    (a37 : PySem.W.nsIn K mainGlobals "law" = some (some (.ref f37)))
    (l37 : K.lookup f37 = some ⟨oc37, od37, .func (PySem.W.fnOf "law" "law" (defArgs (topS 73)) (defBody (topS 73)) (defScope (topS 73)) .none kV37 dc37 pm37 an37 (.ref cL) ct37), sl37⟩)
    (c37 : PySem.W.codeIn K (.ref cL) "law" = true)
    (k37 : PySem.W.keepIn K (.ref f37) = true)
    (pg : PySem.W.plainGet K C Str.empty = true)
    (hd : PySem.W.hasDictIn K C = true)
    (po : PySem.W.plainOver K C = true)
    (sa : PySem.W.findIn K (.ref C) "__setattr__" = some (some (.builtin "object.__setattr__")))
    (mk : PySem.W.makesIn K C = true)
    (kc : PySem.W.keepIn K (.ref C) = true)
    (nB : PySem.W.findIn K (.ref C) "book" = some none)
    (nW : PySem.W.findIn K (.ref C) "_ways" = some none)
    (rd : PySem.W.readsIn K C (.type "type") = true)
    (ga : PySem.W.specialIn K (.ref C) "__getattribute__" = some (some (.builtin "type.__getattribute__")))
    (mo : PySem.W.findCls K (.ref C) (.type "type") "MOST" = some (.val (.int 24 mt)))
    (lcL : K.lookup cL = some ⟨coc, cod, .fields cvs, csl⟩)
    (vTL : (cvs[11]? : Option Value) = some (.ref TL))
    (hcL : PySem.W.codeHdIn K cL TL = true)
    (nTL : K.lookup TL = none)
    (gTL : h.get? TL = some tab0)
    (n_LONGEST_NAME : PySem.W.nsIn K mainGlobals "LONGEST_NAME" = some (some (.int 8 ct_LONGEST_NAME)))
    (n_LETTERS : PySem.W.nsIn K mainGlobals "LETTERS" = some (some (.str "abcdefghijklmnopqrstuvwxyz" ct_LETTERS)))
    (n_NO_ITEMS : PySem.W.nsIn K mainGlobals "NO_ITEMS" = some (some (.str "-" ct_NO_ITEMS)))
    (z_len : PySem.W.nsIn K mainGlobals "len" = some none)
    (z_range : PySem.W.nsIn K mainGlobals "range" = some none)
    (z_tuple : PySem.W.nsIn K mainGlobals "tuple" = some none)
    (z_list : PySem.W.nsIn K mainGlobals "list" = some none)
    (z_int : PySem.W.nsIn K mainGlobals "int" = some none)
    (z_bool : PySem.W.nsIn K mainGlobals "bool" = some none)
    (z_str : PySem.W.nsIn K mainGlobals "str" = some none)
    (z_isinstance : PySem.W.nsIn K mainGlobals "isinstance" = some none)
    (z_max : PySem.W.nsIn K mainGlobals "max" = some none)
    (z_sorted : PySem.W.nsIn K mainGlobals "sorted" = some none)
    (z_sum : PySem.W.nsIn K mainGlobals "sum" = some none)
    (z_all : PySem.W.nsIn K mainGlobals "all" = some none)
    (z_any : PySem.W.nsIn K mainGlobals "any" = some none)
    (z_repr : PySem.W.nsIn K mainGlobals "repr" = some none)
    (z_enumerate : PySem.W.nsIn K mainGlobals "enumerate" = some none)
    (z_zip : PySem.W.nsIn K mainGlobals "zip" = some none)
    (z_reversed : PySem.W.nsIn K mainGlobals "reversed" = some none)
    (z_set : PySem.W.nsIn K mainGlobals "set" = some none) :
    ∃ (c T : Addr) (fd : FuncData), h.get? T = some tab0 ∧ K.lookup T = none ∧ PySem.W.codeHdIn K c T = true ∧ (∀ (s : Shared) (v : Value), BindsTo s fd ⟨[v], []⟩ [("_law_script", v)]) ∧ ∀ base : Heap, K.In base → base.Ns mainGlobals mg → LamX.TabB base mg c T → FnG PySem.Challenge.rw_learnways_k58_bad_texts.prog w K mg base 11 fa fd ["_law_script"] (spT K T F_law) := by
  have e := hfa.symm.trans (PySem.W.mg_of X G a37)
  cases e
  have T : Tx mg := ⟨PySem.W.mg_none_of X G z_len, PySem.W.mg_none_of X G z_range, PySem.W.mg_none_of X G z_tuple, PySem.W.mg_none_of X G z_list, PySem.W.mg_none_of X G z_int, PySem.W.mg_none_of X G z_bool, PySem.W.mg_none_of X G z_str, PySem.W.mg_none_of X G z_isinstance, PySem.W.mg_none_of X G z_max, PySem.W.mg_none_of X G z_sorted, PySem.W.mg_none_of X G z_sum, PySem.W.mg_none_of X G z_all, PySem.W.mg_none_of X G z_any, PySem.W.mg_none_of X G z_repr, PySem.W.mg_none_of X G z_enumerate, PySem.W.mg_none_of X G z_zip, PySem.W.mg_none_of X G z_reversed⟩
  have cl : Cls K C := ⟨pg, hd, po, sa⟩
  have U : CrsG K mg C := ⟨cl, nB, nW, ⟨PySem.W.mg_of X G aC, _, _, ⟨rd, ga⟩, ⟨mo, ⟨_, rfl⟩⟩⟩⟩
  have E_NoCourse : ExcG K mg "NoCourse" X_NoCourse := ⟨PySem.W.mg_of X G aX_NoCourse, kX_NoCourse, ⟨_, _, _, _, PySem.F.excBase_ValueError, eX_NoCourse⟩, sX_NoCourse, tX_NoCourse⟩
  have O_BadText : OexC K X_BadText := ⟨⟨_, _, _, _, _, _, _, _, _, _, _, _, _, _, _, oC_BadText, oR_BadText⟩, oS_BadText, sX_BadText, tX_BadText, kX_BadText⟩
  have S_BadText : SupI PySem.Challenge.rw_learnways_k58_bad_texts.prog K mg X_BadText fI_BadText "BadText.__init__" (inClass (topS 22) 0) _ cc_BadText cda_BadText := ⟨⟨_, _, _, l_BadText⟩, ⟨_, _, _, _, _, _, _, rfl⟩, c_BadText, fB_BadText, cB_BadText, O_BadText, su_BadText, va_BadText, ow_BadText, PySem.W.mg_none_of X G z_super, by decide +kernel, z_op⟩
  have NS_BadText : NdefX.NScope ["self", "line", "__class__"] ["self", "line"] ["__class__"] (defScope (inClass (topS 22) 0)) := NdefX.nscope_by (by decide +kernel)
  have R_BadText : ∀ base : Heap, RaiF PySem.Challenge.rw_learnways_k58_bad_texts.prog w K mg base 1 "BadText" X_BadText ["line"] := fun base => ⟨PySem.W.mg_of X G aX_BadText, O_BadText, _, _, _, sup_ok1 (k := 0) S_BadText (fun _ => rfl) NS_BadText (by decide +kernel) (by decide +kernel) rfl ⟨by decide, by decide, by decide, by decide⟩ no_BadText_line, ii_BadText, ti_BadText, Binds.all (ulen2 fun _  _ => rfl)⟩
  have N1 := fun_mk (st := (topS 60)) l1 c1 k1
  have B1 := N1.binds (ps := ["_law_cell"]) fun _ _ _ _ _ _ => ulen1 (fun _ => rfl)
  have N2 := fun_mk (st := (topS 59)) l2 c2 k2
  have B2 := N2.binds (ps := ["_law_root"]) fun _ _ _ _ _ _ => ulen1 (fun _ => rfl)
  have N3 := fun_mk (st := (topS 61)) l3 c3 k3
  have B3 := N3.binds (ps := ["_law_pen", "_law_many"]) fun _ _ _ _ _ _ => ulen2 (fun _  _ => rfl)
  have N4 := fun_mk (st := (topS 62)) l4 c4 k4
  have B4 := N4.binds (ps := ["_law_pen", "_law_n", "_law_item", "_law_most"]) fun _ _ _ _ _ _ => ulen4 (fun _  _  _  _ => rfl)
  have N5 := fun_mk (st := (topS 63)) l5 c5 k5
  have B5 := N5.binds (ps := ["_law_pen", "_law_most"]) fun _ _ _ _ _ _ => ulen2 (fun _  _ => rfl)
  have N6 := fun_mk (st := (topS 67)) l6 c6 k6
  have B6 := N6.binds (ps := ["_law_pen", "_law_n", "_law_most"]) fun _ _ _ _ _ _ => ulen3 (fun _  _  _ => rfl)
  have N7 := fun_mk (st := (topS 68)) l7 c7 k7
  have B7 := N7.binds (ps := ["_law_names_here", "_law_book_here"]) fun _ _ _ _ _ _ => ulen2 (fun _  _ => rfl)
  have N8 := fun_mk (st := (topS 58)) l8 c8 k8
  have B8 := N8.binds (ps := ["_law_script", "_law_k"]) fun _ _ _ _ _ _ => ulen2 (fun _  _ => rfl)
  have N9 := fun_mk (st := (topS 72)) l9 c9 k9
  have B9 := N9.binds (ps := ["_law_pen", "_law_line", "_law_names_here"]) fun _ _ _ _ _ _ => ulen3 (fun _  _  _ => rfl)
  have N10 := fun_mk (st := (topS 69)) l10 c10 k10
  have B10 := N10.binds (ps := ["_law_word_here"]) fun _ _ _ _ _ _ => ulen1 (fun _ => rfl)
  have N11 := fun_mk (st := (topS 70)) l11 c11 k11
  have B11 := N11.binds (ps := ["_law_line"]) fun _ _ _ _ _ _ => ulen1 (fun _ => rfl)
  have N12 := fun_mk (st := (topS 71)) l12 c12 k12
  have B12 := N12.binds (ps := ["_law_text_here"]) fun _ _ _ _ _ _ => ulen1 (fun _ => rfl)
  have N13 := fun_mk (st := (topS 65)) l13 c13 k13
  have B13 := N13.binds (ps := ["_law_e"]) fun _ _ _ _ _ _ => ulen1 (fun _ => rfl)
  have N14 := fun_mk (st := (topS 66)) l14 c14 k14
  have B14 := N14.binds (ps := ["_law_call"]) fun _ _ _ _ _ _ => ulen1 (fun _ => rfl)
  have N15 := fun_mk (st := (topS 64)) l15 c15 k15
  have B15 := N15.binds (ps := ["_law_value", "_law_due"]) fun _ _ _ _ _ _ => ulen2 (fun _  _ => rfl)
  have N16 := fun_mk (st := (topS 51)) l16 c16 k16
  have B16 := N16.binds (ps := ["value"]) fun _ _ _ _ _ _ => ulen1 (fun _ => rfl)
  have N17 := fun_mk (st := (topS 53)) l17 c17 k17
  have B17 := N17.binds (ps := ["line"]) fun _ _ _ _ _ _ => ulen1 (fun _ => rfl)
  have N18 := fun_mk (st := (topS 54)) l18 c18 k18
  have B18 := N18.binds (ps := ["lines"]) fun _ _ _ _ _ _ => ulen1 (fun _ => rfl)
  have N20 := fun_mk (st := (topS 56)) l20 c20 k20
  have B20 := N20.binds (ps := ["word", "item", "items"]) fun _ _ _ _ _ _ => ulen3 (fun _  _  _ => rfl)
  have N21 := fun_mk (st := (topS 55)) l21 c21 k21
  have B21 := N21.binds (ps := ["line", "place", "items"]) fun _ _ _ _ _ _ => ulen3 (fun _  _  _ => rfl)
  have N22 := fun_mk (st := (topS 2)) l22 c22 k22
  have B22 := N22.binds (ps := ["value"]) fun _ _ _ _ _ _ => ulen1 (fun _ => rfl)
  have N23 := fun_mk (st := (topS 3)) l23 c23 k23
  have B23 := N23.binds (ps := ["value", "count"]) fun _ _ _ _ _ _ => ulen2 (fun _  _ => rfl)
  have N24 := fun_mk (st := (topS 4)) l24 c24 k24
  have B24 := N24.binds (ps := ["value", "count"]) fun _ _ _ _ _ _ => ulen2 (fun _  _ => rfl)
  have N25 := fun_mk (st := (topS 5)) l25 c25 k25
  have B25 := N25.binds (ps := ["value", "item", "count"]) fun _ _ _ _ _ _ => ulen3 (fun _  _  _ => rfl)
  have N26 := fun_mk (st := (topS 6)) l26 c26 k26
  have B26 := N26.binds (ps := ["value", "most"]) fun _ _ _ _ _ _ => ulen2 (fun _  _ => rfl)
  have N27 := fun_mk (st := (topS 41)) l27 c27 k27
  have B27 := N27.binds (ps := ["way"]) fun _ _ _ _ _ _ => ulen1 (fun _ => rfl)
  have N28 := fun_mk (st := (topS 42)) l28 c28 k28
  have B28 := N28.binds (ps := ["ways"]) fun _ _ _ _ _ _ => ulen1 (fun _ => rfl)
  have N29 := fun_mk (st := (topS 27)) l29 c29 k29
  have B29 := N29.binds (ps := ["way", "items"]) fun _ _ _ _ _ _ => ulen2 (fun _  _ => rfl)
  have N30 := fun_mk (st := (topS 28)) l30 c30 k30
  have B30 := N30.binds (ps := ["ways", "items"]) fun _ _ _ _ _ _ => ulen2 (fun _  _ => rfl)
  have N31 := fun_mk (st := (topS 29)) l31 c31 k31
  have B31 := N31.binds (ps := ["ways", "items"]) fun _ _ _ _ _ _ => ulen2 (fun _  _ => rfl)
  have N32 := fun_mk (st := (topS 24)) l32 c32 k32
  have B32 := N32.binds (ps := ["items"]) fun _ _ _ _ _ _ => ulen1 (fun _ => rfl)
  have N33 := fun_mk (st := (topS 43)) l33 c33 k33
  have B33 := N33.binds (ps := ["ways"]) fun _ _ _ _ _ _ => ulen1 (fun _ => rfl)
  have N34 := fun_mk (st := (topS 44)) l34 c34 k34
  have B34 := N34.binds (ps := ["ways"]) fun _ _ _ _ _ _ => ulen1 (fun _ => rfl)
  have N35 := fun_mk (st := (inClass (topS 38) 1)) l35 c35 k35
  have B35 := N35.binds (ps := ["self", "ways"]) fun _ _ _ _ _ _ => ulen2 (fun _  _ => rfl)
  have N36 := fun_mk (st := (topS 52)) l36 c36 k36
  have B36 := N36.binds (ps := ["text"]) fun _ _ _ _ _ _ => ulen1 (fun _ => rfl)
  have N37 := fun_mk (st := (topS 73)) l37 c37 k37
  have B37 := N37.binds (ps := ["_law_script"]) fun _ _ _ _ _ _ => ulen1 (fun _ => rfl)
  have TE : TxE mg := ⟨PySem.W.mg_none_of X G z_ValueError, PySem.W.mg_none_of X G z_LookupError, PySem.W.mg_none_of X G z_TypeError, PySem.W.mg_none_of X G z_ArithmeticError, PySem.W.mg_none_of X G z_RuntimeError⟩
  have KN : ∀ e bs w, (wTextR X_BadText) e bs w → KnX K mg bs e.C := by
    rintro e bs w (⟨_, rfl, rfl, rfl⟩)
    · exact knX_of X G nX_BadText
  have KX : ∀ e bs w, (wTextR X_BadText) e bs w → PySem.W.exmOne K (.ref e.C) (.ref XL) = some true := by
    rintro e bs w (⟨_, rfl, rfl, rfl⟩)
    · exact mX_BadText
  have WP : ∀ e bs w, (wTextR X_BadText) e bs w → ∀ a d, t__law_word a d bs { nx := fun _ => False, rt := fun r => r = w, ex := noX } (startE 4 [.exo a d (xns e) (xds e)]) := by
    rintro e bs w (h)
    · exact s_word_text e bs w h
  refine ⟨cL, TL, PySem.W.fnOf "law" "law" (defArgs (topS 73)) (defBody (topS 73)) (defScope (topS 73)) .none kV37 dc37 pm37 an37 (.ref cL) ct37, gTL, nTL, hcL, fun s v => .of_eq rfl, fun base _ _ TB => ?_⟩
  have Q1 : FnG PySem.Challenge.rw_learnways_k58_bad_texts.prog w K mg base 1 _ _ ["_law_cell"] (spOf K (F__law_pen_of)) := g__law_pen_of N1 T s__law_pen_of
  have C__law_pen_of : CalG PySem.Challenge.rw_learnways_k58_bad_texts.prog w K mg base 1 "_law_pen_of" (spOf K (F__law_pen_of)) [] := ⟨_, _, _, _, Q1, PySem.W.mg_of X G a1, k1, B1, .nil⟩
  have Q2 : FnG PySem.Challenge.rw_learnways_k58_bad_texts.prog w K mg base 1 _ _ ["_law_root"] (spOf K (F__law_next)) := g__law_next N2 T s__law_next
  have C__law_next : CalG PySem.Challenge.rw_learnways_k58_bad_texts.prog w K mg base 1 "_law_next" (spOf K (F__law_next)) [] := ⟨_, _, _, _, Q2, PySem.W.mg_of X G a2, k2, B2, .nil⟩
  have Q3 : FnG PySem.Challenge.rw_learnways_k58_bad_texts.prog w K mg base 2 _ _ ["_law_pen", "_law_many"] (spOf K (F__law_draw)) := g__law_draw N3 T C__law_next s__law_draw
  have C__law_draw : CalG PySem.Challenge.rw_learnways_k58_bad_texts.prog w K mg base 2 "_law_draw" (spOf K (F__law_draw)) [] := ⟨_, _, _, _, Q3, PySem.W.mg_of X G a3, k3, B3, .nil⟩
  have Q4 : FnG PySem.Challenge.rw_learnways_k58_bad_texts.prog w K mg base 3 _ _ ["_law_pen", "_law_n", "_law_item", "_law_most"] (spOf K (F__law_way)) := g__law_way N4 T C__law_draw s__law_way
  have C__law_way : CalG PySem.Challenge.rw_learnways_k58_bad_texts.prog w K mg base 3 "_law_way" (spOf K (F__law_way)) [] := ⟨_, _, _, _, Q4, PySem.W.mg_of X G a4, k4, B4, .nil⟩
  have Q5 : FnG PySem.Challenge.rw_learnways_k58_bad_texts.prog w K mg base 4 _ _ ["_law_pen", "_law_most"] (spOf K (F_book6)) := g__law_book N5 T C__law_draw C__law_way s__law_book6
  have C__law_book : CalG PySem.Challenge.rw_learnways_k58_bad_texts.prog w K mg base 4 "_law_book" (spOf K (F_book6)) [] := ⟨_, _, _, _, Q5, PySem.W.mg_of X G a5, k5, B5, .nil⟩
  have Q6 : FnG PySem.Challenge.rw_learnways_k58_bad_texts.prog w K mg base 3 _ _ ["_law_pen", "_law_n", "_law_most"] (spOf K (F_names)) := g__law_names N6 T C__law_draw s__law_names
  have C__law_names : CalG PySem.Challenge.rw_learnways_k58_bad_texts.prog w K mg base 3 "_law_names" (spOf K (F_names)) [] := ⟨_, _, _, _, Q6, PySem.W.mg_of X G a6, k6, B6, .nil⟩
  have Q7 : FnG PySem.Challenge.rw_learnways_k58_bad_texts.prog w K mg base 1 _ _ ["_law_names_here", "_law_book_here"] (spOf K (F_law_text)) := g__law_text N7 T s__law_text
  have C__law_text : CalG PySem.Challenge.rw_learnways_k58_bad_texts.prog w K mg base 1 "_law_text" (spOf K (F_law_text)) [] := ⟨_, _, _, _, Q7, PySem.W.mg_of X G a7, k7, B7, .nil⟩
  have Q8 : FnG PySem.Challenge.rw_learnways_k58_bad_texts.prog w K mg base 1 _ _ ["_law_script", "_law_k"] (spOf K (F__law_cell_at)) := g__law_cell_at N8 T s__law_cell_at
  have C__law_cell_at : CalG PySem.Challenge.rw_learnways_k58_bad_texts.prog w K mg base 1 "_law_cell_at" (spOf K (F__law_cell_at)) [] := ⟨_, _, _, _, Q8, PySem.W.mg_of X G a8, k8, B8, .nil⟩
  have Q9 : FnG PySem.Challenge.rw_learnways_k58_bad_texts.prog w K mg base 3 _ _ ["_law_pen", "_law_line", "_law_names_here"] (spOf K (F_spoilt)) := g__law_spoilt N9 T C__law_draw s__law_spoilt
  have C__law_spoilt : CalG PySem.Challenge.rw_learnways_k58_bad_texts.prog w K mg base 3 "_law_spoilt" (spOf K (F_spoilt)) [] := ⟨_, _, _, _, Q9, PySem.W.mg_of X G a9, k9, B9, .nil⟩
  have Q10 : FnG PySem.Challenge.rw_learnways_k58_bad_texts.prog w K mg base 1 _ _ ["_law_word_here"] (spOf K (F__law_is_name)) := g__law_is_name N10 T s__law_is_name
  have C__law_is_name : CalG PySem.Challenge.rw_learnways_k58_bad_texts.prog w K mg base 1 "_law_is_name" (spOf K (F__law_is_name)) [] := ⟨_, _, _, _, Q10, PySem.W.mg_of X G a10, k10, B10, .nil⟩
  have Q11 : FnG PySem.Challenge.rw_learnways_k58_bad_texts.prog w K mg base 2 _ _ ["_law_line"] (spOf K (F_head)) := g__law_head N11 T C__law_is_name s__law_head
  have C__law_head : CalG PySem.Challenge.rw_learnways_k58_bad_texts.prog w K mg base 2 "_law_head" (spOf K (F_head)) [] := ⟨_, _, _, _, Q11, PySem.W.mg_of X G a11, k11, B11, .nil⟩
  have Q12 : FnG PySem.Challenge.rw_learnways_k58_bad_texts.prog w K mg base 3 _ _ ["_law_text_here"] (spOf K (F_bad_line)) := g__law_bad_line N12 T C__law_head s__law_bad_line
  have C__law_bad_line : CalG PySem.Challenge.rw_learnways_k58_bad_texts.prog w K mg base 3 "_law_bad_line" (spOf K (F_bad_line)) [] := ⟨_, _, _, _, Q12, PySem.W.mg_of X G a12, k12, B12, .nil⟩
  have QW := g__law_word (P := PySem.Challenge.rw_learnways_k58_bad_texts.prog) (w := w) (base := base) (W := (wTextR X_BadText)) N13 T TE KN WP
  have CW : CalW PySem.Challenge.rw_learnways_k58_bad_texts.prog w K mg base 8 "_law_word" (wTextR X_BadText) := ⟨_, _, _, QW.up (by decide), PySem.W.mg_of X G a13, k13, B13⟩
  have SG : SaidG PySem.Challenge.rw_learnways_k58_bad_texts.prog w K mg base 8 (wTextR X_BadText) := ⟨(topS 66), _, _, XL, _, _, _, _, _, _, _, _, _, _, _, _, _, _, N14, sc__law_said, by decide +kernel, by decide +kernel, by decide +kernel, rfl, PySem.W.mg_of X G a14, k14, B14, PySem.W.mg_of X G aXL, CW, KX⟩
  have Q15 : FnG PySem.Challenge.rw_learnways_k58_bad_texts.prog w K mg base 1 _ _ ["_law_value", "_law_due"] (spOf K (F_isS)) := g__law_is N15 T s__law_isS
  have C__law_is : CalG PySem.Challenge.rw_learnways_k58_bad_texts.prog w K mg base 1 "_law_is" (spOf K (F_isS)) [] := ⟨_, _, _, _, Q15, PySem.W.mg_of X G a15, k15, B15, .nil⟩
  have Q16 : FnG PySem.Challenge.rw_learnways_k58_bad_texts.prog w K mg base 1 _ _ ["value"] (spOf K (F_is_name)) := g_is_name N16 T ⟨_, PySem.W.mg_of X G n_LONGEST_NAME⟩ ⟨_, PySem.W.mg_of X G n_LETTERS⟩ s_is_name
  have C_is_name : CalG PySem.Challenge.rw_learnways_k58_bad_texts.prog w K mg base 1 "is_name" (spOf K (F_is_name)) [] := ⟨_, _, _, _, Q16, PySem.W.mg_of X G a16, k16, B16, .nil⟩
  have Q17 : FnG PySem.Challenge.rw_learnways_k58_bad_texts.prog w K mg base 2 _ _ ["line"] (spOf K (F_name_ofG)) := g_name_of N17 T C_is_name s_name_ofG
  have C_name_of : CalG PySem.Challenge.rw_learnways_k58_bad_texts.prog w K mg base 2 "name_of" (spOf K (F_name_ofG)) [] := ⟨_, _, _, _, Q17, PySem.W.mg_of X G a17, k17, B17, .nil⟩
  have Q18 : FnG PySem.Challenge.rw_learnways_k58_bad_texts.prog w K mg base 3 _ _ ["lines"] (spOf K (F_items_by_nameG)) := g_items_by_name N18 T C_name_of s_items_by_nameG
  have C_items_by_name : CalG PySem.Challenge.rw_learnways_k58_bad_texts.prog w K mg base 3 "items_by_name" (spOf K (F_items_by_nameG)) [] := ⟨_, _, _, _, Q18, PySem.W.mg_of X G a18, k18, B18, .nil⟩
  have Q20 : FnG PySem.Challenge.rw_learnways_k58_bad_texts.prog w K mg base 1 _ _ ["word", "item", "items"] (spOf K (F_way_ofG)) := g_way_of N20 T (PySem.W.mg_none_of X G z_set) ⟨_, PySem.W.mg_of X G n_NO_ITEMS⟩ s_way_ofG
  have C_way_of : CalG PySem.Challenge.rw_learnways_k58_bad_texts.prog w K mg base 1 "way_of" (spOf K (F_way_ofG)) [] := ⟨_, _, _, _, Q20, PySem.W.mg_of X G a20, k20, B20, .nil⟩
  have Q21 : FnG PySem.Challenge.rw_learnways_k58_bad_texts.prog w K mg base 3 _ _ ["line", "place", "items"] (spOf K (F_entry_ofG)) := g_entry_of N21 T C_name_of C_way_of s_entry_ofG
  have C_entry_of : CalG PySem.Challenge.rw_learnways_k58_bad_texts.prog w K mg base 3 "entry_of" (spOf K (F_entry_ofG)) [] := ⟨_, _, _, _, Q21, PySem.W.mg_of X G a21, k21, B21, .nil⟩
  have Q22 : FnG PySem.Challenge.rw_learnways_k58_bad_texts.prog w K mg base 1 _ _ ["value"] (spOf K (F_is_integer)) := g_is_integer N22 T s_is_integer
  have C_is_integer : CalG PySem.Challenge.rw_learnways_k58_bad_texts.prog w K mg base 1 "is_integer" (spOf K (F_is_integer)) [] := ⟨_, _, _, _, Q22, PySem.W.mg_of X G a22, k22, B22, .nil⟩
  have Q23 : FnG PySem.Challenge.rw_learnways_k58_bad_texts.prog w K mg base 2 _ _ ["value", "count"] (spOf K (F_is_item)) := g_is_item N23 T C_is_integer s_is_item
  have C_is_item : CalG PySem.Challenge.rw_learnways_k58_bad_texts.prog w K mg base 2 "is_item" (spOf K (F_is_item)) [] := ⟨_, _, _, _, Q23, PySem.W.mg_of X G a23, k23, B23, .nil⟩
  have Q24 : FnG PySem.Challenge.rw_learnways_k58_bad_texts.prog w K mg base 3 _ _ ["value", "count"] (spOf K (F_is_set)) := g_is_set N24 T C_is_item s_is_set
  have C_is_set : CalG PySem.Challenge.rw_learnways_k58_bad_texts.prog w K mg base 3 "is_set" (spOf K (F_is_set)) [] := ⟨_, _, _, _, Q24, PySem.W.mg_of X G a24, k24, B24, .nil⟩
  have Q25 : FnG PySem.Challenge.rw_learnways_k58_bad_texts.prog w K mg base 4 _ _ ["value", "item", "count"] (spOf K (F_is_entry)) := g_is_entry N25 T C_is_set s_is_entry
  have C_is_entry : CalG PySem.Challenge.rw_learnways_k58_bad_texts.prog w K mg base 4 "is_entry" (spOf K (F_is_entry)) [] := ⟨_, _, _, _, Q25, PySem.W.mg_of X G a25, k25, B25, .nil⟩
  have Q26 : FnG PySem.Challenge.rw_learnways_k58_bad_texts.prog w K mg base 5 _ _ ["value", "most"] (spOf K (F_is_ways)) := g_is_ways N26 T C_is_entry s_is_ways
  have C_is_ways : CalG PySem.Challenge.rw_learnways_k58_bad_texts.prog w K mg base 5 "is_ways" (spOf K (F_is_ways)) [] := ⟨_, _, _, _, Q26, PySem.W.mg_of X G a26, k26, B26, .nil⟩
  have Q27 : FnG PySem.Challenge.rw_learnways_k58_bad_texts.prog w K mg base 1 _ _ ["way"] (spOf K (F_rank_of)) := g_rank_of N27 T U (s_rank_of C)
  have C_rank_of : CalG PySem.Challenge.rw_learnways_k58_bad_texts.prog w K mg base 1 "rank_of" (spOf K (F_rank_of)) [] := ⟨_, _, _, _, Q27, PySem.W.mg_of X G a27, k27, B27, .nil⟩
  have Q28 : FnG PySem.Challenge.rw_learnways_k58_bad_texts.prog w K mg base 2 _ _ ["ways"] (spOf K (F_in_orderX)) := g_in_order N28 T C_rank_of s_in_orderX
  have C_in_order : CalG PySem.Challenge.rw_learnways_k58_bad_texts.prog w K mg base 2 "in_order" (spOf K (F_in_orderX)) [] := ⟨_, _, _, _, Q28, PySem.W.mg_of X G a28, k28, B28, .nil⟩
  have Q29 : FnG PySem.Challenge.rw_learnways_k58_bad_texts.prog w K mg base 1 _ _ ["way", "items"] (spOf K (F_lies_within)) := g_lies_within N29 T s_lies_within
  have C_lies_within : CalG PySem.Challenge.rw_learnways_k58_bad_texts.prog w K mg base 1 "lies_within" (spOf K (F_lies_within)) [] := ⟨_, _, _, _, Q29, PySem.W.mg_of X G a29, k29, B29, .nil⟩
  have Q30 : FnG PySem.Challenge.rw_learnways_k58_bad_texts.prog w K mg base 2 _ _ ["ways", "items"] (spOf K (F_first_way)) := g_first_way N30 T C_lies_within s_first_way
  have C_first_way : CalG PySem.Challenge.rw_learnways_k58_bad_texts.prog w K mg base 2 "first_way" (spOf K (F_first_way)) [] := ⟨_, _, _, _, Q30, PySem.W.mg_of X G a30, k30, B30, .nil⟩
  have Q31 : FnG PySem.Challenge.rw_learnways_k58_bad_texts.prog w K mg base 3 _ _ ["ways", "items"] (spOf K (F_has_way)) := g_has_way N31 T C_first_way s_has_way
  have C_has_way : CalG PySem.Challenge.rw_learnways_k58_bad_texts.prog w K mg base 3 "has_way" (spOf K (F_has_way)) [] := ⟨_, _, _, _, Q31, PySem.W.mg_of X G a31, k31, B31, .nil⟩
  have Q32 : FnG PySem.Challenge.rw_learnways_k58_bad_texts.prog w K mg base 1 _ _ ["items"] (spOf K (F_mask_of)) := g_mask_of N32 T s_mask_of
  have C_mask_of : CalG PySem.Challenge.rw_learnways_k58_bad_texts.prog w K mg base 1 "mask_of" (spOf K (F_mask_of)) [] := ⟨_, _, _, _, Q32, PySem.W.mg_of X G a32, k32, B32, .nil⟩
  have Q33 : FnG PySem.Challenge.rw_learnways_k58_bad_texts.prog w K mg base 4 _ _ ["ways"] (spOf K (F_tidyX)) := g_tidy N33 T C_in_order C_has_way C_mask_of s_tidyX
  have C_tidy : CalG PySem.Challenge.rw_learnways_k58_bad_texts.prog w K mg base 4 "tidy" (spOf K (F_tidyX)) [] := ⟨_, _, _, _, Q33, PySem.W.mg_of X G a33, k33, B33, .nil⟩
  have Q34 : FnG PySem.Challenge.rw_learnways_k58_bad_texts.prog w K mg base 2 _ _ ["ways"] (spOf K (F_masks_of)) := g_masks_of N34 T C_mask_of s_masks_of
  have C_masks_of : CalG PySem.Challenge.rw_learnways_k58_bad_texts.prog w K mg base 2 "masks_of" (spOf K (F_masks_of)) [] := ⟨_, _, _, _, Q34, PySem.W.mg_of X G a34, k34, B34, .nil⟩
  have Q35 : FnG PySem.Challenge.rw_learnways_k58_bad_texts.prog w K mg base 6 _ _ ["self", "ways"] (spIni K C (F_initT C)) := g_Course___init__ N35 T U E_NoCourse C_is_ways C_tidy C_masks_of (s_initT C X_NoCourse)
  have M_init : MakG PySem.Challenge.rw_learnways_k58_bad_texts.prog w K mg base 6 "Course" C (F_initT C) := ⟨PySem.W.mg_of X G aC, _, _, _, Q35, ⟨mk, a35, i35, kc⟩, B35⟩
  have Q36 : FnG PySem.Challenge.rw_learnways_k58_bad_texts.prog w K mg base 8 _ _ ["text"] (spOf K (F_course_ofG C X_BadText)) := g_course_of N36 T U (R_BadText _) C_items_by_name C_entry_of M_init (s_course_ofG C X_BadText)
  have C_course_of : CalG PySem.Challenge.rw_learnways_k58_bad_texts.prog w K mg base 8 "course_of" (spOf K (F_course_ofG C X_BadText)) [] := ⟨_, _, _, _, Q36, PySem.W.mg_of X G a36, k36, B36, .nil⟩
  have Q37 : FnG PySem.Challenge.rw_learnways_k58_bad_texts.prog w K mg base 11 _ _ ["_law_script"] (spT K TL (F_law)) := g_law N37 T C__law_cell_at C__law_pen_of C__law_book C__law_names C__law_text C__law_draw C__law_spoilt C_course_of C__law_bad_line C__law_is rfl TB SG (s_law58 TL C X_BadText)
  exact Q37
end QD
open PySem PySem.W PyProof.Rows in
set_option maxRecDepth 100000 in
set_option maxHeartbeats 0 in
theorem PySem.Challenge.cw_learnways_k58_bad_texts_holds : PySem.Challenge.rw_learnways_k58_bad_texts.Holds := by
  w_on; o_law; k_head; (case hw => w_witness2)
  k_fill
  refine QD.row_ofT (l := PySem.Challenge.rw_learnways_k58_bad_texts) (n := 63) (k := 11) (x := "_law_script") QD.F_law rfl (by decide) rfl ⟨rfl, by decide, by decide⟩ (fun w h Y => PySem.W.km_in_of Y) (fun ns hl _ => ⟨ns, rfl, hl, rfl⟩) ?F
  case F =>
    intro w mg fa h Y KX G hmg
    have hTabs := PySem.W.km_tabs_of Y
    refine' QD.all_mk KX G hmg ?aC ?aX_NoCourse ?kX_NoCourse ?eX_NoCourse ?sX_NoCourse ?tX_NoCourse ?aX_BadText ?oC_BadText ?oR_BadText ?oS_BadText ?sX_BadText ?tX_BadText ?kX_BadText ?ii_BadText ?ti_BadText ?l_BadText ?c_BadText ?fB_BadText ?cB_BadText ?su_BadText ?va_BadText ?ow_BadText ?no_BadText_line ?nX_BadText ?z_super ?z_op ?aXL ?mX_BadText ?z_ValueError ?z_LookupError ?z_TypeError ?z_ArithmeticError ?z_RuntimeError ?a1 ?l1 ?c1 ?k1 ?a2 ?l2 ?c2 ?k2 ?a3 ?l3 ?c3 ?k3 ?a4 ?l4 ?c4 ?k4 ?a5 ?l5 ?c5 ?k5 ?a6 ?l6 ?c6 ?k6 ?a7 ?l7 ?c7 ?k7 ?a8 ?l8 ?c8 ?k8 ?a9 ?l9 ?c9 ?k9 ?a10 ?l10 ?c10 ?k10 ?a11 ?l11 ?c11 ?k11 ?a12 ?l12 ?c12 ?k12 ?a13 ?l13 ?c13 ?k13 ?a14 ?l14 ?c14 ?k14 ?a15 ?l15 ?c15 ?k15 ?a16 ?l16 ?c16 ?k16 ?a17 ?l17 ?c17 ?k17 ?a18 ?l18 ?c18 ?k18 ?a20 ?l20 ?c20 ?k20 ?a21 ?l21 ?c21 ?k21 ?a22 ?l22 ?c22 ?k22 ?a23 ?l23 ?c23 ?k23 ?a24 ?l24 ?c24 ?k24 ?a25 ?l25 ?c25 ?k25 ?a26 ?l26 ?c26 ?k26 ?a27 ?l27 ?c27 ?k27 ?a28 ?l28 ?c28 ?k28 ?a29 ?l29 ?c29 ?k29 ?a30 ?l30 ?c30 ?k30 ?a31 ?l31 ?c31 ?k31 ?a32 ?l32 ?c32 ?k32 ?a33 ?l33 ?c33 ?k33 ?a34 ?l34 ?c34 ?k34 ?a35 ?i35 ?l35 ?c35 ?k35 ?a36 ?l36 ?c36 ?k36 ?a37 ?l37 ?c37 ?k37 ?pg ?hd ?po ?sa ?mk ?kc ?nB ?nW ?rd ?ga ?mo ?lcL ?vTL ?hcL ?nTL ?gTL ?n_LONGEST_NAME ?n_LETTERS ?n_NO_ITEMS ?z_len ?z_range ?z_tuple ?z_list ?z_int ?z_bool ?z_str ?z_isinstance ?z_max ?z_sorted ?z_sum ?z_all ?z_any ?z_repr ?z_enumerate ?z_zip ?z_reversed ?z_set
    (case aC => k_is)
    (case aX_NoCourse => k_is)
    (case kX_NoCourse => k_is)
    (case eX_NoCourse => k_exc)
    (case sX_NoCourse => k_is)
    (case tX_NoCourse => k_is)
    (case aX_BadText => k_is)
    (case oC_BadText => k_is)
    (case oR_BadText => kernel_rfl)
    (case oS_BadText => k_is)
    (case sX_BadText => k_is)
    (case tX_BadText => k_is)
    (case kX_BadText => k_is)
    (case ii_BadText => k_is)
    (case ti_BadText => k_is)
    (case l_BadText => k_is)
    (case c_BadText => k_is)
    (case fB_BadText => kernel_rfl)
    (case cB_BadText => kernel_rfl)
    (case su_BadText => kernel_rfl)
    (case va_BadText => k_is)
    (case ow_BadText => k_is)
    (case no_BadText_line => k_is)
    (case nX_BadText => kernel_rfl)
    (case z_super => k_is)
    (case z_op => k_is)
    (case aXL => k_is)
    (case mX_BadText => kernel_rfl)
    (case z_ValueError => k_is)
    (case z_LookupError => k_is)
    (case z_TypeError => k_is)
    (case z_ArithmeticError => k_is)
    (case z_RuntimeError => k_is)
    (case a1 => k_is)
    (case l1 => k_is)
    (case c1 => k_is)
    (case k1 => k_is)
    (case a2 => k_is)
    (case l2 => k_is)
    (case c2 => k_is)
    (case k2 => k_is)
    (case a3 => k_is)
    (case l3 => k_is)
    (case c3 => k_is)
    (case k3 => k_is)
    (case a4 => k_is)
    (case l4 => k_is)
    (case c4 => k_is)
    (case k4 => k_is)
    (case a5 => k_is)
    (case l5 => k_is)
    (case c5 => k_is)
    (case k5 => k_is)
    (case a6 => k_is)
    (case l6 => k_is)
    (case c6 => k_is)
    (case k6 => k_is)
    (case a7 => k_is)
    (case l7 => k_is)
    (case c7 => k_is)
    (case k7 => k_is)
    (case a8 => k_is)
    (case l8 => k_is)
    (case c8 => k_is)
    (case k8 => k_is)
    (case a9 => k_is)
    (case l9 => k_is)
    (case c9 => k_is)
    (case k9 => k_is)
    (case a10 => k_is)
    (case l10 => k_is)
    (case c10 => k_is)
    (case k10 => k_is)
    (case a11 => k_is)
    (case l11 => k_is)
    (case c11 => k_is)
    (case k11 => k_is)
    (case a12 => k_is)
    (case l12 => k_is)
    (case c12 => k_is)
    (case k12 => k_is)
    (case a13 => k_is)
    (case l13 => k_is)
    (case c13 => k_is)
    (case k13 => k_is)
    (case a14 => k_is)
    (case l14 => k_is)
    (case c14 => k_is)
    (case k14 => k_is)
    (case a15 => k_is)
    (case l15 => k_is)
    (case c15 => k_is)
    (case k15 => k_is)
    (case a16 => k_is)
    (case l16 => k_is)
    (case c16 => k_is)
    (case k16 => k_is)
    (case a17 => k_is)
    (case l17 => k_is)
    (case c17 => k_is)
    (case k17 => k_is)
    (case a18 => k_is)
    (case l18 => k_is)
    (case c18 => k_is)
    (case k18 => k_is)
    (case a20 => k_is)
    (case l20 => k_is)
    (case c20 => k_is)
    (case k20 => k_is)
    (case a21 => k_is)
    (case l21 => k_is)
    (case c21 => k_is)
    (case k21 => k_is)
    (case a22 => k_is)
    (case l22 => k_is)
    (case c22 => k_is)
    (case k22 => k_is)
    (case a23 => k_is)
    (case l23 => k_is)
    (case c23 => k_is)
    (case k23 => k_is)
    (case a24 => k_is)
    (case l24 => k_is)
    (case c24 => k_is)
    (case k24 => k_is)
    (case a25 => k_is)
    (case l25 => k_is)
    (case c25 => k_is)
    (case k25 => k_is)
    (case a26 => k_is)
    (case l26 => k_is)
    (case c26 => k_is)
    (case k26 => k_is)
    (case a27 => k_is)
    (case l27 => k_is)
    (case c27 => k_is)
    (case k27 => k_is)
    (case a28 => k_is)
    (case l28 => k_is)
    (case c28 => k_is)
    (case k28 => k_is)
    (case a29 => k_is)
    (case l29 => k_is)
    (case c29 => k_is)
    (case k29 => k_is)
    (case a30 => k_is)
    (case l30 => k_is)
    (case c30 => k_is)
    (case k30 => k_is)
    (case a31 => k_is)
    (case l31 => k_is)
    (case c31 => k_is)
    (case k31 => k_is)
    (case a32 => k_is)
    (case l32 => k_is)
    (case c32 => k_is)
    (case k32 => k_is)
    (case a33 => k_is)
    (case l33 => k_is)
    (case c33 => k_is)
    (case k33 => k_is)
    (case a34 => k_is)
    (case l34 => k_is)
    (case c34 => k_is)
    (case k34 => k_is)
    (case a35 => k_is)
    (case i35 => k_is)
    (case l35 => k_is)
    (case c35 => k_is)
    (case k35 => k_is)
    (case a36 => k_is)
    (case l36 => k_is)
    (case c36 => k_is)
    (case k36 => k_is)
    (case a37 => k_is)
    (case l37 => k_is)
    (case c37 => k_is)
    (case k37 => k_is)
    (case pg => k_is)
    (case hd => k_is)
    (case po => k_is)
    (case sa => k_is)
    (case mk => k_is)
    (case kc => k_is)
    (case nB => k_is)
    (case nW => k_is)
    (case rd => k_is)
    (case ga => k_is)
    (case mo => k_is)
    (case lcL => k_is)
    (case vTL => rfl)
    (case hcL => kernel_rfl)
    (case nTL => kernel_rfl)
    (case gTL => exact hTabs _ (by k_mem))
    (case n_LONGEST_NAME => k_is)
    (case n_LETTERS => k_is)
    (case n_NO_ITEMS => k_is)
    (case z_len => k_is)
    (case z_range => k_is)
    (case z_tuple => k_is)
    (case z_list => k_is)
    (case z_int => k_is)
    (case z_bool => k_is)
    (case z_str => k_is)
    (case z_isinstance => k_is)
    (case z_max => k_is)
    (case z_sorted => k_is)
    (case z_sum => k_is)
    (case z_all => k_is)
    (case z_any => k_is)
    (case z_repr => k_is)
    (case z_enumerate => k_is)
    (case z_zip => k_is)
    (case z_reversed => k_is)
    (case z_set => k_is)
