import PyProof.Rows.All
import HandS.ForMost
import HandS.IsInst
import HandS.Conv
import HandS.Lambda
import HandS.TupAny
import HandS.TupMul
import HandS.WideBits
import KE.KSortedM
import PyProof.P3In
import PyProof.ReprRoads
import HandS.Style
import HandS.RevRange
import HandS.DictComp
import HandS.ForExc
import HandS.Property
import KE.GoesEnum
import HandS.Iter
import HandS.ClsMeth
import HandS.ExcOwn
import HandS.Small
import HandS.EndBits
import HandS.Defaults
import HandS.Star
import HandS.Deep
import HandS.HotCalls
import HandS.ExcField
import HandS.EndTab
import KE.KExcIs
import HandS.ExcIs
import KE.KNestM
import HandS.ExcInit
import HandS.Nested
import KE.KExcSuper
import HandS.FStr
import HandS.Zip
import HandS.TupLe
import PyProof.ReprBulk
import PyProof.Rows.SortStrRead
import PyProof.Rows.RegStrFacts
import PySem.Challenge.RW_learnways_k34_whole_case_trees_and_state
set_option Elab.async false
set_option linter.all false
set_option maxRecDepth 100000
namespace QD
open PySem PySem.Spec PyProof.Rows L2

/-- plain values that a memo keeps -/
inductive Pl where
  | non | bl (b : Bool) | int (i : Int) | str (x : Str) | tup (xs : List Pl)
/-- data, without addresses -/
inductive D where
  | non | bl (b : Bool) | int (i : Int) | str (x : Str) | tup (xs : List D) | lst (xs : List D)
  | scr (xs : List D) | dct (ks : List Key) (vs : List D) | dcl (o : Obj) (kvs : List (Key × V)) | ins (C : Addr) (ns : List Str) (vs : List D) | pen
  | exo (a : Addr) (d : Option Addr) (ns : List Str) (vs : List D) | tab (P : Addr) (q : Str) | two (v w : V) (c d : D) | memo (J : Int → Pl → Prop) | tupN (xs : List D) | adr (a : Addr) | wo (a C dx : Addr) (fs : List (Str × V)) (ds : List D) (d : D)

mutual
def noLst : D → Bool
  | .lst _ => false
  | .scr _ => false
  | .tup xs => noLsts xs
  | .tupN xs => noLsts xs
  | .dct _ _ => false
  | .dcl _ _ => false
  | .ins _ _ _ => false
  | .pen => false
  | .exo _ _ _ _ => false
  | .tab _ _ => false
  | .two _ _ _ _ => false
  | .memo _ => false
  | .wo _ _ _ _ _ _ => false
  | _ => true
def noLsts : List D → Bool
  | [] => true
  | x :: xs => noLst x && noLsts xs
end
inductive Gh where
  | pen | hid | memo (K : PySem.W.Frag) (J : Int → Pl → Prop)
abbrev Gm := Addr → Option Gh
def PenI (i j k : Int) : Prop := 0 ≤ i ∧ (j = 0 ∨ j = 1) ∧ 0 ≤ k ∧ k < 2147483647
def PenAt (H : Hp) (a : Addr) : Prop := ∃ i j k : Int, H a = some (.lst [.int i, .int j, .int k]) ∧ PenI i j k
/-- the name of the lambdas of a law -/
def lamQ : Str := "law.<locals>.<lambda>"
/-- the table at P of code objects of that name -/
def TabN (H : Hp) (P : Addr) (q : Str) : Prop := q = lamQ ∧ LamX.TabS H P q
theorem TabN.ext {H H' : Hp} {P : Addr} {q : Str} (t : TabN H P q) (e : ∀ b o, H b = some o → H' b = some o) : TabN H' P q := ⟨t.1, t.2.ext e⟩
/-- what may change: a list, an instance in its making -/
def MutO (o : HO) : Prop := (∃ vs, o = .lst vs) ∨ (∃ C dx fs, o = .ins C dx fs) ∨ ∃ kvs, o = .dK kvs
theorem MutO.nt {o : HO} (m : MutO o) (ps : Array Value) : o ≠ .tbl ps := by
  rintro rfl
  rcases m with ⟨_, e⟩ | ⟨_, _, _, e⟩ | ⟨_, e⟩ <;> cases e
/-- the empty tuple of the written part (a default) -/
def KNil (K : PySem.W.Frag) (a : Addr) : Prop := ∃ (o : Obj) (its : Array Value) (n : Nat), K.lookup a = some o ∧ o.cls = .type "tuple" ∧ o.data = .seq its n ∧ its.size ≤ sizeLine ∧ Vals [] its.toList
mutual
/-- a plain value as it lies there -/
inductive PlT (K : PySem.W.Frag) (H : Hp) : V → Pl → Prop
  | non : PlT K H .non .non
  | bl (b : Bool) : PlT K H (.bl b) (.bl b)
  | int (i : Int) : PlT K H (.int i) (.int i)
  | str (x : Str) : PlT K H (.str x) (.str x)
  | tup {a : Addr} {xs : List V} {ts : List Pl} : Rd H a (.tup xs) → PlTs K H xs ts → PlT K H (.ref a) (.tup ts)
  | knil {a : Addr} : KNil K a → PlT K H (.ref a) (.tup [])
inductive PlTs (K : PySem.W.Frag) (H : Hp) : List V → List Pl → Prop
  | nil : PlTs K H [] []
  | cons {v : V} {vs : List V} {t : Pl} {ts : List Pl} : PlT K H v t → PlTs K H vs ts → PlTs K H (v :: vs) (t :: ts)
end
/-- a dict from ints to plain values, each as J says -/
def MemoAt (K : PySem.W.Frag) (J : Int → Pl → Prop) (H : Hp) (a : Addr) : Prop := ∃ kvs : List (Key × V), H a = some (.dK kvs) ∧ (kvs.map (·.1)).Nodup ∧ ∀ p ∈ kvs, ∃ (i : Nat) (t : Pl), i < 16777215 ∧ p.1 = .inl (i : Int) ∧ J (i : Int) t ∧ PlT K H p.2 t
/-- the tuples stay -/
def TupS (H H' : Hp) : Prop := ∀ a xs, Rd H a (.tup xs) → Rd H' a (.tup xs)
mutual
theorem PlT.ext {K : PySem.W.Frag} {H H' : Hp} (e : TupS H H') : ∀ {v : V} {t : Pl}, PlT K H v t → PlT K H' v t
  | _, _, .non => .non
  | _, _, .bl b => .bl b
  | _, _, .int i => .int i
  | _, _, .str x => .str x
  | _, _, .tup r l => .tup (e _ _ r) (PlTs.ext e l)
  | _, _, .knil z => .knil z
theorem PlTs.ext {K : PySem.W.Frag} {H H' : Hp} (e : TupS H H') : ∀ {vs : List V} {ts : List Pl}, PlTs K H vs ts → PlTs K H' vs ts
  | _, _, .nil => .nil
  | _, _, .cons a b => .cons (PlT.ext e a) (PlTs.ext e b)
end
theorem MemoAt.ext {K : PySem.W.Frag} {J : Int → Pl → Prop} {H H' : Hp} {a : Addr} (m : MemoAt K J H a) (e : TupS H H') (h : ∀ kvs, H a = some (.dK kvs) → H' a = some (.dK kvs)) : MemoAt K J H' a := by
  obtain ⟨kvs, h1, hl, h2⟩ := m
  refine ⟨kvs, h _ h1, hl, fun p hp => ?_⟩
  obtain ⟨i, t, lt, e1, e2, e3⟩ := h2 p hp
  exact ⟨i, t, lt, e1, e2, e3.ext e⟩
theorem TupS.off {H H' : Hp} {p : Addr} (n : ∀ xs, ¬ Rd H p (.tup xs)) (w : ∀ b, b ≠ p → H' b = H b) : TupS H H' := fun a xs r => by
  have ne : a ≠ p := fun z => n xs (by rw [← z]; exact r)
  unfold Rd
  rw [w a ne]
  exact r
theorem MutO.nrd {H : Hp} {p : Addr} {o : HO} (h : H p = some o) (m : MutO o) : ∀ xs, ¬ Rd H p (.tup xs) := fun xs r => by
  rcases r with r | ⟨z, r⟩ <;> rw [h] at r <;> rcases m with ⟨_, m⟩ | ⟨_, _, _, m⟩ | ⟨_, m⟩ <;> rw [m] at r <;> cases r
theorem none_nrd {H : Hp} {p : Addr} (h : H p = none) : ∀ xs, ¬ Rd H p (.tup xs) := fun xs r => by
  rcases r with r | ⟨z, r⟩ <;> rw [h] at r <;> cases r
theorem MemoAt.off {K : PySem.W.Frag} {J : Int → Pl → Prop} {H H' : Hp} {a p : Addr} (m : MemoAt K J H a) (n : ∀ xs, ¬ Rd H p (.tup xs)) (w : ∀ b, b ≠ p → H' b = H b) (ne : a ≠ p) : MemoAt K J H' a :=
  m.ext (TupS.off n w) fun kvs h => by rw [w a ne]; exact h
theorem MemoAt.ne {K : PySem.W.Frag} {J : Int → Pl → Prop} {H : Hp} {a : Addr} (m : MemoAt K J H a) : H a ≠ none := by
  obtain ⟨_, q, _⟩ := m
  rw [q]; simp
theorem MemoAt.big {K : PySem.W.Frag} {J : Int → Pl → Prop} {H H' : Hp} {a : Addr} (m : MemoAt K J H a) (e : ∀ b o, H b = some o → H' b = some o) : MemoAt K J H' a :=
  m.ext (fun a xs r => r.imp (e _ _) fun z => let ⟨u, q⟩ := z; ⟨u, e _ _ q⟩) fun kvs h => e _ _ h
theorem MemoAt.new {K : PySem.W.Frag} {J : Int → Pl → Prop} {H : Hp} {a p : Addr} {o : HO} (m : MemoAt K J H a) (h : H p = none) : MemoAt K J (upd H p o) a :=
  m.off (none_nrd h) (fun b n => upd_ne n) fun z => m.ne (by rw [z]; exact h)
/-- may a step change it? -/
structure Fix (g : Option Gh) : Prop where
  pen : g ≠ some .pen
  memo : ∀ K J, g ≠ some (.memo K J)
@[simp] theorem fix_none : Fix none := ⟨nofun, nofun⟩
@[simp] theorem fix_hid : Fix (some .hid) := ⟨nofun, nofun⟩
theorem fix_cases (g : Option Gh) : g = some .pen ∨ (∃ K J, g = some (.memo K J)) ∨ Fix g := by
  cases g with
  | none => exact .inr (.inr fix_none)
  | some g => cases g with
    | pen => exact .inl rfl
    | hid => exact .inr (.inr fix_hid)
    | memo K J => exact .inr (.inl ⟨K, J, rfl⟩)
structure GOk (G : Gm) (H : Hp) : Prop where
  lst : ∀ a g, G a = some g → ∃ o, H a = some o ∧ MutO o
  pen : ∀ a, G a = some .pen → PenAt H a
  memo : ∀ a K J, G a = some (.memo K J) → MemoAt K J H a

/-- a list of the written part -/
def KLst (K : PySem.W.Frag) (a : Addr) (xs : List V) : Prop := ∃ (o : Obj) (its : Array Value) (n : Nat), K.lookup a = some o ∧ o.cls = .type "list" ∧ o.dict = none ∧ o.data = .seq its n ∧ its.size ≤ sizeLine ∧ Vals xs its.toList
/-- the tuple at a is of an object that has no own dict -/
def NoDict (H : Hp) (a : Addr) (xs : List V) : Prop := ∃ o : Obj, H a = some (.frz o (.tup xs)) ∧ o.cls = .type "tuple" ∧ o.dict = none
mutual
inductive Rep (K : PySem.W.Frag) (G : Gm) (H : Hp) : V → D → Prop
  | non : Rep K G H .non .non
  | bl (b : Bool) : Rep K G H (.bl b) (.bl b)
  | int (i : Int) : Rep K G H (.int i) (.int i)
  | str (x : Str) : Rep K G H (.str x) (.str x)
  | tup {a : Addr} {xs : List V} {ds : List D} : G a = none → Rd H a (.tup xs) → RepL K G H xs ds → Rep K G H (.ref a) (.tup ds)
  | lst {a : Addr} {xs : List V} {ds : List D} : G a = none → H a = some (.lst xs) → RepL K G H xs ds → Rep K G H (.ref a) (.lst ds)
  | scr {a : Addr} {xs : List V} {ds : List D} : ((G a = none ∧ ∃ o, H a = some (.frz o (.lst xs))) ∨ KLst K a xs) → RepL K G H xs ds → Rep K G H (.ref a) (.scr ds)
  | dct {a : Addr} {kvs : List (Key × V)} {ks : List Key} {ds : List D} : G a = none → Rd H a (.dK kvs) → kvs.map (·.1) = ks → RepL K G H (kvs.map (·.2)) ds → Rep K G H (.ref a) (.dct ks ds)
  | dcl {a : Addr} {o : Obj} {kvs : List (Key × V)} : G a = none → H a = some (.frz o (.dK kvs)) → Rep K G H (.ref a) (.dcl o kvs)
  | ins {a C dx : Addr} {fs : List (Str × V)} {ns : List Str} {ds : List D} : G a = none → H a = some (.ins C dx fs) → fs.map (·.1) = ns → RepL K G H (fs.map (·.2)) ds → Rep K G H (.ref a) (.ins C ns ds)
  | pen {a : Addr} : G a = some .pen → PenAt H a → Rep K G H (.ref a) .pen
  | memo {a : Addr} {J : Int → Pl → Prop} : G a = some (.memo K J) → MemoAt K J H a → Rep K G H (.ref a) (.memo J)
  | tupN {a : Addr} {xs : List V} {ds : List D} : G a = none → NoDict H a xs → RepL K G H xs ds → Rep K G H (.ref a) (.tupN ds)
  | adr {a : Addr} : Rep K G H (.ref a) (.adr a)
  | wo {a C dx : Addr} {fs : List (Str × V)} {ds : List D} {v : V} {d : D} : G a = none → H a = some (.ins C dx fs) → RepL K G H (fs.map (·.2)) ds → Rep K G H v d → Rep K G H v (.wo a C dx fs ds d)
  | knil {a : Addr} : KNil K a → Rep K G H (.ref a) (.tup [])
  | exo0 {a : Addr} : Rep K G H (.ref a) (.exo a none [] [])
  | exo {a dd : Addr} {ns : List Str} {vs : List V} {ds : List D} : G dd = none → H dd = some (.xd (ns.zip vs)) → ns.length = vs.length → RepL K G H vs ds → Rep K G H (.ref a) (.exo a (some dd) ns ds)
  | tab {P : Addr} {q : Str} : TabN H P q → Rep K G H (.ty "") (.tab P q)
  | two {v w : V} {c d : D} : Rep K G H v c → Rep K G H w d → Rep K G H (.ty "") (.two v w c d)
inductive RepL (K : PySem.W.Frag) (G : Gm) (H : Hp) : List V → List D → Prop
  | nil : RepL K G H [] []
  | cons {v : V} {vs : List V} {d : D} {ds : List D} : Rep K G H v d → RepL K G H vs ds → RepL K G H (v :: vs) (d :: ds)
end

variable {K : PySem.W.Frag}
/-- what a step leaves as it was -/
structure Keep (G G' : Gm) (H H' : Hp) : Prop where
  obj : ∀ a o, H a = some o → Fix (G a) → (∀ ps, o ≠ .tbl ps) → H' a = some o
  pen : ∀ a, G a = some .pen → PenAt H a → PenAt H' a
  memo : ∀ a K J, G a = some (.memo K J) → MemoAt K J H a → MemoAt K J H' a
  gh : ∀ a, H a ≠ none → G' a = G a
  tab : ∀ a ps, H a = some (.tbl ps) → ∃ ps', H' a = some (.tbl ps') ∧ ∀ q, TabN H a q → TabN H' a q
theorem Keep.dom {G G' : Gm} {H H' : Hp} (k : Keep G G' H H') (g : GOk G H) {a : Addr} (h : H a ≠ none) : H' a ≠ none := by
  rcases fix_cases (G a) with e | ⟨K, J, e⟩ | e
  · obtain ⟨_, _, _, q, _⟩ := k.pen a e (g.pen a e)
    rw [q]; simp
  · obtain ⟨_, q, _⟩ := k.memo a K J e (g.memo a K J e)
    rw [q]; simp
  · cases q : H a with
    | none => exact absurd q h
    | some o =>
      by_cases z : ∃ ps, o = .tbl ps
      · obtain ⟨ps, rfl⟩ := z
        obtain ⟨ps', q', _⟩ := k.tab a ps q
        rw [q']; simp
      · rw [k.obj a o q e fun ps y => z ⟨ps, y⟩]; simp
theorem Keep.refl (G : Gm) (H : Hp) : Keep G G H H := ⟨fun _ _ h _ _ => h, fun _ _ h => h, fun _ _ _ _ h => h, fun _ _ => rfl, fun _ ps h => ⟨ps, h, fun _ t => t⟩⟩
theorem Keep.trans {G G1 G2 : Gm} {H H1 H2 : Hp} (g : GOk G H) (a : Keep G G1 H H1) (b : Keep G1 G2 H1 H2) : Keep G G2 H H2 := by
  refine ⟨fun c o h n nt => ?_, fun c h p => ?_, fun c K J h p => ?_, fun c h => ?_, fun c ps h => ?_⟩
  · have hn : H c ≠ none := by rw [h]; simp
    exact b.obj c o (a.obj c o h n nt) (by rw [a.gh c hn]; exact n) nt
  · have hn : H c ≠ none := by obtain ⟨_, _, _, q, _⟩ := p; rw [q]; simp
    exact b.pen c (by rw [a.gh c hn]; exact h) (a.pen c h p)
  · have hn : H c ≠ none := by obtain ⟨_, q, _⟩ := p; rw [q]; simp
    exact b.memo c K J (by rw [a.gh c hn]; exact h) (a.memo c K J h p)
  · rw [b.gh c (a.dom g h), a.gh c h]
  · obtain ⟨ps1, h1, t1⟩ := a.tab c ps h
    obtain ⟨ps2, h2, t2⟩ := b.tab c ps1 h1
    exact ⟨ps2, h2, fun q t => t2 q (t1 q t)⟩

/-- tables and their code objects lie off what may change -/
def NT (H : Hp) (a : Addr) : Prop := (∀ ps, H a ≠ some (.tbl ps)) ∧ ∀ φ, H a ≠ some (.ext φ)
theorem tabs_off {H H' : Hp} {a : Addr} (n : NT H a) (w : ∀ b, b ≠ a → H' b = H b) {P : Addr} {q : Str} (t : TabN H P q) : TabN H' P q := by
  obtain ⟨eq, ps, e, tr, ch⟩ := t
  refine ⟨eq, ps, ?_, tr, fun pos cv z => ?_⟩
  · rw [w P fun y => n.1 ps (by rw [← y]; exact e)]; exact e
  · obtain ⟨c, e1, e2⟩ := ch pos cv z
    refine ⟨c, e1, ?_⟩
    rw [w c fun y => n.2 _ (by rw [← y]; exact e2)]
    exact e2
theorem MutO.off {H : Hp} {a : Addr} {o : HO} (ho : H a = some o) (m : MutO o) : NT H a := by
  rcases m with ⟨_, m⟩ | ⟨_, _, _, m⟩ | ⟨_, m⟩ <;> exact ⟨fun ps => by rw [ho, m]; nofun, fun φ => by rw [ho, m]; nofun⟩
/-- a table behind a step off a -/
theorem tab_off {H1 H H' : Hp} {a : Addr} (k : ∀ b ps, H1 b = some (.tbl ps) → ∃ ps', H b = some (.tbl ps') ∧ ∀ q, TabN H1 b q → TabN H b q) (n : NT H a) (w : ∀ b, b ≠ a → H' b = H b) (b : Addr) (ps : Array Value) (e : H1 b = some (.tbl ps)) : ∃ ps', H' b = some (.tbl ps') ∧ ∀ q, TabN H1 b q → TabN H' b q := by
  obtain ⟨ps', q1, q2⟩ := k b ps e
  refine ⟨ps', ?_, fun y t => tabs_off n w (q2 y t)⟩
  rw [w b fun z => n.1 ps' (by rw [← z]; exact q1)]
  exact q1
theorem Rd.ne {H : Hp} {a : Addr} {o : HO} (r : Rd H a o) : H a ≠ none := by
  rcases r with r | ⟨_, r⟩ <;> rw [r] <;> simp
theorem Keep.tabs {G G' : Gm} {H H' : Hp} (k : Keep G G' H H') {a : Addr} {q : Str} (t : TabN H a q) : TabN H' a q := by
  obtain ⟨_, ps, h, _⟩ := id t
  obtain ⟨_, _, z⟩ := k.tab _ ps h
  exact z _ t
theorem Rd.keep {G G' : Gm} {H H' : Hp} {a : Addr} {o : HO} (k : Keep G G' H H') (e : G a = none) (r : Rd H a o) (nt : ∀ ps, o ≠ .tbl ps := by nofun) : Rd H' a o := by
  rcases r with r | ⟨u, r⟩
  · exact .inl (k.obj a _ r (by rw [e]; simp) nt)
  · exact .inr ⟨u, k.obj a _ r (by rw [e]; simp) nofun⟩
mutual
theorem Rep.keep {G G' : Gm} {H H' : Hp} (k : Keep G G' H H') : ∀ {v : V} {d : D}, Rep K G H v d → Rep K G' H' v d
  | _, _, .non => .non
  | _, _, .bl b => .bl b
  | _, _, .int i => .int i
  | _, _, .str x => .str x
  | _, _, .tup e r l => .tup (by rw [k.gh _ (Rd.ne r)]; exact e) (Rd.keep k e r) (RepL.keep k l)
  | _, _, .lst e r l => .lst (by rw [k.gh _ (by rw [r]; simp)]; exact e) (k.obj _ _ r (by rw [e]; simp) nofun) (RepL.keep k l)
  | _, _, .scr r l => .scr (by
      rcases r with ⟨e, o, r⟩ | r
      · exact .inl ⟨by rw [k.gh _ (by rw [r]; simp)]; exact e, o, k.obj _ _ r (by rw [e]; simp) nofun⟩
      · exact .inr r) (RepL.keep k l)
  | _, _, .dct e r q l => .dct (by rw [k.gh _ (Rd.ne r)]; exact e) (Rd.keep k e r) q (RepL.keep k l)
  | _, _, .dcl e r => .dcl (by rw [k.gh _ (by rw [r]; simp)]; exact e) (k.obj _ _ r (by rw [e]; simp) nofun)
  | _, _, .tupN e ⟨o, r, z⟩ l => .tupN (by rw [k.gh _ (by rw [r]; simp)]; exact e) ⟨o, k.obj _ _ r (by rw [e]; simp) nofun, z⟩ (RepL.keep k l)
  | _, _, .ins e r q l => .ins (by rw [k.gh _ (by rw [r]; simp)]; exact e) (k.obj _ _ r (by rw [e]; simp) nofun) q (RepL.keep k l)
  | _, _, .knil z => .knil z
  | _, _, .exo0 => .exo0
  | _, _, .exo e r n l => .exo (by rw [k.gh _ (by rw [r]; simp)]; exact e) (k.obj _ _ r (by rw [e]; simp) nofun) n (RepL.keep k l)
  | _, _, .tab t => .tab (Keep.tabs k t)
  | _, _, .two a b => .two (Rep.keep k a) (Rep.keep k b)
  | _, _, .adr => .adr
  | _, _, .wo e r l d => .wo (by rw [k.gh _ (by rw [r]; simp)]; exact e) (k.obj _ _ r (by rw [e]; simp) nofun) (RepL.keep k l) (Rep.keep k d)
  | _, _, .pen e p => .pen (by rw [k.gh _ (by obtain ⟨_, _, _, q, _⟩ := p; rw [q]; simp)]; exact e) (k.pen _ e p)
  | _, _, .memo e p => .memo (by rw [k.gh _ (by obtain ⟨_, q, _⟩ := p; rw [q]; simp)]; exact e) (k.memo _ _ _ e p)
theorem RepL.keep {G G' : Gm} {H H' : Hp} (k : Keep G G' H H') : ∀ {vs : List V} {ds : List D}, RepL K G H vs ds → RepL K G' H' vs ds
  | _, _, .nil => .nil
  | _, _, .cons a b => .cons (Rep.keep k a) (RepL.keep k b)
end
/-- fewer ghosts -/
structure GLe (G' G : Gm) : Prop where
  non : ∀ a, G a = none → G' a = none
  pen : ∀ a, G a = some .pen → G' a = some .pen
  memo : ∀ a K J, G a = some (.memo K J) → G' a = some (.memo K J)
mutual
theorem Rep.le {G G' : Gm} {H : Hp} (k : GLe G' G) : ∀ {v : V} {d : D}, Rep K G H v d → Rep K G' H v d
  | _, _, .non => .non
  | _, _, .bl b => .bl b
  | _, _, .int i => .int i
  | _, _, .str x => .str x
  | _, _, .tup e r l => .tup (k.non _ e) r (RepL.le k l)
  | _, _, .lst e r l => .lst (k.non _ e) r (RepL.le k l)
  | _, _, .scr r l => .scr (r.imp (fun z => ⟨k.non _ z.1, z.2⟩) id) (RepL.le k l)
  | _, _, .dct e r q l => .dct (k.non _ e) r q (RepL.le k l)
  | _, _, .dcl e r => .dcl (k.non _ e) r
  | _, _, .tupN e r l => .tupN (k.non _ e) r (RepL.le k l)
  | _, _, .ins e r q l => .ins (k.non _ e) r q (RepL.le k l)
  | _, _, .knil z => .knil z
  | _, _, .exo0 => .exo0
  | _, _, .exo e r n l => .exo (k.non _ e) r n (RepL.le k l)
  | _, _, .tab t => .tab t
  | _, _, .two a b => .two (Rep.le k a) (Rep.le k b)
  | _, _, .adr => .adr
  | _, _, .wo e r l d => .wo (k.non _ e) r (RepL.le k l) (Rep.le k d)
  | _, _, .pen e p => .pen (k.pen _ e) p
  | _, _, .memo e p => .memo (k.memo _ _ _ e) p
theorem RepL.le {G G' : Gm} {H : Hp} (k : GLe G' G) : ∀ {vs : List V} {ds : List D}, RepL K G H vs ds → RepL K G' H vs ds
  | _, _, .nil => .nil
  | _, _, .cons a b => .cons (Rep.le k a) (RepL.le k b)
end
theorem RepL.append {G : Gm} {H : Hp} : ∀ {vs us : List V} {ds es : List D}, RepL K G H vs ds → RepL K G H us es → RepL K G H (vs ++ us) (ds ++ es)
  | _, _, _, _, .nil, h => h
  | _, _, _, _, .cons a b, h => .cons a (RepL.append b h)
theorem RepL.length {G : Gm} {H : Hp} : ∀ {vs : List V} {ds : List D}, RepL K G H vs ds → vs.length = ds.length
  | _, _, .nil => rfl
  | _, _, .cons a b => by simp [RepL.length b]
theorem RepL.get {G : Gm} {H : Hp} : ∀ {vs : List V} {ds : List D} {i : Nat} {d : D}, RepL K G H vs ds → ds[i]? = some d → ∃ v, vs[i]? = some v ∧ Rep K G H v d
  | _, _, _, _, .nil, e => by simp at e
  | _, _, 0, _, .cons a _, e => by simp at e; subst e; exact ⟨_, rfl, a⟩
  | _, _, i + 1, _, .cons _ b, e => by
    obtain ⟨v, h, r⟩ := RepL.get (i := i) b (by simpa using e)
    exact ⟨v, by simpa using h, r⟩
theorem RepL.getV {G : Gm} {H : Hp} : ∀ {vs : List V} {ds : List D} {i : Nat} {v : V}, RepL K G H vs ds → vs[i]? = some v → ∃ d, ds[i]? = some d ∧ Rep K G H v d
  | _, _, _, _, .nil, e => by simp at e
  | _, _, 0, _, .cons a _, e => by simp at e; subst e; exact ⟨_, rfl, a⟩
  | _, _, i + 1, _, .cons _ b, e => by
    obtain ⟨v, h, r⟩ := RepL.getV (i := i) b (by simpa using e)
    exact ⟨v, by simpa using h, r⟩
theorem RepL.take {G : Gm} {H : Hp} : ∀ {vs : List V} {ds : List D} (n : Nat), RepL K G H vs ds → RepL K G H (vs.take n) (ds.take n)
  | _, _, 0, _ => .nil
  | _, _, _ + 1, .nil => .nil
  | _, _, n + 1, .cons a b => .cons a (RepL.take n b)
theorem RepL.drop {G : Gm} {H : Hp} : ∀ {vs : List V} {ds : List D} (n : Nat), RepL K G H vs ds → RepL K G H (vs.drop n) (ds.drop n)
  | _, _, 0, r => r
  | _, _, _ + 1, .nil => .nil
  | _, _, n + 1, .cons _ b => RepL.drop n b
theorem RepL.reverse {G : Gm} {H : Hp} {vs : List V} {ds : List D} (r : RepL K G H vs ds) : RepL K G H vs.reverse ds.reverse := by
  have aux : ∀ {vs us : List V} {ds es : List D}, RepL K G H vs ds → RepL K G H us es → RepL K G H (vs.reverse ++ us) (ds.reverse ++ es) := by
    intro vs
    induction vs with
    | nil => intro us ds es h1 h2; cases h1; exact h2
    | cons v vs ih =>
      intro us ds es h1 h2
      cases h1 with
      | cons a b =>
        rw [List.reverse_cons, List.reverse_cons, List.append_assoc, List.append_assoc]
        exact ih b (.cons a h2)
  have := aux r .nil
  simpa using this

/-- a new object -/
theorem Keep.laid {G : Gm} {H : Hp} {p : Addr} {o : HO} (h : H p = none) : Keep G G H (upd H p o) :=
  ⟨fun a u e _ _ => by rw [upd_ne (ne_of_none e h)]; exact e, fun a _ ⟨i, j, k, e, q⟩ => ⟨i, j, k, by rw [upd_ne (ne_of_none e h)]; exact e, q⟩, fun a K J _ m => m.new h, fun _ _ => rfl, fun a ps e => ⟨ps, by rw [upd_ne (ne_of_none e h)]; exact e, fun q t => t.ext fun b o x => by rw [upd_ne (ne_of_none x h)]; exact x⟩⟩
theorem GOk.laid {G : Gm} {H : Hp} {p : Addr} {o : HO} (g : GOk G H) (h : H p = none) : GOk G (upd H p o) :=
  ⟨fun a x e => by obtain ⟨vs, q, m⟩ := g.lst a x e; exact ⟨vs, by rw [upd_ne (ne_of_none q h)]; exact q, m⟩, fun a e => by obtain ⟨i, j, k, q, z⟩ := g.pen a e; exact ⟨i, j, k, by rw [upd_ne (ne_of_none q h)]; exact q, z⟩, fun a K J e => (g.memo a K J e).new h⟩
theorem GOk.fresh {G : Gm} {H : Hp} {p : Addr} (g : GOk G H) (h : H p = none) : G p = none := by
  cases e : G p with
  | none => rfl
  | some x => obtain ⟨vs, q, _⟩ := g.lst p x e; rw [h] at q; cases q

/-! ### results -/
inductive R where
  | val (d : D) | brw (ds : List D) | bin (C : Addr) (ns : List Str) (ds : List D)
def R.d : R → D
  | .val d => d
  | .brw ds => .lst ds
  | .bin C ns ds => .ins C ns ds
def RRep (K : PySem.W.Frag) (G : Gm) (H : Hp) (v : V) : R → Prop
  | .val d => Rep K G H v d
  | .brw ds => ∃ a vs, v = .ref a ∧ H a = some (.lst vs) ∧ Fix (G a) ∧ RepL K G H vs ds
  | .bin C ns ds => ∃ a dx fs, v = .ref a ∧ H a = some (.ins C dx fs) ∧ Fix (G a) ∧ fs.map (·.1) = ns ∧ RepL K G H (fs.map (·.2)) ds
theorem RRep.keep {G G' : Gm} {H H' : Hp} (k : Keep G G' H H') {v : V} {r : R} (h : RRep K G H v r) : RRep K G' H' v r := by
  cases r with
  | val d => exact Rep.keep k h
  | brw ds =>
    obtain ⟨a, vs, e, q, n, l⟩ := h
    exact ⟨a, vs, e, k.obj a _ q n nofun, by rw [k.gh a (by rw [q]; simp)]; exact n, RepL.keep k l⟩
  | bin C ns ds =>
    obtain ⟨a, dx, fs, e, q, n, z, l⟩ := h
    exact ⟨a, dx, fs, e, k.obj a _ q n nofun, by rw [k.gh a (by rw [q]; simp)]; exact n, z, RepL.keep k l⟩
/-- a list that is read -/
theorem RRep.lst {G : Gm} {H : Hp} {v : V} {r : R} {ds : List D} (h : RRep K G H v r) (e : r.d = .lst ds) : ∃ a vs, v = .ref a ∧ H a = some (.lst vs) ∧ Fix (G a) ∧ RepL K G H vs ds := by
  cases r with
  | val d =>
    have e' : d = .lst ds := e
    subst e'
    cases h with
    | lst g r l => exact ⟨_, _, rfl, r, by rw [g]; simp, l⟩
  | brw es =>
    have e' : D.lst es = .lst ds := e
    cases e'
    obtain ⟨a, vs, e, q, n, l⟩ := h
    exact ⟨a, vs, e, q, n, l⟩
  | bin C ns es => cases e
theorem RRep.tup {G : Gm} {H : Hp} {v : V} {r : R} {ds : List D} (h : RRep K G H v r) (e : r.d = .tup ds) : ∃ a vs, v = .ref a ∧ SqT K H a vs ∧ RepL K G H vs ds := by
  cases r with
  | val d =>
    have e' : d = .tup ds := e
    subst e'
    cases h with
    | tup g r l => exact ⟨_, _, rfl, .inl r, l⟩
    | knil z => exact ⟨_, [], rfl, .inr z, .nil⟩
  | brw es => cases e
  | bin C ns es => cases e
theorem RRep.scr {G : Gm} {H : Hp} {v : V} {r : R} {ds : List D} (h : RRep K G H v r) (e : r.d = .scr ds) : ∃ a vs, v = .ref a ∧ SqL K H a vs ∧ RepL K G H vs ds := by
  cases r with
  | val d =>
    have e' : d = .scr ds := e
    subst e'
    cases h with
    | scr r l =>
      rcases r with ⟨_, o, r⟩ | r
      · exact ⟨_, _, rfl, .inl (.inr ⟨o, r⟩), l⟩
      · exact ⟨_, _, rfl, .inr r, l⟩
  | brw es => cases e
  | bin C ns es => cases e
theorem RRep.int {G : Gm} {H : Hp} {v : V} {r : R} {i : Int} (h : RRep K G H v r) (e : r.d = .int i) : v = .int i := by
  cases r with
  | val d =>
    have e' : d = .int i := e
    subst e'
    cases h; rfl
  | brw es => cases e
  | bin C ns es => cases e
theorem RRep.bl {G : Gm} {H : Hp} {v : V} {r : R} {b : Bool} (h : RRep K G H v r) (e : r.d = .bl b) : v = .bl b := by
  cases r with
  | val d =>
    have e' : d = .bl b := e
    subst e'
    cases h; rfl
  | brw es => cases e
  | bin C ns es => cases e
theorem RRep.str {G : Gm} {H : Hp} {v : V} {r : R} {x : Str} (h : RRep K G H v r) (e : r.d = .str x) : v = .str x := by
  cases r with
  | val d =>
    have e' : d = .str x := e
    subst e'
    cases h; rfl
  | brw es => cases e
  | bin C ns es => cases e
inductive RRepL (K : PySem.W.Frag) (G : Gm) (H : Hp) : List V → List R → Prop
  | nil : RRepL K G H [] []
  | cons {v : V} {vs : List V} {d : R} {ds : List R} : RRep K G H v d → RRepL K G H vs ds → RRepL K G H (v :: vs) (d :: ds)
theorem RRepL.keep {G G' : Gm} {H H' : Hp} (k : Keep G G' H H') : ∀ {vs : List V} {ds : List R}, RRepL K G H vs ds → RRepL K G' H' vs ds
  | _, _, .nil => .nil
  | _, _, .cons a b => .cons (RRep.keep k a) (RRepL.keep k b)
theorem RRepL.vals {G : Gm} {H : Hp} : ∀ {vs : List V} {ds : List D}, RRepL K G H vs (ds.map R.val) → RepL K G H vs ds
  | _, [], .nil => .nil
  | _, _ :: _, .cons a b => .cons a (RRepL.vals b)

/-! ### the slots -/
inductive EV where
  | no | val (d : D) | own (ds : List D) | dic (ks : List Key) (ds : List D) | sto (a C dx : Addr) (fs : List (Str × V)) (ds : List D)
abbrev SE := List EV
/-- the entry: its heap, and values that are kept through what runs -/
structure HB where
  hp : Hp
  tmp : List (V × D)
/-- the one own dict of a frame, the objects that it may change -/
structure DicOk (K : PySem.W.Frag) (H0 : Hp) (G : Gm) (H : Hp) (σ : L2.St) (env : SE) : Prop where
  at_ : ∀ (i : Nat) (ks : List Key) (ds : List D), env[i]? = some (.dic ks ds) → ∃ a kvs, σ[i]? = some (some (.ref a)) ∧ G a = some .hid ∧ H0 a = none ∧ H a = some (.dK kvs) ∧ kvs.map (·.1) = ks ∧ RepL K G H (kvs.map (·.2)) ds
  one : ∀ (i j : Nat) (ks ls : List Key) (ds es : List D), env[i]? = some (.dic ks ds) → env[j]? = some (.dic ls es) → i = j
  sto : ∀ (i : Nat) (a C dx : Addr) (fs : List (Str × V)) (ds : List D), env[i]? = some (.sto a C dx fs ds) → σ[i]? = some (some (.ref a)) ∧ G a = some .hid ∧ H0 a = none ∧ H a = some (.ins C dx fs) ∧ RepL K G H (fs.map (·.2)) ds
  ssep : ∀ (i j : Nat) (a b C C' dx dx' : Addr) (fs fs' : List (Str × V)) (ds ds' : List D), i ≠ j → env[i]? = some (.sto a C dx fs ds) → env[j]? = some (.sto b C' dx' fs' ds') → a ≠ b
theorem DicOk.non {K : PySem.W.Frag} {H0 : Hp} {G : Gm} {H : Hp} {σ : L2.St} {env : SE} (h : ∀ (i : Nat) (ks : List Key) (ds : List D), env[i]? ≠ some (.dic ks ds)) (h2 : ∀ (i : Nat) (a C dx : Addr) (fs : List (Str × V)) (ds : List D), env[i]? ≠ some (.sto a C dx fs ds)) : DicOk K H0 G H σ env := ⟨fun i ks ds z => absurd z (h i ks ds), fun i _ ks _ ds _ z => absurd z (h i ks ds), fun i a C dx fs ds z => absurd z (h2 i a C dx fs ds), fun i _ a _ C _ dx _ fs _ ds _ _ z => absurd z (h2 i a C dx fs ds)⟩
theorem DicOk.step {K : PySem.W.Frag} {H0 : Hp} {G G' : Gm} {H H' : Hp} {σ : L2.St} {env : SE} (e : DicOk K H0 G H σ env) (k : Keep G G' H H') : DicOk K H0 G' H' σ env := ⟨fun i ks ds h => by
  obtain ⟨a, kvs, q1, q2, q3, q4, q5, q6⟩ := e.at_ i ks ds h
  exact ⟨a, kvs, q1, by rw [k.gh a (by rw [q4]; simp)]; exact q2, q3, k.obj a _ q4 (by rw [q2]; simp) nofun, q5, RepL.keep k q6⟩, e.one, fun i a C dx fs ds h => by
  obtain ⟨q1, q2, q3, q4, q6⟩ := e.sto i a C dx fs ds h
  exact ⟨q1, by rw [k.gh a (by rw [q4]; simp)]; exact q2, q3, k.obj a _ q4 (by rw [q2]; simp) nofun, RepL.keep k q6⟩, e.ssep⟩
/-- a slot that is no dict afterwards -/
theorem DicOk.set {K : PySem.W.Frag} {H0 : Hp} {G : Gm} {H : Hp} {σ : L2.St} {env : SE} (e : DicOk K H0 G H σ env) (i : Nat) (o : Option V) {x : EV} (hx : ∀ (ks : List Key) (ds : List D), x ≠ .dic ks ds := by intro _ _ z; cases z) (hx2 : ∀ (a C dx : Addr) (fs : List (Str × V)) (ds : List D), x ≠ .sto a C dx fs ds := by intro _ _ _ _ _ z; cases z) : DicOk K H0 G H (σ.set i o) (env.set i x) := by
  have back : ∀ {j : Nat} {ks : List Key} {ds : List D}, (env.set i x)[j]? = some (.dic ks ds) → i ≠ j ∧ env[j]? = some (.dic ks ds) := fun {j ks ds} h => by
    by_cases q : i = j
    · subst q
      rw [List.getElem?_set] at h
      simp only [if_true] at h
      split at h
      · exact absurd (Option.some.inj h) (hx ks ds)
      · cases h
    · rw [List.getElem?_set_ne q] at h
      exact ⟨q, h⟩
  have back2 : ∀ {j : Nat} {a C dx : Addr} {fs : List (Str × V)} {ds : List D}, (env.set i x)[j]? = some (.sto a C dx fs ds) → i ≠ j ∧ env[j]? = some (.sto a C dx fs ds) := fun {j a C dx fs ds} h => by
    by_cases q : i = j
    · subst q
      rw [List.getElem?_set] at h
      simp only [if_true] at h
      split at h
      · exact absurd (Option.some.inj h) (hx2 a C dx fs ds)
      · cases h
    · rw [List.getElem?_set_ne q] at h
      exact ⟨q, h⟩
  refine ⟨fun j ks ds h => ?_, fun j k ks ls ds es h1 h2 => e.one j k ks ls ds es (back h1).2 (back h2).2, fun j a C dx fs ds h => by rw [List.getElem?_set_ne (back2 h).1]; exact e.sto j a C dx fs ds (back2 h).2, fun j k a b C C' dx dx' fs fs' ds ds' n h1 h2 => e.ssep j k a b C C' dx dx' fs fs' ds ds' n (back2 h1).2 (back2 h2).2⟩
  obtain ⟨n, h'⟩ := back h
  obtain ⟨a, kvs, q⟩ := e.at_ j ks ds h'
  exact ⟨a, kvs, by rw [List.getElem?_set_ne n]; exact q.1, q.2⟩
theorem DicOk.cons {K : PySem.W.Frag} {H0 : Hp} {G : Gm} {H : Hp} {σ : L2.St} {env : SE} (e : DicOk K H0 G H σ env) (o : Option V) {x : EV} (hx : ∀ (ks : List Key) (ds : List D), x ≠ .dic ks ds := by intro _ _ z; cases z) (hx2 : ∀ (a C dx : Addr) (fs : List (Str × V)) (ds : List D), x ≠ .sto a C dx fs ds := by intro _ _ _ _ _ z; cases z) : DicOk K H0 G H (o :: σ) (x :: env) := by
  refine ⟨fun j ks ds h => ?_, fun j k ks ls ds es h1 h2 => ?_, fun j a C dx fs ds h => ?_, fun j k a b C C' dx dx' fs fs' ds ds' n h1 h2 => ?_⟩
  · cases j with
    | zero => exact absurd (Option.some.inj h) (hx ks ds)
    | succ j => exact e.at_ j ks ds h
  · cases j with
    | zero => exact absurd (Option.some.inj h1) (hx ks ds)
    | succ j => cases k with
      | zero => exact absurd (Option.some.inj h2) (hx ls es)
      | succ k => rw [e.one j k ks ls ds es h1 h2]
  · cases j with
    | zero => exact absurd (Option.some.inj h) (hx2 a C dx fs ds)
    | succ j => exact e.sto j a C dx fs ds h
  · cases j with
    | zero => exact absurd (Option.some.inj h1) (hx2 _ _ _ _ _)
    | succ j => cases k with
      | zero => exact absurd (Option.some.inj h2) (hx2 _ _ _ _ _)
      | succ k => exact e.ssep j k a b C C' dx dx' fs fs' ds ds' (fun z => n (by rw [z])) h1 h2
/-- the heap, the ghosts changed off the dict -/
theorem DicOk.off {K : PySem.W.Frag} {H0 H0' : Hp} {G G' : Gm} {H H' : Hp} {σ : L2.St} {env : SE} (e : DicOk K H0 G H σ env) (h : ∀ (a : Addr) (kvs : List (Key × V)), H a = some (.dK kvs) → G a = some .hid → G' a = some .hid ∧ H' a = some (.dK kvs)) (h0 : ∀ a : Addr, H0 a = none → G a = some .hid → H0' a = none)
    (r : ∀ vs ds, RepL K G H vs ds → RepL K G' H' vs ds) (h2 : ∀ (a C dx : Addr) (fs : List (Str × V)), H a = some (.ins C dx fs) → G a = some .hid → G' a = some .hid ∧ H' a = some (.ins C dx fs)) : DicOk K H0' G' H' σ env := ⟨fun i ks ds z => by
  obtain ⟨a, kvs, q1, q2, q3, q4, q5, q6⟩ := e.at_ i ks ds z
  obtain ⟨h1, h2⟩ := h a kvs q4 q2
  exact ⟨a, kvs, q1, h1, h0 a q3 q2, h2, q5, r _ _ q6⟩, e.one, fun i a C dx fs ds z => by
  obtain ⟨q1, q2, q3, q4, q6⟩ := e.sto i a C dx fs ds z
  obtain ⟨h1, h2⟩ := h2 a C dx fs q4 q2
  exact ⟨q1, h1, h0 a q3 q2, h2, r _ _ q6⟩, e.ssep⟩
structure EnvOk (K : PySem.W.Frag) (G0 : Gm) (H0 : HB) (G : Gm) (H : Hp) (σ : L2.St) (env : SE) : Prop where
  g0 : GOk G0 H0.hp
  keep : Keep G0 G H0.hp H
  gok : GOk G H
  len : env.length = σ.length
  tmp : ∀ p ∈ H0.tmp, Rep K G H p.1 p.2
  val : ∀ (i : Nat) (d : D), env[i]? = some (.val d) → ∃ v, σ[i]? = some (some v) ∧ Rep K G H v d
  own : ∀ (i : Nat) (ds : List D), env[i]? = some (.own ds) → ∃ a vs, σ[i]? = some (some (.ref a)) ∧ G a = some .hid ∧ H0.hp a = none ∧ H a = some (.lst vs) ∧ RepL K G H vs ds
  sep : ∀ (i j : Nat) (ds es : List D) (a : Addr), i ≠ j → env[i]? = some (.own ds) → env[j]? = some (.own es) → σ[i]? = some (some (.ref a)) → σ[j]? ≠ some (some (.ref a))
  dic : DicOk K H0.hp G H σ env
theorem EnvOk.step {G0 G G' : Gm} {H0 : HB} {H H' : Hp} {σ : L2.St} {env : SE} (e : EnvOk K G0 H0 G H σ env) (k : Keep G G' H H') (g : GOk G' H') : EnvOk K G0 H0 G' H' σ env := by
  refine ⟨e.g0, e.keep.trans e.g0 k, g, e.len, fun p hp => Rep.keep k (e.tmp p hp), fun i d h => ?_, fun i ds h => ?_, e.sep, e.dic.step k⟩
  · obtain ⟨v, a, b⟩ := e.val i d h
    exact ⟨v, a, Rep.keep k b⟩
  · obtain ⟨a, vs, q1, q2, q3, q4, q5⟩ := e.own i ds h
    exact ⟨a, vs, q1, by rw [k.gh a (by rw [q4]; simp)]; exact q2, q3, k.obj a _ q4 (by rw [q2]; simp) nofun, RepL.keep k q5⟩

/-! ### exceptions, readings -/
structure Exn where
  C : Addr
  fs : Option (List (Str × D))
abbrev XP := Exn → Prop
def XOk (K : PySem.W.Frag) (E : XK) (G : Gm) (H : Hp) (x : XP) : Prop := ∀ e G' H', x e → Keep G G' H H' → GOk G' H' →
  (e.fs = none → E (.ref e.C) none H') ∧ (∀ fs, e.fs = some fs → noLsts (fs.map (·.2)) = true → ∀ d vs, RepL K G' H' vs (fs.map (·.2)) → H' d = some (.xd ((fs.map (·.1)).zip vs)) → E (.ref e.C) (some d) H')
theorem XOk.keep {E : XK} {G G' : Gm} {H H' : Hp} {x : XP} (g : GOk G H) (h : XOk K E G H x) (k : Keep G G' H H') : XOk K E G' H' x := fun e G2 H2 q k2 g2 => h e G2 H2 q (k.trans g k2) g2
abbrev DE := SE → (R → Prop) → XP → Prop
abbrev DT := SE → (Bool → Prop) → XP → Prop
abbrev DA := SE → (List R → Prop) → XP → Prop
def lift (K : PySem.W.Frag) (E : XK) (t : DE) : TE := fun σ H Q => ∃ G0 H0 G env q x, EnvOk K G0 H0 G H σ env ∧ t env q x ∧ (∀ r v G' H', q r → Keep G G' H H' → GOk G' H' → RRep K G' H' v r → Q v H') ∧ XOk K E G H x
def liftT (K : PySem.W.Frag) (E : XK) (t : DT) : TT := fun σ H Q => ∃ G0 H0 G env q x, EnvOk K G0 H0 G H σ env ∧ t env q x ∧ (∀ b G' H', q b → Keep G G' H H' → GOk G' H' → Q b H') ∧ XOk K E G H x
def liftA (K : PySem.W.Frag) (E : XK) (t : DA) : TA := fun σ H Q => ∃ G0 H0 G env q x, EnvOk K G0 H0 G H σ env ∧ t env q x ∧ (∀ rs vs G' H', q rs → Keep G G' H H' → GOk G' H' → RRepL K G' H' vs rs → Q vs H') ∧ XOk K E G H x
structure DEnds where
  nx : SE → Prop
  rt : D → Prop
  bk : SE → Prop := fun _ => False
  ct : SE → Prop := fun _ => False
  ex : XP := fun _ => False
abbrev DS := DEnds → SE → Prop
def liftS (K : PySem.W.Frag) (E : XK) (t : DS) : TS := fun Z σ H => ∃ G0 H0 G env J, EnvOk K G0 H0 G H σ env ∧ t J env ∧
  (∀ env' G' σ' H', J.nx env' → EnvOk K G0 H0 G' H' σ' env' → Z.nx σ' H') ∧
  (∀ d v G' H', J.rt d → Keep G0 G' H0.hp H' → GOk G' H' → Rep K G' H' v d → Z.rt v H') ∧
  (∀ env' G' σ' H', J.bk env' → EnvOk K G0 H0 G' H' σ' env' → Z.bk σ' H') ∧
  (∀ env' G' σ' H', J.ct env' → EnvOk K G0 H0 G' H' σ' env' → Z.ct σ' H') ∧ XOk K E G0 H0.hp J.ex
def PD (X : Cx) (E : XK) (e : Expr) (t : DE) : Prop := PE X e (lift X.K E t)
def PDT (X : Cx) (E : XK) (e : Expr) (t : DT) : Prop := PT X e (liftT X.K E t)
def PDA (X : Cx) (E : XK) (es : List Expr) (t : DA) : Prop := PA X es (liftA X.K E t)
def PDS (X : Cx) (E : XK) (s : Stmt) (t : DS) : Prop := PS X s (liftS X.K E t)
def PDSs (X : Cx) (E : XK) (s : List Stmt) (t : DS) : Prop := PSs X s (liftS X.K E t)
end QD
namespace QD
open PySem PySem.Spec PyProof.Rows L2
section
variable {X : Cx} {E : XK} {a b c : Expr} {ta tb tc : DE} {pos : Pos}

theorem PE.wk {e : Expr} {t t' : TE} (h : PE X e t) (m : ∀ σ H Q, t' σ H Q → t σ H Q) : PE X e t' := ⟨fun pins s σ H Q I hw => h.run pins s σ H Q I (m σ H Q hw)⟩
theorem PT.wk {e : Expr} {t t' : TT} (h : PT X e t) (m : ∀ σ H Q, t' σ H Q → t σ H Q) : PT X e t' := ⟨fun pins s σ H Q I hw => h.run pins s σ H Q I (m σ H Q hw)⟩
theorem PA.wk {e : List Expr} {t t' : TA} (h : PA X e t) (m : ∀ σ H Q, t' σ H Q → t σ H Q) : PA X e t' := ⟨fun pos pins s σ H Q I hw => h.run pos pins s σ H Q I (m σ H Q hw)⟩
theorem PS.wk {e : Stmt} {t t' : TS} (h : PS X e t) (m : ∀ D σ H, t' D σ H → t D σ H) : PS X e t' := ⟨fun pins s σ H Q I hw => h.run pins s σ H Q I (m Q σ H hw)⟩
theorem PSs.wk {e : List Stmt} {t t' : TS} (h : PSs X e t) (m : ∀ D σ H, t' D σ H → t D σ H) : PSs X e t' := ⟨fun pins s σ H Q I hw => h.run pins s σ H Q I (m Q σ H hw)⟩

/-! ### names, constants -/
def dVar (i : Nat) : DE := fun env q _ => match env[i]? with
  | some (.val d) => q (.val d)
  | some (.own ds) => q (.brw ds)
  | some (.sto _ C _ fs ds) => q (.bin C (fs.map (·.1)) ds)
  | _ => False
theorem pd_var (i : Nat) {x : Str} (hN : X.N[i]? = some x := by rfl) (hv : Vis X.env.scope x := by first | exact Or.inl rfl | exact Or.inr (Or.inl rfl) | exact Or.inr (Or.inr rfl)) (hd : (x == ("__debug__" : Str)) = false := by decide)
    (hcd : (x == ("__classdict__" : Str)) = false := by decide) : PD X E (.Name x pos) (dVar i) := by
  refine PE.wk (pv i hN hv hd hcd) ?_
  rintro σ H Q ⟨G0, H0, G, env, q, x, e, h, hq, hx⟩
  unfold dVar at h
  cases hi : env[i]? with
  | none => rw [hi] at h; exact h.elim
  | some ev =>
    rw [hi] at h
    cases ev with
    | no => exact h.elim
    | dic ks ds => exact h.elim
    | val d =>
      obtain ⟨v, e1, r⟩ := e.val i d hi
      exact ⟨v, e1, hq (.val d) v G H h (Keep.refl G H) e.gok r⟩
    | own ds =>
      obtain ⟨p, vs, e1, e2, _, e4, r⟩ := e.own i ds hi
      exact ⟨.ref p, e1, hq (.brw ds) _ G H h (Keep.refl G H) e.gok ⟨p, vs, rfl, e4, by rw [e2]; simp, r⟩⟩
    | sto a C dx fs ds =>
      obtain ⟨e1, e2, _, e4, r⟩ := e.dic.sto i a C dx fs ds hi
      exact ⟨.ref a, e1, hq (.bin C (fs.map (·.1)) ds) _ G H h (Keep.refl G H) e.gok ⟨a, dx, fs, rfl, e4, by rw [e2]; simp, rfl, r⟩⟩
def dC (d : D) : DE := fun _ q _ => q (.val d)
theorem pd_const {v : V} {d : D} (h : PE X a (tC v)) (r : ∀ G H, Rep X.K G H v d) : PD X E a (dC d) := by
  refine PE.wk h ?_
  rintro σ H Q ⟨G0, H0, G, env, q, x, e, h, hq, hx⟩
  exact hq (.val d) v G H h (Keep.refl G H) e.gok (r G H)
theorem pd_int {i : Int} {j} : PD X E (.Constant (.int i) j pos) (dC (.int i)) := pd_const pe_int fun _ _ => .int i
theorem pd_bl {i : Bool} {j} : PD X E (.Constant (.bool i) j pos) (dC (.bl i)) := pd_const pe_bl fun _ _ => .bl i
theorem pd_non {j} : PD X E (.Constant .none j pos) (dC .non) := pd_const pe_non fun _ _ => .non
theorem pd_str {i : Str} {j} : PD X E (.Constant (.str i) j pos) (dC (.str i)) := pd_const pe_str fun _ _ => .str i

/-! ### two places -/
def rD (K : PySem.W.Frag) (f : D → D → Option D) : R2 := fun x y H Q => ∃ G r1 r2 d, GOk G H ∧ RRep K G H x r1 ∧ RRep K G H y r2 ∧ f r1.d r2.d = some d ∧ ∀ v G' H', Keep G G' H H' → GOk G' H' → Rep K G' H' v d → Q v H'
def dOp (f : D → D → Option D) (ta tb : DE) : DE := fun env q x => ta env (fun r1 => tb env (fun r2 => ∃ d, f r1.d r2.d = some d ∧ q (.val d)) x) x
theorem lift_op {f : D → D → Option D} {σ : L2.St} {H : Hp} {Q : VK} (h : lift X.K E (dOp f ta tb) σ H Q) : tOp (rD X.K f) (lift X.K E ta) (lift X.K E tb) σ H Q := by
  obtain ⟨G0, H0, G, env, q, x, e, h, hq, hx⟩ := h
  refine ⟨G0, H0, G, env, _, x, e, h, ?_, hx⟩
  intro r1 v1 G1 H1 q1 k1 g1 rr1
  refine ⟨G0, H0, G1, env, _, x, e.step k1 g1, q1, ?_, hx.keep e.gok k1⟩
  rintro r2 v2 G2 H2 ⟨d, fd, qd⟩ k2 g2 rr2
  exact ⟨G2, r1, r2, d, g2, rr1.keep k2, rr2, fd, fun v G' H' k g rv => hq (.val d) v G' H' qd ((k1.trans e.gok k2).trans e.gok k) g rv⟩
theorem pd_op {op : Operator} {f : D → D → Option D} (ho : OpR X (binaryOp op) (rD X.K f)) (ha : PD X E a ta) (hb : PD X E b tb) : PD X E (.BinOp a op b pos) (dOp f ta tb) :=
  PE.wk (pe_op ho ha hb) fun _ _ _ h => lift_op h
theorem pd_cmp {op : CmpOp} {f : D → D → Option D} (ho : OpR X (compareOp op) (rD X.K f)) (ha : PD X E a ta) (hb : PD X E b tb) (hm : behindInMarks op b = false) : PD X E (.Compare a [op] [b] pos) (dOp f ta tb) :=
  PE.wk (pe_cmpR ho ha hb hm) fun _ _ _ h => lift_op h
def dTest (t : DE) : DT := fun env q x => t env (fun r => ∃ b, r.d = .bl b ∧ q b) x
theorem lift_test {t : DE} {u : TE} {σ : L2.St} {H : Hp} {Q : Bool → Hp → Prop} (hu : ∀ Q', lift X.K E t σ H Q' → u σ H Q') (h : liftT X.K E (dTest t) σ H Q) : tTest u σ H Q := by
  obtain ⟨G0, H0, G, env, q, x, e, h, hq, hx⟩ := h
  refine hu _ ⟨G0, H0, G, env, _, x, e, h, ?_, hx⟩
  rintro r v G' H' ⟨b, eb, qb⟩ k g rr
  exact ⟨b, rr.bl eb, hq b G' H' qb k g⟩
theorem pdt_cmp {op : CmpOp} {f : D → D → Option D} (ho : OpR X (compareOp op) (rD X.K f)) (ha : PD X E a ta) (hb : PD X E b tb) (hm : behindInMarks op b = false) : PDT X E (.Compare a [op] [b] pos) (dTest (dOp f ta tb)) :=
  PT.wk (pt_cmpR ho ha hb hm) fun _ _ _ h => lift_test (fun _ h => lift_op h) h
/-- any expression whose value is a bool, as a test (a name, a call ..) -/
theorem pdt_val (ha : PD X E a ta) (he : ∀ whole, isTrue a X.env whole = (do let v ← whole; standAt a.pos; holding [v] (truthy v)) := by intro _; rfl) : PDT X E a (dTest ta) :=
  PT.wk (pt_val ha he) fun _ _ _ h => lift_test (fun _ h => h) h
/-- a op1 b op2 c -/
def dChain (f f' : D → D → Option D) (ta tb tc : DE) : DE := fun env q x => ta env (fun r1 => tb env (fun r2 => ∃ k, f r1.d r2.d = some (.bl k) ∧
  if k = true then tc env (fun r3 => ∃ d, f' r2.d r3.d = some d ∧ q (.val d)) x else q (.val (.bl false))) x) x
theorem lift_chain {f f' : D → D → Option D} {σ : L2.St} {H : Hp} {Q : VK} (h : lift X.K E (dChain f f' ta tb tc) σ H Q) : tChain (rD X.K f) (rD X.K f') (lift X.K E ta) (lift X.K E tb) (lift X.K E tc) σ H Q := by
  obtain ⟨G0, H0, G, env, q, x, e, h, hq, hx⟩ := h
  refine ⟨G0, H0, G, env, _, x, e, h, ?_, hx⟩
  intro r1 v1 G1 H1 q1 k1 g1 rr1
  refine ⟨G0, H0, G1, env, _, x, e.step k1 g1, q1, ?_, hx.keep e.gok k1⟩
  rintro r2 v2 G2 H2 ⟨k, fd, qd⟩ k2 g2 rr2
  refine ⟨G2, r1, r2, .bl k, g2, rr1.keep k2, rr2, fd, fun v G3 H3 k3 g3 rv => ⟨k, by cases rv; rfl, ?_⟩⟩
  have k13 := (k1.trans e.gok k2).trans e.gok k3
  cases k with
  | false => exact hq _ _ _ _ qd k13 g3 (Rep.bl _)
  | true =>
    refine ⟨G0, H0, G3, env, _, x, e.step k13 g3, qd, ?_, hx.keep e.gok k13⟩
    rintro r4 v4 G4 H4 ⟨d, fd', qd'⟩ k4 g4 rr4
    exact ⟨G4, r2, r4, d, g4, (rr2.keep k3).keep k4, rr4, fd', fun v G' H' k' g' rv' => hq (.val d) v G' H' qd' ((k13.trans e.gok k4).trans e.gok k') g' rv'⟩
theorem pd_chain {op op' : CmpOp} {f f' : D → D → Option D} (ho : OpR X (compareOp op) (rD X.K f)) (ho' : OpR X (compareOp op') (rD X.K f')) (ha : PD X E a ta) (hb : PD X E b tb) (hc : PD X E c tc)
    (hm : lastMarks [op, op'] [b, c] = false := by with_unfolding_all rfl) : PD X E (.Compare a [op, op'] [b, c] pos) (dChain f f' ta tb tc) :=
  PE.wk (pe_chain ho ho' ha hb hc hm) fun _ _ _ h => lift_chain h
theorem pdt_chain {op op' : CmpOp} {f f' : D → D → Option D} (ho : OpR X (compareOp op) (rD X.K f)) (ho' : OpR X (compareOp op') (rD X.K f')) (ha : PD X E a ta) (hb : PD X E b tb) (hc : PD X E c tc)
    (hm : lastMarks [op, op'] [b, c] = false := by with_unfolding_all rfl) : PDT X E (.Compare a [op, op'] [b, c] pos) (dTest (dChain f f' ta tb tc)) :=
  PT.wk (pt_chain ho ho' ha hb hc hm) fun _ _ _ h => lift_test (fun _ h => lift_chain h) h

/-! ### and, or, not, if -/
def dAnd (ta tb : DE) : DE := fun env q x => ta env (fun r => ∃ k, r.d = .bl k ∧ if k = true then tb env q x else q (.val (.bl false))) x
def dOr (ta tb : DE) : DE := fun env q x => ta env (fun r => ∃ k, r.d = .bl k ∧ if k = true then q (.val (.bl true)) else tb env q x) x
def dNot (ta : DE) : DE := fun env q x => ta env (fun r => ∃ k, r.d = .bl k ∧ q (.val (.bl (!k)))) x
variable {rest : List Expr}
theorem pd_one {op} (h : PD X E a ta) : PD X E (.BoolOp op [a] pos) ta := pe_one h
theorem pd_and (ha : PD X E a ta) (hb : PD X E (.BoolOp .And (b :: rest) pos) tb) : PD X E (.BoolOp .And (a :: b :: rest) pos) (dAnd ta tb) := by
  refine PE.wk (pe_and ha hb) ?_
  rintro σ H Q ⟨G0, H0, G, env, q, x, e, h, hq, hx⟩
  refine ⟨G0, H0, G, env, _, x, e, h, ?_, hx⟩
  rintro r v G' H' ⟨k, ek, qk⟩ kk g rr
  refine ⟨k, rr.bl ek, ?_⟩
  cases k with
  | true => exact ⟨G0, H0, G', env, _, x, e.step kk g, qk, fun r2 v2 G2 H2 q2 k2 g2 rr2 => hq r2 v2 G2 H2 q2 (kk.trans e.gok k2) g2 rr2, hx.keep e.gok kk⟩
  | false => exact hq _ _ _ _ qk kk g (Rep.bl _)
theorem pd_not (ha : PD X E a ta) : PD X E (.UnaryOp .Not a pos) (dNot ta) := by
  refine PE.wk (pe_not ha) ?_
  rintro σ H Q ⟨G0, H0, G, env, q, x, e, h, hq, hx⟩
  refine ⟨G0, H0, G, env, _, x, e, h, ?_, hx⟩
  rintro r v G' H' ⟨k, ek, qk⟩ kk g rr
  exact ⟨k, rr.bl ek, hq _ _ _ _ qk kk g (Rep.bl _)⟩
variable {sa sb sc : DT}
def dAndT (ta tb : DT) : DT := fun env q x => ta env (fun k => if k = true then tb env q x else q false) x
def dOrT (ta tb : DT) : DT := fun env q x => ta env (fun k => if k = true then q true else tb env q x) x
def dNotT (ta : DT) : DT := fun env q x => ta env (fun k => q (!k)) x
structure PDW (X : Cx) (E : XK) (e : Expr) (t : DT) : Prop where
  pw : PW X e (liftT X.K E t)
theorem PDW.pt (h : PDW X E a sa) : PDT X E a sa := PW.pt h.pw
theorem PW.wk {e : Expr} {t t' : TT} (h : PW X e t) (m : ∀ σ H Q, t' σ H Q → t σ H Q) : PW X e t' := ⟨fun whole pins s σ H Q I hw => h.run whole pins s σ H Q I (m σ H Q hw)⟩
theorem pdw_and1 (ha : PDT X E a sa) : PDW X E (.BoolOp .And [a] pos) sa := ⟨pw_and1 ha⟩
theorem pdw_or1 (ha : PDT X E a sa) : PDW X E (.BoolOp .Or [a] pos) sa := ⟨pw_or1 ha⟩
theorem pdw_and (ha : PDT X E a sa) (hb : PDW X E (.BoolOp .And (b :: rest) pos) sb) : PDW X E (.BoolOp .And (a :: b :: rest) pos) (dAndT sa sb) := by
  refine ⟨PW.wk (pw_and ha hb.pw) ?_⟩
  rintro σ H Q ⟨G0, H0, G, env, q, x, e, h, hq, hx⟩
  refine ⟨G0, H0, G, env, _, x, e, h, ?_, hx⟩
  rintro k G' H' qk kk g
  cases k with
  | true => exact ⟨G0, H0, G', env, _, x, e.step kk g, qk, fun r2 G2 H2 q2 k2 g2 => hq r2 G2 H2 q2 (kk.trans e.gok k2) g2, hx.keep e.gok kk⟩
  | false => exact hq _ _ _ qk kk g
theorem pdw_or (ha : PDT X E a sa) (hb : PDW X E (.BoolOp .Or (b :: rest) pos) sb) : PDW X E (.BoolOp .Or (a :: b :: rest) pos) (dOrT sa sb) := by
  refine ⟨PW.wk (pw_or ha hb.pw) ?_⟩
  rintro σ H Q ⟨G0, H0, G, env, q, x, e, h, hq, hx⟩
  refine ⟨G0, H0, G, env, _, x, e, h, ?_, hx⟩
  rintro k G' H' qk kk g
  cases k with
  | false => exact ⟨G0, H0, G', env, _, x, e.step kk g, qk, fun r2 G2 H2 q2 k2 g2 => hq r2 G2 H2 q2 (kk.trans e.gok k2) g2, hx.keep e.gok kk⟩
  | true => exact hq _ _ _ qk kk g
theorem pdt_not (ha : PDT X E a sa) : PDT X E (.UnaryOp .Not a pos) (dNotT sa) := by
  refine PT.wk (pt_not ha) ?_
  rintro σ H Q ⟨G0, H0, G, env, q, x, e, h, hq, hx⟩
  exact ⟨G0, H0, G, env, _, x, e, h, fun k G' H' qk kk g => hq _ _ _ qk kk g, hx⟩
def dIf (t : DT) (ta tb : DE) : DE := fun env q x => t env (fun k => if k = true then ta env q x else tb env q x) x
/-! ### arguments, displays -/
variable {es : List Expr} {sA sB : DA}
def dNil : DA := fun _ q _ => q []
def dCons (ta : DE) (tr : DA) : DA := fun env q x => ta env (fun r => tr env (fun rs => q (r :: rs)) x) x
theorem pda_nil : PDA X E [] dNil := by
  refine PA.wk pa_nil ?_
  rintro σ H Q ⟨G0, H0, G, env, q, x, e, h, hq, hx⟩
  exact hq [] [] G H h (Keep.refl G H) e.gok .nil
theorem pda_cons (ha : PD X E a ta) (hr : PDA X E es sA) (hs : starEach (a :: es) X.env = (false, eval a X.env) :: starEach es X.env := by rfl) : PDA X E (a :: es) (dCons ta sA) := by
  refine PA.wk (pa_cons ha hr hs) ?_
  rintro σ H Q ⟨G0, H0, G, env, q, x, e, h, hq, hx⟩
  refine ⟨G0, H0, G, env, _, x, e, h, ?_, hx⟩
  rintro r v G' H' qk kk g rr
  refine ⟨G0, H0, G', env, _, x, e.step kk g, qk, ?_, hx.keep e.gok kk⟩
  rintro rs vs G2 H2 q2 k2 g2 rl
  exact hq _ _ G2 H2 q2 (kk.trans e.gok k2) g2 (.cons (rr.keep k2) rl)
def dTup (ta : DA) : DE := fun env q x => ta env (fun rs => ∃ ds, rs = ds.map R.val ∧ ds.length ≤ 16777216 ∧ q (.val (.tup ds))) x
def dLst (ta : DA) : DE := fun env q x => ta env (fun rs => ∃ ds, rs = ds.map R.val ∧ ds.length ≤ 16777216 ∧ q (.val (.lst ds))) x
theorem RepL.len {K : PySem.W.Frag} {G : Gm} {H : Hp} {vs : List V} {ds : List D} (h : RepL K G H vs ds) (l : ds.length ≤ 16777216) : vs.length ≤ sizeLine := by rw [h.length, sizeLine_eq]; exact l
theorem Rep.newT {K : PySem.W.Frag} {G : Gm} {H : Hp} {vs : List V} {ds : List D} {p : Addr} (g : GOk G H) (n : H p = none) (h : RepL K G H vs ds) : Rep K G (upd H p (.tup vs)) (.ref p) (.tup ds) :=
  .tup (g.fresh n) (.inl upd_same) (RepL.keep (Keep.laid n) h)
theorem Rep.newL {K : PySem.W.Frag} {G : Gm} {H : Hp} {vs : List V} {ds : List D} {p : Addr} (g : GOk G H) (n : H p = none) (h : RepL K G H vs ds) : Rep K G (upd H p (.lst vs)) (.ref p) (.lst ds) :=
  .lst (g.fresh n) upd_same (RepL.keep (Keep.laid n) h)
theorem pd_tup {k : Nat} (h : PDA X E es sA) : PD X E (.Tuple es k pos) (dTup sA) := by
  refine PE.wk (pe_tup h) ?_
  rintro σ H Q ⟨G0, H0, G, env, q, x, e, h, hq, hx⟩
  refine ⟨G0, H0, G, env, _, x, e, h, ?_, hx⟩
  rintro rs vs G' H' ⟨ds, rfl, l, qk⟩ kk g rl
  refine ⟨rl.vals.len l, fun p hp => ?_⟩
  exact hq _ _ G' _ qk (kk.trans e.gok (Keep.laid hp)) (g.laid hp) (Rep.newT g hp rl.vals)
theorem pd_lst (h : PDA X E es sA) : PD X E (.List es pos) (dLst sA) := by
  refine PE.wk (pe_lst h) ?_
  rintro σ H Q ⟨G0, H0, G, env, q, x, e, h, hq, hx⟩
  refine ⟨G0, H0, G, env, _, x, e, h, ?_, hx⟩
  rintro rs vs G' H' ⟨ds, rfl, l, qk⟩ kk g rl
  refine ⟨rl.vals.len l, fun p hp => ?_⟩
  exact hq _ _ G' _ qk (kk.trans e.gok (Keep.laid hp)) (g.laid hp) (Rep.newL g hp rl.vals)
end

/-! ### what a def promises -/
abbrev DF := List D → (D → Prop) → XP → Prop
def spOf (K : PySem.W.Frag) (F : DF) : Sp := fun vs H Q E => ∃ G ds q x, GOk G H ∧ RepL K G H vs ds ∧ F ds q x ∧ (∀ d v G' H', q d → Keep G G' H H' → GOk G' H' → Rep K G' H' v d → Q v H') ∧ XOk K E G H x
def allVal : List R → Bool
  | [] => true
  | .val _ :: r => allVal r
  | _ => false
theorem allVal_map : ∀ {rs : List R}, allVal rs = true → rs = (rs.map R.d).map R.val
  | [], _ => rfl
  | .val d :: r, h => by
    have ih := allVal_map (rs := r) h
    show R.val d :: r = R.val d :: (r.map R.d).map R.val
    rw [← ih]
  | .brw _ :: _, h => by cases h
  | .bin _ _ _ :: _, h => by cases h
def pens (G : Gm) : Gm := fun a => match G a with
  | some .hid => none
  | g => g
theorem pens_le (G : Gm) : GLe (pens G) G := ⟨fun a h => by unfold pens; rw [h], fun a h => by unfold pens; rw [h], fun a K J h => by unfold pens; rw [h]⟩
theorem pens_of {G : Gm} {a : Addr} {x : Gh} (h : pens G a = some x) : G a = some x := by
  unfold pens at h
  split at h
  · cases h
  · exact h
theorem pens_ok {G : Gm} {H : Hp} (g : GOk G H) : GOk (pens G) H := ⟨fun a x h => g.lst a _ (pens_of h), fun a h => g.pen a (pens_of h), fun a K J h => g.memo a K J (pens_of h)⟩
theorem pens_non {G : Gm} {a : Addr} (h : Fix (G a)) : pens G a = none := by
  unfold pens
  cases e : G a with
  | none => rfl
  | some x => cases x with
    | pen => exact absurd e h.pen
    | hid => rfl
    | memo K J => exact absurd e (h.memo K J)
theorem RRepL.pens {K : PySem.W.Frag} {G : Gm} {H : Hp} : ∀ {vs : List V} {rs : List R}, RRepL K G H vs rs → RepL K (pens G) H vs (rs.map R.d)
  | _, _, .nil => .nil
  | _, _, .cons (d := .val d) a b => .cons (Rep.le (pens_le G) a) (RRepL.pens b)
  | _, _, .cons (d := .brw ds) a b => by
    obtain ⟨p, vs, rfl, e, n, l⟩ := a
    exact .cons (.lst (pens_non n) e (RepL.le (pens_le G) l)) (RRepL.pens b)
  | _, _, .cons (d := .bin C ns ds) a b => by
    obtain ⟨p, dx, fs, rfl, e, n, z, l⟩ := a
    exact .cons (.ins (pens_non n) e z (RepL.le (pens_le G) l)) (RRepL.pens b)
/-- the ghosts behind a callee that saw fewer of them -/
def gback (G G1 : Gm) (H : Hp) : Gm := fun a => match H a with
  | some _ => G a
  | none => G1 a
theorem gback_old {G G1 : Gm} {H : Hp} {a : Addr} (h : H a ≠ none) : gback G G1 H a = G a := by
  unfold gback
  cases e : H a with
  | none => exact absurd e h
  | some o => rfl
theorem gback_new {G G1 : Gm} {H : Hp} {a : Addr} (h : H a = none) : gback G G1 H a = G1 a := by unfold gback; rw [h]
theorem keep_back {G G1 : Gm} {H H' : Hp} (k : Keep (pens G) G1 H H') : Keep G (gback G G1 H) H H' :=
  ⟨fun a o e n nt => k.obj a o e (by rw [pens_non n]; simp) nt, fun a e p => k.pen a ((pens_le G).pen a e) p, fun a K J e p => k.memo a K J ((pens_le G).memo a K J e) p, fun a h => gback_old h, k.tab⟩
theorem gok_back {G G1 : Gm} {H H' : Hp} (g : GOk G H) (k : Keep (pens G) G1 H H') (g1 : GOk G1 H') : GOk (gback G G1 H) H' := by
  refine ⟨fun a x e => ?_, fun a e => ?_, fun a K J e => ?_⟩
  · by_cases h : H a = none
    · rw [gback_new h] at e; exact g1.lst a x e
    · rw [gback_old h] at e
      obtain ⟨o, q, m⟩ := g.lst a x e
      rcases fix_cases (G a) with z | ⟨K, J, z⟩ | z
      · obtain ⟨i, j, k', r, _⟩ := k.pen a ((pens_le G).pen a z) (g.pen a z)
        exact ⟨_, r, .inl ⟨_, rfl⟩⟩
      · obtain ⟨kvs, r, _⟩ := k.memo a K J ((pens_le G).memo a K J z) (g.memo a K J z)
        exact ⟨_, r, .inr (.inr ⟨_, rfl⟩)⟩
      · exact ⟨o, k.obj a _ q (by rw [pens_non z]; simp) m.nt, m⟩
  · by_cases h : H a = none
    · rw [gback_new h] at e; exact g1.pen a e
    · rw [gback_old h] at e
      exact k.pen a ((pens_le G).pen a e) (g.pen a e)
  · by_cases h : H a = none
    · rw [gback_new h] at e; exact g1.memo a K J e
    · rw [gback_old h] at e
      exact k.memo a K J ((pens_le G).memo a K J e) (g.memo a K J e)
theorem back_non {G G1 : Gm} {H H' : Hp} (g : GOk G H) (k : Keep (pens G) G1 H H') {a : Addr} (e : G1 a = none) (h : ∀ o, H' a = some o → ¬ MutO o) : gback G G1 H a = none := by
  by_cases z : H a = none
  · rw [gback_new z]; exact e
  · rw [gback_old z]
    cases q : G a with
    | none => rfl
    | some x =>
      obtain ⟨o, r, m⟩ := g.lst a x q
      rcases fix_cases (G a) with y | ⟨K, J, y⟩ | y
      · obtain ⟨i, j, k', r, _⟩ := k.pen a ((pens_le G).pen a y) (g.pen a y)
        exact absurd (.inl ⟨_, rfl⟩) (h _ r)
      · obtain ⟨kvs, r, _⟩ := k.memo a K J ((pens_le G).memo a K J y) (g.memo a K J y)
        exact absurd (.inr (.inr ⟨_, rfl⟩)) (h _ r)
      · exact absurd m (h _ (k.obj a _ r (by rw [pens_non y]; simp) m.nt))
theorem not_mut {o : HO} (h1 : ∀ vs, o ≠ .lst vs) (h2 : ∀ C dx fs, o ≠ .ins C dx fs) (h3 : ∀ kvs, o ≠ .dK kvs) : ¬ MutO o := by
  rintro (⟨vs, e⟩ | ⟨C, dx, fs, e⟩ | ⟨kvs, e⟩)
  · exact h1 _ e
  · exact h2 _ _ _ e
  · exact h3 _ e
mutual
theorem Rep.back {K : PySem.W.Frag} {G G1 : Gm} {H H' : Hp} (g : GOk G H) (k : Keep (pens G) G1 H H') : ∀ {v : V} {d : D}, noLst d = true → Rep K G1 H' v d → Rep K (gback G G1 H) H' v d
  | _, _, _, .non => .non
  | _, _, _, .bl b => .bl b
  | _, _, _, .int i => .int i
  | _, _, _, .str x => .str x
  | _, _, n, .tup e r l => .tup (back_non g k e fun o q => not_mut (fun vs z => by subst z; rcases r with r | ⟨_, r⟩ <;> (rw [r] at q; cases q)) (fun C dx fs z => by subst z; rcases r with r | ⟨_, r⟩ <;> (rw [r] at q; cases q)) (fun kvs z => by subst z; rcases r with r | ⟨_, r⟩ <;> (rw [r] at q; cases q))) r (RepL.back g k (by simpa [noLst] using n) l)
  | _, _, n, .lst e r l => by simp [noLst] at n
  | _, _, n, .scr r l => by simp [noLst] at n
  | _, _, n, .dct e r q l => by simp [noLst] at n
  | _, _, n, .dcl e r => by simp [noLst] at n
  | _, _, n, .tupN e ⟨o, r, z⟩ l => .tupN (back_non g k e fun o q => not_mut (fun vs z => by subst z; rw [r] at q; cases q) (fun C dx fs z => by subst z; rw [r] at q; cases q) (fun kvs z => by subst z; rw [r] at q; cases q)) ⟨o, r, z⟩ (RepL.back g k (by simpa [noLst] using n) l)
  | _, _, n, .ins e r q l => by simp [noLst] at n
  | _, _, _, .knil z => .knil z
  | _, _, n, .pen e p => by simp [noLst] at n
  | _, _, n, .exo0 => by simp [noLst] at n
  | _, _, n, .exo e r m l => by simp [noLst] at n
  | _, _, n, .tab t => by simp [noLst] at n
  | _, _, n, .two _ _ => by simp [noLst] at n
  | _, _, _, .adr => .adr
  | _, _, n, .wo _ _ _ _ => by simp [noLst] at n
  | _, _, n, .memo _ _ => by simp [noLst] at n
theorem RepL.back {K : PySem.W.Frag} {G G1 : Gm} {H H' : Hp} (g : GOk G H) (k : Keep (pens G) G1 H H') : ∀ {vs : List V} {ds : List D}, noLsts ds = true → RepL K G1 H' vs ds → RepL K (gback G G1 H) H' vs ds
  | _, _, _, .nil => .nil
  | _, _, n, .cons a b => by
    simp only [noLsts, Bool.and_eq_true] at n
    exact .cons (Rep.back g k n.1 a) (RepL.back g k n.2 b)
end
/-- a def of the module as one calls it -/
structure CalQ (P : Program) (w : World) (K : PySem.W.Frag) (mg : Str → Option Value) (base : Heap) (CX : CXT) (k : Nat) (x : Str) (sp : Sp) (dvs : List V) : Prop where
  ex : ∃ f fd ps ds, FnOk P w K mg base CX k f fd ps sp ∧ mg x = some (.ref f) ∧ PySem.W.keepIn K (.ref f) = true ∧ Binds K fd ps ds ∧ Vals dvs ds
def dCall (F : DF) (ta : DA) : DE := fun env q x => ta env (fun rs => F (rs.map R.d) (fun d => (allVal rs = true ∨ noLst d = true) ∧ q (.val d)) x) x
section
variable {X : Cx} {E : XK} {a b c : Expr} {ta tb tc : DE} {pos p : Pos} {es : List Expr} {sA : DA}
theorem lift_call {F : DF} {dvs : List V} {σ : L2.St} {H : Hp} {Q : VK} {sp : Sp} (hsp : ∀ vs H Q E, spOf X.K F vs H Q E → sp (vs ++ dvs) H Q E) (h : lift X.K E (dCall F sA) σ H Q) : tCall sp dvs E (liftA X.K E sA) σ H Q := by
  obtain ⟨G0, H0, G, env, q, x, e, h, hq, hx⟩ := h
  refine ⟨G0, H0, G, env, _, x, e, h, ?_, hx⟩
  rintro rs vs G' H' qf kk g rl
  refine hsp _ _ _ _ ?_
  by_cases hv : allVal rs = true
  · have rl' := rl
    rw [allVal_map hv] at rl'
    exact ⟨G', rs.map R.d, _, x, g, rl'.vals, qf, fun d v G2 H2 qd k2 g2 r => hq _ _ G2 H2 qd.2 (kk.trans e.gok k2) g2 r, hx.keep e.gok kk⟩
  · refine ⟨pens G', rs.map R.d, _, x, pens_ok g, rl.pens, qf, fun d v G2 H2 qd k2 g2 r => ?_, ?_⟩
    · rcases qd with ⟨z | z, qd⟩
      · exact absurd z hv
      · exact hq _ _ _ H2 qd (kk.trans e.gok (keep_back k2)) (gok_back g k2 g2) (Rep.back g k2 z r)
    · intro ex G2 H2 xe k2 g2
      have := (hx.keep e.gok kk) ex (gback G' G2 H') H2 xe (keep_back k2) (gok_back g k2 g2)
      exact ⟨this.1, fun fs hf n d vs r q => this.2 fs hf n d vs (RepL.back g k2 n r) q⟩
end
end QD
namespace QD
open PySem PySem.Spec PyProof.Rows L2
section
variable {X : Cx} {E : XK}
theorem OpR.wk {f : Value → Value → Sem Value} {r r' : R2} (h : OpR X f r) (m : ∀ x y H Q, r' x y H Q → r x y H Q) : OpR X f r' :=
  fun pins s σ H x y v u Q I rx ry q => h pins s σ H x y v u Q I rx ry (m x y H Q q)
/-- two ints -/
def iiD (g : Int → Int → Option D) : D → D → Option D
  | .int i, .int j => g i j
  | _, _ => none
theorem iiD_some {g : Int → Int → Option D} {x y d : D} (h : iiD g x y = some d) : ∃ i j, x = .int i ∧ y = .int j ∧ g i j = some d := by
  cases x <;> cases y <;> first | (exact ⟨_, _, rfl, rfl, h⟩) | (simp [iiD] at h)
theorem ok_ii {f : Value → Value → Sem Value} {C : Int → Int → Prop} {g : Int → Int → V} {gd : Int → Int → Option D} (h : OpR X f (rI C g)) (hc : ∀ i j d, gd i j = some d → C i j ∧ ∀ G H, Rep X.K G H (g i j) d) : OpR X f (rD X.K (iiD gd)) := by
  refine OpR.wk h ?_
  rintro x y H Q ⟨G, r1, r2, d, g0, h1, h2, e, q⟩
  obtain ⟨i, j, e1, e2, e3⟩ := iiD_some e
  exact ⟨i, j, h1.int e1, h2.int e2, (hc i j d e3).1, q _ G H (Keep.refl G H) g0 ((hc i j d e3).2 G H)⟩
theorem ok_ii0 {f : Value → Value → Sem Value} {g : Int → Int → V} {gd : Int → Int → Option D} (h : OpR X f (rI0 g)) (hc : ∀ i j d, gd i j = some d → ∀ G H, Rep X.K G H (g i j) d) : OpR X f (rD X.K (iiD gd)) := by
  refine OpR.wk h ?_
  rintro x y H Q ⟨G, r1, r2, d, g0, h1, h2, e, q⟩
  obtain ⟨i, j, e1, e2, e3⟩ := iiD_some e
  exact ⟨i, j, h1.int e1, h2.int e2, q _ G H (Keep.refl G H) g0 (hc i j d e3 G H)⟩
abbrev rInt (i : Int) : Option D := some (.int i)
abbrev rBl (b : Bool) : Option D := some (.bl b)
theorem inj_int {i : Int} {d : D} (h : rInt i = some d) : d = .int i := (Option.some.inj h).symm
theorem inj_bl {i : Bool} {d : D} (h : rBl i = some d) : d = .bl i := (Option.some.inj h).symm
def subD := iiD fun i j => rInt (i - j)
def mulI := iiD fun i j => if (-(2 ^ 64) < i ∧ i < 2 ^ 64) ∨ (-(2 ^ 64) < j ∧ j < 2 ^ 64) then rInt (i * j) else none
def fdivD := iiD fun i j => if 0 < j ∧ j < 1073741824 then rInt (i / j) else none
def modD := iiD fun i j => if 0 < j then rInt (i % j) else none
def powD := iiD fun i j => if 0 ≤ j ∧ j ≤ 1000000 ∧ i.natAbs < 2 ^ 64 then rInt (i ^ j.toNat) else none
def shlD := iiD fun i j => if 0 ≤ j ∧ j ≤ 1000000 ∧ i.natAbs < 2 ^ 64 then rInt (i * 2 ^ j.toNat) else none
def shrD := iiD fun i j => if 0 ≤ j then rInt (i / 2 ^ j.toNat) else none
def andD := iiD fun i j => rInt (Builtin.bitAnd i j)
def orD := iiD fun i j => rInt (Builtin.bitOr i j)
def xorD := iiD fun i j => rInt (Builtin.bitXor i j)
def ltI := iiD fun i j => rBl (decide (i < j))
def leI := iiD fun i j => rBl (decide (i ≤ j))
def gtI := iiD fun i j => rBl (decide (j < i))
def geI := iiD fun i j => rBl (decide (j ≤ i))
theorem ok_sub : OpR X (binaryOp .Sub) (rD X.K subD) := ok_ii0 op_sub fun i j d h G H => by rw [inj_int h]; exact .int _
theorem ok_mulI : OpR X (binaryOp .Mult) (rD X.K mulI) := ok_ii op_mul fun i j d h => by
  by_cases c : (-(2 ^ 64) < i ∧ i < 2 ^ 64) ∨ (-(2 ^ 64) < j ∧ j < 2 ^ 64)
  · rw [if_pos c] at h; exact ⟨c, fun G H => by rw [inj_int h]; exact .int _⟩
  · rw [if_neg c] at h; cases h
theorem ok_fdiv : OpR X (binaryOp .FloorDiv) (rD X.K fdivD) := ok_ii op_fdiv fun i j d h => by
  by_cases c : 0 < j ∧ j < 1073741824
  · rw [if_pos c] at h; exact ⟨c, fun G H => by rw [inj_int h]; exact .int _⟩
  · rw [if_neg c] at h; cases h
theorem ok_mod : OpR X (binaryOp .Mod) (rD X.K modD) := ok_ii op_mod fun i j d h => by
  by_cases c : 0 < j
  · rw [if_pos c] at h; exact ⟨c, fun G H => by rw [inj_int h]; exact .int _⟩
  · rw [if_neg c] at h; cases h
theorem ok_pow : OpR X (binaryOp .Pow) (rD X.K powD) := ok_ii op_pow fun i j d h => by
  by_cases c : 0 ≤ j ∧ j ≤ 1000000 ∧ i.natAbs < 2 ^ 64
  · rw [if_pos c] at h; exact ⟨c, fun G H => by rw [inj_int h]; exact .int _⟩
  · rw [if_neg c] at h; cases h
theorem ok_shl : OpR X (binaryOp .LShift) (rD X.K shlD) := ok_ii op_shl fun i j d h => by
  by_cases c : 0 ≤ j ∧ j ≤ 1000000 ∧ i.natAbs < 2 ^ 64
  · rw [if_pos c] at h; exact ⟨c, fun G H => by rw [inj_int h]; exact .int _⟩
  · rw [if_neg c] at h; cases h
theorem ok_shr : OpR X (binaryOp .RShift) (rD X.K shrD) := ok_ii op_shr fun i j d h => by
  by_cases c : 0 ≤ j
  · rw [if_pos c] at h; exact ⟨c, fun G H => by rw [inj_int h]; exact .int _⟩
  · rw [if_neg c] at h; cases h
theorem ok_band : OpR X (binaryOp .BitAnd) (rD X.K andD) := ok_ii0 op_and fun i j d h G H => by rw [inj_int h]; exact .int _
theorem ok_bor : OpR X (binaryOp .BitOr) (rD X.K orD) := ok_ii0 op_or fun i j d h G H => by rw [inj_int h]; exact .int _
theorem ok_bxor : OpR X (binaryOp .BitXor) (rD X.K xorD) := ok_ii0 op_xor fun i j d h G H => by rw [inj_int h]; exact .int _
theorem ok_lt : OpR X (compareOp .Lt) (rD X.K ltI) := ok_ii0 op_lt fun i j d h G H => by rw [inj_bl h]; exact .bl _
theorem ok_le : OpR X (compareOp .LtE) (rD X.K leI) := ok_ii0 op_le fun i j d h G H => by rw [inj_bl h]; exact .bl _
theorem ok_gt : OpR X (compareOp .Gt) (rD X.K gtI) := ok_ii0 op_gt fun i j d h G H => by rw [inj_bl h]; exact .bl _
theorem ok_ge : OpR X (compareOp .GtE) (rD X.K geI) := ok_ii0 op_ge fun i j d h G H => by rw [inj_bl h]; exact .bl _

/-- + -/
def addD : D → D → Option D
  | .int i, .int j => some (.int (i + j))
  | .str i, .str j => if i.length + j.length ≤ 16777216 then some (.str (i ++ j)) else none
  | .tup xs, .tup ys => if xs.length + ys.length ≤ 16777216 then some (.tup (xs ++ ys)) else none
  | _, _ => none
theorem ok_add : OpR X (binaryOp .Add) (rD X.K addD) := by
  refine OpR.wk ((op_add (X := X)).or ((op_add_str (X := X)).or (op_catA (X := X)))) ?_
  rintro x y H Q ⟨G, r1, r2, d, g0, h1, h2, e, q⟩
  generalize hd1 : r1.d = d1 at e
  generalize hd2 : r2.d = d2 at e
  unfold addD at e
  split at e
  · cases e
    exact .inl ⟨_, _, h1.int hd1, h2.int hd2, q _ G H (Keep.refl G H) g0 (.int _)⟩
  · split at e
    · rename_i l
      cases e
      exact .inr (.inl ⟨_, _, h1.str hd1, h2.str hd2, by rw [sizeLine_eq]; exact l, q _ G H (Keep.refl G H) g0 (.str _)⟩)
    · cases e
  · split at e
    · rename_i xs ys l
      cases e
      obtain ⟨a, vs, e1, s1, l1⟩ := h1.tup hd1
      obtain ⟨b, us, e2, s2, l2⟩ := h2.tup hd2
      refine .inr (.inr ⟨a, b, vs, us, e1, e2, s1, s2, by rw [l1.length, l2.length, sizeLine_eq]; exact l, fun z => ?_, fun _ z => ?_, fun _ _ p hp => ?_⟩)
      · subst z
        cases l1
        cases r2 with
        | brw _ => cases hd2
        | bin _ _ _ => cases hd2
        | val d2 =>
          have : d2 = .tup ys := hd2
          subst this
          subst e2
          exact q _ G H (Keep.refl G H) g0 h2
      · subst z
        cases l2
        cases r1 with
        | brw _ => cases hd1
        | bin _ _ _ => cases hd1
        | val d1 =>
          have : d1 = .tup xs := hd1
          subst this
          subst e1
          rw [List.append_nil] at q
          exact q _ G H (Keep.refl G H) g0 h1
      · exact q _ G _ (Keep.laid hp) (g0.laid hp) (Rep.newT g0 hp (l1.append l2))
    · cases e
  · cases e
/-- list + list -/
def catD : D → D → Option D
  | .lst xs, .lst ys => if xs.length + ys.length ≤ 16777216 then some (.lst (xs ++ ys)) else none
  | _, _ => none

/-! ### ==, != of data -/
mutual
def toPy : D → Option PyData
  | .non => some .none
  | .bl b => some (.bool b)
  | .int i => some (.int i)
  | .str x => some (.str x)
  | .tup xs => (toPys xs).map .tuple
  | .lst xs => (toPys xs).map .list
  | _ => none
def toPys : List D → Option (List PyData)
  | [] => some []
  | x :: xs => match toPy x, toPys xs with
    | some p, some ps => some (p :: ps)
    | _, _ => none
end
theorem toPys_cons {x : D} {xs : List D} {l : List PyData} (h : toPys (x :: xs) = some l) : ∃ p ps, toPy x = some p ∧ toPys xs = some ps ∧ l = p :: ps := by
  unfold toPys at h
  split at h
  · rename_i p ps e1 e2
    exact ⟨p, ps, e1, e2, (Option.some.inj h).symm⟩
  · cases h
mutual
theorem Rep.dp {K : PySem.W.Frag} {G : Gm} {H : Hp} : ∀ {v : V} {d : D}, Rep K G H v d → ∀ {p : PyData}, toPy d = some p → Dp K H v p
  | _, _, .non => fun e => by simp only [toPy, Option.some.injEq] at e; subst e; exact .non
  | _, _, .bl b => fun e => by simp only [toPy, Option.some.injEq] at e; subst e; exact .bl b
  | _, _, .int b => fun e => by simp only [toPy, Option.some.injEq] at e; subst e; exact .int b
  | _, _, .str b => fun e => by simp only [toPy, Option.some.injEq] at e; subst e; exact .str b
  | _, _, .tup _ r l => fun e => by
    simp only [toPy, Option.map_eq_some_iff] at e
    obtain ⟨ps, e1, e2⟩ := e
    subst e2
    exact .tup (.inl r) (RepL.dp l e1)
  | _, _, .lst _ r l => fun e => by
    simp only [toPy, Option.map_eq_some_iff] at e
    obtain ⟨ps, e1, e2⟩ := e
    subst e2
    exact .lst (.inl (.inl r)) (RepL.dp l e1)
  | _, _, .scr _ _ => fun e => by simp [toPy] at e
  | _, _, .dct _ _ _ _ => fun e => by simp [toPy] at e
  | _, _, .dcl _ _ => fun e => by simp [toPy] at e
  | _, _, .ins _ _ _ _ => fun e => by simp [toPy] at e
  | _, _, .pen _ _ => fun e => by simp [toPy] at e
  | _, _, .exo0 => fun e => by simp [toPy] at e
  | _, _, .exo _ _ _ _ => fun e => by simp [toPy] at e
  | _, _, .tab _ => fun e => by simp [toPy] at e
  | _, _, .two _ _ => fun e => by simp [toPy] at e
  | _, _, .tupN _ _ _ => fun e => by simp [toPy] at e
  | _, _, .memo _ _ => fun e => by simp [toPy] at e
  | _, _, .adr => fun e => by simp [toPy] at e
  | _, _, .wo _ _ _ _ => fun e => by simp [toPy] at e
  | _, _, .knil z => fun e => by
    simp only [toPy, toPys, Option.map_some, Option.some.injEq] at e
    subst e
    exact .tup (.inr z) .nil
theorem RepL.dp {K : PySem.W.Frag} {G : Gm} {H : Hp} : ∀ {vs : List V} {ds : List D}, RepL K G H vs ds → ∀ {ps : List PyData}, toPys ds = some ps → DpAll K H vs ps
  | _, _, .nil => fun e => by simp only [toPys, Option.some.injEq] at e; subst e; exact .nil
  | _, _, .cons a b => fun e => by
    obtain ⟨p, ps, e1, e2, e3⟩ := toPys_cons e
    subst e3
    exact .cons (Rep.dp a e1) (RepL.dp b e2)
end
theorem RRep.dp {K : PySem.W.Frag} {G : Gm} {H : Hp} {v : V} {r : R} {p : PyData} (h : RRep K G H v r) (e : toPy r.d = some p) : Dp K H v p := by
  cases r with
  | val d => exact Rep.dp h e
  | brw ds =>
    obtain ⟨a, vs, rfl, q, _, l⟩ := h
    simp only [R.d, toPy, Option.map_eq_some_iff] at e
    obtain ⟨ps, e1, e2⟩ := e
    subst e2
    exact .lst (.inl (.inl q)) (RepL.dp l e1)
  | bin C ns ds => simp [R.d, toPy] at e
def eqB (x y : D) : Option Bool := match toPy x, toPy y with
  | some p, some q => if (SeqAt.shaped p && SeqAt.shaped q) = true then some (PyData.eqv p q) else none
  | _, _ => none
theorem eqB_some {x y : D} {b : Bool} (h : eqB x y = some b) : ∃ p q, toPy x = some p ∧ toPy y = some q ∧ SeqAt.shaped p = true ∧ SeqAt.shaped q = true ∧ b = PyData.eqv p q := by
  unfold eqB at h
  split at h
  · rename_i p q e1 e2
    split at h
    · rename_i z
      rw [Bool.and_eq_true] at z
      exact ⟨p, q, e1, e2, z.1, z.2, (Option.some.inj h).symm⟩
    · cases h
  · cases h
def eqD (x y : D) : Option D := (eqB x y).map .bl
def neD (x y : D) : Option D := (eqB x y).map fun b => .bl (!b)
theorem ok_eq (hu : X.A.units + 64 < cLine) : OpR X (compareOp .Eq) (rD X.K eqD) := by
  refine OpR.wk (op_eqD hu) ?_
  rintro x y H Q ⟨G, r1, r2, d, g0, h1, h2, e, q⟩
  obtain ⟨b, e1, e2⟩ := Option.map_eq_some_iff.mp e
  subst e2
  obtain ⟨p, p', a1, a2, a3, a4, rfl⟩ := eqB_some e1
  exact ⟨p, p', h1.dp a1, h2.dp a2, a3, a4, q _ G H (Keep.refl G H) g0 (.bl _)⟩
theorem ok_ne (hu : X.A.units + 64 < cLine) : OpR X (compareOp .NotEq) (rD X.K neD) := by
  refine OpR.wk (op_neD hu) ?_
  rintro x y H Q ⟨G, r1, r2, d, g0, h1, h2, e, q⟩
  obtain ⟨b, e1, e2⟩ := Option.map_eq_some_iff.mp e
  subst e2
  obtain ⟨p, p', a1, a2, a3, a4, rfl⟩ := eqB_some e1
  exact ⟨p, p', h1.dp a1, h2.dp a2, a3, a4, q _ G H (Keep.refl G H) g0 (.bl _)⟩
/-- is None -/
def isNon : D → Bool
  | .non => true
  | .wo _ _ _ _ _ d => isNon d
  | _ => false
def isND (x y : D) : Option D := if isNon y then some (.bl (isNon x)) else none
def isNotND (x y : D) : Option D := if isNon y then some (.bl (!isNon x)) else none
theorem Rep.non_ {K : PySem.W.Frag} {G : Gm} {H : Hp} : ∀ (d : D) {v : V}, Rep K G H v d → decide (v = .non) = isNon d
  | .wo _ _ _ _ _ d, _, h => by
    cases h with
    | wo _ _ _ h => exact Rep.non_ d h
  | .non, _, h => by cases h; rfl
  | .bl _, _, h => by cases h; simp [isNon]
  | .int _, _, h => by cases h; simp [isNon]
  | .str _, _, h => by cases h; simp [isNon]
  | .tup _, _, h => by cases h <;> simp [isNon]
  | .lst _, _, h => by cases h; simp [isNon]
  | .scr _, _, h => by cases h; simp [isNon]
  | .dct _ _, _, h => by cases h; simp [isNon]
  | .dcl _ _, _, h => by cases h; simp [isNon]
  | .ins _ _ _, _, h => by cases h; simp [isNon]
  | .pen, _, h => by cases h; simp [isNon]
  | .exo _ _ _ _, _, h => by cases h <;> simp [isNon]
  | .tab _ _, _, h => by cases h; simp [isNon]
  | .two _ _ _ _, _, h => by cases h; simp [isNon]
  | .memo _, _, h => by cases h; simp [isNon]
  | .tupN _, _, h => by cases h; simp [isNon]
  | .adr _, _, h => by cases h; simp [isNon]
theorem RRep.non {K : PySem.W.Frag} {G : Gm} {H : Hp} {v : V} {r : R} (h : RRep K G H v r) : decide (v = .non) = isNon r.d := by
  cases r with
  | val d => exact Rep.non_ d h
  | brw ds => obtain ⟨a, vs, rfl, _⟩ := h; simp [R.d, isNon]
  | bin C ns ds => obtain ⟨a, dx, fs, rfl, _⟩ := h; simp [R.d, isNon]
theorem isNon_eq {K : PySem.W.Frag} {G : Gm} {H : Hp} {v : V} {r : R} (h : RRep K G H v r) (e : isNon r.d = true) : v = .non := of_decide_eq_true (h.non.trans e)
theorem ok_isN : OpR X (compareOp .Is) (rD X.K isND) := by
  refine OpR.wk op_isN ?_
  rintro x y H Q ⟨G, r1, r2, d, g0, h1, h2, e, q⟩
  unfold isND at e
  split at e
  · rename_i z
    cases e
    exact ⟨isNon_eq h2 z, by rw [h1.non]; exact q _ G H (Keep.refl G H) g0 (.bl _)⟩
  · cases e
theorem ok_isNotN : OpR X (compareOp .IsNot) (rD X.K isNotND) := by
  refine OpR.wk op_notN ?_
  rintro x y H Q ⟨G, r1, r2, d, g0, h1, h2, e, q⟩
  unfold isNotND at e
  split at e
  · rename_i z
    cases e
    exact ⟨isNon_eq h2 z, by rw [h1.non]; exact q _ G H (Keep.refl G H) g0 (.bl _)⟩
  · cases e
end
end QD
namespace QD
open PySem PySem.Spec PyProof.Rows L2
section
variable {X : Cx} {E : XK}
/-! ### in, not in -/
def inB (x y : D) : Option Bool := match toPy x, toPy y with
  | some d, some (.list xs) => if (SeqAt.shaped d && PyData.canLayAll0 xs) = true then some (xs.any fun y => PyData.eqv y d) else none
  | some d, some (.tuple xs) => if (SeqAt.shaped d && PyData.canLayAll0 xs) = true then some (xs.any fun y => PyData.eqv y d) else none
  | _, _ => none
theorem inB_some {x y : D} {b : Bool} (h : inB x y = some b) : ∃ d xs, toPy x = some d ∧ (toPy y = some (.list xs) ∨ toPy y = some (.tuple xs)) ∧ SeqAt.shaped d = true ∧ PyData.canLayAll0 xs = true ∧ b = xs.any fun y => PyData.eqv y d := by
  unfold inB at h
  split at h
  · rename_i d xs e1 e2
    split at h
    · rename_i z
      rw [Bool.and_eq_true] at z
      exact ⟨d, xs, e1, .inl e2, z.1, z.2, (Option.some.inj h).symm⟩
    · cases h
  · rename_i d xs e1 e2
    split at h
    · rename_i z
      rw [Bool.and_eq_true] at z
      exact ⟨d, xs, e1, .inr e2, z.1, z.2, (Option.some.inj h).symm⟩
    · cases h
  · cases h
def inD (x y : D) : Option D := (inB x y).map .bl
def notInD (x y : D) : Option D := (inB x y).map fun b => .bl (!b)
theorem in_room {A : Around} {d : PyData} {xs : List PyData} (hu : A.units + 65 < cLine) (h : SeqAt.shaped d = true) : A.units + 1 + min (PyData.depthAll xs) d.depth < cLine := by
  have h1 := SeqAt.depth_of_shaped h
  have h2 : min (PyData.depthAll xs) d.depth ≤ d.depth := Nat.min_le_right _ _
  omega
theorem ok_in (hu : X.A.units + 65 < cLine) : OpR X (compareOp .In) (rD X.K inD) := by
  rintro pins s σ H x y v u Q I rx ry ⟨G, r1, r2, d, g0, h1, h2, e, q⟩
  obtain ⟨b, e1, e2⟩ := Option.map_eq_some_iff.mp e
  subst e2
  obtain ⟨p, xs, a1, a2, a3, a4, rfl⟩ := inB_some e1
  obtain ⟨as, rd⟩ := Dp.reads I p x v (h1.dp a1) rx
  have fin : EP X pins σ Q (.bool (xs.any fun y => PyData.eqv y p)) s := ⟨.bl _, H, I, rfl, q _ G H (Keep.refl G H) g0 (.bl _)⟩
  rcases a2 with a2 | a2
  · obtain ⟨bs, re⟩ := Dp.reads I _ y u (h2.dp a2) ry
    exact SeqAt.in_list_reads re rd a4 (SeqAt.canLay_of_shaped a3) (in_room hu a3) fin
  · obtain ⟨bs, re⟩ := Dp.reads I _ y u (h2.dp a2) ry
    exact SeqAt.in_tuple_reads re rd a4 (SeqAt.canLay_of_shaped a3) (in_room hu a3) fin
theorem ok_notIn (hu : X.A.units + 65 < cLine) : OpR X (compareOp .NotIn) (rD X.K notInD) := by
  rintro pins s σ H x y v u Q I rx ry ⟨G, r1, r2, d, g0, h1, h2, e, q⟩
  obtain ⟨b, e1, e2⟩ := Option.map_eq_some_iff.mp e
  subst e2
  obtain ⟨p, xs, a1, a2, a3, a4, rfl⟩ := inB_some e1
  obtain ⟨as, rd⟩ := Dp.reads I p x v (h1.dp a1) rx
  have fin : EP X pins σ Q (.bool (!xs.any fun y => PyData.eqv y p)) s := ⟨.bl _, H, I, rfl, q _ G H (Keep.refl G H) g0 (.bl _)⟩
  rcases a2 with a2 | a2
  · obtain ⟨bs, re⟩ := Dp.reads I _ y u (h2.dp a2) ry
    exact SeqAt.notIn_list_reads re rd a4 (SeqAt.canLay_of_shaped a3) (in_room hu a3) fin
  · obtain ⟨bs, re⟩ := Dp.reads I _ y u (h2.dp a2) ry
    exact SeqAt.notIn_tuple_reads re rd a4 (SeqAt.canLay_of_shaped a3) (in_room hu a3) fin

/-! ### built-in calls -/
def rC (K : PySem.W.Frag) (f : List D → Option D) : List V → Hp → VK → Prop := fun xs H Q => ∃ G rs d, GOk G H ∧ RRepL K G H xs rs ∧ f (rs.map R.d) = some d ∧ ∀ v G' H', Keep G G' H H' → GOk G' H' → Rep K G' H' v d → Q v H'
def dBlt (f : List D → Option D) (ta : DA) : DE := fun env q x => ta env (fun rs => ∃ d, f (rs.map R.d) = some d ∧ q (.val d)) x
variable {a : Expr} {es : List Expr} {sA : DA} {pos p : Pos} {x : Str}
theorem lift_blt {f : List D → Option D} {σ : L2.St} {H : Hp} {Q : VK} (h : lift X.K E (dBlt f sA) σ H Q) : tCB (rC X.K f) (liftA X.K E sA) σ H Q := by
  obtain ⟨G0, H0, G, env, q, x, e, h, hq, hx⟩ := h
  refine ⟨G0, H0, G, env, _, x, e, h, ?_, hx⟩
  rintro rs vs G' H' ⟨d, fd, qd⟩ kk g rl
  exact ⟨G', rs, d, g, rl, fd, fun v G2 H2 k2 g2 r => hq _ _ G2 H2 qd (kk.trans e.gok k2) g2 r⟩
theorem pd_blt {id : String} {f : List D → Option D} (hc : CallR X (.builtin id) (rC X.K f)) (hm : X.mg x = none) (hv : bootBuiltins x = some (.builtin id)) (ha : PDA X E (a :: es) sA) (hg : Gl X x := by rfl) (hn : x ≠ "__name__" := by decide) (hdb : (x == ("__debug__" : Str)) = false := by decide)
    (he : starEach (a :: es) X.env = (false, eval a X.env) :: starEach es X.env := by rfl) (hpl : (backTo pos (starEach es X.env)).any (·.1) = false := by rfl) : PD X E (.Call (.Name x p) (a :: es) [] pos) (dBlt f sA) :=
  PE.wk (pe_callB hc hg hm hv ha hn hdb he hpl) fun _ _ _ h => lift_blt h
theorem pd_bty {id : String} {f : List D → Option D} (hc : CallR X (.type id) (rC X.K f)) (hm : X.mg x = none) (hv : bootBuiltins x = some (.type id)) (ha : PDA X E (a :: es) sA) (hg : Gl X x := by rfl) (hn : x ≠ "__name__" := by decide) (hdb : (x == ("__debug__" : Str)) = false := by decide)
    (he : starEach (a :: es) X.env = (false, eval a X.env) :: starEach es X.env := by rfl) (hpl : (backTo pos (starEach es X.env)).any (·.1) = false := by rfl) : PD X E (.Call (.Name x p) (a :: es) [] pos) (dBlt f sA) :=
  PE.wk (pe_callTy hc hg hm hv ha hn hdb he hpl) fun _ _ _ h => lift_blt h
theorem CallR.wk {f : Value} {r r' : List V → Hp → VK → Prop} (h : CallR X f r) (m : ∀ xs H Q, r' xs H Q → r xs H Q) : CallR X f r' := fun pins s σ H xs us Q I rv q => h pins s σ H xs us Q I rv (m xs H Q q)
theorem one_rep {K : PySem.W.Frag} {G : Gm} {H : Hp} {vs : List V} {rs : List R} {d : D} (h : RRepL K G H vs rs) (e : rs.map R.d = [d]) : ∃ v r, vs = [v] ∧ rs = [r] ∧ r.d = d ∧ RRep K G H v r := by
  cases h with
  | nil => cases e
  | cons h1 h2 =>
    cases h2 with
    | nil => exact ⟨_, _, rfl, rfl, by simpa using e, h1⟩
    | cons _ _ => simp at e
theorem two_rep {K : PySem.W.Frag} {G : Gm} {H : Hp} {vs : List V} {rs : List R} {d d2 : D} (h : RRepL K G H vs rs) (e : rs.map R.d = [d, d2]) : ∃ v r v2 r2, vs = [v, v2] ∧ rs = [r, r2] ∧ r.d = d ∧ r2.d = d2 ∧ RRep K G H v r ∧ RRep K G H v2 r2 := by
  cases h with
  | nil => cases e
  | cons h1 h2 =>
    cases h2 with
    | nil => cases e
    | cons h3 h4 =>
      cases h4 with
      | nil => simp at e; exact ⟨_, _, _, _, rfl, rfl, e.1, e.2, h1, h3⟩
      | cons _ _ => simp at e
/-- a list's or tuple's items -/
def seqOf : D → Option (List D)
  | .tup xs => some xs
  | .lst xs => some xs
  | .scr xs => some xs
  | _ => none
theorem seq_rep {K : PySem.W.Frag} {G : Gm} {H : Hp} {v : V} {r : R} {ds : List D} (h : RRep K G H v r) (e : seqOf r.d = some ds) : ∃ a vs, v = .ref a ∧ ((SqL K H a vs ∧ (r.d = .lst ds ∨ r.d = .scr ds)) ∨ (SqT K H a vs ∧ r.d = .tup ds)) ∧ RepL K G H vs ds := by
  unfold seqOf at e
  split at e
  · rename_i z
    cases e
    obtain ⟨a, vs, h1, h2, h3⟩ := h.tup z
    exact ⟨a, vs, h1, .inr ⟨h2, z⟩, h3⟩
  · rename_i z
    cases e
    obtain ⟨a, vs, h1, h2, _, h3⟩ := h.lst z
    exact ⟨a, vs, h1, .inl ⟨.inl (.inl h2), .inl z⟩, h3⟩
  · rename_i z
    cases e
    obtain ⟨a, vs, h1, h2, h3⟩ := h.scr z
    exact ⟨a, vs, h1, .inl ⟨h2, .inr z⟩, h3⟩
  · cases e
def lenF : List D → Option D
  | [.str z] => if z.length ≤ 16777216 then some (.int z.length) else none
  | [d] => (seqOf d).map fun xs => .int xs.length
  | _ => none
theorem ok_len : CallR X (.builtin "len") (rC X.K lenF) := by
  refine CallR.wk ((call_len_seq (X := X)).or (call_len_str (X := X))) ?_
  rintro xs H Q ⟨G, rs, d, g0, rl, e, q⟩
  generalize hd : rs.map R.d = l at e
  unfold lenF at e
  split at e
  · obtain ⟨v, r, rfl, rfl, e1, rr⟩ := one_rep rl hd
    split at e
    · rename_i z
      cases e
      exact .inr ⟨_, by rw [rr.str e1], by rw [sizeLine_eq]; exact z, q _ G H (Keep.refl G H) g0 (.int _)⟩
    · cases e
  · obtain ⟨ds, e1, e2⟩ := Option.map_eq_some_iff.mp e
    subst e2
    obtain ⟨v, r, rfl, rfl, e3, rr⟩ := one_rep rl hd
    rw [← e3] at e1
    obtain ⟨a, vs, rfl, h, l⟩ := seq_rep rr e1
    refine .inl ⟨a, vs, rfl, h.imp (·.1) (·.1), ?_⟩
    rw [l.length]
    exact q _ G H (Keep.refl G H) g0 (.int _)
  · cases e
def intF : List D → Option D
  | [.int i] => some (.int i)
  | [.bl b] => some (.int (if b then 1 else 0))
  | _ => none
theorem ok_int : CallR X (.type "int") (rC X.K intF) := by
  refine CallR.wk (call_int1 (X := X)) ?_
  rintro xs H Q ⟨G, rs, d, g0, rl, e, q⟩
  generalize hd : rs.map R.d = l at e
  unfold intF at e
  split at e
  · cases e
    obtain ⟨v, r, rfl, rfl, e1, rr⟩ := one_rep rl hd
    exact .inl ⟨_, by rw [rr.int e1], q _ G H (Keep.refl G H) g0 (.int _)⟩
  · cases e
    obtain ⟨v, r, rfl, rfl, e1, rr⟩ := one_rep rl hd
    exact .inr ⟨_, by rw [rr.bl e1], q _ G H (Keep.refl G H) g0 (.int _)⟩
  · cases e
def max2F : List D → Option D
  | [.int i, .int j] => some (.int (if j > i then j else i))
  | _ => none
theorem ok_max2 (hc : X.calm = true) : CallR X (.builtin "max") (rC X.K max2F) := by
  refine CallR.wk (call_max2 hc) ?_
  rintro xs H Q ⟨G, rs, d, g0, rl, e, q⟩
  generalize hd : rs.map R.d = l at e
  unfold max2F at e
  split at e
  · cases e
    obtain ⟨v, r, v2, r2, rfl, rfl, e1, e2, rr, rr2⟩ := two_rep rl hd
    exact ⟨_, _, by rw [rr.int e1, rr2.int e2], q _ G H (Keep.refl G H) g0 (.int _)⟩
  · cases e
def tupF : List D → Option D
  | [d] => (seqOf d).map .tup
  | _ => none
theorem ok_tuple : CallR X (.type "tuple") (rC X.K tupF) := by
  refine CallR.wk (call_tuple_of (X := X)) ?_
  rintro xs H Q ⟨G, rs, d, g0, rl, e, q⟩
  generalize hd : rs.map R.d = l at e
  unfold tupF at e
  split at e
  · obtain ⟨ds, e1, e2⟩ := Option.map_eq_some_iff.mp e
    subst e2
    obtain ⟨v, r, rfl, rfl, e3, rr⟩ := one_rep rl hd
    rw [← e3] at e1
    obtain ⟨a, vs, rfl, h, l⟩ := seq_rep rr e1
    refine ⟨a, vs, rfl, ?_⟩
    rcases h with ⟨h, _⟩ | ⟨h, z⟩
    · exact .inl ⟨h, fun p hp => q _ G _ (Keep.laid hp) (g0.laid hp) (Rep.newT g0 hp l)⟩
    · refine .inr ⟨h, ?_⟩
      cases r with
      | brw _ => cases z
      | bin _ _ _ => cases z
      | val d =>
        have : d = .tup ds := z
        subst this
        exact q _ G H (Keep.refl G H) g0 rr
  · cases e
def lstF : List D → Option D
  | [d] => (seqOf d).map .lst
  | _ => none
theorem ok_list : CallR X (.type "list") (rC X.K lstF) := by
  refine CallR.wk (call_list_of (X := X)) ?_
  rintro xs H Q ⟨G, rs, d, g0, rl, e, q⟩
  generalize hd : rs.map R.d = l at e
  unfold lstF at e
  split at e
  · obtain ⟨ds, e1, e2⟩ := Option.map_eq_some_iff.mp e
    subst e2
    obtain ⟨v, r, rfl, rfl, e3, rr⟩ := one_rep rl hd
    rw [← e3] at e1
    obtain ⟨a, vs, rfl, h, l⟩ := seq_rep rr e1
    exact ⟨a, vs, rfl, h.imp (·.1) (·.1), fun p hp => q _ G _ (Keep.laid hp) (g0.laid hp) (Rep.newL g0 hp l)⟩
  · cases e
/-- the ints, bools of a list -/
def intsOf : List D → Option (List Int)
  | [] => some []
  | .int i :: r => (intsOf r).map (i :: ·)
  | _ => none
def blsOf : List D → Option (List Bool)
  | [] => some []
  | .bl i :: r => (blsOf r).map (i :: ·)
  | _ => none
theorem ints_rep {K : PySem.W.Frag} {G : Gm} {H : Hp} : ∀ {vs : List V} {ds : List D} {ns : List Int}, RepL K G H vs ds → intsOf ds = some ns → vs = ns.map V.int
  | _, _, _, .nil, e => by simp [intsOf] at e; subst e; rfl
  | _, _, _, .cons (d := d) a b, e => by
    cases d <;> simp only [intsOf, Option.map_eq_some_iff, reduceCtorEq] at e
    obtain ⟨r, e1, e2⟩ := e
    subst e2
    cases a
    rw [ints_rep b e1]; rfl
theorem bls_rep {K : PySem.W.Frag} {G : Gm} {H : Hp} : ∀ {vs : List V} {ds : List D} {ns : List Bool}, RepL K G H vs ds → blsOf ds = some ns → vs = ns.map V.bl
  | _, _, _, .nil, e => by simp [blsOf] at e; subst e; rfl
  | _, _, _, .cons (d := d) a b, e => by
    cases d <;> simp only [blsOf, Option.map_eq_some_iff, reduceCtorEq] at e
    obtain ⟨r, e1, e2⟩ := e
    subst e2
    cases a
    rw [bls_rep b e1]; rfl
theorem rep_ints {K : PySem.W.Frag} {G : Gm} {H : Hp} : ∀ ns : List Int, RepL K G H (ns.map V.int) (ns.map D.int)
  | [] => .nil
  | n :: r => .cons (.int n) (rep_ints r)
def sortI (ns : List Int) : List Int := ns.mergeSort fun a b => decide (a ≤ b)
theorem sortI_perm (ns : List Int) : (sortI ns).Perm ns := List.mergeSort_perm _ _
theorem sortI_sorted (ns : List Int) : (sortI ns).Pairwise (· ≤ ·) := by
  have h := List.pairwise_mergeSort (le := fun a b : Int => decide (a ≤ b)) (fun a b c h1 h2 => by simp at *; omega) (fun a b => by simp; omega) ns
  exact h.imp fun z => of_decide_eq_true z
def sortedF : List D → Option D
  | [.lst ds] => match intsOf ds with
    | some ns => if ns.length < 64 then some (.lst ((sortI ns).map .int)) else none
    | none => none
  | _ => none
theorem ok_sorted : CallR X (.builtin "sorted") (rC X.K sortedF) := by
  refine CallR.wk (cr_sorted (X := X)) ?_
  rintro xs H Q ⟨G, rs, d, g0, rl, e, q⟩
  generalize hd : rs.map R.d = l at e
  unfold sortedF at e
  split at e
  · split at e
    · rename_i ns hn
      split at e
      · rename_i l64
        cases e
        obtain ⟨v, r, rfl, rfl, e1, rr⟩ := one_rep rl hd
        obtain ⟨a, vs, rfl, h, _, l⟩ := rr.lst e1
        refine ⟨a, ns, rfl, by rw [← ints_rep l hn]; exact .inl (.inl h), l64, fun ns' p hp hs hn' => ?_⟩
        have : ns' = sortI ns := PySem.W.ksm_same (hp.trans (sortI_perm ns).symm) hs (sortI_sorted ns)
        subst this
        exact q _ G _ (Keep.laid hn') (g0.laid hn') (Rep.newL g0 hn' (rep_ints _))
      · cases e
    · cases e
  · cases e
def allF : List D → Option D
  | [.lst ds] => (blsOf ds).map fun ns => .bl (ns.all id)
  | _ => none
theorem ok_all (hc : X.calm = true) : CallR X (.builtin "all") (rC X.K allF) := by
  refine CallR.wk (cr_all hc) ?_
  rintro xs H Q ⟨G, rs, d, g0, rl, e, q⟩
  generalize hd : rs.map R.d = l at e
  unfold allF at e
  split at e
  · obtain ⟨ns, hn, e2⟩ := Option.map_eq_some_iff.mp e
    subst e2
    obtain ⟨v, r, rfl, rfl, e1, rr⟩ := one_rep rl hd
    obtain ⟨a, vs, rfl, h, _, l⟩ := rr.lst e1
    exact ⟨a, ns, rfl, by rw [← bls_rep l hn]; exact .inl (.inl h), q _ G H (Keep.refl G H) g0 (.bl _)⟩
  · cases e
def anyF : List D → Option D
  | [.lst ds] => (blsOf ds).map fun ns => .bl (ns.any id)
  | _ => none
theorem ok_any (hc : X.calm = true) : CallR X (.builtin "any") (rC X.K anyF) := by
  refine CallR.wk (cr_any hc) ?_
  rintro xs H Q ⟨G, rs, d, g0, rl, e, q⟩
  generalize hd : rs.map R.d = l at e
  unfold anyF at e
  split at e
  · obtain ⟨ns, hn, e2⟩ := Option.map_eq_some_iff.mp e
    subst e2
    obtain ⟨v, r, rfl, rfl, e1, rr⟩ := one_rep rl hd
    obtain ⟨a, vs, rfl, h, _, l⟩ := rr.lst e1
    exact ⟨a, ns, rfl, by rw [← bls_rep l hn]; exact .inl (.inl h), q _ G H (Keep.refl G H) g0 (.bl _)⟩
  · cases e
/-- repr of data -/
def reprF : List D → Option D
  | [d] => match toPy d with
    | some p => if (p.showable && SeqAt.shaped p && decide (p.shown.length ≤ 16777216)) = true then some (.str p.shown) else none
    | none => none
  | _ => none
theorem ok_repr (hgd : X.A.guards = some []) (hu : X.A.units + 65 < cLine) : CallR X (.builtin "repr") (rC X.K reprF) := by
  rintro pins s σ H xs us Q I rv ⟨G, rs, d, g0, rl, e, q⟩
  generalize hd : rs.map R.d = l at e
  unfold reprF at e
  split at e
  · rename_i d0
    split at e
    · rename_i p hp
      split at e
      · rename_i z
        cases e
        simp only [Bool.and_eq_true, decide_eq_true_eq] at z
        obtain ⟨⟨z1, z2⟩, z3⟩ := z
        obtain ⟨v, r, rfl, rfl, e1, rr⟩ := one_rep rl hd
        obtain ⟨u, rfl, ru⟩ := vals1 rv
        have hdp := rr.dp (by rw [e1]; exact hp)
        obtain ⟨as, rd⟩ := Dp.reads I p v u hdp ru
        have hz : p.shown.length ≤ sizeLine := by rw [sizeLine_eq]; exact z3
        have fin : ∀ h' tk, (∀ b o, s.heap.get? b = some o → h'.get? b = some o) → EP X pins σ Q (.str p.shown tk) { s with heap := h', toks := tk + 1 } := fun h' tk k => ⟨.str p.shown, H, I.kept k, ⟨_, rfl⟩, q _ G H (Keep.refl G H) g0 (.str _)⟩
        cases v with
        | ref a =>
          cases ru
          refine repr_of_reads' (h₀ := s.heap) rd z1 (fun hx => ?_) hgd (by have := SeqAt.depth_of_shaped z2; omega) (fun _ _ k => k) (fun h' t tk k => ?_) hz
          · rw [PyData.hasDict_of_canLay p (SeqAt.canLay_of_shaped z2)] at hx; cases hx
          · exact ⟨.str p.shown, H, I.kept k, ⟨_, rfl⟩, q _ G H (Keep.refl G H) g0 (.str _)⟩
        | non =>
          cases ru; cases hdp
          exact PySem.P.repr_of_none (fin s.heap s.toks fun _ _ k => k)
        | bl b =>
          cases ru; cases hdp
          exact PySem.P.repr_of_bool (fin s.heap s.toks fun _ _ k => k)
        | int i =>
          obtain ⟨t, rfl⟩ := ru
          cases hdp
          exact PySem.P.repr_of_int (by simpa [PyData.showable] using z1) (fin s.heap s.toks fun _ _ k => k)
        | str y =>
          obtain ⟨t, rfl⟩ := ru
          cases hdp
          exact PySem.P.repr_of_str (fin s.heap s.toks fun _ _ k => k) hz
        | byt b => cases hdp
        | flt b => cases hdp
        | ty n => cases hdp
      · cases e
    · cases e
  · cases e

/-! ### isinstance of a built-in class -/
def isiD (d : D) (T : String) : Option Bool := match d with
  | .non => kitB "NoneType" T
  | .bl _ => kitB "bool" T
  | .int _ => kitB "int" T
  | .str _ => kitB "str" T
  | .tup _ => kitB "tuple" T
  | .lst _ => kitB "list" T
  | .dct _ _ => kitB "dict" T
  | _ => none
theorem TyX.of {K : PySem.W.Frag} {G : Gm} {H : Hp} {v : V} {r : R} {T : String} {b : Bool} (h : RRep K G H v r) (e : isiD r.d T = some b) : ∃ t, TyX K H v (.type t) ∧ kitB t T = some b := by
  cases r with
  | brw ds =>
    obtain ⟨a, vs, rfl, q, _, l⟩ := h
    exact ⟨_, .base (.lst q), e⟩
  | bin _ _ _ => cases e
  | val d =>
    cases h with
    | non => exact ⟨_, .base .non, e⟩
    | bl b => exact ⟨_, .base (.bl b), e⟩
    | int b => exact ⟨_, .base (.int b), e⟩
    | str b => exact ⟨_, .base (.str b), e⟩
    | tup _ r l =>
      rcases r with r | ⟨o, r⟩
      · exact ⟨_, .base (.tup r), e⟩
      · exact ⟨_, .fTuple r, e⟩
    | lst _ r l => exact ⟨_, .base (.lst r), e⟩
    | scr r l => cases e
    | dct _ r _ l =>
      rcases r with r | ⟨o, r⟩
      · exact ⟨_, .base (.dK r), e⟩
      · exact ⟨_, .fDict r, e⟩
    | dcl _ r => cases e
    | ins _ r _ l => cases e
    | two _ _ => cases e
    | memo _ _ => cases e
    | adr => cases e
    | wo _ _ _ _ => cases e
    | tupN _ _ _ => cases e
    | pen _ r => cases e
    | exo0 => cases e
    | exo _ r _ l => cases e
    | tab r => cases e
    | knil z =>
      obtain ⟨o, its, n, h1, h2, _⟩ := z
      exact ⟨_, .kTuple h1 h2, e⟩
def dIsi (T : String) (ta : DE) : DE := fun env q x => ta env (fun r => ∃ b, isiD r.d T = some b ∧ q (.val (.bl b))) x
theorem pd_isi {ta : DE} {T : String} {y : Str} {p2 : Pos} (hm : X.mg "isinstance" = none) (hm2 : X.mg y = none) (hv2 : bootBuiltins y = some (.type T)) (ha : PD X E a ta) (hg : Gl X "isinstance" := by rfl) (hg2 : Gl X y := by rfl)
    (hn : y ≠ "__name__" := by decide) (hdb : (y == ("__debug__" : Str)) = false := by decide) (hv : bootBuiltins "isinstance" = some (.builtin "isinstance") := by decide +kernel)
    (hs1 : starEach [a, Expr.Name y p2] X.env = (false, eval a X.env) :: starEach [Expr.Name y p2] X.env := by rfl) :
    PD X E (.Call (.Name "isinstance" p) [a, .Name y p2] [] pos) (dIsi T ta) := by
  have h2 : PE X (.Name y p2) (tC (.ty T)) := pe_bltn hg2 hm2 hv2 rfl hn hdb
  refine PE.wk (pe_callB call_isi hg hm hv (pa_cons (show PE X a (lift X.K E ta) from ha) (pa_cons h2 pa_nil) hs1) (he := hs1)) ?_
  rintro σ H Q ⟨G0, H0, G, env, q, x, e, h, hq, hx⟩
  refine ⟨G0, H0, G, env, _, x, e, h, ?_, hx⟩
  rintro r v G' H' ⟨b, eb, qb⟩ kk g rr
  obtain ⟨t, ty, kb⟩ := TyX.of rr eb
  exact ⟨v, .ty T, .type t, .type T, b, rfl, .ty T, ty, kit_ty kb, hq _ _ G' H' qb kk g (Rep.bl _)⟩

/-! ### subscripts, slices -/
def ixD (x y : D) : Option D := match y with
  | .int i => (seqOf x).bind fun xs => atI xs i
  | _ => none
theorem rep_atI {K : PySem.W.Frag} {G : Gm} {H : Hp} {vs : List V} {ds : List D} {i : Int} {d : D} (l : RepL K G H vs ds) (h : atI ds i = some d) : ∃ v, atI vs i = some v ∧ Rep K G H v d := by
  unfold atI at h ⊢
  rw [l.length]
  cases e : ixN ds.length i with
  | none => rw [e] at h; cases h
  | some j =>
    rw [e] at h
    exact l.get h
theorem ok_ix : IxR X (rD X.K ixD) := by
  rintro ve se pins s σ H x y v u Q I rx ry ⟨G, r1, r2, d, g0, h1, h2, e, q⟩ hst
  generalize hy : r2.d = dy at e
  unfold ixD at e
  split at e
  · rename_i i
    obtain ⟨ds, e1, e2⟩ := Option.bind_eq_some_iff.mp e
    obtain ⟨a, vs, rfl, h, l⟩ := seq_rep h1 e1
    obtain ⟨w, e3, rw'⟩ := rep_atI l e2
    have ei := h2.int hy
    refine ix_seq (X := X) ve se pins s σ H _ _ v u Q I rx ry ?_ hst
    rcases h with ⟨h, _⟩ | ⟨h, _⟩
    · exact .inl ⟨a, vs, i, w, rfl, ei, h, e3, q _ G H (Keep.refl G H) g0 rw'⟩
    · exact .inr (.inl ⟨a, vs, i, w, rfl, ei, h, e3, q _ G H (Keep.refl G H) g0 rw'⟩)
  · cases e
theorem pd_ix {b : Expr} {ta tb : DE} (ha : PD X E a ta) (hb : PD X E b tb) (hs : PlainIx b := by exact fun _ _ => rfl) : PD X E (.Subscript a b pos) (dOp ixD ta tb) :=
  PE.wk (pe_ix ok_ix ha hb hs) fun _ _ _ h => lift_op h
abbrev DO := SE → (Option Int → Prop) → XP → Prop
def liftO (K : PySem.W.Frag) (E : XK) (t : DO) : TO := fun σ H Q => ∃ G0 H0 G env q x, EnvOk K G0 H0 G H σ env ∧ t env q x ∧ (∀ b G' H', q b → Keep G G' H H' → GOk G' H' → Q b H') ∧ XOk K E G H x
def dNoPart : DO := fun _ q _ => q none
def dPart (ta : DE) : DO := fun env q x => ta env (fun r => ∃ i, r.d = .int i ∧ q (some i)) x
theorem PO.wk {e : Option Expr} {t t' : TO} (h : PO X e t) (m : ∀ σ H Q, t' σ H Q → t σ H Q) : PO X e t' := ⟨fun pins s σ H Q I hw => h.run pins s σ H Q I (m σ H Q hw)⟩
theorem pdo_some {ta : DE} (ha : PD X E a ta) : PO X (some a) (liftO X.K E (dPart ta)) := by
  refine PO.wk (po_some ha) ?_
  rintro σ H Q ⟨G0, H0, G, env, q, x, e, h, hq, hx⟩
  refine ⟨G0, H0, G, env, _, x, e, h, ?_, hx⟩
  rintro r v G' H' ⟨i, ei, qi⟩ kk g rr
  exact ⟨i, rr.int ei, hq _ G' H' qi kk g⟩
def cutD (xs : List D) (lo hi : Option Int) : List D := (xs.drop (HT.sIx xs.length 0 lo)).take (HT.sIx xs.length xs.length hi - HT.sIx xs.length 0 lo)
def slD (d : D) (lo hi : Option Int) : Option D := match d with
  | .tup xs => some (.tup (cutD xs lo hi))
  | .lst xs => some (.lst (cutD xs lo hi))
  | .scr xs => some (.lst (cutD xs lo hi))
  | _ => none
theorem rep_cut {K : PySem.W.Frag} {G : Gm} {H : Hp} {vs : List V} {ds : List D} (lo hi : Option Int) (l : RepL K G H vs ds) : RepL K G H (cutV vs lo hi) (cutD ds lo hi) := by
  unfold cutV cutD
  rw [l.length]
  exact (l.drop _).take _
def dSl (ta : DE) (tl th : DO) : DE := fun env q x => ta env (fun r => tl env (fun lo => th env (fun hi => ∃ d, slD r.d lo hi = some d ∧ q (.val d)) x) x) x
theorem pd_slice {ta : DE} {lo hi : Option Expr} {tl th : DO} {p2 : Pos} (ha : PD X E a ta) (hl : PO X lo (liftO X.K E tl)) (hh : PO X hi (liftO X.K E th)) : PD X E (.Subscript a (.Slice lo hi none p2) pos) (dSl ta tl th) := by
  refine PE.wk (pe_slice ((sl_list (X := X)).or (sl_tupA (X := X))) ha hl hh) ?_
  rintro σ H Q ⟨G0, H0, G, env, q, x, e, h, hq, hx⟩
  refine ⟨G0, H0, G, env, _, x, e, h, ?_, hx⟩
  intro r v G1 H1 q1 k1 g1 rr
  refine ⟨G0, H0, G1, env, _, x, e.step k1 g1, q1, ?_, hx.keep e.gok k1⟩
  intro lo' G2 H2 q2 k2 g2
  have k12 := k1.trans e.gok k2
  refine ⟨G0, H0, G2, env, _, x, e.step k12 g2, q2, ?_, hx.keep e.gok k12⟩
  rintro hi' G3 H3 ⟨d, ed, qd⟩ k3 g3
  have k13 := k12.trans e.gok k3
  have rr3 := (rr.keep k2).keep k3
  generalize hd : r.d = dr at ed
  unfold slD at ed
  split at ed
  · cases ed
    obtain ⟨b, vs, rfl, hs, l⟩ := rr3.tup hd
    refine .inr ⟨b, vs, rfl, hs, fun z => ?_, fun _ p hp => hq _ _ G3 _ qd (k13.trans e.gok (Keep.laid hp)) (g3.laid hp) (Rep.newT g3 hp (rep_cut _ _ l))⟩
    cases r with
    | brw _ => cases hd
    | bin _ _ _ => cases hd
    | val d =>
      rename_i ds
      have : d = .tup ds := hd
      subst this
      have ec : cutD ds lo' hi' = ds := by
        unfold cutD
        rw [l.length] at z
        rw [z.1, z.2]
        simp
      rw [ec] at qd
      exact hq _ _ G3 H3 qd k13 g3 rr3
  · cases ed
    obtain ⟨b, vs, rfl, hs, _, l⟩ := rr3.lst hd
    exact .inl ⟨b, vs, rfl, .inl (.inl hs), fun p hp => hq _ _ G3 _ qd (k13.trans e.gok (Keep.laid hp)) (g3.laid hp) (Rep.newL g3 hp (rep_cut _ _ l))⟩
  · cases ed
    obtain ⟨b, vs, rfl, hs, l⟩ := rr3.scr hd
    exact .inl ⟨b, vs, rfl, hs, fun p hp => hq _ _ G3 _ qd (k13.trans e.gok (Keep.laid hp)) (g3.laid hp) (Rep.newL g3 hp (rep_cut _ _ l))⟩
  · cases ed
end
end QD
namespace QD
open PySem PySem.Spec PyProof.Rows L2
/-! ### slots written -/
section
variable {K : PySem.W.Frag} {G0 G : Gm} {H0 : HB} {H : Hp} {σ : L2.St} {env : SE}
theorem EnvOk.setVal (e : EnvOk K G0 H0 G H σ env) {v : V} {d : D} (i : Nat) (r : Rep K G H v d) : EnvOk K G0 H0 G H (σ.set i (some v)) (env.set i (.val d)) := by
  refine ⟨e.g0, e.keep, e.gok, by simp [e.len], e.tmp, fun j d' h => ?_, fun j ds h => ?_, fun j k ds es a n h1 h2 h3 h4 => ?_, e.dic.set i _⟩
  · by_cases q : i = j
    · subst q
      rw [List.getElem?_set] at h
      simp only [if_true] at h
      split at h
      · rename_i hl
        cases h
        exact ⟨v, by rw [List.getElem?_set_self (by rw [← e.len]; exact hl)], r⟩
      · cases h
    · rw [List.getElem?_set_ne q] at h
      obtain ⟨w, e1, e2⟩ := e.val j d' h
      exact ⟨w, by rw [List.getElem?_set_ne q]; exact e1, e2⟩
  · by_cases q : i = j
    · subst q
      rw [List.getElem?_set] at h
      simp only [if_true] at h
      split at h <;> cases h
    · rw [List.getElem?_set_ne q] at h
      obtain ⟨a, vs, e1, e2⟩ := e.own j ds h
      exact ⟨a, vs, by rw [List.getElem?_set_ne q]; exact e1, e2⟩
  · have nj : i ≠ j := fun z => by
      subst z
      rw [List.getElem?_set] at h1
      simp only [if_true] at h1
      split at h1 <;> cases h1
    have nk : i ≠ k := fun z => by
      subst z
      rw [List.getElem?_set] at h2
      simp only [if_true] at h2
      split at h2 <;> cases h2
    rw [List.getElem?_set_ne nj] at h1 h3
    rw [List.getElem?_set_ne nk] at h2 h4
    exact e.sep j k ds es a n h1 h2 h3 h4
theorem EnvOk.setOwn (e : EnvOk K G0 H0 G H σ env) {a : Addr} {vs : List V} {ds : List D} (i : Nat) (g : G a = some .hid) (h0 : H0.hp a = none) (h : H a = some (.lst vs)) (r : RepL K G H vs ds)
    (hs : ∀ (j : Nat) (es : List D), i ≠ j → env[j]? = some (.own es) → σ[j]? ≠ some (some (.ref a))) : EnvOk K G0 H0 G H (σ.set i (some (.ref a))) (env.set i (.own ds)) := by
  refine ⟨e.g0, e.keep, e.gok, by simp [e.len], e.tmp, fun j d' h' => ?_, fun j ds' h' => ?_, fun j k ds' es b n h1 h2 h3 h4 => ?_, e.dic.set i _⟩
  · by_cases q : i = j
    · subst q
      rw [List.getElem?_set] at h'
      simp only [if_true] at h'
      split at h' <;> cases h'
    · rw [List.getElem?_set_ne q] at h'
      obtain ⟨w, e1, e2⟩ := e.val j d' h'
      exact ⟨w, by rw [List.getElem?_set_ne q]; exact e1, e2⟩
  · by_cases q : i = j
    · subst q
      rw [List.getElem?_set] at h'
      simp only [if_true] at h'
      split at h'
      · rename_i hl
        cases h'
        exact ⟨a, vs, by rw [List.getElem?_set_self (by rw [← e.len]; exact hl)], g, h0, h, r⟩
      · cases h'
    · rw [List.getElem?_set_ne q] at h'
      obtain ⟨b, us, e1, e2⟩ := e.own j ds' h'
      exact ⟨b, us, by rw [List.getElem?_set_ne q]; exact e1, e2⟩
  · by_cases qj : i = j
    · subst qj
      have nk : i ≠ k := n
      rw [List.getElem?_set_ne nk] at h2 h4
      rw [List.getElem?_set] at h3
      simp only [if_true] at h3
      split at h3
      · cases h3
        exact hs k es nk h2 h4
      · cases h3
    · rw [List.getElem?_set_ne qj] at h1 h3
      by_cases qk : i = k
      · subst qk
        rw [List.getElem?_set] at h4
        simp only [if_true] at h4
        split at h4
        · cases h4
          exact hs j ds' qj h1 h3
        · cases h4
      · rw [List.getElem?_set_ne qk] at h2 h4
        exact e.sep j k ds' es b n h1 h2 h3 h4
/-- a slot forgotten -/
theorem EnvOk.setNo (e : EnvOk K G0 H0 G H σ env) (i : Nat) (o : Option V) : EnvOk K G0 H0 G H (σ.set i o) (env.set i .no) := by
  have non : ∀ {j : Nat} {x : EV}, (env.set i .no)[j]? = some x → x ≠ .no → i ≠ j := fun {j x} h n z => by
    subst z
    rw [List.getElem?_set] at h
    simp only [if_true] at h
    split at h
    · cases h; exact n rfl
    · cases h
  refine ⟨e.g0, e.keep, e.gok, by simp [e.len], e.tmp, fun j d' h => ?_, fun j ds h => ?_, fun j k ds es a n h1 h2 h3 h4 => ?_, e.dic.set i _⟩
  · have q := non h (by simp)
    rw [List.getElem?_set_ne q] at h
    obtain ⟨w, e1, e2⟩ := e.val j d' h
    exact ⟨w, by rw [List.getElem?_set_ne q]; exact e1, e2⟩
  · have q := non h (by simp)
    rw [List.getElem?_set_ne q] at h
    obtain ⟨a, vs, e1, e2⟩ := e.own j ds h
    exact ⟨a, vs, by rw [List.getElem?_set_ne q]; exact e1, e2⟩
  · have nj := non h1 (by simp)
    have nk := non h2 (by simp)
    rw [List.getElem?_set_ne nj] at h1 h3
    rw [List.getElem?_set_ne nk] at h2 h4
    exact e.sep j k ds es a n h1 h2 h3 h4
theorem EnvOk.setSto (e : EnvOk K G0 H0 G H σ env) {a C dx : Addr} {fs : List (Str × V)} {ds : List D} (i : Nat) (g : G a = some .hid) (h0 : H0.hp a = none) (h : H a = some (.ins C dx fs)) (r : RepL K G H (fs.map (·.2)) ds)
    (no : ∀ (j : Nat) (b C' dx' : Addr) (fs' : List (Str × V)) (ds' : List D), i ≠ j → env[j]? = some (.sto b C' dx' fs' ds') → a ≠ b) : EnvOk K G0 H0 G H (σ.set i (some (.ref a))) (env.set i (.sto a C dx fs ds)) := by
  have e1 := e.setNo i (some (.ref a))
  have back : ∀ {j : Nat} {x : EV}, (env.set i (.sto a C dx fs ds))[j]? = some x → (∀ (b C' dx' : Addr) (fs' : List (Str × V)) (ds' : List D), x ≠ .sto b C' dx' fs' ds') → (env.set i .no)[j]? = some x := fun {j x} hj hx => by
    by_cases q : i = j
    · subst q
      rw [List.getElem?_set] at hj
      simp only [if_true] at hj
      split at hj
      · exact absurd (Option.some.inj hj).symm (hx a C dx fs ds)
      · cases hj
    · rw [List.getElem?_set_ne q] at hj ⊢
      exact hj
  have stoj : ∀ {j : Nat} {b C' dx' : Addr} {fs' : List (Str × V)} {ds' : List D}, (env.set i (.sto a C dx fs ds))[j]? = some (.sto b C' dx' fs' ds') → (i = j ∧ i < env.length ∧ EV.sto b C' dx' fs' ds' = .sto a C dx fs ds) ∨ (i ≠ j ∧ env[j]? = some (.sto b C' dx' fs' ds')) := fun {j b C' dx' fs' ds'} hj => by
    by_cases q : i = j
    · subst q
      rw [List.getElem?_set] at hj
      simp only [if_true] at hj
      split at hj
      · rename_i hl
        exact .inl ⟨rfl, hl, (Option.some.inj hj).symm⟩
      · cases hj
    · rw [List.getElem?_set_ne q] at hj
      exact .inr ⟨q, hj⟩
  refine ⟨e1.g0, e1.keep, e1.gok, by simp [e.len], e1.tmp, fun j d hj => e1.val j d (back hj nofun), fun j es hj => e1.own j es (back hj nofun), fun j k es fs b n h1 h2 h3 h4 => e1.sep j k es fs b n (back h1 nofun) (back h2 nofun) h3 h4, ⟨fun j ls es hj => e1.dic.at_ j ls es (back hj nofun), fun j k ls ms es fs h1 h2 => e1.dic.one j k ls ms es fs (back h1 nofun) (back h2 nofun), fun j b C' dx' fs' ds' hj => ?_, fun j k b c C' C'' dx' dx'' fs' fs'' ds' ds'' n h1 h2 => ?_⟩⟩
  · rcases stoj hj with ⟨rfl, hl, z⟩ | ⟨n, hj'⟩
    · cases z
      exact ⟨by rw [List.getElem?_set_self (by rw [← e.len]; exact hl)], g, h0, h, r⟩
    · rw [List.getElem?_set_ne n]
      exact e.dic.sto j b C' dx' fs' ds' hj'
  · rcases stoj h1 with ⟨q1, _, z1⟩ | ⟨n1, z1⟩
    · cases z1
      rcases stoj h2 with ⟨q2, _, z2⟩ | ⟨n2, z2⟩
      · exact absurd (q1.symm.trans q2) n
      · exact no k c C'' dx'' fs'' ds'' n2 z2
    · rcases stoj h2 with ⟨q2, _, z2⟩ | ⟨n2, z2⟩
      · cases z2
        exact fun z => no j b C' dx' fs' ds' n1 z1 z.symm
      · exact e.dic.ssep j k b c C' C'' dx' dx'' fs' fs'' ds' ds'' n z1 z2
/-- a hidden object is written -/
structure Wr (G : Gm) (a : Addr) (H H' : Hp) : Prop where
  hid : G a = some .hid
  oth : ∀ b, b ≠ a → H' b = H b
  mo : ∃ o, H a = some o ∧ MutO o
theorem Wr.tabs {a b : Addr} {H' : Hp} {q : Str} (w : Wr G a H H') (t : TabN H b q) : TabN H' b q := by
  obtain ⟨o, e, m⟩ := w.mo
  exact tabs_off (m.off e) w.oth t
theorem Wr.tab {H1 : Hp} {a : Addr} {H' : Hp} (w : Wr G a H H') (k : ∀ b ps, H1 b = some (.tbl ps) → ∃ ps', H b = some (.tbl ps') ∧ ∀ q, TabN H1 b q → TabN H b q) (b : Addr) (ps : Array Value) (e : H1 b = some (.tbl ps)) : ∃ ps', H' b = some (.tbl ps') ∧ ∀ q, TabN H1 b q → TabN H' b q := by
  obtain ⟨o, y, m⟩ := w.mo
  exact tab_off k (m.off y) w.oth b ps e
theorem Wr.pen {a b : Addr} {H' : Hp} (w : Wr G a H H') (e : G b = some .pen) (p : PenAt H b) : PenAt H' b := by
  obtain ⟨i, j, k, q, z⟩ := p
  exact ⟨i, j, k, by rw [w.oth b fun z => by rw [z, w.hid] at e; cases e]; exact q, z⟩
theorem Wr.memo {a b : Addr} {H' : Hp} {K' : PySem.W.Frag} {J : Int → Pl → Prop} (w : Wr G a H H') (e : G b = some (.memo K' J)) (p : MemoAt K' J H b) : MemoAt K' J H' b := by
  obtain ⟨o, y, m⟩ := w.mo
  exact p.off (m.nrd y) w.oth fun z => by rw [z, w.hid] at e; cases e
theorem Wr.non {a b : Addr} {H' : Hp} (w : Wr G a H H') (e : G b = none) : H' b = H b := w.oth b fun z => by rw [z, w.hid] at e; cases e
theorem Wr.rd {a b : Addr} {o : HO} {H' : Hp} (w : Wr G a H H') (e : G b = none) (r : Rd H b o) : Rd H' b o := by
  rcases r with r | ⟨u, r⟩
  · exact .inl ((w.non e).trans r)
  · exact .inr ⟨u, (w.non e).trans r⟩
mutual
theorem Rep.wr {a : Addr} {H' : Hp} (w : Wr G a H H') : ∀ {v : V} {d : D}, Rep K G H v d → Rep K G H' v d
  | _, _, .non => .non
  | _, _, .bl b => .bl b
  | _, _, .int i => .int i
  | _, _, .str x => .str x
  | _, _, .tup e r l => .tup e (w.rd e r) (RepL.wr w l)
  | _, _, .lst e r l => .lst e ((w.non e).trans r) (RepL.wr w l)
  | _, _, .scr r l => .scr (r.imp (fun z => ⟨z.1, let ⟨o, q⟩ := z.2; ⟨o, (w.non z.1).trans q⟩⟩) id) (RepL.wr w l)
  | _, _, .dct e r q l => .dct e (w.rd e r) q (RepL.wr w l)
  | _, _, .dcl e r => .dcl e ((w.non e).trans r)
  | _, _, .tupN e ⟨o, r, z⟩ l => .tupN e ⟨o, (w.non e).trans r, z⟩ (RepL.wr w l)
  | _, _, .ins e r q l => .ins e ((w.non e).trans r) q (RepL.wr w l)
  | _, _, .knil z => .knil z
  | _, _, .exo0 => .exo0
  | _, _, .exo e r n l => .exo e ((w.non e).trans r) n (RepL.wr w l)
  | _, _, .tab t => .tab (w.tabs t)
  | _, _, .two a b => .two (Rep.wr w a) (Rep.wr w b)
  | _, _, .adr => .adr
  | _, _, .wo e r l d => .wo e ((w.non e).trans r) (RepL.wr w l) (Rep.wr w d)
  | _, _, .pen e p => .pen e (w.pen e p)
  | _, _, .memo e p => .memo e (w.memo e p)
theorem RepL.wr {a : Addr} {H' : Hp} (w : Wr G a H H') : ∀ {vs : List V} {ds : List D}, RepL K G H vs ds → RepL K G H' vs ds
  | _, _, .nil => .nil
  | _, _, .cons a b => .cons (Rep.wr w a) (RepL.wr w b)
end
theorem hset_id {σ : L2.St} {i : Nat} {o : Option V} (h : σ[i]? = some o) : σ.set i o = σ := by
  apply List.ext_getElem?
  intro n
  by_cases z : i = n
  · subst z
    rw [List.getElem?_set_self (List.getElem?_eq_some_iff.mp h).1, h]
  · rw [List.getElem?_set_ne z]
theorem EnvOk.write (e : EnvOk K G0 H0 G H σ env) {i : Nat} {a : Addr} {ds es : List D} {us : List V} (h : env[i]? = some (.own ds)) (hσ : σ[i]? = some (some (.ref a))) (r : RepL K G H us es) :
    EnvOk K G0 H0 G (upd H a (.lst us)) σ (env.set i (.own es)) := by
  obtain ⟨a', vs, e1, e2, e3, e4, e5⟩ := e.own i ds h
  rw [hσ] at e1
  cases e1
  have w : Wr G a H (upd H a (.lst us)) := ⟨e2, fun b n => upd_ne n, _, e4, .inl ⟨_, rfl⟩⟩
  have li : i < env.length := (List.getElem?_eq_some_iff.mp h).1
  refine ⟨e.g0, ⟨fun b o q n nt => ?_, fun b g p => w.pen ?_ (e.keep.pen b g p), fun b K J g p => w.memo ?_ (e.keep.memo b K J g p), e.keep.gh, fun b ps q => ?_⟩, ⟨fun b x g => ?_, fun b g => w.pen g (e.gok.pen b g), fun b K J g => w.memo g (e.gok.memo b K J g)⟩, by simp [e.len], fun p hp => Rep.wr w (e.tmp p hp), fun j d' h' => ?_, fun j ds' h' => ?_, fun j k ds' es' b n h1 h2 h3 h4 => ?_, (hset_id hσ ▸ e.dic.set i (some (.ref a))).off (fun b kvs q g => ⟨g, by rw [upd_ne (fun z => by rw [z, e4] at q; cases q)]; exact q⟩) (fun b q _ => q) (fun _ _ => RepL.wr w) fun b C dx fs q g => ⟨g, by rw [upd_ne (fun z => by rw [z, e4] at q; cases q)]; exact q⟩⟩
  · have nb : b ≠ a := fun z => by rw [z, e3] at q; cases q
    rw [upd_ne nb]
    exact e.keep.obj b o q n nt
  · rw [e.keep.gh b (by obtain ⟨_, _, _, q, _⟩ := p; rw [q]; simp)]; exact g
  · rw [e.keep.gh b p.ne]; exact g
  · exact w.tab e.keep.tab b ps q
  · by_cases nb : b = a
    · subst nb; exact ⟨_, upd_same, .inl ⟨us, rfl⟩⟩
    · obtain ⟨zs, q, m⟩ := e.gok.lst b x g
      exact ⟨zs, by rw [upd_ne nb]; exact q, m⟩
  · have q : i ≠ j := fun z => by subst z; rw [List.getElem?_set_self li] at h'; cases h'
    rw [List.getElem?_set_ne q] at h'
    obtain ⟨v, q1, q2⟩ := e.val j d' h'
    exact ⟨v, q1, Rep.wr w q2⟩
  · by_cases q : i = j
    · subst q
      rw [List.getElem?_set_self li] at h'
      cases h'
      exact ⟨a, us, hσ, e2, e3, upd_same, RepL.wr w r⟩
    · rw [List.getElem?_set_ne q] at h'
      obtain ⟨b, ws, q1, q2, q3, q4, q5⟩ := e.own j ds' h'
      have nb : b ≠ a := fun z => by subst z; exact e.sep i j ds ds' b q h h' hσ q1
      exact ⟨b, ws, q1, q2, q3, by rw [upd_ne nb]; exact q4, RepL.wr w q5⟩
  · have back : ∀ {j : Nat} {ds' : List D}, (env.set i (.own es))[j]? = some (.own ds') → ∃ ds'', env[j]? = some (.own ds'') := fun {j ds'} h => by
      by_cases q : i = j
      · subst q; exact ⟨ds, by assumption⟩
      · rw [List.getElem?_set_ne q] at h; exact ⟨ds', h⟩
    obtain ⟨_, z1⟩ := back h1
    obtain ⟨_, z2⟩ := back h2
    exact e.sep j k _ _ b n z1 z2 h3 h4
/-- an own list is no longer written: from now on a value -/
def unh (G : Gm) (a : Addr) : Gm := fun b => if b = a then none else G b
theorem unh_le {a : Addr} (n : Fix (G a)) : GLe (unh G a) G := ⟨fun b h => by unfold unh; split <;> simp_all, fun b h => by
  unfold unh
  rw [if_neg (fun z : b = a => n.pen (by rw [← z]; exact h))]
  exact h, fun b K J h => by
  unfold unh
  rw [if_neg (fun z : b = a => n.memo K J (by rw [← z]; exact h))]
  exact h⟩
end

/-! ### statements -/
section
variable {X : Cx} {E : XK} {st : Stmt} {rest : List Stmt} {t u : DS} {e a b c : Expr} {te ta tb : DE} {sc : DT} {pos : Pos}
def dNext : DS := fun J env => J.nx env
def dSeq (t u : DS) : DS := fun J env => t { J with nx := u J } env
theorem pds_nil : PDSs X E [] dNext := by
  refine PSs.wk pss_nil ?_
  rintro Z σ H ⟨G0, H0, G, env, J, e, h, hn, hr, hb, hc, hx⟩
  exact hn env G σ H h e
theorem lift_seq {Z : Ends} {σ : L2.St} {H : Hp} (h : liftS X.K E (dSeq t u) Z σ H) : tSeq (liftS X.K E t) (liftS X.K E u) Z σ H := by
  obtain ⟨G0, H0, G, env, J, e, h, hn, hr, hb, hc, hx⟩ := h
  exact ⟨G0, H0, G, env, _, e, h, fun env' G' σ' H' q e' => ⟨G0, H0, G', env', J, e', q, hn, hr, hb, hc, hx⟩, hr, hb, hc, hx⟩
theorem pds_cons (h1 : PDS X E st t) (h2 : PDSs X E rest u) : PDSs X E (st :: rest) (dSeq t u) := PSs.wk (pss_cons h1 h2) fun _ _ _ h => lift_seq h
theorem pds_one (h1 : PDS X E st t) : PDSs X E [st] t := pss_one h1
def dBreak : DS := fun J env => J.bk env
def dCont : DS := fun J env => J.ct env
theorem XOk.now {E : XK} {K : PySem.W.Frag} {G0 G : Gm} {H0 : HB} {H : Hp} {σ : L2.St} {env : SE} {x : XP} (e : EnvOk K G0 H0 G H σ env) (h : XOk K E G0 H0.hp x) : XOk K E G H x := h.keep e.g0 e.keep
/-- return e: a value, or an own list (which is then a value) -/
def dRet (te : DE) : DS := fun J env => te env (fun r => ∃ d, r = .val d ∧ J.rt d) J.ex
theorem pd_ret (h : PD X E a ta) : PDS X E (.Return (some a) pos) (dRet ta) := by
  refine PS.wk (ps_ret h) ?_
  rintro Z σ H ⟨G0, H0, G, env, J, e, h, hn, hr, hb, hc, hx⟩
  refine ⟨G0, H0, G, env, _, _, e, h, ?_, hx.now e⟩
  rintro r v G' H' ⟨d, rfl, q⟩ k g rr
  exact hr d v G' H' q (e.keep.trans e.g0 k) g rr
def dRetOwn (i : Nat) : DS := fun J env => ∃ ds, env[i]? = some (.own ds) ∧ J.rt (.lst ds)
def dRetN : DS := fun J env => J.rt .non
def dDrop (te : DE) : DS := fun J env => te env (fun _ => J.nx env) J.ex
theorem pd_expr (h : PD X E a ta) (hs : swapsWith a none pos.line X.env = pure false := by rfl) : PDS X E (.Expr a pos) (dDrop ta) := by
  refine PS.wk (ps_expr h hs) ?_
  rintro Z σ H ⟨G0, H0, G, env, J, e, h, hn, hr, hb, hc, hx⟩
  refine ⟨G0, H0, G, env, _, _, e, h, ?_, hx.now e⟩
  rintro r v G' H' q k g rr
  exact hn env G' σ H' q (e.step k g)
def dIfS (c : DT) (t u : DS) : DS := fun J env => c env (fun k => if k = true then t J env else u J env) J.ex
theorem pd_ifS {sa sb : List Stmt} (hc : PDT X E c sc) (ha : PDSs X E sa t) (hb : PDSs X E sb u) : PDS X E (.If c sa sb pos) (dIfS sc t u) := by
  refine PS.wk (ps_if hc ha hb) ?_
  rintro Z σ H ⟨G0, H0, G, env, J, e, h, hn, hr, hb, hc, hx⟩
  refine ⟨G0, H0, G, env, _, _, e, h, ?_, hx.now e⟩
  rintro k G' H' q kk g
  cases k with
  | true => exact ⟨G0, H0, G', env, J, e.step kk g, q, hn, hr, hb, hc, hx⟩
  | false => exact ⟨G0, H0, G', env, J, e.step kk g, q, hn, hr, hb, hc, hx⟩
/-- ghost: from here on the own list in slot i is a value -/
def dFreeze (i : Nat) (t : DS) : DS := fun J env => ∃ ds, env[i]? = some (.own ds) ∧ t J (env.set i (.val (.lst ds)))
/-! ### assignments -/
def dSet (i : Nat) (te : DE) : DS := fun J env => te env (fun r => ∃ d, r = .val d ∧ J.nx (env.set i (.val d))) J.ex
theorem lift_set {i : Nat} {Z : Ends} {σ : L2.St} {H : Hp} (h : liftS X.K E (dSet i ta) Z σ H) : tAsg (lift X.K E ta) (gName i) Z σ H := by
  obtain ⟨G0, H0, G, env, J, e, h, hn, hr, hb, hc, hx⟩ := h
  refine ⟨G0, H0, G, env, _, _, e, h, ?_, hx.now e⟩
  rintro r v G' H' ⟨d, rfl, q⟩ k g rr
  exact hn _ G' _ H' q ((e.step k g).setVal i rr)
theorem pd_set (i : Nat) {x : Str} {p : Pos} (he : PD X E a ta) (hN : X.N.Nodup) (hi : X.N[i]? = some x := by rfl) (hx : Loc X.env.scope x := by first | exact Or.inl rfl | exact Or.inr rfl) (hs : swapsWith a (some (.Name x p)) pos.line X.env = pure false := by rfl)
    (hf : X.fn x = true ∨ X.env.scope.names.lookup x = some .local := by first | exact .inl rfl | exact .inr rfl) : PDS X E (.Assign [.Name x p] a pos) (dSet i ta) :=
  PS.wk (ps_set hN hi hx he hs hf) fun _ _ _ h => lift_set h
/-- fresh lists -/
abbrev DFr := SE → (List D → Prop) → XP → Prop
def FreshL (K : PySem.W.Frag) (H : Hp) (G' : Gm) (H' : Hp) (v : V) (ds : List D) : Prop := ∃ a vs, v = .ref a ∧ H a = none ∧ G' a = some .hid ∧ H' a = some (.lst vs) ∧ RepL K G' H' vs ds
def liftF (K : PySem.W.Frag) (E : XK) (t : DFr) : TE := fun σ H Q => ∃ G0 H0 G env q x, EnvOk K G0 H0 G H σ env ∧ t env q x ∧ (∀ ds v G' H', q ds → Keep G G' H H' → GOk G' H' → FreshL K H G' H' v ds → Q v H') ∧ XOk K E G H x
def PFL (X : Cx) (E : XK) (e : Expr) (t : DFr) : Prop := PE X e (liftF X.K E t)
/-- a fresh address hidden -/
def hide (G : Gm) (a : Addr) : Gm := fun b => if b = a then some .hid else G b
theorem hide_ne {G : Gm} {a b : Addr} (n : b ≠ a) : hide G a b = G b := by unfold hide; rw [if_neg n]
theorem hide_same {G : Gm} {a : Addr} : hide G a a = some .hid := by unfold hide; rw [if_pos rfl]
theorem Keep.hide {G : Gm} {H : Hp} {p : Addr} {vs : List V} (h : H p = none) : Keep G (hide G p) H (upd H p (.lst vs)) :=
  ⟨fun a u e _ _ => by rw [upd_ne (ne_of_none e h)]; exact e, fun a _ ⟨i, j, k, e, q⟩ => ⟨i, j, k, by rw [upd_ne (ne_of_none e h)]; exact e, q⟩, fun a K J _ m => m.new h, fun a e => hide_ne fun z => e (by rw [z]; exact h), fun a ps e => ⟨ps, by rw [upd_ne (ne_of_none e h)]; exact e, fun q t => t.ext fun b o x => by rw [upd_ne (ne_of_none x h)]; exact x⟩⟩
theorem GOk.hide {G : Gm} {H : Hp} {p : Addr} {vs : List V} (g : GOk G H) (h : H p = none) : GOk (hide G p) (upd H p (.lst vs)) := by
  refine ⟨fun a x e => ?_, fun a e => ?_, fun a K J e => ?_⟩
  · by_cases n : a = p
    · subst n; exact ⟨_, upd_same, .inl ⟨vs, rfl⟩⟩
    · rw [hide_ne n] at e
      obtain ⟨us, q, m⟩ := g.lst a x e
      exact ⟨us, by rw [upd_ne n]; exact q, m⟩
  · by_cases n : a = p
    · subst n; rw [hide_same] at e; cases e
    · rw [hide_ne n] at e
      obtain ⟨i, j, k, q, z⟩ := g.pen a e
      exact ⟨i, j, k, by rw [upd_ne n]; exact q, z⟩
  · by_cases n : a = p
    · subst n; rw [hide_same] at e; cases e
    · rw [hide_ne n] at e
      exact (g.memo a K J e).new h
theorem FreshL.new {K : PySem.W.Frag} {G G' : Gm} {H H' : Hp} {p : Addr} {vs : List V} {ds : List D} (g0 : GOk G H) (k : Keep G G' H H') (h : H' p = none) (l : RepL K G' H' vs ds) : FreshL K H (hide G' p) (upd H' p (.lst vs)) (.ref p) ds := by
  refine ⟨p, vs, rfl, ?_, hide_same, upd_same, RepL.keep (Keep.hide h) l⟩
  cases q : H p with
  | none => rfl
  | some o => exact absurd h (k.dom g0 (by rw [q]; simp))
def dFLst (ta : DA) : DFr := fun env q x => ta env (fun rs => ∃ ds, rs = ds.map R.val ∧ ds.length ≤ 16777216 ∧ q ds) x
theorem pf_lst {es : List Expr} {sA : DA} (h : PDA X E es sA) : PFL X E (.List es pos) (dFLst sA) := by
  refine PE.wk (pe_lst h) ?_
  rintro σ H Q ⟨G0, H0, G, env, q, x, e, h, hq, hx⟩
  refine ⟨G0, H0, G, env, _, x, e, h, ?_, hx⟩
  rintro rs vs G' H' ⟨ds, rfl, l, qk⟩ kk g rl
  refine ⟨rl.vals.len l, fun p hp => ?_⟩
  exact hq _ _ _ _ qk (kk.trans e.gok (Keep.hide hp)) (g.hide hp) (FreshL.new e.gok kk hp rl.vals)
/-- a fresh list as a value -/
theorem FreshL.val {K : PySem.W.Frag} {G G' : Gm} {H H' : Hp} {v : V} {ds : List D} (k : Keep G G' H H') (g : GOk G' H') (f : FreshL K H G' H' v ds) : ∃ G2, Keep G G2 H H' ∧ GOk G2 H' ∧ Rep K G2 H' v (.lst ds) := by
  obtain ⟨a, vs, rfl, hn, hh, hl, l⟩ := f
  have le := unh_le (G := G') (a := a) (by rw [hh]; simp)
  have ne : ∀ {b : Addr}, b ≠ a → unh G' a b = G' b := fun {b} n => by unfold unh; rw [if_neg n]
  refine ⟨unh G' a, ⟨k.obj, k.pen, k.memo, fun b hb => ?_, k.tab⟩, ⟨fun b x e => ?_, fun b e => ?_, fun b K J e => ?_⟩, .lst (by unfold unh; rw [if_pos rfl]) hl (RepL.le le l)⟩
  · rw [ne fun z => hb (by rw [z]; exact hn)]; exact k.gh b hb
  · by_cases z : b = a
    · subst z; unfold unh at e; rw [if_pos rfl] at e; cases e
    · rw [ne z] at e; exact g.lst b x e
  · by_cases z : b = a
    · subst z; unfold unh at e; rw [if_pos rfl] at e; cases e
    · rw [ne z] at e; exact g.pen b e
  · by_cases z : b = a
    · subst z; unfold unh at e; rw [if_pos rfl] at e; cases e
    · rw [ne z] at e; exact g.memo b K J e
def dOfF (t : DFr) : DE := fun env q x => t env (fun ds => q (.val (.lst ds))) x
theorem pd_ofF {t : DFr} (h : PFL X E a t) : PD X E a (dOfF t) := by
  refine PE.wk h ?_
  rintro σ H Q ⟨G0, H0, G, env, q, x, e, h, hq, hx⟩
  refine ⟨G0, H0, G, env, _, x, e, h, ?_, hx⟩
  rintro ds v G' H' qd k g f
  obtain ⟨G2, k2, g2, r⟩ := f.val k g
  exact hq _ v G2 H' qd k2 g2 r
theorem EnvOk.fresh {K : PySem.W.Frag} {G0 G G' : Gm} {H0 : HB} {H H' : Hp} {σ : L2.St} {env : SE} {v : V} {ds : List D} (e : EnvOk K G0 H0 G H σ env) (k : Keep G G' H H') (g : GOk G' H') (i : Nat) (f : FreshL K H G' H' v ds) :
    EnvOk K G0 H0 G' H' (σ.set i (some v)) (env.set i (.own ds)) := by
  obtain ⟨a, vs, rfl, hn, hh, hl, l⟩ := f
  refine (e.step k g).setOwn i hh ?_ hl l fun j es _ h z => ?_
  · cases q : H0.hp a with
    | none => rfl
    | some o => exact absurd hn (e.keep.dom e.g0 (by rw [q]; simp))
  · obtain ⟨b, ws, q1, _, _, q4, _⟩ := e.own j es h
    rw [z] at q1
    cases q1
    rw [hn] at q4; cases q4
def dSetOwn (i : Nat) (t : DFr) : DS := fun J env => t env (fun ds => J.nx (env.set i (.own ds))) J.ex
theorem pd_setOwn (i : Nat) {x : Str} {p : Pos} {t : DFr} (he : PFL X E a t) (hN : X.N.Nodup) (hi : X.N[i]? = some x := by rfl) (hx : Loc X.env.scope x := by first | exact Or.inl rfl | exact Or.inr rfl) (hs : swapsWith a (some (.Name x p)) pos.line X.env = pure false := by rfl)
    (hf : X.fn x = true ∨ X.env.scope.names.lookup x = some .local := by first | exact .inl rfl | exact .inr rfl) : PDS X E (.Assign [.Name x p] a pos) (dSetOwn i t) := by
  refine PS.wk (ps_set hN hi hx he hs hf) ?_
  rintro Z σ H ⟨G0, H0, G, env, J, e, h, hn, hr, hb, hc, hx⟩
  refine ⟨G0, H0, G, env, _, _, e, h, ?_, hx.now e⟩
  rintro ds v G' H' q k g f
  exact hn _ G' _ H' q (e.fresh k g i f)

/-! ### own lists written -/
end
end QD
namespace QD
open PySem PySem.Spec PyProof.Rows L2
/-! ### a context in which code runs -/
structure BC (X : Cx) (E : XK) (k : Nat) : Prop where
  calm : X.calm = true
  room : Room k X.A
  gd : X.A.guards = some []
  pass : Passes (L2.CX X.prog X.w) X E
  nd : X.N.Nodup
  tk : Takes X (fun cls d _ H => E cls d H)
theorem BC.u64 {X : Cx} {E : XK} {k : Nat} (B : BC X E k) : X.A.units + 64 < cLine := B.room.units
theorem BC.u65 {X : Cx} {E : XK} {k : Nat} (B : BC X E k) : X.A.units + 65 < cLine := by have := B.room.un; omega
theorem BC.blk {X : Cx} {E : XK} {k : Nat} (B : BC X E k) (s : Shared) (H : Hp) (scope : Scope) (ce : PySem.Env) (fp : List Addr) : BC (X.blk s H scope ce fp) E0 k :=
  ⟨B.calm, B.room, B.gd, passL, B.nd, takes0⟩

/-! ### a def's promise where no repr is under way -/
structure FnG (P : Program) (w : World) (K : PySem.W.Frag) (mg : Str → Option Value) (base : Heap) (k : Nat) (f : Addr) (fd : FuncData) (ps : List Str) (sp : Sp) : Prop where
  len : ∀ vs H Q E, sp vs H Q E → vs.length = ps.length
  run : ∀ (A : Around) (callers : List PySem.Env) (s : Shared) (H : Hp) (args : Args) (us : List Value) (vs : List V) (Q : VK) (E : XK), A.guards = some [] → Room k A →
    Env0 P w K mg base A callers s H → BindsTo s fd args (ps.zip us) → Vals vs us → sp vs H Q E → codeAny (model P w) A (.call (.ref f) args) (CR (L2.CX P w) callers P w H s Q E) s
/-- a def by its body -/
theorem fnG_ofC {P : Program} {w : World} {K : PySem.W.Frag} {mg : Str → Option Value} {base : Heap} {x qual : Str} {st : Stmt} {f : Addr} {fd : FuncData} {N ps : List Str} {k : Nat} {sp : Sp} (F : Fun K x qual st f fd) (S : FnScope N ps (defScope st))
    (len : ∀ vs H Q E, sp vs H Q E → vs.length = ps.length)
    (body : ∀ (cdv : Value) (A : Around) (callers : List PySem.Env) (s : Shared) (H : Hp) (vs : List V) (Q : VK) (E : XK), BC (cxOf (L2.CX P w) P w K mg base N qual (defScope st) f cdv A callers s H E) E k →
      PassesOwn (model P w) (cxOf (L2.CX P w) P w K mg base N qual (defScope st) f cdv A callers s H E).A (cxOf (L2.CX P w) P w K mg base N qual (defScope st) f cdv A callers s H E).env (cxOf (L2.CX P w) P w K mg base N qual (defScope st) f cdv A callers s H E).xe →
      (∃ kV doc pm an ct, fd = PySem.W.fnOf x qual (defArgs st) (defBody st) (defScope st) .none kV doc pm an cdv ct) → sp vs H Q E → ∃ t, PSs (cxOf (L2.CX P w) P w K mg base N qual (defScope st) f cdv A callers s H E) (defBody st) t ∧ t { nx := fun _ H' => Q .non H', rt := Q } (L2.start N vs) H) : FnG P w K mg base (k + 1) f fd ps sp := by
  obtain ⟨oc, od, kV, doc, pm, an, cdv, ct, osl, rfl, lk, hcd⟩ := F.ex
  refine ⟨len, fun A l s H args us vs Q E hg hr e0 hb rv hsp => ?_⟩
  have nArgs := len _ _ _ _ hsp
  have inK : K.In s.heap := e0.mod.kin.keeps fun b o q => (e0.bs b o q).1
  have noLim : s.heap.NoLimit := e0.mod.nolimit.keeps fun b o q => (e0.bs b o q).1
  have kinds : ∀ y ∈ ps.zip us, (defScope st).names.lookup y.1 = some .local ∨ ((defScope st).names.lookup y.1 = some .cell ∧ ((cellsFrom (s.heap.objs.size + 1) (defScope st).names []).lookup y.1).isSome = true) := by
    rintro ⟨n, v⟩ hy
    rcases S.par n (List.of_mem_zip hy).1 with q | q
    · exact .inl q
    · exact .inr ⟨q, PySem.W.cellsFrom_some _ _ _ (.inl q)⟩
  refine codeAny_call_function hr.depth (inK _ _ lk) rfl S.co S.gen rfl (PySem.W.codeRec_of inK hcd) (hb _ _ _ _ ?_)
  refine wpAny_newFunctionEnv_cells S.kind kinds fun env he s2 entered => ?_
  subst he
  refine ⟨noLim.keeps entered.toInCall.keep, codeAny_func ?_⟩
  have tk : Takes (cxOf (L2.CX P w) P w K mg base N qual (defScope st) f cdv A l s H E) (fun cls d _ H => E cls d H) := takes_of rfl rfl rfl rfl
  have ctx : BC (cxOf (L2.CX P w) P w K mg base N qual (defScope st) f cdv A l s H E) E k := ⟨rfl, hr.deeper _, hg, passes_call tk fun _ _ _ _ z => z, S.nd, tk⟩
  obtain ⟨t, ht, q⟩ := body cdv A l s H vs Q E ctx (passes_of rfl) ⟨_, _, _, _, _, rfl⟩ hsp
  have I := inv_start (CX := L2.CX P w) (qual := qual) (f := f) (cd := cdv) (E := E) S hr.hd e0 nArgs rv entered
  have out : ∀ {σ' : L2.St} {H' : Hp} {s' : Shared} {v : V} {u : Value}, Inv (cxOf (L2.CX P w) P w K mg base N qual (defScope st) f cdv A l s H E) [] σ' H' s' → RelV v u → Q v H' → CE l P w H s Q u s' := by
    intro σ' H' s' v u J r1 r2
    exact ⟨v, H', J.os, J.bare, J.base, J.hok, r1, r2⟩
  refine wpAny_mono (ht.run [] s2 _ H _ I q) (fun fl s' hs => ?_) fun _ _ hs => hs
  cases fl with
  | ret u => obtain ⟨v, σ', H', J, r1, r2⟩ := hs; exact out J r1 r2
  | next => obtain ⟨σ', H', J, r2⟩ := hs; exact out (v := .non) (u := .none) J rfl r2
  | brk => obtain ⟨_, _, _, z⟩ := hs; exact z.elim
  | cont => obtain ⟨_, _, _, z⟩ := hs; exact z.elim
theorem fnG_of {P : Program} {w : World} {K : PySem.W.Frag} {mg : Str → Option Value} {base : Heap} {x qual : Str} {st : Stmt} {f : Addr} {fd : FuncData} {N ps : List Str} {k : Nat} {sp : Sp} (F : Fun K x qual st f fd) (S : FnScope N ps (defScope st))
    (len : ∀ vs H Q E, sp vs H Q E → vs.length = ps.length)
    (body : ∀ (cdv : Value) (A : Around) (callers : List PySem.Env) (s : Shared) (H : Hp) (vs : List V) (Q : VK) (E : XK), BC (cxOf (L2.CX P w) P w K mg base N qual (defScope st) f cdv A callers s H E) E k →
      PassesOwn (model P w) (cxOf (L2.CX P w) P w K mg base N qual (defScope st) f cdv A callers s H E).A (cxOf (L2.CX P w) P w K mg base N qual (defScope st) f cdv A callers s H E).env (cxOf (L2.CX P w) P w K mg base N qual (defScope st) f cdv A callers s H E).xe →
      sp vs H Q E → ∃ t, PSs (cxOf (L2.CX P w) P w K mg base N qual (defScope st) f cdv A callers s H E) (defBody st) t ∧ t { nx := fun _ H' => Q .non H', rt := Q } (L2.start N vs) H) : FnG P w K mg base (k + 1) f fd ps sp :=
  fnG_ofC F S len fun cdv A l s H vs Q E B po _ h => body cdv A l s H vs Q E B po h

/-! ### the start of a def -/
def startE (n : Nat) (ds : List D) : SE := ds.map EV.val ++ List.replicate (n - ds.length) EV.no
theorem startE_dic {n i : Nat} {ds : List D} {ks : List Key} {es : List D} : (startE n ds)[i]? ≠ some (.dic ks es) := fun h => by
  unfold startE at h
  rcases List.mem_append.mp (List.mem_of_getElem? h) with z | z
  · obtain ⟨d, _, e⟩ := List.mem_map.mp z; cases e
  · have := (List.mem_replicate.mp z).2; cases this
theorem startE_sto {n i : Nat} {ds : List D} {a C dx : Addr} {fs : List (Str × V)} {es : List D} : (startE n ds)[i]? ≠ some (.sto a C dx fs es) := fun h => by
  unfold startE at h
  rcases List.mem_append.mp (List.mem_of_getElem? h) with z | z
  · obtain ⟨d, _, e⟩ := List.mem_map.mp z; cases e
  · have := (List.mem_replicate.mp z).2; cases this
theorem startE_ok {K : PySem.W.Frag} {G : Gm} {H : Hp} {N : List Str} {vs : List V} {ds : List D} (g : GOk G H) (r : RepL K G H vs ds) : EnvOk K G ⟨H, []⟩ G H (L2.start N vs) (startE N.length ds) := by
  have hl := r.length
  have own : ∀ (i : Nat) (es : List D), (startE N.length ds)[i]? ≠ some (.own es) := fun i es h => by
    unfold startE at h
    rcases List.mem_append.mp (List.mem_of_getElem? h) with z | z
    · obtain ⟨d, _, e⟩ := List.mem_map.mp z; cases e
    · have := (List.mem_replicate.mp z).2; cases this
  refine ⟨g, Keep.refl G H, g, by simp [startE, L2.start, hl], fun p hp => (nomatch hp), fun i d h => ?_, fun i es h => absurd h (own i es), fun i j es _ a _ h => absurd h (own i es), DicOk.non (fun i ks es h => startE_dic h) fun i a C dx fs es h => startE_sto h⟩
  unfold startE at h
  by_cases c : i < ds.length
  · rw [List.getElem?_append_left (by simpa using c), List.getElem?_map] at h
    obtain ⟨d', e1, e2⟩ := Option.map_eq_some_iff.mp h
    cases e2
    obtain ⟨v, e3, e4⟩ := r.get e1
    refine ⟨v, ?_, e4⟩
    unfold L2.start
    rw [List.getElem?_append_left (by simp; omega), List.getElem?_map, e3]
    rfl
  · rw [List.getElem?_append_right (by simpa using c), List.getElem?_replicate] at h
    split at h <;> cases h
/-- a def's promise over data, by its body's reading -/
theorem def_ok {P : Program} {w : World} {K : PySem.W.Frag} {mg : Str → Option Value} {base : Heap} {x qual : Str} {st : Stmt} {f : Addr} {fd : FuncData} {N ps : List Str} {k : Nat} {F : DF} {t : DS} (fn : Fun K x qual st f fd) (S : FnScope N ps (defScope st))
    (body : ∀ (cdv : Value) (A : Around) (callers : List PySem.Env) (s : Shared) (H : Hp) (E : XK), BC (cxOf (L2.CX P w) P w K mg base N qual (defScope st) f cdv A callers s H E) E k →
      PassesOwn (model P w) (cxOf (L2.CX P w) P w K mg base N qual (defScope st) f cdv A callers s H E).A (cxOf (L2.CX P w) P w K mg base N qual (defScope st) f cdv A callers s H E).env (cxOf (L2.CX P w) P w K mg base N qual (defScope st) f cdv A callers s H E).xe →
      PDSs (cxOf (L2.CX P w) P w K mg base N qual (defScope st) f cdv A callers s H E) E (defBody st) t)
    (pure : ∀ ds q x, F ds q x → ds.length = ps.length ∧ t { nx := fun _ => q .non, rt := q, ex := x } (startE N.length ds)) : FnG P w K mg base (k + 1) f fd ps (spOf K F) := by
  refine fnG_of fn S (fun vs H Q E ⟨G, ds, q, x, g, r, h, _⟩ => by rw [r.length]; exact (pure ds q x h).1) fun cdv A l s H vs Q E B po ⟨G, ds, q, x, g, r, h, hq, hx⟩ => ?_
  refine ⟨_, body cdv A l s H E B po, G, ⟨H, []⟩, G, startE N.length ds, _, startE_ok g r, (pure ds q x h).2, ?_, ?_, fun _ _ _ _ z => z.elim, fun _ _ _ _ z => z.elim, hx⟩
  · intro env' G' σ' H' z e'
    exact hq .non .non G' H' z e'.keep e'.gok .non
  · intro d v G' H' z k' g' r'
    exact hq d v G' H' z k' g' r'

/-! ### calls -/
structure CalG (P : Program) (w : World) (K : PySem.W.Frag) (mg : Str → Option Value) (base : Heap) (k : Nat) (x : Str) (sp : Sp) (dvs : List V) : Prop where
  ex : ∃ f fd ps ds, FnG P w K mg base k f fd ps sp ∧ mg x = some (.ref f) ∧ PySem.W.keepIn K (.ref f) = true ∧ Binds K fd ps ds ∧ Vals dvs ds
section
variable {X : Cx} {E : XK} {j k : Nat} {x : Str} {sp : Sp} {dvs : List V} {e : Expr} {es : List Expr} {p pos : Pos} {t : TA} {sA : DA}
theorem run_g {f : Addr} {fd : FuncData} {ps : List Str} {ds : List Value} {pins : List (Addr × Obj)} {σ : L2.St} {H : Hp} {s : Shared} {Q : VK} {us : List Value} {vs : List V} (F : FnG X.prog X.w X.K X.mg X.base k f fd ps sp) (B : BC X E k) (hb : Binds X.K fd ps ds) (hd : Vals dvs ds)
    (I : Inv X pins σ H s) (r : Vals vs us) (h : sp (vs ++ dvs) H Q E) : wpAny (model X.prog X.w) X.A (call (.ref f) us) (EP X pins σ Q) X.xe s := by
  have all : Vals (vs ++ dvs) (us ++ ds) := r.append hd
  have n : (us ++ ds).length = ps.length := by rw [← all.length]; exact F.len _ _ _ _ h
  refine wpAny_call (codeAny_mono (F.run X.A X.stack s H ⟨us, []⟩ (us ++ ds) (vs ++ dvs) Q E B.gd B.room I.env0 (hb s us I.kIn n) all h) fun res s' q => ?_)
  cases res with
  | error ex => exact B.pass pins σ H s ex s' I q
  | ok fl => cases fl with
    | ret u => exact I.after q
    | next => exact q.elim
    | brk => exact q.elim
    | cont => exact q.elim
theorem BC.down {X : Cx} {E : XK} {j k : Nat} (B : BC X E j) (h : k ≤ j) : BC X E k := ⟨B.calm, B.room.mono h, B.gd, B.pass, B.nd, B.tk⟩
theorem pe_g (c : CalG X.prog X.w X.K X.mg X.base k x sp dvs) (B : BC X E j) (hk : k ≤ j) (ha : PA X (e :: es) t) (hg : Gl X x := by rfl) (hdb : (x == ("__debug__" : Str)) = false := by decide)
    (he : starEach (e :: es) X.env = (false, eval e X.env) :: starEach es X.env := by rfl) (hpl : (backTo pos (starEach es X.env)).any (·.1) = false := by rfl) : PE X (.Call (.Name x p) (e :: es) [] pos) (tCall sp dvs E t) := by
  obtain ⟨f, fd, ps, ds, F, hm, kp, hb, hd⟩ := c.ex
  refine ⟨fun pins s σ H Q I h => wpAny_Call_Name_kw (ld_glob I hg hm (PySem.W.callWith_K (h₀ := X.base) I.ok.mod.kin kp (thn (ha.run pos pins s σ H _ I h) ?_) he hpl) hdb)⟩
  rintro us s1 ⟨vs, H1, I1, r, q⟩
  exact ⟨I1.kIn, run_g F (B.down hk) hb hd I1 r q⟩
theorem pd_call {F : DF} (c : CalG X.prog X.w X.K X.mg X.base k x (spOf X.K F) []) (B : BC X E j) (hk : k ≤ j) (ha : PDA X E (e :: es) sA) (hg : Gl X x := by rfl) (hdb : (x == ("__debug__" : Str)) = false := by decide)
    (he : starEach (e :: es) X.env = (false, eval e X.env) :: starEach es X.env := by rfl) (hpl : (backTo pos (starEach es X.env)).any (·.1) = false := by rfl) : PD X E (.Call (.Name x p) (e :: es) [] pos) (dCall F sA) :=
  PE.wk (pe_g c B hk ha hg hdb he hpl) fun _ _ _ h => lift_call (fun vs H Q E z => by rw [List.append_nil]; exact z) h
end
end QD
namespace QD
open PySem PySem.Spec PyProof.Rows L2
section
variable {X : Cx} {E : XK} {e a b c : Expr} {te ta tb : DE} {sc : DT} {pos p : Pos} {x : Str}
/-! ### an own list: append, insert -/
def dAppend (i : Nat) (te : DE) : DS := fun J env => ∃ ds, env[i]? = some (.own ds) ∧ ds.length < 16777216 ∧ te env (fun r => ∃ d, r = .val d ∧ J.nx (env.set i (.own (ds ++ [d])))) J.ex
theorem pd_append (i : Nat) {p2 p3 : Pos} (he : PD X E a ta) (hN : X.N[i]? = some x := by rfl) (hv : Vis X.env.scope x := by first | exact Or.inl rfl | exact Or.inr (Or.inl rfl) | exact Or.inr (Or.inr rfl)) (hd : (x == ("__debug__" : Str)) = false := by decide)
    (hcd : (x == ("__classdict__" : Str)) = false := by decide) (hline : (p2.endLine == p3.line) = true := by rfl) (hst : starEach [a] X.env = (false, eval a X.env) :: starEach [] X.env := by rfl)
    (hbase : attributeBase (.Name x p) "append" X.env (eval (.Name x p) X.env) = eval (.Name x p) X.env := by rfl)
    (hfew : ((backTo p3 (starEach [a] X.env)).all (fun x => !x.1) && (backToKw p3 (keywordEach [] X.env)).all (fun x => x.1.isSome) && decide ([a].length + ([] : List Keyword).length + (if ([] : List Keyword).isEmpty then 0 else 1) < 30)) = true := by rfl)
    (hs : swapsWith (.Call (.Attribute (.Name x p) "append" p2) [a] [] p3) none pos.line X.env = pure false := by rfl) :
    PDS X E (.Expr (.Call (.Attribute (.Name x p) "append" p2) [a] [] p3) pos) (dAppend i ta) := by
  refine PS.wk (ps_expr (pe_bm PySem.F.plainAttrs_list PySem.F.slot_list_append PySem.F.type_list_append mt_append (pv i hN hv hd hcd) (pa_cons (show PE X a (lift X.K E ta) from he) pa_nil hst) hbase hfew hline hst rfl) hs) ?_
  rintro Z σ H ⟨G0, H0, G, env, J, e, ⟨ds, hi, hl, h⟩, hn, hr, hb, hc, hx⟩
  obtain ⟨l, vs, e1, e2, e3, e4, e5⟩ := e.own i ds hi
  refine ⟨.ref l, e1, .inl ⟨rfl, vs, .inl (.inl e4)⟩, G0, H0, G, env, _, _, e, h, ?_, hx.now e⟩
  rintro r v G' H' ⟨d, rfl, q⟩ k g rr
  have e' := e.step k g
  obtain ⟨l', vs', f1, f2, f3, f4, f5⟩ := e'.own i ds hi
  rw [e1] at f1
  cases f1
  exact ⟨l, vs', v, rfl, rfl, f4, by rw [f5.length, sizeLine_eq]; exact hl, hn _ G' σ _ q (e'.write hi e1 (f5.append (.cons rr .nil)))⟩
def dInsert (i : Nat) (ta tb : DE) : DS := fun J env => ∃ ds, env[i]? = some (.own ds) ∧ ds.length < 16777216 ∧
  ta env (fun r => ∃ k, r.d = .int k ∧ 0 ≤ k ∧ k < 16777216 ∧ tb env (fun r2 => ∃ d, r2 = .val d ∧ J.nx (env.set i (.own (ds.take k.toNat ++ [d] ++ ds.drop k.toNat)))) J.ex) J.ex
/-! ### several names at once -/
inductive RF where
  | val (d : D) | own (ds : List D) | obj (a C dx : Addr) (fs : List (Str × V)) (ds : List D)
def RF.ev : RF → EV
  | .val d => .val d
  | .own ds => .own ds
  | .obj a C dx fs ds => .sto a C dx fs ds
inductive FRepL (K : PySem.W.Frag) (H : Hp) (G' : Gm) (H' : Hp) : List V → List RF → List Addr → Prop
  | nil : FRepL K H G' H' [] [] []
  | val {v : V} {d : D} {vs : List V} {rs : List RF} {os : List Addr} : Rep K G' H' v d → FRepL K H G' H' vs rs os → FRepL K H G' H' (v :: vs) (.val d :: rs) os
  | own {l : Addr} {us : List V} {ds : List D} {vs : List V} {rs : List RF} {os : List Addr} : H l = none → G' l = some .hid → H' l = some (.lst us) → RepL K G' H' us ds → l ∉ os → FRepL K H G' H' vs rs os → FRepL K H G' H' (.ref l :: vs) (.own ds :: rs) (l :: os)
  | obj {l C dx : Addr} {fs : List (Str × V)} {ds : List D} {vs : List V} {rs : List RF} {os : List Addr} : H l = none → G' l = some .hid → H' l = some (.ins C dx fs) → RepL K G' H' (fs.map (·.2)) ds → l ∉ os → FRepL K H G' H' vs rs os → FRepL K H G' H' (.ref l :: vs) (.obj l C dx fs ds :: rs) (l :: os)
theorem FRepL.lt {K : PySem.W.Frag} {H : Hp} {G' : Gm} {H' : Hp} : ∀ {vs : List V} {rs : List RF} {os : List Addr}, FRepL K H G' H' vs rs os → ∀ l ∈ os, H l = none
  | _, _, _, .nil, _, h => nomatch h
  | _, _, _, .val _ r, l, h => r.lt l h
  | _, _, _, .own n _ _ _ _ r, l, h => by
    rcases List.mem_cons.mp h with z | z
    · rw [z]; exact n
    · exact r.lt l z
  | _, _, _, .obj n _ _ _ _ r, l, h => by
    rcases List.mem_cons.mp h with z | z
    · rw [z]; exact n
    · exact r.lt l z
theorem FRepL.before {K : PySem.W.Frag} {G G1 G' : Gm} {H H1 H' : Hp} (g : GOk G H) (k : Keep G G1 H H1) : ∀ {vs : List V} {rs : List RF} {os : List Addr}, FRepL K H1 G' H' vs rs os → FRepL K H G' H' vs rs os
  | _, _, _, .nil => .nil
  | _, _, _, .val a r => .val a (r.before g k)
  | _, _, _, .own n h1 h2 h3 h4 r => .own (by
      rename_i l us ds vs rs os
      cases q : H l with
      | none => rfl
      | some o => exact absurd n (k.dom g (by rw [q]; simp))) h1 h2 h3 h4 (r.before g k)
  | _, _, _, .obj n h1 h2 h3 h4 r => .obj (by
      rename_i l C dx fs ds vs rs os
      cases q : H l with
      | none => rfl
      | some o => exact absurd n (k.dom g (by rw [q]; simp))) h1 h2 h3 h4 (r.before g k)
theorem FRepL.keep {K : PySem.W.Frag} {G1 G2 : Gm} {H H1 H2 : Hp} (k : Keep G1 G2 H1 H2) : ∀ {vs : List V} {rs : List RF} {os : List Addr}, FRepL K H G1 H1 vs rs os → FRepL K H G2 H2 vs rs os
  | _, _, _, .nil => .nil
  | _, _, _, .val a r => .val (Rep.keep k a) (r.keep k)
  | _, _, _, .own n h1 h2 h3 h4 r => .own n (by rw [k.gh _ (by rw [h2]; simp)]; exact h1) (k.obj _ _ h2 (by rw [h1]; simp) nofun) (RepL.keep k h3) h4 (r.keep k)
  | _, _, _, .obj n h1 h2 h3 h4 r => .obj n (by rw [k.gh _ (by rw [h2]; simp)]; exact h1) (k.obj _ _ h2 (by rw [h1]; simp) nofun) (RepL.keep k h3) h4 (r.keep k)
abbrev DAF := SE → (List RF → Prop) → XP → Prop
def liftPF (K : PySem.W.Frag) (E : XK) (t : DAF) : TA := fun σ H Q => ∃ G0 H0 G env q x, EnvOk K G0 H0 G H σ env ∧ t env q x ∧ (∀ rs vs os G' H', q rs → Keep G G' H H' → GOk G' H' → FRepL K H G' H' vs rs os → Q vs H') ∧ XOk K E G H x
def PAF (X : Cx) (E : XK) (es : List Expr) (t : DAF) : Prop := PA X es (liftPF X.K E t)
def dFNil : DAF := fun _ q _ => q []
def dFVal (ta : DE) (tr : DAF) : DAF := fun env q x => ta env (fun r => ∃ d, r = .val d ∧ tr env (fun rs => q (.val d :: rs)) x) x
def dFOwn (ta : DFr) (tr : DAF) : DAF := fun env q x => ta env (fun ds => tr env (fun rs => q (.own ds :: rs)) x) x
variable {es : List Expr} {tf : DFr} {sF : DAF}
theorem paf_nil : PAF X E [] dFNil := by
  refine PA.wk pa_nil ?_
  rintro σ H Q ⟨G0, H0, G, env, q, x, e, h, hq, hx⟩
  exact hq [] [] [] G H h (Keep.refl G H) e.gok .nil
theorem paf_val (ha : PD X E a ta) (hr : PAF X E es sF) (hs : starEach (a :: es) X.env = (false, eval a X.env) :: starEach es X.env := by rfl) : PAF X E (a :: es) (dFVal ta sF) := by
  refine PA.wk (pa_cons ha hr hs) ?_
  rintro σ H Q ⟨G0, H0, G, env, q, x, e, h, hq, hx⟩
  refine ⟨G0, H0, G, env, _, x, e, h, ?_, hx⟩
  rintro r v G' H' ⟨d, rfl, qk⟩ kk g rr
  refine ⟨G0, H0, G', env, _, x, e.step kk g, qk, ?_, hx.keep e.gok kk⟩
  rintro rs vs os G2 H2 q2 k2 g2 rl
  exact hq _ _ os G2 H2 q2 (kk.trans e.gok k2) g2 (.val (Rep.keep k2 rr) (rl.before e.gok kk))
theorem paf_own (ha : PFL X E a tf) (hr : PAF X E es sF) (hs : starEach (a :: es) X.env = (false, eval a X.env) :: starEach es X.env := by rfl) : PAF X E (a :: es) (dFOwn tf sF) := by
  refine PA.wk (pa_cons ha hr hs) ?_
  rintro σ H Q ⟨G0, H0, G, env, q, x, e, h, hq, hx⟩
  refine ⟨G0, H0, G, env, _, x, e, h, ?_, hx⟩
  rintro ds v G' H' qk kk g ⟨l, us, rfl, hn, hh, hl, ll⟩
  refine ⟨G0, H0, G', env, _, x, e.step kk g, qk, ?_, hx.keep e.gok kk⟩
  rintro rs vs os G2 H2 q2 k2 g2 rl
  refine hq _ _ (l :: os) G2 H2 q2 (kk.trans e.gok k2) g2 (.own hn (by rw [k2.gh l (by rw [hl]; simp)]; exact hh) (k2.obj _ _ hl (by rw [hh]; simp) nofun) (RepL.keep k2 ll) (fun z => ?_) (rl.before e.gok kk))
  have := rl.lt l z
  rw [hl] at this; cases this
def setS : List Nat → List V → L2.St → L2.St
  | i :: is, v :: vs, σ => setS is vs (σ.set i (some v))
  | _, _, σ => σ
def setE : List Nat → List RF → SE → SE
  | i :: is, r :: rs, env => setE is rs (env.set i r.ev)
  | _, _, env => env
theorem sto_back {env : SE} {i j : Nat} {x : EV} {b C dx : Addr} {fs : List (Str × V)} {ds : List D} (h : (env.set i x)[j]? = some (.sto b C dx fs ds)) : (i = j ∧ x = .sto b C dx fs ds) ∨ env[j]? = some (.sto b C dx fs ds) := by
  by_cases q : i = j
  · subst q
    rw [List.getElem?_set] at h
    simp only [if_true] at h
    split at h
    · exact .inl ⟨rfl, Option.some.inj h⟩
    · cases h
  · rw [List.getElem?_set_ne q] at h
    exact .inr h
theorem EnvOk.setAll {K : PySem.W.Frag} {G0 G : Gm} {H0 : HB} {Hs H : Hp} : ∀ (is : List Nat) {vs : List V} {rs : List RF} {os : List Addr} {σ : L2.St} {env : SE}, EnvOk K G0 H0 G H σ env → FRepL K Hs G H vs rs os → (∀ l ∈ os, H0.hp l = none) →
    (∀ l ∈ os, ∀ (j : Nat) (es : List D), env[j]? = some (.own es) → σ[j]? ≠ some (some (.ref l))) → (∀ l ∈ os, ∀ (j : Nat) (b C dx : Addr) (fs : List (Str × V)) (es : List D), env[j]? = some (.sto b C dx fs es) → l ≠ b) → EnvOk K G0 H0 G H (setS is vs σ) (setE is rs env)
  | [], _, _, _, _, _, e, _, _, _, _ => by simpa [setS, setE] using e
  | i :: is, _, _, _, _, _, e, .nil, _, _, _ => by simpa [setS, setE] using e
  | i :: is, _, _, os, σ, env, e, .val (d := d) (v := v) r f, h0, h, h2 => by
    refine EnvOk.setAll is (e.setVal i r) f h0 (fun l hl j es q => ?_) fun l hl j b C dx fs es q => ?_
    · have ne : i ≠ j := fun z => by
        subst z
        rw [List.getElem?_set] at q
        simp only [if_true] at q
        split at q <;> cases q
      rw [List.getElem?_set_ne ne] at q ⊢
      exact h l hl j es q
    · rcases sto_back q with ⟨_, z⟩ | z
      · cases z
      · exact h2 l hl j b C dx fs es z
  | i :: is, _, _, _, σ, env, e, .own (l := l) (ds := ds) n hh hl ll no f, h0, h, h2 => by
    refine EnvOk.setAll is (e.setOwn i hh (h0 l List.mem_cons_self) hl ll fun j es _ q => h l List.mem_cons_self j es q) f (fun m hm => h0 m (List.mem_cons_of_mem _ hm)) (fun m hm j es q z => ?_) fun m hm j b C dx fs es q => ?_
    · by_cases ne : i = j
      · subst ne
        rw [List.getElem?_set] at z
        simp only [if_true] at z
        split at z
        · cases z; exact no hm
        · cases z
      · rw [List.getElem?_set_ne ne] at q z
        exact h m (List.mem_cons_of_mem _ hm) j es q z
    · rcases sto_back q with ⟨_, z⟩ | z
      · cases z
      · exact h2 m (List.mem_cons_of_mem _ hm) j b C dx fs es z
  | i :: is, _, _, _, σ, env, e, .obj (l := l) (C := C) (dx := dx) (fs := fs) (ds := ds) n hh hl ll no f, h0, h, h2 => by
    refine EnvOk.setAll is (e.setSto (C := C) (dx := dx) i hh (h0 l List.mem_cons_self) hl ll fun j b C' dx' fs' ds' _ q => h2 l List.mem_cons_self j b C' dx' fs' ds' q) f (fun m hm => h0 m (List.mem_cons_of_mem _ hm)) (fun m hm j es q z => ?_) fun m hm j b C' dx' fs' es q => ?_
    · by_cases ne : i = j
      · subst ne
        rw [List.getElem?_set] at z
        simp only [if_true] at z
        split at z
        · cases z; exact no hm
        · cases z
      · rw [List.getElem?_set_ne ne] at q z
        exact h m (List.mem_cons_of_mem _ hm) j es q z
    · rcases sto_back q with ⟨_, z⟩ | z
      · cases z
        exact fun z => no (z ▸ hm)
      · exact h2 m (List.mem_cons_of_mem _ hm) j b C' dx' fs' es z
theorem EnvOk.setBatch {K : PySem.W.Frag} {G0 G G' : Gm} {H0 : HB} {H H' : Hp} {σ : L2.St} {env : SE} {vs : List V} {rs : List RF} {os : List Addr} (e : EnvOk K G0 H0 G H σ env) (k : Keep G G' H H') (g : GOk G' H') (is : List Nat) (f : FRepL K H G' H' vs rs os) :
    EnvOk K G0 H0 G' H' (setS is vs σ) (setE is rs env) := by
  refine EnvOk.setAll is (e.step k g) f (fun l hl => ?_) (fun l hl j es q z => ?_) fun l hl j b C dx fs es q z => ?_
  · cases w : H0.hp l with
    | none => rfl
    | some o => exact absurd (f.lt l hl) (e.keep.dom e.g0 (by rw [w]; simp))
  · obtain ⟨m, us, q1, _, _, q4, _⟩ := e.own j es q
    rw [q1] at z
    cases z
    have := f.lt _ hl
    rw [q4] at this; cases this
  · obtain ⟨_, _, _, q4, _⟩ := e.dic.sto j b C dx fs es q
    have := f.lt _ hl
    rw [z, q4] at this; cases this
def dPar (is : List Nat) (t : DAF) : DS := fun J env => t env (fun rs => rs.length = is.length ∧ J.nx (setE is rs env)) J.ex
theorem FRepL.length {K : PySem.W.Frag} {H : Hp} {G' : Gm} {H' : Hp} : ∀ {vs : List V} {rs : List RF} {os : List Addr}, FRepL K H G' H' vs rs os → vs.length = rs.length
  | _, _, _, .nil => rfl
  | _, _, _, .val _ r => by simp [r.length]
  | _, _, _, .own _ _ _ _ _ r => by simp [r.length]
  | _, _, _, .obj _ _ _ _ _ r => by simp [r.length]
theorem pd_par2 (i j : Nat) {y : Str} {px py pt : Pos} {kt k2 pt2} (ha : PAF X E [a, b] sF) (hc : X.calm = true) (hN : X.N.Nodup) (hi : X.N[i]? = some x := by rfl) (hj : X.N[j]? = some y := by rfl) (hij : i ≠ j := by decide)
    (hx : X.env.scope.names.lookup x = some .local := by rfl) (hy : X.env.scope.names.lookup y = some .local := by rfl)
    (hw : swappedStores [.Tuple [.Name x px, .Name y py] kt pt] (.Tuple [a, b] k2 pt2) X.env = pure (some [x, y]) := by rfl)
    (hs : swapsWithSole [.Tuple [.Name x px, .Name y py] kt pt] (.Tuple [a, b] k2 pt2) pos.line X.env = pure false := by rfl) : PDS X E (.Assign [.Tuple [.Name x px, .Name y py] kt pt] (.Tuple [a, b] k2 pt2) pos) (dPar [i, j] sF) := by
  refine PS.wk (ps_par hc hN hi hj hij hx hy ha hw hs) ?_
  rintro Z σ H ⟨G0, H0, G, env, J, e, h, hn, hr, hb, hc, hx⟩
  refine ⟨G0, H0, G, env, _, _, e, h, ?_, hx.now e⟩
  rintro rs vs os G' H' ⟨hl, q⟩ k g f
  have l2 := f.length.trans hl
  match vs, l2 with
  | [v, w], _ => exact ⟨v, w, rfl, hn _ G' _ H' q (e.setBatch k g [i, j] f)⟩
theorem pd_par3 (i j l : Nat) {y z : Str} {px py pz pt : Pos} {kt k2 pt2} (ha : PAF X E [a, b, c] sF) (hc : X.calm = true) (hN : X.N.Nodup) (hi : X.N[i]? = some x := by rfl) (hj : X.N[j]? = some y := by rfl) (hl : X.N[l]? = some z := by rfl) (hij : i ≠ j := by decide) (hil : i ≠ l := by decide) (hjl : j ≠ l := by decide)
    (hx : X.env.scope.names.lookup x = some .local := by rfl) (hy : X.env.scope.names.lookup y = some .local := by rfl) (hz : X.env.scope.names.lookup z = some .local := by rfl)
    (hw : swappedStores [.Tuple [.Name x px, .Name y py, .Name z pz] kt pt] (.Tuple [a, b, c] k2 pt2) X.env = pure (some [x, y, z]) := by rfl)
    (hs : swapsWithSole [.Tuple [.Name x px, .Name y py, .Name z pz] kt pt] (.Tuple [a, b, c] k2 pt2) pos.line X.env = pure false := by rfl) : PDS X E (.Assign [.Tuple [.Name x px, .Name y py, .Name z pz] kt pt] (.Tuple [a, b, c] k2 pt2) pos) (dPar [i, j, l] sF) := by
  refine PS.wk (ps_par3 hc hN hi hj hl hij hil hjl hx hy hz ha hw hs) ?_
  rintro Z σ H ⟨G0, H0, G, env, J, e, h, hn, hr, hb, hc, hx⟩
  refine ⟨G0, H0, G, env, _, _, e, h, ?_, hx.now e⟩
  rintro rs vs os G' H' ⟨hl, q⟩ k g f
  have l2 := f.length.trans hl
  match vs, l2 with
  | [v, w, u], _ => exact ⟨v, w, u, rfl, hn _ G' _ H' q (e.setBatch k g [i, j, l] f)⟩
/-- names as a tuple of targets -/
inductive GN (X : Cx) : List Expr → List Nat → TGs → Prop
  | nil : GN X [] [] gNil
  | cons {y : Str} {q : Pos} {es : List Expr} {i : Nat} {is : List Nat} {t : TGs} : X.N[i]? = some y → Loc X.env.scope y → (X.fn y = true ∨ X.env.scope.names.lookup y = some .local) → GN X es is t →
      (assignEach (.Name y q :: es) X.env).map (·.2) = assign (.Name y q) X.env :: (assignEach es X.env).map (·.2) → GN X (.Name y q :: es) (i :: is) (gCons (gName i) t)
theorem GN.pgs {es : List Expr} {is : List Nat} {t : TGs} (h : GN X es is t) (hN : X.N.Nodup) : PGs X es t := by
  induction h with
  | nil => exact pgs_nil
  | cons h1 h2 h3 _ h5 ih => exact pgs_cons (pg_name hN h1 h2 h3) ih h5
theorem GN.set {es : List Expr} {is : List Nat} {t : TGs} (h : GN X es is t) : ∀ {vs : List V} {σ : L2.St} {H : Hp} {Q : L2.St → Hp → Prop}, vs.length = is.length → Q (setS is vs σ) H → t vs σ H Q := by
  induction h with
  | nil => intro vs σ H Q hl q; exact ⟨List.length_eq_zero_iff.mp hl, by simpa [setS] using q⟩
  | cons h1 h2 h3 _ h5 ih =>
    intro vs σ H Q hl q
    cases vs with
    | nil => simp at hl
    | cons v vs => exact ⟨v, vs, rfl, ih (by simpa using hl) q⟩
/-- a, b = x, y where not all the names are plain locals -/
theorem pd_parT {is : List Nat} {tgs : List Expr} {t : TGs} {kt k2 : Nat} {pt pt2 : Pos} (ha : PAF X E es sF) (gn : GN X tgs is t) (hc : X.calm = true) (hN : X.N.Nodup)
    (hn : (assignEach tgs X.env).length = is.length := by rfl) (hst : (assignEach tgs X.env).findIdx? (·.1) = none := by rfl) (hb : es.length ≤ 16777216 := by decide)
    (hs : swapsWithSole [.Tuple tgs kt pt] (.Tuple es k2 pt2) pos.line X.env = pure false := by rfl) (hw : swappedStores [.Tuple tgs kt pt] (.Tuple es k2 pt2) X.env = pure none := by rfl)
    (h1 : (assignEach [.Tuple tgs kt pt] X.env).map (·.2) = [assign (.Tuple tgs kt pt) X.env] := by rfl) (his : is.length ≤ 16777216 := by decide) :
    PDS X E (.Assign [.Tuple tgs kt pt] (.Tuple es k2 pt2) pos) (dPar is sF) := by
  refine PS.wk (ps_asg (pe_tup ha) (pg_tup hc (gn.pgs hN) hn hst) hs hw h1) ?_
  rintro Z σ H ⟨G0, H0, G, env, J, e, h, hn, hr, hb, hc, hx⟩
  refine ⟨G0, H0, G, env, _, _, e, h, ?_, hx.now e⟩
  rintro rs vs os G' H' ⟨hl, q⟩ k g f
  have l2 := f.length.trans hl
  refine ⟨by rw [l2, sizeLine_eq]; exact his, fun q0 hq0 => ⟨q0, vs, rfl, .inl (.inl upd_same), l2, gn.set l2 ?_⟩⟩
  exact hn _ G' _ _ q (e.setBatch (k.trans e.gok (Keep.laid hq0)) (g.laid hq0) is (f.keep (Keep.laid hq0)))
/-- a, b = e -/
def dUnpack (is : List Nat) (te : DE) : DS := fun J env => te env (fun r => ∃ ds, r = .val (.tup ds) ∧ ds.length = is.length ∧ J.nx (setE is (ds.map RF.val) env)) J.ex
theorem frep_vals {K : PySem.W.Frag} {H : Hp} {G' : Gm} {H' : Hp} : ∀ {vs : List V} {ds : List D}, RepL K G' H' vs ds → FRepL K H G' H' vs (ds.map RF.val) []
  | _, _, .nil => .nil
  | _, _, .cons a b => .val a (frep_vals b)
theorem pd_unpack {is : List Nat} {tgs : List Expr} {t : TGs} {kt : Nat} {pt : Pos} (ha : PD X E a ta) (gn : GN X tgs is t) (hc : X.calm = true) (hN : X.N.Nodup)
    (hn : (assignEach tgs X.env).length = is.length := by rfl) (hst : (assignEach tgs X.env).findIdx? (·.1) = none := by rfl)
    (hs : swapsWithSole [.Tuple tgs kt pt] a pos.line X.env = pure false := by rfl) (hw : swappedStores [.Tuple tgs kt pt] a X.env = pure none := by rfl)
    (h1 : (assignEach [.Tuple tgs kt pt] X.env).map (·.2) = [assign (.Tuple tgs kt pt) X.env] := by rfl) : PDS X E (.Assign [.Tuple tgs kt pt] a pos) (dUnpack is ta) := by
  refine PS.wk (ps_asg (show PE X a (lift X.K E ta) from ha) (pg_tup hc (gn.pgs hN) hn hst) hs hw h1) ?_
  rintro Z σ H ⟨G0, H0, G, env, J, e, h, hn, hr, hb, hc, hx⟩
  refine ⟨G0, H0, G, env, _, _, e, h, ?_, hx.now e⟩
  rintro r v G' H' ⟨ds, rfl, hl, q⟩ k g rr
  obtain ⟨l, vs, rfl, hs, hv⟩ := rr.tup rfl
  have l2 := hv.length.trans hl
  exact ⟨l, vs, rfl, hs, l2, gn.set l2 (hn _ G' _ H' q (e.setBatch k g is (frep_vals hv)))⟩

/-! ### what is walked -/
/-- J walks ds as long as v stands for r -/
def WalkR (K : PySem.W.Frag) (J : It) (v : V) (r : R) (ds : List D) : Prop := ∀ G H, GOk G H → RRep K G H v r → ∀ i,
  (i < ds.length → J.go i H ∧ ∀ y H', J.yld i H y H' → ∃ d, ds[i]? = some d ∧ ∃ G', Keep G G' H H' ∧ GOk G' H' ∧ Rep K G' H' y d) ∧ (ds.length ≤ i → J.stop i H)
abbrev DI := SE → (List D → Bool → Prop) → XP → Prop
def R.isVal : R → Bool
  | .val _ => true
  | .brw _ => false
  | .bin _ _ _ => false
def liftI (K : PySem.W.Frag) (E : XK) (t : DI) : TI := fun σ H R' => ∃ G0 H0 G env q x, EnvOk K G0 H0 G H σ env ∧ t env q x ∧
  (∀ ds v r G' H' J, q ds r.isVal → Keep G G' H H' → GOk G' H' → RRep K G' H' v r → WalkR K J v r ds → R' J H') ∧ XOk K E G H x
def PDI (X : Cx) (E : XK) (tg iter : Expr) (t : DI) : Prop := PI X tg iter (liftI X.K E t)
theorem PI.wk {tg iter : Expr} {t t' : TI} (h : PI X tg iter t) (m : ∀ σ H Q, t' σ H Q → t σ H Q) : PI X tg iter t' := ⟨fun pins s σ H Q I hw => h.run pins s σ H Q I (m σ H Q hw)⟩
theorem PI.or {tg iter : Expr} {t t' : TI} (h : PI X tg iter t) (h' : PI X tg iter t') : PI X tg iter (fun σ H Q => t σ H Q ∨ t' σ H Q) := ⟨fun pins s σ H Q I hw => by
  rcases hw with hw | hw
  · exact h.run pins s σ H Q I hw
  · exact h'.run pins s σ H Q I hw⟩
/-- a list or tuple -/
def iSeq (te : DE) : DI := fun env q x => te env (fun r => ∃ ds, r.d = .lst ds ∧ q ds r.isVal) x ∨ te env (fun r => ∃ ds, r.d = .tup ds ∧ q ds r.isVal) x
end
end QD
namespace QD
open PySem PySem.Spec PyProof.Rows L2
section
variable {X : Cx} {E : XK} {e a b c tg iter : Expr} {te ta tb tcc : DE} {sc : DT} {pos p : Pos} {x : Str} {ti : DI}
/-! ### sources -/
theorem walk_list {K : PySem.W.Frag} {a : Addr} {r : R} {ds : List D} (e : r.d = .lst ds) : WalkR K (Itl K a) (.ref a) r ds := by
  intro G H g rr i
  obtain ⟨b, vs, q1, q2, q3, q4⟩ := rr.lst e
  cases q1
  have q2' : SqL K H a vs := .inl (.inl q2)
  refine ⟨fun h => ⟨?_, fun y H' h => ?_⟩, fun h => ⟨vs, q2', by rw [q4.length]; exact h⟩⟩
  · obtain ⟨v, h1, _⟩ := q4.get (List.getElem?_eq_getElem h)
    exact ⟨vs, v, q2', h1⟩
  · obtain ⟨rfl, h⟩ := h
    obtain ⟨d, h1, h2⟩ := q4.getV (h vs q2')
    exact ⟨d, h1, G, Keep.refl G H', g, h2⟩
theorem walk_tup {K : PySem.W.Frag} {a : Addr} {r : R} {ds : List D} (e : r.d = .tup ds) : WalkR K (Itt K a) (.ref a) r ds := by
  intro G H g rr i
  obtain ⟨b, vs, q1, q2, q4⟩ := rr.tup e
  cases q1
  refine ⟨fun h => ⟨?_, fun y H' h => ?_⟩, fun h => ⟨vs, q2, by rw [q4.length]; exact h⟩⟩
  · obtain ⟨v, h1, _⟩ := q4.get (List.getElem?_eq_getElem h)
    exact ⟨vs, v, q2, h1⟩
  · obtain ⟨rfl, h⟩ := h
    obtain ⟨d, h1, h2⟩ := q4.getV (h vs q2)
    exact ⟨d, h1, G, Keep.refl G H', g, h2⟩
theorem pdi_seq (h : PD X E iter te) : PDI X E tg iter (iSeq te) := by
  refine PI.wk (QD.PI.or (pi_list (tg := tg) (show PE X iter (lift X.K E te) from h)) (pi_tup (show PE X iter (lift X.K E te) from h))) ?_
  rintro σ H Q ⟨G0, H0, G, env, q, x, e, h, hq, hx⟩
  rcases h with h | h
  · refine .inl ⟨G0, H0, G, env, _, x, e, h, ?_, hx⟩
    rintro r v G' H' ⟨ds, e1, qd⟩ k g rr
    obtain ⟨a, vs, rfl, q2, q3, q4⟩ := rr.lst e1
    exact ⟨a, rfl, ⟨vs, .inl (.inl q2)⟩, hq ds _ r G' H' _ qd k g rr (walk_list e1)⟩
  · refine .inr ⟨G0, H0, G, env, _, x, e, h, ?_, hx⟩
    rintro r v G' H' ⟨ds, e1, qd⟩ k g rr
    obtain ⟨a, vs, rfl, q2, q4⟩ := rr.tup e1
    exact ⟨a, rfl, ⟨vs, q2⟩, hq ds _ r G' H' _ qd k g rr (walk_tup e1)⟩
/-- range -/
def rngD (lo : Int) (n : Nat) : List D := (List.range n).map fun i => .int (lo + (i : Nat))
theorem rngD_len (lo : Int) (n : Nat) : (rngD lo n).length = n := by simp [rngD]
theorem rngD_at {lo : Int} {n i : Nat} (h : i < n) : (rngD lo n)[i]? = some (.int (lo + (i : Nat))) := by simp [rngD, List.getElem?_range h]
theorem walk_range {K : PySem.W.Frag} {lo : Int} {n : Nat} : WalkR K (Itr lo n) .non (.val .non) (rngD lo n) := by
  intro G H g rr i
  rw [rngD_len]
  refine ⟨fun hi => ⟨hi, fun y H' h => ?_⟩, id⟩
  obtain ⟨rfl, rfl⟩ := h
  exact ⟨_, rngD_at hi, G, Keep.refl G H', g, .int _⟩
def iRange1 (ta : DE) : DI := fun env q x => ta env (fun r => ∃ j, r.d = .int j ∧ -(2 ^ 62) ≤ j ∧ j < 2 ^ 62 ∧ q (rngD 0 j.toNat) true) x
theorem pdi_range1 (ha : PD X E a ta) (hm : X.mg "range" = none) (hg : Gl X "range" := by rfl) (hs : starEach [a] X.env = [(false, eval a X.env)] := by rfl) : PDI X E tg (.Call (.Name "range" p) [a] [] pos) (iRange1 ta) := by
  refine PI.wk (pi_range1 hg hm (pa_cons (show PE X a (lift X.K E ta) from ha) pa_nil hs) hs) ?_
  rintro σ H Q ⟨G0, H0, G, env, q, x, e, h, hq, hx⟩
  refine ⟨G0, H0, G, env, _, x, e, h, ?_, hx⟩
  rintro r v G' H' ⟨j, e1, h1, h2, qd⟩ k g rr
  exact ⟨j, by rw [rr.int e1], h1, h2, hq _ .non (.val .non) G' H' _ qd k g Rep.non walk_range⟩
def iRange2 (ta tb : DE) : DI := fun env q x => ta env (fun r => ∃ i, r.d = .int i ∧ tb env (fun r2 => ∃ j, r2.d = .int j ∧ (-(2 ^ 62) ≤ i ∧ i < 2 ^ 62 ∧ -(2 ^ 62) ≤ j ∧ j < 2 ^ 62) ∧ q (rngD i (j - i).toNat) true) x) x
/-! ### targets -/
abbrev DG := D → SE → Option SE
def PGD (X : Cx) (tg : Expr) (is : List Nat) (dg : DG) : Prop := ∃ g, PG X tg g ∧ ∀ (K : PySem.W.Frag) (G0 : Gm) (H0 : HB) (G : Gm) (H : Hp) (σ : L2.St) (env : SE) (v : V) (d : D) (env' : SE), X.K = K → EnvOk K G0 H0 G H σ env → Rep K G H v d → dg d env = some env' →
  ∀ Q : L2.St → Hp → Prop, (∀ vs, EnvOk K G0 H0 G H (setS is vs σ) env' → Q (setS is vs σ) H) → g v σ H Q
def gN (i : Nat) : DG := fun d env => some (env.set i (.val d))
theorem pgd_name (i : Nat) (hN : X.N.Nodup) (hi : X.N[i]? = some x := by rfl) (hx : Loc X.env.scope x := by first | exact Or.inl rfl | exact Or.inr rfl) (hf : X.fn x = true ∨ X.env.scope.names.lookup x = some .local := by first | exact .inl rfl | exact .inr rfl) : PGD X (.Name x p) [i] (gN i) := by
  refine ⟨_, pg_name hN hi hx hf, fun K G0 H0 G H σ env v d env' hK e r h Q q => ?_⟩
  cases h
  exact q [v] (e.setVal i r)
def gTupN (is : List Nat) : DG := fun d env => match d with
  | .tup ds => if ds.length = is.length then some (setE is (ds.map RF.val) env) else none
  | _ => none
theorem pgd_names {is : List Nat} {tgs : List Expr} {t : TGs} {kt : Nat} (gn : GN X tgs is t) (hc : X.calm = true) (hN : X.N.Nodup) (hn : (assignEach tgs X.env).length = is.length := by rfl) (hst : (assignEach tgs X.env).findIdx? (·.1) = none := by rfl) :
    PGD X (.Tuple tgs kt pos) is (gTupN is) := by
  refine ⟨_, pg_tup hc (gn.pgs hN) hn hst, fun K G0 H0 G H σ env v d env' hK e r h Q q => ?_⟩
  subst hK
  unfold gTupN at h
  split at h
  · rename_i ds
    split at h
    · rename_i hl
      cases h
      obtain ⟨l, vs, rfl, hs, hv⟩ := (show RRep X.K G H v (.val (.tup ds)) from r).tup rfl
      have l2 := hv.length.trans hl
      exact ⟨l, vs, rfl, hs, l2, gn.set l2 (q vs (e.setBatch (Keep.refl G H) e.gok is (frep_vals hv)))⟩
    · cases h
  · cases h

/-! ### for, while -/
theorem EnvOk.tmpCons {K : PySem.W.Frag} {G0 G : Gm} {H0 : HB} {H : Hp} {σ : L2.St} {env : SE} {v : V} {d : D} (e : EnvOk K G0 H0 G H σ env) (r : Rep K G H v d) : EnvOk K G0 ⟨H0.hp, (v, d) :: H0.tmp⟩ G H σ env :=
  ⟨e.g0, e.keep, e.gok, e.len, fun p hp => by
    rcases List.mem_cons.mp hp with z | z
    · rw [z]; exact r
    · exact e.tmp p z, e.val, e.own, e.sep, e.dic⟩
theorem EnvOk.tmpTail {K : PySem.W.Frag} {G0 G : Gm} {hp : Hp} {q : V × D} {l : List (V × D)} {H : Hp} {σ : L2.St} {env : SE} (e : EnvOk K G0 ⟨hp, q :: l⟩ G H σ env) : EnvOk K G0 ⟨hp, l⟩ G H σ env :=
  ⟨e.g0, e.keep, e.gok, e.len, fun p z => e.tmp p (List.mem_cons_of_mem _ z), e.val, e.own, e.sep, e.dic⟩
def dForL (dg : DG) (tb : DS) (J : DEnds) : List D → SE → Prop
  | [], env => J.nx env
  | d :: ds, env => ∃ env', dg d env = some env' ∧ tb { J with nx := fun e => dForL dg tb J ds e, ct := fun e => dForL dg tb J ds e, bk := J.nx } env'
def dFor (ti : DI) (dg : DG) (tb : DS) : DS := fun J env => ti env (fun ds v => v = true ∧ dForL dg tb J ds env) J.ex
theorem pd_for {body : List Stmt} {is : List Nat} {dg : DG} {tb : DS} (po : PassesOwn (model X.prog X.w) X.A X.env X.xe) (hc : X.calm = true) (hi : PDI X E tg iter ti) (hg : PGD X tg is dg) (hb : PDSs X E body tb)
    (hs : ∀ x, foldedSetIterable iter X.env x = pure x := by intro _; rfl) : PDS X E (.For tg iter body [] pos) (dFor ti dg tb) := by
  obtain ⟨g, pg, gg⟩ := hg
  refine PS.wk (ps_for po hc hi pg hb hs) ?_
  rintro Z σ H ⟨G0, H0, G, env, J, e, h, hn, hr, hbk, hct, hx⟩
  refine ⟨G0, H0, G, env, _, _, e, h, ?_, hx.now e⟩
  rintro ds v r G1 H1 Jt ⟨isv, hd⟩ k1 g1 rr wk
  cases r with
  | brw _ => cases isv
  | bin _ _ _ => cases isv
  | val d =>
    have e1 := (e.step k1 g1).tmpCons (show Rep X.K G1 H1 v d from rr)
    have rep : ∀ {G' H' σ' env'}, EnvOk X.K G0 ⟨H0.hp, (v, d) :: H0.tmp⟩ G' H' σ' env' → RRep X.K G' H' v (.val d) := fun e' => e'.tmp (v, d) List.mem_cons_self
    refine ⟨fun i m σ' H' => ∃ G' env', i ≤ ds.length ∧ m = ds.length - i ∧ EnvOk X.K G0 ⟨H0.hp, (v, d) :: H0.tmp⟩ G' H' σ' env' ∧ dForL dg tb J (ds.drop i) env', ⟨ds.length, G1, env, Nat.zero_le _, rfl, e1, hd⟩, ?_⟩
    rintro i m σ' H' ⟨G', env', hi', rfl, e', hd'⟩
    obtain ⟨w1, w2⟩ := wk G' H' e'.gok (rep e') i
    by_cases hlt : i < ds.length
    · obtain ⟨go, yl⟩ := w1 hlt
      refine .inr ⟨go, fun σ2 H2 => ∃ G2 env2, EnvOk X.K G0 ⟨H0.hp, (v, d) :: H0.tmp⟩ G2 H2 σ2 env2 ∧ dForL dg tb J (ds.drop (i + 1)) env2, fun σ2 H2 ⟨G2, env2, e2, h2⟩ => ⟨ds.length - (i + 1), by omega, G2, env2, hlt, rfl, e2, h2⟩, fun y H2 hy => ?_⟩
      obtain ⟨dy, hdy, G2, k2, g2, ry⟩ := yl y H2 hy
      rw [List.drop_eq_getElem_cons hlt] at hd'
      rw [List.getElem?_eq_getElem hlt] at hdy
      cases hdy
      obtain ⟨env3, he3, hb3⟩ := hd'
      refine gg X.K G0 _ G2 H2 σ' env' y _ env3 rfl (e'.step k2 g2) ry he3 _ fun vs e3 => ?_
      refine ⟨G0, _, G2, env3, _, e3, hb3, fun env4 G4 σ4 H4 q4 e4 => ⟨G4, env4, e4, q4⟩, hr, fun env4 G4 σ4 H4 q4 e4 => hn env4 G4 σ4 H4 q4 e4.tmpTail, fun env4 G4 σ4 H4 q4 e4 => ⟨G4, env4, e4, q4⟩, hx⟩
    · refine .inl ⟨w2 (by omega), ?_⟩
      rw [List.drop_eq_nil_of_le (by omega)] at hd'
      exact hn env' G' σ' H' hd' e'.tmpTail
def dWhileL (c : DT) (tb : DS) (J : DEnds) : Nat → SE → Prop
  | 0, _ => False
  | n + 1, env => c env (fun k => if k = true then tb { J with nx := fun e => dWhileL c tb J n e, ct := fun e => dWhileL c tb J n e, bk := J.nx } env else J.nx env) J.ex
def dWhile (c : DT) (tb : DS) : DS := fun J env => ∃ n, dWhileL c tb J n env
theorem pd_while {body : List Stmt} {tb : DS} (po : PassesOwn (model X.prog X.w) X.A X.env X.xe) (hc : PDT X E c sc) (hb : PDSs X E body tb) : PDS X E (.While c body [] pos) (dWhile sc tb) := by
  refine PS.wk (ps_while po hc hb) ?_
  rintro Z σ H ⟨G0, H0, G, env, J, e, ⟨n, h⟩, hn, hr, hbk, hct, hx⟩
  refine ⟨fun m σ' H' => ∃ G' env', EnvOk X.K G0 H0 G' H' σ' env' ∧ dWhileL sc tb J m env', ⟨n, G, env, e, h⟩, ?_⟩
  rintro m σ' H' ⟨G', env', e', h'⟩
  cases m with
  | zero => exact h'.elim
  | succ m =>
    refine ⟨G0, H0, G', env', _, _, e', h', ?_, hx.now e'⟩
    rintro k G2 H2 qk k2 g2
    have e2 := e'.step k2 g2
    cases k with
    | false => exact hn env' G2 σ' H2 qk e2
    | true =>
      refine ⟨fun σ3 H3 => ∃ G3 env3, EnvOk X.K G0 H0 G3 H3 σ3 env3 ∧ dWhileL sc tb J m env3, fun σ3 H3 z => ⟨m, Nat.lt_succ_self m, z⟩, ?_⟩
      exact ⟨G0, H0, G2, env', _, e2, qk, fun env4 G4 σ4 H4 q4 e4 => ⟨G4, env4, e4, q4⟩, hr, fun env4 G4 σ4 H4 q4 e4 => hn env4 G4 σ4 H4 q4 e4, fun env4 G4 σ4 H4 q4 e4 => ⟨G4, env4, e4, q4⟩, hx⟩

/-! ### comprehensions -/
def wipeE (env : SE) : List Nat → SE
  | [] => env
  | i :: is => (wipeE env is).set i .no
theorem EnvOk.wipe {K : PySem.W.Frag} {G0 G : Gm} {H0 : HB} {H : Hp} {σ : L2.St} {env : SE} (e : EnvOk K G0 H0 G H σ env) : ∀ vs : List Nat, EnvOk K G0 H0 G H (L2.wipe σ vs) (wipeE env vs)
  | [] => e
  | i :: is => (e.wipe is).setNo i none
theorem wipe_ext {τ ρ : L2.St} {vs : List Nat} (hl : τ.length = ρ.length) (h : ∀ j, j ∉ vs → τ[j]? = ρ[j]?) : L2.wipe τ vs = L2.wipe ρ vs := by
  have none_at : ∀ (θ : L2.St) (j : Nat), j ∈ vs → (L2.wipe θ vs)[j]? = (if j < θ.length then some none else none) := fun θ j hj => by
    cases q : (L2.wipe θ vs)[j]? with
    | none =>
      have := List.getElem?_eq_none_iff.mp q
      rw [wipe_length] at this
      rw [if_neg (by omega)]
    | some o =>
      have hlt := (List.getElem?_eq_some_iff.mp q).1
      rw [wipe_length] at hlt
      rw [if_pos hlt]
      cases o with
      | none => rfl
      | some z => exact absurd hj (wipe_some q).2
  apply List.ext_getElem?
  intro j
  by_cases hj : j ∈ vs
  · rw [none_at _ j hj, none_at _ j hj, hl]
  · rw [wipe_out hj, wipe_out hj, h j hj]
theorem setS_length : ∀ (is : List Nat) (vals : List V) (σ : L2.St), (setS is vals σ).length = σ.length
  | [], _, _ => by simp [setS]
  | _ :: _, [], _ => by simp [setS]
  | i :: is, v :: vals, σ => by
    show (setS is vals (σ.set i (some v))).length = _
    rw [setS_length is vals]
    simp
theorem setS_out : ∀ {is : List Nat} {vals : List V} {σ : L2.St} {j : Nat}, j ∉ is → (setS is vals σ)[j]? = σ[j]?
  | [], _, _, _, _ => by simp [setS]
  | _ :: _, [], _, _, _ => by simp [setS]
  | i :: is, v :: vals, σ, j, h => by
    show (setS is vals (σ.set i (some v)))[j]? = _
    rw [setS_out fun z => h (List.mem_cons_of_mem _ z), List.getElem?_set_ne fun z => h (by rw [z]; exact List.mem_cons_self)]
theorem wipe_setS {is : List Nat} {vals : List V} {σ : L2.St} {vs : List Nat} (h : ∀ i ∈ is, i ∈ vs) : L2.wipe (setS is vals (L2.wipe σ vs)) vs = L2.wipe σ vs :=
  wipe_ext (by rw [setS_length, wipe_length]) fun j hj => by rw [setS_out fun z => hj (h j z), wipe_out hj]
def noX : XP := fun _ => False
theorem XOk.noX {K : PySem.W.Frag} {E : XK} {G : Gm} {H : Hp} : XOk K E G H noX := fun _ _ _ z => z.elim
def dYes : DT := fun _ q _ => q true
def dLcL (dg : DG) (tt : DT) (te : DE) : List D → SE → (List D → Prop) → Prop
  | [], _, q => q []
  | d :: ds, env, q => ∃ env', dg d env = some env' ∧ tt env' (fun k => if k = true then te env' (fun r => ∃ d', r = .val d' ∧ dLcL dg tt te ds env (fun l => q (d' :: l))) noX else dLcL dg tt te ds env q) noX
def dLc (vs : List Nat) (ti : DI) (dg : DG) (tt : DT) (te : DE) : DFr := fun env q x => ti env (fun ds _ => ds.length ≤ 16777216 ∧ dLcL dg tt te ds (wipeE env vs) q) x
def PTsD (X : Cx) (ifs : List Expr) (t : DT) : Prop := PTs X ifs (liftT X.K E0 t)
theorem ptsd_nil : PTsD X [] dYes := ⟨fun pins s σ H Q I h => by
  obtain ⟨G0, H0, G, env, q, x, e, h, hq, hx⟩ := h
  exact pts_nil.run pins s σ H Q I (hq true G H h (Keep.refl G H) e.gok)⟩
theorem ptsd_one (h : PDT X E0 c sc) : PTsD X [c] sc := pts_one h
theorem lift_lc {vs is : List Nat} {dg : DG} {g : TG} {sc : DT} {te : DE} {σ : L2.St} {H : Hp} {Q : VK}
    (gg : ∀ (K : PySem.W.Frag) (G0 : Gm) (H0 : HB) (G : Gm) (H : Hp) (σ : L2.St) (env : SE) (v : V) (d : D) (env' : SE), X.K = K → EnvOk K G0 H0 G H σ env → Rep K G H v d → dg d env = some env' → ∀ Q : L2.St → Hp → Prop, (∀ vs, EnvOk K G0 H0 G H (setS is vs σ) env' → Q (setS is vs σ) H) → g v σ H Q)
    (his : ∀ i ∈ is, i ∈ vs) (h : liftF X.K E (dLc vs ti dg sc te) σ H Q) : tLc (liftI X.K E ti) g (liftT X.K E0 sc) (lift X.K E0 te) vs σ H Q := by
  obtain ⟨G0, H0, G, env, q, x, e, h, hq, hx⟩ := h
  refine ⟨G0, H0, G, env, _, x, e, h, ?_, hx⟩
  rintro ds v r G1 H1 Jt ⟨hlen, hd⟩ k1 g1 rr wk l hl
  have e1 := e.step k1 g1
  have old : ∀ {b : Addr}, H1 b ≠ none → b ≠ l := fun {b} n z => n (by rw [z]; exact hl)
  refine ⟨fun i m Hc => ∃ Gc acc accD, i ≤ ds.length ∧ m = ds.length - i ∧ Keep G1 Gc H1 Hc ∧ GOk Gc Hc ∧ Gc l = some .hid ∧ Hc l = some (.lst acc) ∧ RepL X.K Gc Hc acc accD ∧ acc.length ≤ i ∧ dLcL dg sc te (ds.drop i) (wipeE env vs) (fun z => q (accD ++ z)),
    ⟨ds.length, hide G1 l, [], [], Nat.zero_le _, rfl, Keep.hide hl, g1.hide hl, hide_same, upd_same, .nil, Nat.le_refl _, by simpa using hd⟩, ?_⟩
  rintro i m Hc ⟨Gc, acc, accD, hi, rfl, kc, gc, hh, hll, rl, la, hd'⟩
  obtain ⟨w1, w2⟩ := wk Gc Hc gc (rr.keep kc) i
  by_cases hlt : i < ds.length
  · obtain ⟨go, yl⟩ := w1 hlt
    have nextW : ∀ {Gd : Gm} {Hd : Hp} {acc' : List V} {accD' : List D}, Keep G1 Gd H1 Hd → GOk Gd Hd → Gd l = some .hid → Hd l = some (.lst acc') → RepL X.K Gd Hd acc' accD' → acc'.length ≤ i + 1 → dLcL dg sc te (ds.drop (i + 1)) (wipeE env vs) (fun z => q (accD' ++ z)) →
        ∃ m', m' < ds.length - i ∧ ∃ Gc acc accD, i + 1 ≤ ds.length ∧ m' = ds.length - (i + 1) ∧ Keep G1 Gc H1 Hd ∧ GOk Gc Hd ∧ Gc l = some .hid ∧ Hd l = some (.lst acc) ∧ RepL X.K Gc Hd acc accD ∧ acc.length ≤ i + 1 ∧ dLcL dg sc te (ds.drop (i + 1)) (wipeE env vs) (fun z => q (accD ++ z)) :=
      fun a1 a2 a3 a4 a5 a6 a7 => ⟨ds.length - (i + 1), by omega, _, _, _, hlt, rfl, a1, a2, a3, a4, a5, a6, a7⟩
    refine .inr ⟨go, fun Hd => ∃ Gd acc' accD', Keep G1 Gd H1 Hd ∧ GOk Gd Hd ∧ Gd l = some .hid ∧ Hd l = some (.lst acc') ∧ RepL X.K Gd Hd acc' accD' ∧ acc'.length ≤ i + 1 ∧ dLcL dg sc te (ds.drop (i + 1)) (wipeE env vs) (fun z => q (accD' ++ z)),
      fun Hd ⟨Gd, acc', accD', a1, a2, a3, a4, a5, a6, a7⟩ => nextW a1 a2 a3 a4 a5 a6 a7, fun y H2 hy => ?_⟩
    obtain ⟨dy, hdy, G2, k2, g2, ry⟩ := yl y H2 hy
    rw [List.drop_eq_getElem_cons hlt] at hd'
    rw [List.getElem?_eq_getElem hlt] at hdy
    cases hdy
    obtain ⟨env3, he3, hb3⟩ := hd'
    have k12 := kc.trans g1 k2
    have ew : EnvOk X.K G0 H0 G2 H2 (L2.wipe σ vs) (wipeE env vs) := (e1.step k12 g2).wipe vs
    have hid2 : ∀ {Gx : Gm} {Hx : Hp}, Keep Gc Gx Hc Hx → Gx l = some .hid ∧ Hx l = some (.lst acc) := fun kx => ⟨by rw [kx.gh l (by rw [hll]; simp)]; exact hh, kx.obj l _ hll (by rw [hh]; simp) nofun⟩
    refine gg X.K G0 H0 G2 H2 _ _ y _ env3 rfl ew ry he3 _ fun vals e3 => ⟨wipe_setS his, ?_⟩
    refine ⟨G0, H0, G2, env3, _, noX, e3, hb3, ?_, XOk.noX⟩
    rintro kk G3 H3 qk k3 g3
    have kc3 := k2.trans gc k3
    have k13 := k12.trans g1 k3
    cases kk with
    | false =>
      obtain ⟨z1, z2⟩ := hid2 kc3
      exact ⟨G3, acc, accD, k13, g3, z1, z2, RepL.keep kc3 rl, by omega, qk⟩
    | true =>
      refine ⟨G0, H0, G3, env3, _, noX, e3.step k3 g3, qk, ?_, XOk.noX⟩
      rintro r4 y4 G4 H4 ⟨d4, rfl, q4⟩ k4 g4 rr4
      have kc4 := kc3.trans gc k4
      have k14 := k13.trans g1 k4
      obtain ⟨z1, z2⟩ := hid2 kc4
      have w : Wr G4 l H4 (upd H4 l (.lst (acc ++ [y4]))) := ⟨z1, fun b n => upd_ne n, _, z2, .inl ⟨_, rfl⟩⟩
      refine ⟨acc, z2, by rw [sizeLine_eq]; omega, G4, acc ++ [y4], accD ++ [d4], ⟨fun b o hb nb nt => ?_, fun b gb pb => ?_, fun b K J gb pb => w.memo (by rw [k14.gh b pb.ne]; exact gb) (k14.memo b K J gb pb), k14.gh, w.tab k14.tab⟩, ⟨fun b x gb => ?_, fun b gb => w.pen gb (g4.pen b gb), fun b K J gb => w.memo gb (g4.memo b K J gb)⟩, z1, upd_same, RepL.wr w ((RepL.keep kc4 rl).append (.cons rr4 .nil)), by simp; omega, by simpa using q4⟩
      · rw [upd_ne (old (by rw [hb]; simp))]; exact k14.obj b o hb nb nt
      · exact w.pen (by rw [k14.gh b (by obtain ⟨_, _, _, q, _⟩ := pb; rw [q]; simp)]; exact gb) (k14.pen b gb pb)
      · by_cases nb : b = l
        · subst nb; exact ⟨_, upd_same, .inl ⟨_, rfl⟩⟩
        · obtain ⟨zs, qz, m⟩ := g4.lst b x gb
          exact ⟨zs, by rw [upd_ne nb]; exact qz, m⟩
  · refine .inl ⟨w2 (by omega), ?_⟩
    rw [List.drop_eq_nil_of_le (by omega)] at hd'
    have hd2 : q accD := by simpa [dLcL] using hd'
    refine hq accD (.ref l) Gc Hc hd2 (k1.trans e.gok kc) gc ⟨l, acc, rfl, ?_, hh, hll, rl⟩
    cases z : H l with
    | none => rfl
    | some o => exact absurd hl (k1.dom e.gok (by rw [z]; simp))
theorem pf_lc {elt : Expr} {ifs : List Expr} {scope : Scope} {own : List (Str × Nat)} {is : List Nat} {dg : DG} {te : DE} (hc : X.calm = true) (hN : X.N.Nodup) (hi : PDI X E tg iter ti) (ok : BlkOk X.N X.env.scope scope own)
    (hg : ∃ g, (∀ (s : Shared) (H : Hp) (C : Addr) (cl : List (Str × Addr)) (fp : List Addr), PG (X.blk s H scope (compEnvC scope cl C X.env) fp) tg g) ∧ ∀ (K : PySem.W.Frag) (G0 : Gm) (H0 : HB) (G : Gm) (H : Hp) (σ : L2.St) (env : SE) (v : V) (d : D) (env' : SE), X.K = K → EnvOk K G0 H0 G H σ env → Rep K G H v d → dg d env = some env' → ∀ Q : L2.St → Hp → Prop, (∀ vs, EnvOk K G0 H0 G H (setS is vs σ) env' → Q (setS is vs σ) H) → g v σ H Q)
    (ht : ∀ (s : Shared) (H : Hp) (C : Addr) (cl : List (Str × Addr)) (fp : List Addr), PTsD (X.blk s H scope (compEnvC scope cl C X.env) fp) ifs sc)
    (he : ∀ (s : Shared) (H : Hp) (C : Addr) (cl : List (Str × Addr)) (fp : List Addr), PD (X.blk s H scope (compEnvC scope cl C X.env) fp) E0 elt te) (his : ∀ i ∈ is, i ∈ own.map (·.2) := by decide) (hs : ∀ x, foldedSetIterable iter X.env x = pure x := by intro _; rfl) :
    PFL X E (.ListComp elt [⟨tg, iter, ifs, 0⟩] scope pos) (dLc (own.map (·.2)) ti dg sc te) := by
  obtain ⟨g, pg, gg⟩ := hg
  exact PE.wk (pe_lc hc hN hi ok pg (fun s H C cl fp => show PTs (X.blk s H scope (compEnvC scope cl C X.env) fp) ifs (liftT X.K E0 sc) from ht s H C cl fp) (fun s H C cl fp => show PE (X.blk s H scope (compEnvC scope cl C X.env) fp) elt (lift X.K E0 te) from he s H C cl fp) hs) fun _ _ _ h => lift_lc gg his h
end
end QD
namespace QD
open PySem PySem.Spec PyProof.Rows L2
/-! ### names of built-ins -/
structure Tx (mg : Str → Option Value) : Prop where
  len : mg "len" = none
  range : mg "range" = none
  tuple : mg "tuple" = none
  list : mg "list" = none
  int : mg "int" = none
  bool : mg "bool" = none
  str : mg "str" = none
  isinstance : mg "isinstance" = none
  max : mg "max" = none
  sorted : mg "sorted" = none
  sum : mg "sum" = none
  all : mg "all" = none
  any : mg "any" = none
  repr : mg "repr" = none
  enumerate : mg "enumerate" = none
  zip : mg "zip" = none
  reversed : mg "reversed" = none
theorem boot_len_ : bootBuiltins "len" = some (.builtin "len") := by decide +kernel
theorem boot_max_ : bootBuiltins "max" = some (.builtin "max") := by decide +kernel
theorem boot_sorted_ : bootBuiltins "sorted" = some (.builtin "sorted") := by decide +kernel
theorem boot_all_ : bootBuiltins "all" = some (.builtin "all") := by decide +kernel
theorem boot_any_ : bootBuiltins "any" = some (.builtin "any") := by decide +kernel
theorem boot_repr_ : bootBuiltins "repr" = some (.builtin "repr") := by decide +kernel
theorem boot_int_ : bootBuiltins "int" = some (.type "int") := by decide +kernel
theorem boot_bool_ : bootBuiltins "bool" = some (.type "bool") := by decide +kernel
theorem boot_tuple_ : bootBuiltins "tuple" = some (.type "tuple") := by decide +kernel
theorem boot_list_ : bootBuiltins "list" = some (.type "list") := by decide +kernel
section
variable {X : Cx} {E : XK} {e a b c tg iter : Expr} {te ta tb : DE} {pos p : Pos} {x : Str}
/-! ### +, *, <, is over several kinds -/
theorem ok_cat : OpR X (binaryOp .Add) (rD X.K catD) := by
  refine OpR.wk op_cat ?_
  rintro x y H Q ⟨G, r1, r2, d, g0, h1, h2, e, q⟩
  generalize hd1 : r1.d = d1 at e
  generalize hd2 : r2.d = d2 at e
  unfold catD at e
  split at e
  · split at e
    · rename_i l
      cases e
      obtain ⟨a, vs, rfl, s1, _, l1⟩ := h1.lst hd1
      obtain ⟨b, us, rfl, s2, _, l2⟩ := h2.lst hd2
      exact ⟨a, b, vs, us, rfl, rfl, s1, s2, by rw [l1.length, l2.length, sizeLine_eq]; exact l, fun q0 hq0 => q _ G _ (Keep.laid hq0) (g0.laid hq0) (Rep.newL g0 hq0 (l1.append l2))⟩
    · cases e
  · cases e
theorem rD_or {K : PySem.W.Frag} {f g : D → D → Option D} {x y : V} {H : Hp} {Q : VK} (h : rD K (fun a b => (f a b).or (g a b)) x y H Q) : rD K f x y H Q ∨ rD K g x y H Q := by
  obtain ⟨G, r1, r2, d, g0, h1, h2, e, q⟩ := h
  cases z : f r1.d r2.d with
  | some d' =>
    have e' : (f r1.d r2.d).or (g r1.d r2.d) = some d := e
    rw [z] at e'
    exact .inl ⟨G, r1, r2, d, g0, h1, h2, by rw [z]; exact e', q⟩
  | none =>
    have e' : (f r1.d r2.d).or (g r1.d r2.d) = some d := e
    rw [z] at e'
    exact .inr ⟨G, r1, r2, d, g0, h1, h2, e', q⟩
theorem ok_or {o : Value → Value → Sem Value} {f g : D → D → Option D} (h1 : OpR X o (rD X.K f)) (h2 : OpR X o (rD X.K g)) : OpR X o (rD X.K fun a b => (f a b).or (g a b)) := OpR.wk (h1.or h2) fun _ _ _ _ q => rD_or q
def addA (a b : D) : Option D := (addD a b).or (catD a b)
theorem ok_addA : OpR X (binaryOp .Add) (rD X.K addA) := ok_or ok_add ok_cat
def ltA (a b : D) : Option D := ltI a b
theorem ok_ltA (hu : X.A.units + 65 < cLine) : OpR X (compareOp .Lt) (rD X.K ltA) := ok_lt
def mulA (a b : D) : Option D := mulI a b
theorem ok_mulA : OpR X (binaryOp .Mult) (rD X.K mulA) := ok_mulI
def isBD (x y : D) : Option D := match x, y with
  | .bl a, .bl b => some (.bl (decide (a = b)))
  | _, _ => none
def isNotBD (x y : D) : Option D := match x, y with
  | .bl a, .bl b => some (.bl (!decide (a = b)))
  | _, _ => none
theorem ok_isB : OpR X (compareOp .Is) (rD X.K isBD) := by
  refine OpR.wk op_isBl ?_
  rintro x y H Q ⟨G, r1, r2, d, g0, h1, h2, e, q⟩
  generalize hd1 : r1.d = d1 at e
  generalize hd2 : r2.d = d2 at e
  unfold isBD at e
  split at e
  · cases e
    exact ⟨_, _, h1.bl hd1, h2.bl hd2, q _ G H (Keep.refl G H) g0 (.bl _)⟩
  · cases e
theorem ok_isNotB : OpR X (compareOp .IsNot) (rD X.K isNotBD) := by
  refine OpR.wk op_notBl ?_
  rintro x y H Q ⟨G, r1, r2, d, g0, h1, h2, e, q⟩
  generalize hd1 : r1.d = d1 at e
  generalize hd2 : r2.d = d2 at e
  unfold isNotBD at e
  split at e
  · cases e
    exact ⟨_, _, h1.bl hd1, h2.bl hd2, q _ G H (Keep.refl G H) g0 (.bl _)⟩
  · cases e
def isA (a b : D) : Option D := (isND a b).or (isBD a b)
def isNotA (a b : D) : Option D := (isNotND a b).or (isNotBD a b)
theorem ok_isA : OpR X (compareOp .Is) (rD X.K isA) := ok_or ok_isN ok_isB
theorem ok_isNotA : OpR X (compareOp .IsNot) (rD X.K isNotA) := ok_or ok_isNotN ok_isNotB
def dNeg (ta : DE) : DE := fun env q x => ta env (fun r => ∃ i, r.d = .int i ∧ q (.val (.int (-i)))) x
/-- a comprehension's one name -/
theorem comp_name (i : Nat) {scope : Scope} {y : Str} {q : Pos} (hN : X.N.Nodup) (hi : ∀ (s : Shared) (H : Hp) (C : Addr) (cl : List (Str × Addr)) (fp : List Addr), (X.blk s H scope (compEnvC scope cl C X.env) fp).N[i]? = some y)
    (hx : ∀ (s : Shared) (H : Hp) (C : Addr) (cl : List (Str × Addr)) (fp : List Addr), Loc (X.blk s H scope (compEnvC scope cl C X.env) fp).env.scope y)
    (hf : ∀ (s : Shared) (H : Hp) (C : Addr) (cl : List (Str × Addr)) (fp : List Addr), (X.blk s H scope (compEnvC scope cl C X.env) fp).fn y = true ∨ (X.blk s H scope (compEnvC scope cl C X.env) fp).env.scope.names.lookup y = some .local) :
    ∃ g, (∀ (s : Shared) (H : Hp) (C : Addr) (cl : List (Str × Addr)) (fp : List Addr), PG (X.blk s H scope (compEnvC scope cl C X.env) fp) (.Name y q) g) ∧ ∀ (K : PySem.W.Frag) (G0 : Gm) (H0 : HB) (G : Gm) (H : Hp) (σ : L2.St) (env : SE) (v : V) (d : D) (env' : SE), X.K = K → EnvOk K G0 H0 G H σ env → Rep K G H v d → gN i d env = some env' → ∀ Q : L2.St → Hp → Prop, (∀ vs, EnvOk K G0 H0 G H (setS [i] vs σ) env' → Q (setS [i] vs σ) H) → g v σ H Q := by
  refine ⟨gName i, fun s H C cl fp => pg_name hN (hi s H C cl fp) (hx s H C cl fp) (hf s H C cl fp), fun K G0 H0 G H σ env v d env' hK e r h Q q => ?_⟩
  cases h
  exact q [v] (e.setVal i r)
/-- name = [..] as a value -/
def dSetLcV (i : Nat) (t : DFr) : DS := fun J env => t env (fun ds => J.nx (env.set i (.val (.lst ds)))) J.ex
variable {ti : DI} {sc : DT}
/-- code that is never reached -/
def dNever : DS := fun _ _ => False
end
end QD
/-! enumerate(tuple), zip(tuple, tuple) -/
namespace QD
open PySem PySem.Spec PyProof.Rows L2
set_option maxHeartbeats 1000000 in
theorem enum_made {v : Value} {o : Obj} {H : Heap → Prop} (B : Begins v o H) :
    Meets (Builtin.«enumerate.__new__» ⟨[.type "enumerate", v], []⟩) (fun _ R s => H s.heap ∧
      R (.ok (.ret (.ref (s.heap.push o).objs.size))) { s with heap := (s.heap.push o).push { cls := .type "enumerate", data := .fields #[.none, .bool false, .ref s.heap.objs.size, rawInt 0, .none, .none] } }) :=
  .of_wp fun prog w A R s h => by
    obtain ⟨hp, g, d, tk, os⟩ := s
    obtain ⟨h1, h⟩ := h
    have hsub := sub_enumerate
    have q1 : ∀ {A' : Around} {E : Value → Shared → Prop} {Q : Value → Shared → Prop}, Q (.ref hp.objs.size) ⟨hp.push o, g, d, tk, os⟩ → wpAny (model prog w) A' (pyIter v) Q E ⟨hp, g, d, tk, os⟩ :=
      fun q => B.iter prog w _ _ ⟨hp, g, d, tk, os⟩ _ h1 q
    wp_walk using q1
    refine wpAny_stack_any fun st => wpAny_pure ?_
    split
    · rename_i c _ _ _ _ _
      cases (c == Value.type "enumerate") <;>
      · wp_walk using q1
        exact ⟨_, rfl, h⟩
    · wp_walk using q1
      exact ⟨_, rfl, h⟩
theorem enum_call {prog : Program} {w : World} {A : Around} {E : Value → Shared → Prop} {s : Shared} {v : Value} {o : Obj} {H : Heap → Prop} {Q : Value → Shared → Prop} (B : Begins v o H) (h1 : H s.heap)
    (h : ∀ h', IsEnum h' (s.heap.objs.size + 1) s.heap.objs.size ((0 : Nat) : Int) .none → h'.get? s.heap.objs.size = some o → (∀ b o, s.heap.get? b = some o → h'.get? b = some o) → Q (.ref (s.heap.objs.size + 1)) { s with heap := h' }) :
    wpAny (model prog w) A (call (.type "enumerate") [v]) Q E s := by
  refine callType_new F.called_enumerate (by decide) (F.typeCall_enumerate_1 _) (F.newCall_enumerate_1 _) (fun obj => F.args_object_init_2 obj _) F.entry_enumerate_new (enum_made B) ⟨h1, ?_⟩
  have hz : (s.heap.push o).objs.size = s.heap.objs.size + 1 := Heap.size_push ..
  have he := Heap.get?_push_size (s.heap.push o) (o := { cls := .type "enumerate", data := .fields #[.none, .bool false, .ref s.heap.objs.size, rawInt 0, .none, .none] }) rfl
  show _ ∧ _
  rw [hz] at he ⊢
  exact ⟨⟨_, he, rfl⟩, h _ he (Heap.get?_push_of_some _ (Heap.get?_push_size _ B.free)) fun b o x => Heap.get?_push_of_some _ (Heap.get?_push_of_some _ x)⟩
/-- the pairs (i, item) of the tuple at a -/
def Iet (K : PySem.W.Frag) (a : Addr) : It where
  go := fun i H => ∃ (xs : List V) (x : V), SqT K H a xs ∧ xs[i]? = some x
  yld := fun i H v H' => ∃ T x, v = .ref T ∧ H T = none ∧ H' = upd H T (.tup [.int (i : Nat), x]) ∧ ∀ xs, SqT K H a xs → xs[i]? = some x
  stop := fun i H => ∃ xs : List V, SqT K H a xs ∧ xs.length ≤ i
theorem turn_et {P : Program} {w : World} {K : PySem.W.Frag} {elts : List Expr} {kk : Nat} {tpos : Pos} (a e it : Addr) (hei : e ≠ it) (hea : e ≠ a) (hai : a ≠ it) :
    Turn P w K (.Tuple elts kk tpos) (Iet K a) [e, it] e (fun i h => (∃ old, IsEnum h e it ((i : Nat) : Int) old) ∧ h.IsTupleIter it a i) where
  mem := by simp
  obj := fun i h st b hb => by
    obtain ⟨⟨old, he⟩, o, ho, hc, hd⟩ := st
    rcases (by simpa using hb : b = e ∨ b = it) with rfl | rfl
    · exact ⟨_, he, fun v q => nomatch q⟩
    · exact ⟨o, ho, fun v q => by rw [hd] at q; cases q⟩
  keep := fun i h h' st k => let ⟨⟨old, he⟩, hi⟩ := st; ⟨⟨old, k e (by simp) _ he⟩, hi.at fun o q => k it (by simp) o q⟩
  item := by
    intro X hP hw hK hc i pins s σ H E I hf st hg
    subst hP hw hK
    obtain ⟨⟨old, he⟩, hit⟩ := st
    obtain ⟨xs, x, hq, hx⟩ := hg
    obtain ⟨its, rv, p, hz⟩ := I.tuple hq
    obtain ⟨u, hu, ru⟩ := rv.get hx
    have hel : e < s.heap.objs.size := Heap.lt_size he
    have hil : it < s.heap.objs.size := by obtain ⟨_, q, _⟩ := hit; exact Heap.lt_size q
    have p' : s.heap.IsTuple a its.toArray := p
    have lt : i < its.toArray.size := by
      have := (List.getElem?_eq_some_iff.mp hu).1
      simpa using this
    have nef : e ∉ [it, a] := by simp; exact ⟨hei, hea⟩
    refine wpAny_pyNext_enum_itemD (Draws.tuple (A := X.A.in1) (I.ok.hd hc) it a hai its.toArray) he ⟨hit, p'⟩ lt hei nef fun y h' tk hy ho hst hT hsz hk => ?_
    have ey : y = u := by
      have : its[i]? = some y := by simpa using hy
      rw [hu] at this
      exact (Option.some.inj this).symm
    subst ey
    refine ⟨_, rfl, wpAny_letOwnedTupleGo_enum (s := { s with heap := h', toks := tk + 1 }) ho fun h'' he' sb => ?_⟩
    have hT2 := (sb.2 _ (Nat.ne_of_gt hel)).trans hT
    have new : ObjOk X.prog X.w (upd H s.heap.objs.size (.tup [.int (i : Nat), x])) h'' s.heap.objs.size (.tup [.int (i : Nat), x]) :=
      ⟨by show 2 ≤ sizeLine; decide, [.int i tk, y], .cons ⟨_, rfl⟩ (.cons ru .nil), ⟨_, hT2, rfl, _, rfl⟩⟩
    have kk' : ∀ b ob, b ∉ [e, it] → s.heap.get? b = some ob → h''.get? b = some ob := fun b ob hb q => (sb.2 b (fun z => hb (by simp [z]))).trans (hk b ob (fun z => hb (by simp [z])) (fun z => hb (by simp [z])) q)
    have I1 : Inv X pins σ (upd H s.heap.objs.size (.tup [.int (i : Nat), x])) { s with heap := h'', toks := tk + 1 } := I.turnedNew (ch := [e, it]) kk' hf (Nat.le_refl _) new
    refine ⟨.ref s.heap.objs.size, _, I1, rfl, ⟨_, x, rfl, I.hok.fresh (Nat.le_refl _), rfl, fun ys hy => by rw [I.tuple_inj hy hq]; exact hx⟩, ⟨⟨y, ?_⟩, hst.1.at fun o q => (sb.2 it (Ne.symm hei)).trans q⟩, fun b hb => ?_⟩
    · have e1 : ((i + 1 : Nat) : Int) = (i : Int) + 1 := by omega
      rw [e1]; exact he'
    · have hb' : b < s.heap.objs.size := by
        rcases (by simpa using hb : b = e ∨ b = it) with z | z <;> (rw [z]; assumption)
      rw [upd_ne (Nat.ne_of_lt hb')]
      exact (hf b hb).1
  done := by
    intro X hP hw hK hc i pins s σ H E I hf st hg
    subst hP hw hK
    obtain ⟨⟨old, he⟩, hit⟩ := st
    obtain ⟨xs, hq, hx⟩ := hg
    obtain ⟨its, rv, p, hz⟩ := I.tuple hq
    obtain ⟨f0, f1, f2, f3, f4, f5⟩ := hf it (by simp)
    have hl := rv.length
    have p' : s.heap.IsTuple a its.toArray := p
    unfold pyNext
    refine wpAny_bind (wpAny_attempt (wpAny_callSpecial?_slot (name := Str.ofString "__next__") (⟨_, he, rfl⟩ : s.TypeIs (.ref e) "enumerate") F.slot_enumerate_next
      (wpAny_call_entry F.slot_enumerate_next (⟨_, he, rfl⟩ : s.TypeIs (.ref e) "enumerate") F.entry_enumerate_next ?_ (F.args_enumerate_next_1 _))))
    show wpAny _ _ (field (.ref e) 2 >>= _) _ _ _
    refine wpAny_bind (wpAny_field he rfl (x := .ref it) rfl ?_)
    refine wpAny_bind (wpAny_nextOf_tuple_end (I.ok.hd hc) hit p' (by simp; omega) fun h' x he' hx' => ?_)
    obtain ⟨o, ho, hc'⟩ := hx'
    refine wpAny_bind (wpAny_isInstance (T := "StopIteration") (b := true) ⟨o, ho, hc'⟩ isSubtype_stop ?_)
    exact wpAny_pure ⟨rfl, I.turned (t' := s.toks) (fun b o hb q => he' b o hb q) f0 f1 f3 f4 f5⟩
  self := fun A i s Q E st h => let ⟨⟨_, he⟩, _⟩ := st; wpAny_pyIter_enum he h
def iEnumT (K : PySem.W.Frag) (ta : TA) : TI := fun σ H R => ta σ H fun vs H1 => ∃ a xs, vs = [.ref a] ∧ SqT K H1 a xs ∧ R (Iet K a) H1
theorem pi_enumT {X : Cx} {e : Expr} {ta : TA} {p pos tpos : Pos} {elts : List Expr} {kk : Nat} (hg : Gl X "enumerate") (hm : X.mg "enumerate" = none) (ha : PA X [e] ta) (hs : starEach [e] X.env = [(false, eval e X.env)] := by rfl) :
    PI X (.Tuple elts kk tpos) (.Call (.Name "enumerate" p) [e] [] pos) (iEnumT X.K ta) := by
  refine ⟨fun pins s σ H R I h => ?_⟩
  refine Call_ (ld_blt I hg hm boot_enumerate (PyProof.Rows.callWith_type1 (thn (ha.run pos pins s σ H _ I h) fun us s1 ⟨vs, H1, I1, r1, q1⟩ => ?_) hs rfl))
  obtain ⟨a, xs, rfl, hq, q⟩ := q1
  cases r1 with
  | cons r rr =>
    cases rr
    cases r
    obtain ⟨its, rv, p', hz⟩ := I1.tuple hq
    have pt : s1.heap.IsTuple a its.toArray := p'
    have hal : a < s1.heap.objs.size := by obtain ⟨_, q, _⟩ := pt; exact Heap.lt_size q
    refine enum_call (begins_tuple a its.toArray) pt fun h' he hit hk => wpAny_pyIter_enum he ?_
    have I2 : Inv X pins σ H1 { s1 with heap := h' } := I1.kept (t' := s1.toks) hk
    refine ⟨s1.heap.objs.size + 1, [s1.heap.objs.size + 1, s1.heap.objs.size], _, _, H1, rfl, I2, turn_et a (s1.heap.objs.size + 1) s1.heap.objs.size (Nat.succ_ne_self _) (Nat.ne_of_gt (Nat.lt_succ_of_lt hal)) (Nat.ne_of_lt hal), ⟨⟨.none, he⟩, ⟨_, hit, rfl, rfl⟩⟩, fun b hb => ?_, q⟩
    have hle : s1.heap.objs.size ≤ b := by
      rcases (by simpa using hb : b = s1.heap.objs.size + 1 ∨ b = s1.heap.objs.size) with z | z
      · rw [z]; exact Nat.le_add_right _ _
      · rw [z]; exact Nat.le_refl _
    exact I1.fpOk hle (I1.hok.fresh hle)
section
variable {X : Cx} {E : XK} {e a b c tg iter : Expr} {te ta tb : DE} {pos p tpos : Pos} {kk : Nat} {elts : List Expr}
def enD (ds : List D) : List D := (List.range ds.length).map fun i => .tup [.int (i : Nat), ds.getD i .non]
theorem enD_len (ds : List D) : (enD ds).length = ds.length := by simp [enD]
theorem enD_at {ds : List D} {i : Nat} {d : D} (h : ds[i]? = some d) : (enD ds)[i]? = some (.tup [.int (i : Nat), d]) := by
  have lt := (List.getElem?_eq_some_iff.mp h).1
  simp [enD, List.getElem?_range lt, List.getD, h]
theorem pairRep {K : PySem.W.Frag} {G : Gm} {H : Hp} {T : Addr} {x : V} {d : D} {i : Nat} (g : GOk G H) (n : H T = none) (r : Rep K G H x d) : Rep K G (upd H T (.tup [.int i, x])) (.ref T) (.tup [.int i, d]) :=
  Rep.newT g n (.cons (.int _) (.cons r .nil))
theorem walk_enumT {K : PySem.W.Frag} {a : Addr} {r : R} {ds : List D} (e : r.d = .tup ds) : WalkR K (Iet K a) (.ref a) r (enD ds) := by
  intro G H g rr i
  obtain ⟨b, vs, q1, q2, q4⟩ := rr.tup e
  cases q1
  rw [enD_len]
  refine ⟨fun h => ⟨?_, fun y H' h => ?_⟩, fun h => ⟨vs, q2, by rw [q4.length]; exact h⟩⟩
  · obtain ⟨v, h1, _⟩ := q4.get (List.getElem?_eq_getElem h)
    exact ⟨vs, v, q2, h1⟩
  · obtain ⟨T, x, rfl, n, rfl, h⟩ := h
    obtain ⟨d, h1, h2⟩ := q4.getV (h vs q2)
    exact ⟨_, enD_at h1, G, Keep.laid n, g.laid n, pairRep g n h2⟩
theorem walk_enumL {K : PySem.W.Frag} {a : Addr} {r : R} {ds : List D} (e : r.d = .lst ds) : WalkR K (Ite K a) (.ref a) r (enD ds) := by
  intro G H g rr i
  obtain ⟨b, vs, q1, q2, q3, q4⟩ := rr.lst e
  cases q1
  have q2' : SqL K H a vs := .inl (.inl q2)
  rw [enD_len]
  refine ⟨fun h => ⟨?_, fun y H' h => ?_⟩, fun h => ⟨vs, q2', by rw [q4.length]; exact h⟩⟩
  · obtain ⟨v, h1, _⟩ := q4.get (List.getElem?_eq_getElem h)
    exact ⟨vs, v, q2', h1⟩
  · obtain ⟨T, x, rfl, n, rfl, h⟩ := h
    obtain ⟨d, h1, h2⟩ := q4.getV (h vs q2')
    exact ⟨_, enD_at h1, G, Keep.laid n, g.laid n, pairRep g n h2⟩
def iEnumD (te : DE) : DI := fun env q x => te env (fun r => ∃ ds, r.d = .lst ds ∧ q (enD ds) r.isVal) x ∨ te env (fun r => ∃ ds, r.d = .tup ds ∧ q (enD ds) r.isVal) x
theorem pdi_enum (h : PD X E e te) (hm : X.mg "enumerate" = none) (hg : Gl X "enumerate" := by rfl) (hs : starEach [e] X.env = [(false, eval e X.env)] := by rfl) : PDI X E (.Tuple elts kk tpos) (.Call (.Name "enumerate" p) [e] [] pos) (iEnumD te) := by
  have hA := pa_cons (show PE X e (lift X.K E te) from h) pa_nil hs
  refine PI.wk (QD.PI.or (pi_enum hg hm hA hs) (pi_enumT hg hm hA hs)) ?_
  rintro σ H Q ⟨G0, H0, G, env, q, x, e, h, hq, hx⟩
  rcases h with h | h
  · refine .inl ⟨G0, H0, G, env, _, x, e, h, ?_, hx⟩
    rintro r v G' H' ⟨ds, e1, qd⟩ k g rr
    obtain ⟨a, vs, rfl, q2, q3, q4⟩ := rr.lst e1
    exact ⟨a, vs, rfl, .inl (.inl q2), hq _ _ r G' H' _ qd k g rr (walk_enumL e1)⟩
  · refine .inr ⟨G0, H0, G, env, _, x, e, h, ?_, hx⟩
    rintro r v G' H' ⟨ds, e1, qd⟩ k g rr
    obtain ⟨a, vs, rfl, q2, q4⟩ := rr.tup e1
    exact ⟨a, vs, rfl, q2, hq _ _ r G' H' _ qd k g rr (walk_enumT e1)⟩
end
end QD
/-! instances: class constants, attributes, len, properties, making; raise -/
namespace QD
open PySem PySem.Spec PyProof.Rows L2
abbrev XF : XK := fun _ _ _ => False
theorem passF {P : Program} {w : World} {X : Cx} : Passes (L2.CX P w) X XF := fun _ _ _ _ _ _ _ ⟨_, _, _, _, _, _, _, _, _, _, _, _, z⟩ => z.elim
section
variable {X : Cx} {E : XK} {k j : Nat} {pins : List (Addr × Obj)} {σ : L2.St} {H : Hp} {s : Shared} {fd : FuncData} {ps : List Str} {sp : Sp} {f : Addr}
/-- a def run at another place of the same stack -/
theorem run_at {A1 : Around} {vs : List V} {us : List Value} {Q : VK} (F : FnG X.prog X.w X.K X.mg X.base k f fd ps sp) (hg : A1.guards = some []) (hr : Room k A1) (e0 : Env0 X.prog X.w X.K X.mg X.base A1 X.stack s H) (hp : Passes (L2.CX X.prog X.w) X E) (hb : Binds X.K fd ps [])
    (I : Inv X pins σ H s) (r : Vals vs us) (h : sp vs H Q E) : wpAny (model X.prog X.w) A1 (call (.ref f) us) (EP X pins σ Q) X.xe s := by
  have n : (us ++ []).length = ps.length := by rw [List.append_nil, ← r.length]; exact F.len _ _ _ _ h
  have bt := hb s us I.kIn n
  rw [List.append_nil] at bt
  refine wpAny_call (codeAny_mono (F.run A1 X.stack s H ⟨us, []⟩ us vs Q E hg hr e0 bt r h) fun res s' q => ?_)
  cases res with
  | error ex => exact hp pins σ H s ex s' I q
  | ok fl => cases fl with
    | ret u => exact I.after q
    | next => exact q.elim
    | brk => exact q.elim
    | cont => exact q.elim
end
/-- a method of the class: a plain def, without defaults -/
structure MetG (P : Program) (w : World) (K : PySem.W.Frag) (mg : Str → Option Value) (base : Heap) (k : Nat) (C : Addr) (m : Str) (sp : Sp) : Prop where
  cls : Cls K C
  ex : ∃ f fd ps, FnG P w K mg base k f fd ps sp ∧ Meth K C m f ∧ Binds K fd ps []
section
variable {X : Cx} {E : XK} {e a b c o : Expr} {te ta tb : DE} {pos p apos : Pos} {es : List Expr} {sA : DA} {k j : Nat} {C : Addr} {x m f : Str}
/-- the values of an instance -/
def lkD (f : Str) : List Str → List D → Option D
  | n :: ns, d :: ds => if f == n then some d else lkD f ns ds
  | _, _ => none
theorem lkD_rep {K : PySem.W.Frag} {G : Gm} {H : Hp} {f : Str} {d : D} : ∀ {fs : List (Str × V)} {ds : List D}, RepL K G H (fs.map (·.2)) ds → lkD f (fs.map (·.1)) ds = some d → ∃ v, fs.lookup f = some v ∧ Rep K G H v d
  | [], _, r, h => by cases r; cases h
  | (n, v) :: fs, _, r, h => by
    cases r with
    | cons r1 r2 =>
      unfold lkD at h
      by_cases q : (f == n) = true
      · simp only [List.map_cons, q, if_true] at h
        cases h
        exact ⟨v, by simp [List.lookup, q], r1⟩
      · simp only [List.map_cons, q] at h
        obtain ⟨u, e1, e2⟩ := lkD_rep r2 (by simpa using h)
        exact ⟨u, by simp [List.lookup, q]; exact e1, e2⟩
theorem RRep.ins {K : PySem.W.Frag} {G : Gm} {H : Hp} {v : V} {r : R} {ns : List Str} {ds : List D} (h : RRep K G H v r) (e : r.d = .ins C ns ds) : ∃ a dx fs, v = .ref a ∧ Fix (G a) ∧ H a = some (.ins C dx fs) ∧ fs.map (·.1) = ns ∧ RepL K G H (fs.map (·.2)) ds := by
  cases r with
  | val d =>
    have e' : d = .ins C ns ds := e
    subst e'
    cases h with
    | ins g r q l => exact ⟨_, _, _, rfl, by rw [g]; simp, r, q, l⟩
  | brw es => cases e
  | bin C' ns' es =>
    have e' : D.ins C' ns' es = .ins C ns ds := e
    cases e'
    obtain ⟨a, dx, fs, e, q, n, z, l⟩ := h
    exact ⟨a, dx, fs, e, n, q, z, l⟩
theorem RRep.pens1 {K : PySem.W.Frag} {G : Gm} {H : Hp} {v : V} {r : R} (h : RRep K G H v r) : Rep K (pens G) H v r.d := by
  have := RRepL.pens (.cons h .nil : RRepL K G H [v] [r])
  cases this with
  | cons a _ => exact a
def dFld (C : Addr) (f : Str) (te : DE) : DE := fun env q x => te env (fun r => ∃ ns ds d, r.d = .ins C ns ds ∧ lkD f ns ds = some d ∧ q (.val d)) x
theorem pd_fld (c : Cls X.K C) (n : NoAttr X.K C f) (he : PD X E e te) (hb : attributeBase e f X.env (eval e X.env) = eval e X.env := by rfl) : PD X E (.Attribute e f pos) (dFld C f te) := by
  refine PE.wk (pe_fld (show PE X e (lift X.K E te) from he) hb) ?_
  rintro σ H Q ⟨G0, H0, G, env, q, x, e, h, hq, hx⟩
  refine ⟨G0, H0, G, env, _, x, e, h, ?_, hx⟩
  rintro r v G' H' ⟨ns, ds, d, e1, e2, qd⟩ kk g rr
  obtain ⟨a, dx, fs, rfl, ga, ha, e3, l⟩ := rr.ins e1
  subst e3
  obtain ⟨u, l1, l2⟩ := lkD_rep l e2
  exact ⟨a, C, dx, fs, u, rfl, ha, c, n, l1, hq _ _ G' H' qd kk g l2⟩
/-- an int of the class -/
structure ConI (K : PySem.W.Frag) (mg : Str → Option Value) (x : Str) (C : Addr) (f : Str) (i : Int) : Prop where
  g : mg x = some (.ref C)
  at_ : ∃ mc u, ClX.CRead K C mc ∧ ClX.CVal K C mc f (.int i) u
theorem pd_con {i : Int} (T : ConI X.K X.mg x C f i) (hg : Gl X x := by rfl) (hdb : (x == ("__debug__" : Str)) = false := by decide) (hb : attributeBase (.Name x p) f X.env (eval (.Name x p) X.env) = eval (.Name x p) X.env := by rfl) : PD X E (.Attribute (.Name x p) f pos) (dC (.int i)) := by
  refine PE.wk (ClX.pe_cval (pe_glob hg T.g (show RelV (.ref C) (.ref C) from rfl) hdb) hb) ?_
  rintro σ H Q ⟨G0, H0, G, env, q, x, e, h, hq, hx⟩
  obtain ⟨mc, u, r, k⟩ := T.at_
  exact ⟨C, mc, _, u, rfl, r, k, hq _ _ G H h (Keep.refl G H) e.gok (Rep.int i)⟩
/-- len(o) of an own class -/
def dMeth0 (F : DF) (te : DE) : DE := fun env q x => te env (fun r => F [r.d] (fun d => r.isVal = true ∧ ∃ n : Int, d = .int n ∧ (0 ≤ n ∧ n < 2 ^ 63) ∧ q (.val d)) noX) x
theorem call_olen {F : DF} (M : MetG X.prog X.w X.K X.mg X.base k C "__len__" (spOf X.K F)) (B : BC X E j) (hk : k + 1 ≤ j) :
    CallR X (.builtin "len") (fun vs H Q => ∃ a dx fs, vs = [.ref a] ∧ H a = some (.ins C dx fs) ∧ spOf X.K F [.ref a] H (fun v H' => ∃ n : Int, v = .int n ∧ (0 ≤ n ∧ n < 2 ^ 63) ∧ Q (.int n) H') XF) := by
  intro pins s σ H xs us Q I rv ⟨a, dx, fs, e, ha, h⟩
  subst e
  cases rv with
  | cons r1 r2 =>
    cases r2
    cases r1
    obtain ⟨g, fd, ps, FG, hm, hb⟩ := M.ex
    obtain ⟨mA, O, _, _, _, _⟩ := ins_get I.hok ha
    obtain ⟨od, J, _⟩ := O.look
    obtain ⟨m, hF⟩ := I.fr
    refine PySem.W.len_K hF I.ok.mod.kin J hm.at_ hm.fn ?_
    have rv1 : Vals [V.ref a] [Value.ref a] := .cons rfl .nil
    refine thn (run_at FG B.gd (B.room.mono hk).in1 I.env0.in1 passF hb I rv1 h) fun u s1 ⟨v, H1, I1, r, n, e, hn, q⟩ => ?_
    subst e
    obtain ⟨t, rfl⟩ := r
    exact ⟨hn, .int n, H1, I1.tok _, ⟨_, rfl⟩, q⟩
theorem pd_olen {F : DF} (M : MetG X.prog X.w X.K X.mg X.base k C "__len__" (spOf X.K F)) (B : BC X E j) (hk : k + 1 ≤ j) (hm : X.mg "len" = none) (he : PD X E e te) (hC : ∀ ds q x, F ds q x → ∃ ns vs, ds = [.ins C ns vs]) (hg : Gl X "len" := by rfl)
    (hs : starEach [e] X.env = [(false, eval e X.env)] := by rfl) : PD X E (.Call (.Name "len" p) [e] [] pos) (dMeth0 F te) := by
  refine PE.wk (pe_callB (call_olen M B hk) hg hm boot_len_ (pa_cons (show PE X e (lift X.K E te) from he) pa_nil hs) (by decide) (by decide) hs rfl) ?_
  rintro σ H Q ⟨G0, H0, G, env, q, x, e, h, hq, hx⟩
  refine ⟨G0, H0, G, env, _, x, e, h, ?_, hx⟩
  rintro r v G' H' hF kk g rr
  obtain ⟨ns, vs, e0⟩ := hC _ _ _ hF
  obtain ⟨a, dx, fs, rfl, ga, ha, e3, l⟩ := rr.ins (List.cons.inj e0).1
  by_cases iv : r.isVal = true
  case neg => exact ⟨a, dx, fs, rfl, ha, pens G', [r.d], _, noX, pens_ok g, .cons rr.pens1 .nil, hF, fun d v G2 H2 z => absurd z.1 iv, XOk.noX⟩
  refine ⟨a, dx, fs, rfl, ha, G', [r.d], _, noX, g, .cons ?_ .nil, hF, ?_, XOk.noX⟩
  · cases r with
    | val d => exact rr
    | brw ds => cases iv
    | bin _ _ _ => cases iv
  · rintro d v G2 H2 ⟨_, n, rfl, hn, qd⟩ k2 g2 r2
    cases r2
    exact ⟨n, rfl, hn, hq _ _ G2 H2 qd (kk.trans e.gok k2) g2 (Rep.int n)⟩
/-- a property -/
structure PrpG (P : Program) (w : World) (K : PySem.W.Frag) (mg : Str → Option Value) (base : Heap) (k : Nat) (C : Addr) (f : Str) (sp : Sp) : Prop where
  cls : Cls K C
  ex : ∃ p g fd ps, FnG P w K mg base k g fd ps sp ∧ PropOf K C f p g ∧ Binds K fd ps []
def dProp (F : DF) (te : DE) : DE := fun env q x => te env (fun r => F [r.d] (fun d => r.isVal = true ∧ q (.val d)) noX) x
end
end QD
/-! C(..): __init__ that stores attributes; raise -/
namespace QD
open PySem PySem.Spec PyProof.Rows L2
section
variable {X : Cx} {E : XK} {e a b c o : Expr} {te ta tb : DE} {pos p apos : Pos} {es : List Expr} {sA : DA} {k j : Nat} {C : Addr} {x m f : Str}
/-! ### raise of an own class with a text -/
structure ExcG (K : PySem.W.Frag) (mg : Str → Option Value) (x : Str) (C : Addr) : Prop where
  g : mg x = some (.ref C)
  kp : PySem.W.keepIn K (.ref C) = true
  ex : ∃ (bmB : List Value) (B newId initId : String), ExcBaseFacts B newId initId bmB ∧ PySem.W.excIn K C bmB newId = true
  sub : PySem.W.subIn K (.ref C) (.type "BaseException") = some true
  ty : PySem.W.typeIn K (.ref C) = some (.type "type")
def dRaise (C : Addr) : DS := fun J _ => J.ex ⟨C, none⟩
theorem pd_raise {t : Str} {n : Nat} {p2 : Pos} (T : ExcG X.K X.mg x C) (B : BC X E j) (hg : Gl X x := by rfl) (hdb : (x == ("__debug__" : Str)) = false := by decide) : PDS X E (.Raise (some (.Call (.Name x p) [.Constant (.str t) n p2] [] apos)) none pos) (dRaise C) := by
  obtain ⟨bmB, Bs, newId, initId, F, q⟩ := T.ex
  refine PS.wk (ps_raise B.calm B.tk (pmk_own F q T.g T.kp (raises_own T.sub T.ty) hg hdb)) ?_
  rintro Z σ H ⟨G0, H0, G, env, J, e, h, hn, hr, hb, hct, hx⟩
  exact ((hx.now e) _ G H h (Keep.refl G H) e.gok).1 rfl

/-! ### the state while __init__ runs -/
structure KeepB (a : Addr) (G G' : Gm) (H H' : Hp) : Prop where
  obj : ∀ b o, b ≠ a → H b = some o → Fix (G b) → (∀ ps, o ≠ .tbl ps) → H' b = some o
  pen : ∀ b, G b = some .pen → PenAt H b → PenAt H' b
  memo : ∀ b K J, G b = some (.memo K J) → MemoAt K J H b → MemoAt K J H' b
  gh : ∀ b, H b ≠ none → G' b = G b
  tab : ∀ b ps, H b = some (.tbl ps) → ∃ ps', H' b = some (.tbl ps') ∧ ∀ q, TabN H b q → TabN H' b q
theorem Keep.but {a : Addr} {G G' : Gm} {H H' : Hp} (k : Keep G G' H H') : KeepB a G G' H H' := ⟨fun b o _ h n nt => k.obj b o h n nt, k.pen, k.memo, k.gh, k.tab⟩
theorem KeepB.dom {a : Addr} {G G' : Gm} {H H' : Hp} (k : KeepB a G G' H H') (g : GOk G H) {b : Addr} (n : b ≠ a) (h : H b ≠ none) : H' b ≠ none := by
  rcases fix_cases (G b) with e | ⟨K, J, e⟩ | e
  · obtain ⟨_, _, _, q, _⟩ := k.pen b e (g.pen b e)
    rw [q]; simp
  · exact (k.memo b K J e (g.memo b K J e)).ne
  · cases q : H b with
    | none => exact absurd q h
    | some o =>
      by_cases z : ∃ ps, o = .tbl ps
      · obtain ⟨ps, rfl⟩ := z
        obtain ⟨ps', q', _⟩ := k.tab b ps q
        rw [q']; simp
      · rw [k.obj b o n q e fun ps y => z ⟨ps, y⟩]; simp
theorem KeepB.trans {a : Addr} {G G1 G2 : Gm} {H H1 H2 : Hp} (g : GOk G H) (ha : H1 a ≠ none) (x : KeepB a G G1 H H1) (y : KeepB a G1 G2 H1 H2) : KeepB a G G2 H H2 := by
  refine ⟨fun c o n h np nt => ?_, fun c h q => ?_, fun c K J h q => ?_, fun c h => ?_, fun c ps h => ?_⟩
  · have hn : H c ≠ none := by rw [h]; simp
    exact y.obj c o n (x.obj c o n h np nt) (by rw [x.gh c hn]; exact np) nt
  · have hn : H c ≠ none := by obtain ⟨_, _, _, q, _⟩ := q; rw [q]; simp
    exact y.pen c (by rw [x.gh c hn]; exact h) (x.pen c h q)
  · exact y.memo c K J (by rw [x.gh c q.ne]; exact h) (x.memo c K J h q)
  · have hn1 : H1 c ≠ none := by
      by_cases z : c = a
      · rw [z]; exact ha
      · exact x.dom g z h
    rw [y.gh c hn1, x.gh c h]
  · obtain ⟨ps1, h1, t1⟩ := x.tab c ps h
    obtain ⟨ps2, h2, t2⟩ := y.tab c ps1 h1
    exact ⟨ps2, h2, fun q t => t2 q (t1 q t)⟩
structure IniSt (K : PySem.W.Frag) (C a : Addr) (H : Hp) (σ : L2.St) (G : Gm) (env : SE) (ns : List Str) (es : List D) : Prop where
  ev : ∃ G0 H0, EnvOk K G0 H0 G H σ env
  no : ∀ (i : Nat) (ds : List D), env[i]? ≠ some (.own ds)
  nod : ∀ (i : Nat) (ks : List Key) (ds : List D), env[i]? ≠ some (.dic ks ds)
  nos : ∀ (i : Nat) (a C dx : Addr) (fs : List (Str × V)) (ds : List D), env[i]? ≠ some (.sto a C dx fs ds)
  self : σ[0]? = some (some (.ref a))
  hid : G a = some .hid
  at_ : ∃ dx fs, H a = some (.ins C dx fs) ∧ fs.map (·.1) = ns ∧ RepL K G H (fs.map (·.2)) es
abbrev DN := SE → List Str → List D → (List Str → List D → Prop) → XP → Prop
def liftN (K : PySem.W.Frag) (E : XK) (C : Addr) (t : DN) : TS := fun Z σ H => ∃ a G env ns es q x, IniSt K C a H σ G env ns es ∧ t env ns es q x ∧
  (∀ ns' es' env' G' σ' H', q ns' es' → KeepB a G G' H H' → GOk G' H' → IniSt K C a H' σ' G' env' ns' es' → Z.nx σ' H') ∧ XOk K E G H x
theorem IniSt.gok {K : PySem.W.Frag} {a : Addr} {H : Hp} {σ : L2.St} {G : Gm} {env : SE} {ns : List Str} {es : List D} (i : IniSt K C a H σ G env ns es) : GOk G H := let ⟨_, _, e⟩ := i.ev; e.gok
def dnNil : DN := fun _ ns es q _ => q ns es
theorem pn_nil : PSs X [] (liftN X.K E C dnNil) := by
  refine PSs.wk pss_nil ?_
  rintro Z σ H ⟨a, G, env, ns, es, q, x, i, h, hq, hx⟩
  exact hq ns es env G σ H h (Keep.refl G H).but i.gok i
/-- if c: (what doesn't go on) -/
def dnIf (c : DT) (tb : DS) (tr : DN) : DN := fun env ns es q x => c env (fun k => if k = true then tb { nx := fun _ => False, rt := fun _ => False, ex := x } env else tr env ns es q x) x
theorem IniSt.step {K : PySem.W.Frag} {a : Addr} {H H' : Hp} {σ : L2.St} {G G' : Gm} {env : SE} {ns : List Str} {es : List D} (i : IniSt K C a H σ G env ns es) (k : Keep G G' H H') (g : GOk G' H') : IniSt K C a H' σ G' env ns es := by
  obtain ⟨⟨G0, H0, e⟩, n, nd, ns', s, h, dx, fs, ha, hf, r⟩ := i
  exact ⟨⟨G0, H0, e.step k g⟩, n, nd, ns', s, by rw [k.gh a (by rw [ha]; simp)]; exact h, dx, fs, k.obj a _ ha (by rw [h]; simp) nofun, hf, RepL.keep k r⟩
theorem pn_if {sc : DT} {tb : DS} {tr : DN} {body rest : List Stmt} (hc : PDT X E c sc) (hb : PDSs X E body tb) (hr : PSs X rest (liftN X.K E C tr)) : PSs X (.If c body [] pos :: rest) (liftN X.K E C (dnIf sc tb tr)) := by
  refine PSs.wk (pss_cons (ps_if (show PT X c (liftT X.K E sc) from hc) (show PSs X body (liftS X.K E tb) from hb) pss_nil) hr) ?_
  rintro Z σ H ⟨a, G, env, ns, es, q, x, i, h, hq, hx⟩
  obtain ⟨G0, H0, e⟩ := i.ev
  refine ⟨G0, H0, G, env, _, x, e, h, ?_, hx⟩
  rintro k G' H' qk kk g
  cases k with
  | true =>
    refine ⟨G', ⟨H', []⟩, G', env, _, ⟨g, Keep.refl G' H', g, e.len, fun p hp => (nomatch hp), (e.step kk g).val, fun i' ds' z => absurd z (i.no i' ds'), fun i' j' ds' es' a' n z => absurd z (i.no i' ds'), DicOk.non i.nod i.nos⟩, qk, fun _ _ _ _ z => z.elim, fun _ _ _ _ z => z.elim, fun _ _ _ _ z => z.elim, fun _ _ _ _ z => z.elim, hx.keep e.gok kk⟩
  | false =>
    refine ⟨a, G', env, ns, es, q, x, i.step kk g, qk, ?_, hx.keep e.gok kk⟩
    intro ns' es' env' G2 σ' H2 q2 k2 g2 i2
    refine hq ns' es' env' G2 σ' H2 q2 (kk.but.trans e.gok ?_ k2) g2 i2
    obtain ⟨dx, fs, ha, _⟩ := (i.step kk g).at_
    rw [ha]; simp
/-- self.f = e, where self is read as what it has so far -/
def dnSet (f : Str) (te : DE) (tr : DN) : DN := fun env ns es q x => (∀ g ∈ ns, g ≠ f) ∧ ns.length < 900 ∧ te (env.set 0 (.val (.ins C ns es))) (fun r => ∃ d, r = .val d ∧ noLst d = true ∧ tr env (ns ++ [f]) (es ++ [d]) q noX) noX
theorem putF_new {f : Str} {v : V} : ∀ {fs : List (Str × V)}, (∀ g ∈ fs.map (·.1), g ≠ f) → putF f v fs = fs ++ [(f, v)]
  | [], _ => rfl
  | (g, u) :: r, h => by
    have h1 : g ≠ f := h g (by simp)
    unfold putF
    rw [if_neg h1, putF_new fun y hy => h y (by simp at hy ⊢; exact .inr hy)]
    rfl
theorem pn_set {tr : DN} {value : Expr} {rest : List Stmt} {pos' : Pos} {y : Str} (cl : Cls X.K C) (n : NoAttr X.K C f) (hN : X.N[0]? = some y) (hv : Vis X.env.scope y) (hd : (y == ("__debug__" : Str)) = false) (hcd : (y == ("__classdict__" : Str)) = false) (he : PD X E value te) (hr : PSs X rest (liftN X.K E C tr))
    (hs : swapsWith value (some (.Attribute (.Name y p) f pos')) pos.line X.env = pure false) : PSs X (.Assign [.Attribute (.Name y p) f pos'] value pos :: rest) (liftN X.K E C (dnSet (C := C) f te tr)) := by
  refine PSs.wk (pss_cons (ps_fld (pe_var (i := 0) hN hv hd hcd) (show PE X value (lift X.K E te) from he) hs) hr) ?_
  rintro Z σ H ⟨a, G, env, ns, es, q, x, i, ⟨hfr, hlen, h⟩, hq, hx⟩
  obtain ⟨⟨G0, H0, e⟩, no, nod, nos, self, hid, dx, fs, ha, hf, r⟩ := i
  have gp := pens_ok e.gok
  have es0 : EnvOk X.K (pens G) ⟨H, []⟩ (pens G) H σ env := ⟨gp, Keep.refl _ H, gp, e.len, fun p hp => (nomatch hp), fun i d z => by
    obtain ⟨v, z1, z2⟩ := e.val i d z
    exact ⟨v, z1, Rep.le (pens_le G) z2⟩, fun i' ds' z => absurd z (no i' ds'), fun i' j' ds' es' a' n z => absurd z (no i' ds'), DicOk.non nod nos⟩
  have rs : Rep X.K (pens G) H (.ref a) (.ins C ns es) := .ins (pens_non (by rw [hid]; simp)) ha hf (RepL.le (pens_le G) r)
  have es1 := es0.setVal 0 rs
  have hset : σ.set 0 (some (.ref a)) = σ := by
    apply List.ext_getElem?
    intro n
    by_cases z : 0 = n
    · subst z
      rw [List.getElem?_set_self (List.getElem?_eq_some_iff.mp self).1, self]
    · rw [List.getElem?_set_ne z]
  rw [hset] at es1
  refine ⟨pens G, ⟨H, []⟩, pens G, _, _, noX, es1, h, ?_, XOk.noX⟩
  rintro rv v G1 H1 ⟨d, rfl, nl, ht⟩ k1 g1 rr
  have ha1 : H1 a = some (.ins C dx fs) := k1.obj a _ ha (by rw [pens_non (by rw [hid]; simp)]; simp) nofun
  have kb := keep_back k1
  have gb := gok_back e.gok k1 g1
  have rd : Rep X.K (gback G G1 H) H1 v d := Rep.back e.gok k1 nl rr
  have hid1 : gback G G1 H a = some .hid := by rw [gback_old (by rw [ha]; simp)]; exact hid
  refine ⟨.ref a, self, a, C, dx, fs, rfl, ha1, cl, n, by rw [show fs.length = ns.length by rw [← hf]; simp]; omega, ?_⟩
  have hput : putF f v fs = fs ++ [(f, v)] := putF_new (by rw [hf]; exact hfr)
  have w : Wr (gback G G1 H) a H1 (upd H1 a (.ins C dx (putF f v fs))) := ⟨hid1, fun b nb => upd_ne nb, _, ha1, .inr (.inl ⟨_, _, _, rfl⟩)⟩
  have k2 : KeepB a G (gback G G1 H) H (upd H1 a (.ins C dx (putF f v fs))) := ⟨fun b ob nb hb np nt => by rw [upd_ne nb]; exact kb.obj b ob hb np nt, fun b gbn pb => w.pen (by rw [kb.gh b (by obtain ⟨_, _, _, q, _⟩ := pb; rw [q]; simp)]; exact gbn) (kb.pen b gbn pb), fun b K J gbn pb => w.memo (by rw [kb.gh b pb.ne]; exact gbn) (kb.memo b K J gbn pb), kb.gh, w.tab kb.tab⟩
  have g2 : GOk (gback G G1 H) (upd H1 a (.ins C dx (putF f v fs))) := ⟨fun b y gy => by
    by_cases z : b = a
    · subst z; exact ⟨_, upd_same, .inr (.inl ⟨_, _, _, rfl⟩)⟩
    · obtain ⟨ob, q1, q2⟩ := gb.lst b y gy
      exact ⟨ob, by rw [upd_ne z]; exact q1, q2⟩, fun b gy => w.pen gy (gb.pen b gy), fun b K J gy => w.memo gy (gb.memo b K J gy)⟩
  have e2 := (e.step kb gb)
  have rfin : RepL X.K (gback G G1 H) (upd H1 a (.ins C dx (putF f v fs))) ((fs ++ [(f, v)]).map (·.2)) (es ++ [d]) := by
    rw [List.map_append]
    exact RepL.wr w ((RepL.keep kb r).append (.cons rd .nil))
  refine ⟨a, gback G G1 H, env, ns ++ [f], es ++ [d], q, noX, ⟨⟨gback G G1 H, ⟨upd H1 a (.ins C dx (putF f v fs)), []⟩, ⟨g2, Keep.refl _ _, g2, e.len, fun p hp => (nomatch hp), fun i d z => ?_, fun i' ds' z => absurd z (no i' ds'), fun i' j' ds' es' a' n z => absurd z (no i' ds'), DicOk.non nod nos⟩⟩, no, nod, nos, self, hid1, dx, putF f v fs, upd_same, by rw [hput]; simp [hf], by have z := rfin; rw [← hput] at z; exact z⟩, ht, ?_, XOk.noX⟩
  · obtain ⟨v', z1, z2⟩ := e2.val i d z
    exact ⟨v', z1, Rep.wr w z2⟩
  · intro ns' es' env' G3 σ' H3 q3 k3 g3 i3
    exact hq ns' es' env' G3 σ' H3 q3 (k2.trans e.gok (by rw [upd_same]; simp) k3) g3 i3
/-! ### what __init__ promises, the making -/
theorem EnvOk.consNo {K : PySem.W.Frag} {G0 G : Gm} {H0 : HB} {H : Hp} {σ : L2.St} {env : SE} (e : EnvOk K G0 H0 G H σ env) (o : Option V) : EnvOk K G0 H0 G H (o :: σ) (.no :: env) := by
  refine ⟨e.g0, e.keep, e.gok, by simp [e.len], e.tmp, fun i d h => ?_, fun i ds h => ?_, fun i j ds es b n h1 h2 => ?_, e.dic.cons o⟩
  · cases i with
    | zero => cases h
    | succ i => exact e.val i d h
  · cases i with
    | zero => cases h
    | succ i => exact e.own i ds h
  · cases i with
    | zero => cases h1
    | succ i => cases j with
      | zero => cases h2
      | succ j => exact e.sep i j ds es b (by omega) h1 h2
/-- F: the arguments, then what is wanted of the instance -/
def spIni (K : PySem.W.Frag) (C : Addr) (F : DF) : Sp := fun vs H Q E => ∃ a dx us G ds q x, vs = .ref a :: us ∧ H a = some (.ins C dx []) ∧ G a = some .hid ∧ GOk G H ∧ RepL K G H us ds ∧ F ds q x ∧
  (∀ fs dx' ns es G' H', q (.ins C ns es) → KeepB a G G' H H' → GOk G' H' → G' a = some .hid → H' a = some (.ins C dx' fs) → fs.map (·.1) = ns → RepL K G' H' (fs.map (·.2)) es → Q .non H') ∧ XOk K E G H x
theorem ini_ok {P : Program} {w : World} {K : PySem.W.Frag} {mg : Str → Option Value} {base : Heap} {x qual : Str} {st : Stmt} {f : Addr} {fd : FuncData} {N ps : List Str} {k : Nat} {F : DF} {t : DN} (fn : Fun K x qual st f fd) (S : FnScope N ps (defScope st))
    (body : ∀ (cdv : Value) (A : Around) (callers : List PySem.Env) (s : Shared) (H : Hp) (E : XK), BC (cxOf (L2.CX P w) P w K mg base N qual (defScope st) f cdv A callers s H E) E k →
      PassesOwn (model P w) (cxOf (L2.CX P w) P w K mg base N qual (defScope st) f cdv A callers s H E).A (cxOf (L2.CX P w) P w K mg base N qual (defScope st) f cdv A callers s H E).env (cxOf (L2.CX P w) P w K mg base N qual (defScope st) f cdv A callers s H E).xe →
      PSs (cxOf (L2.CX P w) P w K mg base N qual (defScope st) f cdv A callers s H E) (defBody st) (liftN K E C t))
    (hp : ps ≠ [])
    (pure : ∀ ds q x, F ds q x → ds.length + 1 = ps.length ∧ t ((.no : EV) :: startE (N.length - 1) ds) [] [] (fun ns es => q (.ins C ns es)) x) : FnG P w K mg base (k + 1) f fd ps (spIni K C F) := by
  refine fnG_of fn S (fun vs H Q E ⟨a, dx, us, G, ds, q, x, e, _, _, _, r, h, _⟩ => by rw [e, List.length_cons, r.length]; exact (pure ds q x h).1) fun cdv A l s H vs Q E B po ⟨a, dx, us, G, ds, q, x, e, ha, hid, g, r, h, hq, hx⟩ => ?_
  subst e
  obtain ⟨hl, ht⟩ := pure ds q x h
  have hlen : ps.length ≤ N.length := by
    have z := congrArg List.length S.pre
    rw [List.length_take] at z
    omega
  have hps : 0 < ps.length := List.length_pos_iff.mpr hp
  have e0 := (startE_ok (N := N.tail) g r).consNo (some (.ref a))
  have hst : L2.start N (.ref a :: us) = some (.ref a) :: L2.start N.tail us := by
    unfold L2.start
    rw [List.map_cons, List.cons_append, List.length_tail, List.length_cons, show N.length - (us.length + 1) = N.length - 1 - us.length by omega]
  rw [← hst, List.length_tail] at e0
  refine ⟨_, body cdv A l s H E B po, a, G, _, [], [], _, x, ⟨⟨G, ⟨H, []⟩, e0⟩, ?_, ?_, ?_, by rw [hst]; rfl, hid, dx, [], ha, rfl, .nil⟩, ht, ?_, hx⟩
  · intro i es h
    cases i with
    | zero => cases h
    | succ i =>
      have h' : (startE (N.length - 1) ds)[i]? = some (.own es) := h
      unfold startE at h'
      rcases List.mem_append.mp (List.mem_of_getElem? h') with z | z
      · obtain ⟨d, _, e⟩ := List.mem_map.mp z; cases e
      · have := (List.mem_replicate.mp z).2; cases this
  · intro i ks es h
    cases i with
    | zero => cases h
    | succ i => exact startE_dic (show (startE (N.length - 1) ds)[i]? = some (.dic ks es) from h)
  · intro i a' C' dx' fs' es h
    cases i with
    | zero => cases h
    | succ i => exact startE_sto (show (startE (N.length - 1) ds)[i]? = some (.sto a' C' dx' fs' es) from h)
  · rintro ns' es' env' G' σ' H' q' k' g' ⟨_, _, _, _, _, hid', dx', fs', ha', hf', r'⟩
    exact hq fs' dx' ns' es' G' H' q' k' g' hid' ha' hf' r'
/-- C(..) -/
def dMake (C : Addr) (F : DF) (ta : DA) : DE := fun env q x => ta env (fun rs => ∃ ds, rs = ds.map R.val ∧ F ds (fun d => q (.val d)) x) x
structure MakG (P : Program) (w : World) (K : PySem.W.Frag) (mg : Str → Option Value) (base : Heap) (k : Nat) (x : Str) (C : Addr) (F : DF) : Prop where
  g : mg x = some (.ref C)
  ex : ∃ f fd ps, FnG P w K mg base k f fd ps (spIni K C F) ∧ Mk K C f ∧ Binds K fd ps []
theorem make_guards {A : Around} {C : Addr} {us : List Value} {kw : List (Str × Value)} : (A.under (.builtin "type.__call__" ⟨.ref C :: us, kw⟩)).guards = A.guards := by
  first | rfl | simp [Around.under, Code.isGuard, guardIds]
theorem run_makeG {sp : Sp} {fd : FuncData} {ps : List Str} {fI : Addr} {pins : List (Addr × Obj)} {σ : L2.St} {H : Hp} {s : Shared} {Q : VK} {us : List Value} {vs : List V} (M : Mk X.K C fI) (F : FnG X.prog X.w X.K X.mg X.base k fI fd ps sp) (B : BC X E j) (hk : k + 1 ≤ j) (hb : Binds X.K fd ps [])
    (I : Inv X pins σ H s) (r : Vals vs us) (h : ∀ y dx, H y = none → H dx = none → dx ≠ y → sp (.ref y :: vs) (upd (upd H dx (.own y)) y (.ins C dx [])) (fun v H2 => v = .non ∧ Q (.ref y) H2) E) :
    wpAny (model X.prog X.w) X.A (call (.ref C) us) (EP X pins σ Q) X.xe s := by
  have hq := h (s.heap.objs.size + 1) s.heap.objs.size (I.hok.fresh (Nat.le_succ _)) (I.hok.fresh (Nat.le_refl _)) (Nat.ne_of_lt (Nat.lt_succ_self _))
  have I2 := Inv.made (C := C) I
  have r2 : Vals (V.ref (s.heap.objs.size + 1) :: vs) (Value.ref (s.heap.objs.size + 1) :: us) := .cons rfl r
  have n : (Value.ref (s.heap.objs.size + 1) :: us ++ []).length = ps.length := by rw [List.append_nil, ← r2.length]; exact F.len _ _ _ _ hq
  have bt := hb _ (Value.ref (s.heap.objs.size + 1) :: us) I2.kIn n
  rw [List.append_nil] at bt
  refine wpAny_call (make_map (f := fI) I.kIn M.makes M.init (beq_iff_eq.mp M.fn) (codeAny_mono (F.run _ X.stack _ _ ⟨Value.ref (s.heap.objs.size + 1) :: us, []⟩ (Value.ref (s.heap.objs.size + 1) :: us) _ _ E (by rw [make_guards]; exact B.gd) ((B.room.mono hk).make C us [])
    (I2.env0.make C us []) bt r2 hq) fun res s' q => ?_))
  cases res with
  | error ex => exact B.pass pins σ _ _ ex s' I2 q
  | ok fl => cases fl with
    | ret u =>
      obtain ⟨v, H', I3, rv, ev, q3⟩ := I2.after q
      subst ev
      exact ⟨rv, ⟨V.ref (s.heap.objs.size + 1), H', I3, rfl, q3⟩⟩
    | next => exact q.elim
    | brk => exact q.elim
    | cont => exact q.elim
theorem pd_make {F : DF} (M : MakG X.prog X.w X.K X.mg X.base k x C F) (B : BC X E j) (hk : k + 1 ≤ j) (ha : PDA X E (e :: es) sA) (hg : Gl X x := by rfl) (hdb : (x == ("__debug__" : Str)) = false := by decide)
    (he : starEach (e :: es) X.env = (false, eval e X.env) :: starEach es X.env := by rfl) (hpl : (backTo pos (starEach es X.env)).any (·.1) = false := by rfl) : PD X E (.Call (.Name x p) (e :: es) [] pos) (dMake C F sA) := by
  obtain ⟨f, fd, ps, FG, mk, hb⟩ := M.ex
  have raw : PE X (.Call (.Name x p) (e :: es) [] pos) (tMake C (spIni X.K C F) [] E (liftA X.K E sA)) := by
    refine ⟨fun pins s σ H Q I h => ?_⟩
    refine wpAny_Call_Name_kw (ld_glob I hg M.g ?_ hdb)
    refine PySem.W.callWith_K (h₀ := X.base) I.ok.mod.kin mk.kp (thn ((show PA X (e :: es) (liftA X.K E sA) from ha).run pos pins s σ H _ I h) fun us s1 ⟨vs, H1, I1, r, q⟩ => ⟨I1.kIn, ?_⟩) he hpl
    refine run_makeG mk FG B hk hb I1 r ?_
    intro y dx h1 h2 h3
    have := q y dx h1 h2 h3
    rwa [List.append_nil] at this
  refine PE.wk raw ?_
  rintro σ H Q ⟨G0, H0, G, env, q, x, e, h, hq, hx⟩
  refine ⟨G0, H0, G, env, _, x, e, h, ?_, hx⟩
  rintro rs vs G1 H1 ⟨ds, rfl, hF⟩ kk g1 rl
  intro y dx hy hdx hne
  rw [List.append_nil]
  have gy := g1.fresh hy
  have gd := g1.fresh hdx
  let G2 : Gm := fun b => if b = y then some .hid else G1 b
  have G2y : G2 y = some .hid := if_pos rfl
  have G2n : ∀ {b}, b ≠ y → G2 b = G1 b := fun n => if_neg n
  let H2 := upd (upd H1 dx (.own y)) y (.ins C dx [])
  have H2n : ∀ {b}, b ≠ y → b ≠ dx → H2 b = H1 b := fun n1 n2 => by show upd (upd H1 dx _) y _ _ = _; rw [upd_ne n1, upd_ne n2]
  have nd : ∀ {b o}, H1 b = some o → b ≠ y ∧ b ≠ dx := fun h => ⟨ne_of_none h hy, ne_of_none h hdx⟩
  have k12 : Keep G1 G2 H1 H2 := ⟨fun b ob hb _ _ => by rw [H2n (nd hb).1 (nd hb).2]; exact hb, fun b gb ⟨i, j, k, e, z⟩ => ⟨i, j, k, by rw [H2n (nd e).1 (nd e).2]; exact e, z⟩, fun b K J _ m => m.big fun c o x => by rw [H2n (nd x).1 (nd x).2]; exact x, fun b hb => by
    cases q : H1 b with
    | none => exact absurd q hb
    | some ob => exact G2n (nd q).1, fun b ps e => ⟨ps, by rw [H2n (nd e).1 (nd e).2]; exact e, fun q t => t.ext fun b o x => by rw [H2n (nd x).1 (nd x).2]; exact x⟩⟩
  have g2 : GOk G2 H2 := by
    refine ⟨fun b z gb => ?_, fun b gb => ?_, fun b K J gb => ?_⟩
    · by_cases n : b = y
      · subst n; exact ⟨_, upd_same, .inr (.inl ⟨_, _, _, rfl⟩)⟩
      · rw [G2n n] at gb
        obtain ⟨ob, q1, q2⟩ := g1.lst b z gb
        exact ⟨ob, by rw [H2n (nd q1).1 (nd q1).2]; exact q1, q2⟩
    · by_cases n : b = y
      · subst n; rw [G2y] at gb; cases gb
      · rw [G2n n] at gb
        obtain ⟨i, j, k, e, z⟩ := g1.pen b gb
        exact ⟨i, j, k, by rw [H2n (nd e).1 (nd e).2]; exact e, z⟩
    · by_cases n : b = y
      · subst n; rw [G2y] at gb; cases gb
      · rw [G2n n] at gb
        exact (g1.memo b K J gb).big fun c o x => by rw [H2n (nd x).1 (nd x).2]; exact x
  refine ⟨y, dx, vs, G2, ds, _, x, rfl, upd_same, G2y, g2, RepL.keep k12 rl.vals, hF, ?_, (hx.keep e.gok kk).keep g1 k12⟩
  intro fs dx' ns es G3 H3 qd k3 g3 h3y ha hf r3
  replace k3 : KeepB y G2 G3 H2 H3 := k3
  refine ⟨rfl, ?_⟩
  let G4 : Gm := fun b => if b = y then none else G3 b
  have G4y : G4 y = none := if_pos rfl
  have G4n : ∀ {b}, b ≠ y → G4 b = G3 b := fun n => if_neg n
  have k14 : Keep G1 G4 H1 H3 := by
    refine ⟨fun b ob hb np nt => ?_, fun b gb pb => ?_, fun b K J gb pb => ?_, fun b hb => ?_, fun b ps h => ?_⟩
    · exact k3.obj b ob (nd hb).1 (by rw [H2n (nd hb).1 (nd hb).2]; exact hb) (by rw [G2n (nd hb).1]; exact np) nt
    · have pb' := pb
      obtain ⟨i, j, k, e, z⟩ := pb
      exact k3.pen b (by rw [G2n (nd e).1]; exact gb) (k12.pen b gb pb')
    · have ne : b ≠ y := fun z => pb.ne (by rw [z]; exact hy)
      exact k3.memo b K J (by rw [G2n ne]; exact gb) (k12.memo b K J gb pb)
    · cases q : H1 b with
      | none => exact absurd q hb
      | some ob => rw [G4n (nd q).1, k3.gh b (by rw [H2n (nd q).1 (nd q).2, q]; simp), G2n (nd q).1]
    · obtain ⟨ps1, h1, t1⟩ := k12.tab b ps h
      obtain ⟨ps2, h2, t2⟩ := k3.tab b ps1 h1
      exact ⟨ps2, h2, fun q t => t2 q (t1 q t)⟩
  have le : GLe G4 G3 := ⟨fun b z => by
    by_cases n : b = y
    · rw [n]; exact G4y
    · rw [G4n n]; exact z, fun b z => by
    by_cases n : b = y
    · rw [n, h3y] at z; cases z
    · rw [G4n n]; exact z, fun b K J z => by
    by_cases n : b = y
    · rw [n, h3y] at z; cases z
    · rw [G4n n]; exact z⟩
  have g4 : GOk G4 H3 := ⟨fun b z gb => by
    by_cases n : b = y
    · rw [n, G4y] at gb; cases gb
    · rw [G4n n] at gb; exact g3.lst b z gb, fun b gb => by
    by_cases n : b = y
    · rw [n, G4y] at gb; cases gb
    · rw [G4n n] at gb; exact g3.pen b gb, fun b K J gb => by
    by_cases n : b = y
    · rw [n, G4y] at gb; cases gb
    · rw [G4n n] at gb; exact g3.memo b K J gb⟩
  exact hq (.val (.ins C ns es)) (.ref y) G4 H3 qd (kk.trans e.gok k14) g4 (show Rep X.K G4 H3 (.ref y) (.ins C ns es) from .ins G4y ha hf (RepL.le le r3))
end
end QD
/-! dicts: {k: v for ..}, d[k], [.. for k in d] -/
namespace QD
open PySem PySem.Spec PyProof.Rows L2
inductive RepP (K : PySem.W.Frag) (G : Gm) (H : Hp) : List (Key × V) → List (Key × D) → Prop
  | nil : RepP K G H [] []
  | cons {k : Key} {v : V} {d : D} {kvs : List (Key × V)} {ps : List (Key × D)} : Rep K G H v d → RepP K G H kvs ps → RepP K G H ((k, v) :: kvs) ((k, d) :: ps)
theorem RepP.keep {K : PySem.W.Frag} {G G' : Gm} {H H' : Hp} (k : Keep G G' H H') : ∀ {vs : List (Key × V)} {ds : List (Key × D)}, RepP K G H vs ds → RepP K G' H' vs ds
  | _, _, .nil => .nil
  | _, _, .cons a b => .cons (Rep.keep k a) (RepP.keep k b)
theorem RepP.wr {K : PySem.W.Frag} {G : Gm} {a : Addr} {H H' : Hp} (w : Wr G a H H') : ∀ {vs : List (Key × V)} {ds : List (Key × D)}, RepP K G H vs ds → RepP K G H' vs ds
  | _, _, .nil => .nil
  | _, _, .cons a b => .cons (Rep.wr w a) (RepP.wr w b)
theorem RepP.le {K : PySem.W.Frag} {G G' : Gm} {H : Hp} (k : GLe G' G) : ∀ {vs : List (Key × V)} {ds : List (Key × D)}, RepP K G H vs ds → RepP K G' H vs ds
  | _, _, .nil => .nil
  | _, _, .cons a b => .cons (Rep.le k a) (RepP.le k b)
theorem RepP.keys {K : PySem.W.Frag} {G : Gm} {H : Hp} : ∀ {vs : List (Key × V)} {ds : List (Key × D)}, RepP K G H vs ds → vs.map (·.1) = ds.map (·.1)
  | _, _, .nil => rfl
  | _, _, .cons a b => by simp [RepP.keys b]
theorem RepP.vals {K : PySem.W.Frag} {G : Gm} {H : Hp} : ∀ {vs : List (Key × V)} {ds : List (Key × D)}, RepP K G H vs ds → RepL K G H (vs.map (·.2)) (ds.map (·.2))
  | _, _, .nil => .nil
  | _, _, .cons a b => .cons a (RepP.vals b)
theorem RepP.len {K : PySem.W.Frag} {G : Gm} {H : Hp} : ∀ {vs : List (Key × V)} {ds : List (Key × D)}, RepP K G H vs ds → vs.length = ds.length
  | _, _, .nil => rfl
  | _, _, .cons a b => by simp [RepP.len b]
/-- as putK -/
def putD (ps : List (Key × D)) (k : Key) (d : D) : List (Key × D) :=
  if (ps.any fun p => decide (p.1 = k)) = true then ps.map (fun p => if p.1 = k then (p.1, d) else p) else ps ++ [(k, d)]
theorem RepP.put {K : PySem.W.Frag} {G : Gm} {H : Hp} {vs : List (Key × V)} {ds : List (Key × D)} {k : Key} {v : V} {d : D} (h : RepP K G H vs ds) (r : Rep K G H v d) : RepP K G H (putK vs k v) (putD ds k d) := by
  have ha : (vs.any fun p => decide (p.1 = k)) = (ds.any fun p => decide (p.1 = k)) := by
    have h1 : (vs.any fun p => decide (p.1 = k)) = (vs.map (·.1)).any fun y => decide (y = k) := by rw [List.any_map]; rfl
    have h2 : (ds.any fun p => decide (p.1 = k)) = (ds.map (·.1)).any fun y => decide (y = k) := by rw [List.any_map]; rfl
    rw [h1, h2, h.keys]
  have hm : ∀ {vs : List (Key × V)} {ds : List (Key × D)}, RepP K G H vs ds → RepP K G H (vs.map fun p => if p.1 = k then (p.1, v) else p) (ds.map fun p => if p.1 = k then (p.1, d) else p) := by
    intro vs ds h
    induction h with
    | nil => exact .nil
    | @cons k' v' d' kvs ps r1 r2 ih =>
      rw [List.map_cons, List.map_cons]
      by_cases q : k' = k
      · simp only [q, if_true]; exact .cons r ih
      · simp only [q, if_false]; exact .cons r1 ih
  have happ : ∀ {vs : List (Key × V)} {ds : List (Key × D)}, RepP K G H vs ds → RepP K G H (vs ++ [(k, v)]) (ds ++ [(k, d)]) := by
    intro vs ds h
    induction h with
    | nil => exact .cons r .nil
    | cons r1 r2 ih => exact .cons r1 ih
  unfold putK putD
  rw [ha]
  split
  · exact hm h
  · exact happ h
def keyD : D → Option Key
  | .int i => some (.inl i)
  | .str x => some (.inr x)
  | _ => none
def dKey : Key → D
  | .inl i => .int i
  | .inr x => .str x
theorem key_rep {K : PySem.W.Frag} {G : Gm} {H : Hp} {v : V} {d : D} {k : Key} (r : Rep K G H v d) (h : keyD d = some k) : v = kV k := by
  cases r <;> simp [keyD] at h <;> subst h <;> rfl
theorem rep_key {K : PySem.W.Frag} {G : Gm} {H : Hp} (k : Key) : Rep K G H (kV k) (dKey k) := by
  cases k with
  | inl i => exact .int i
  | inr x => exact .str x
section
variable {X : Cx} {E : XK} {e a b c tg iter : Expr} {te tk ta tb : DE} {sc : DT} {pos p : Pos} {x : Str} {ti : DI}
def dDcL (dg : DG) (tk te : DE) : List D → SE → List (Key × D) → (List (Key × D) → Prop) → Prop
  | [], _, ps, q => q ps
  | d :: ds, env, ps, q => ∃ env', dg d env = some env' ∧ tk env' (fun r => ∃ d1 k, r = .val d1 ∧ keyD d1 = some k ∧ te env' (fun r2 => ∃ d2, r2 = .val d2 ∧ dDcL dg tk te ds env (putD ps k d2) q) noX) noX
def dDc (vs : List Nat) (ti : DI) (dg : DG) (tk te : DE) : DE := fun env q x => ti env (fun ds _ => ds.length ≤ 16777216 ∧ dDcL dg tk te ds (wipeE env vs) [] (fun ps => q (.val (.dct (ps.map (·.1)) (ps.map (·.2)))))) x
theorem lift_dc {vs is : List Nat} {dg : DG} {g : TG} {tk te : DE} {σ : L2.St} {H : Hp} {Q : VK}
    (gg : ∀ (K : PySem.W.Frag) (G0 : Gm) (H0 : HB) (G : Gm) (H : Hp) (σ : L2.St) (env : SE) (v : V) (d : D) (env' : SE), X.K = K → EnvOk K G0 H0 G H σ env → Rep K G H v d → dg d env = some env' → ∀ Q : L2.St → Hp → Prop, (∀ vs, EnvOk K G0 H0 G H (setS is vs σ) env' → Q (setS is vs σ) H) → g v σ H Q)
    (his : ∀ i ∈ is, i ∈ vs) (h : lift X.K E (dDc vs ti dg tk te) σ H Q) : tDc (liftI X.K E ti) g (liftT X.K E0 dYes) (lift X.K E0 tk) (lift X.K E0 te) vs σ H Q := by
  obtain ⟨G0, H0, G, env, q, x, e, h, hq, hx⟩ := h
  refine ⟨G0, H0, G, env, _, x, e, h, ?_, hx⟩
  rintro ds v r G1 H1 Jt ⟨hlen, hd⟩ k1 g1 rr wk l hl
  have e1 := e.step k1 g1
  have old : ∀ {b : Addr}, H1 b ≠ none → b ≠ l := fun {b} n z => n (by rw [z]; exact hl)
  have hids : hide G1 l l = some .hid := hide_same
  have hidn : ∀ {b : Addr}, b ≠ l → hide G1 l b = G1 b := fun n => by unfold hide; rw [if_neg n]
  have k0 : Keep G1 (hide G1 l) H1 (upd H1 l (.dK [])) := ⟨fun b o hb _ _ => by rw [upd_ne (old (by rw [hb]; simp))]; exact hb, fun b gb ⟨i, j, k, eb, z⟩ => ⟨i, j, k, by rw [upd_ne (old (by rw [eb]; simp))]; exact eb, z⟩, fun b K J _ m => m.new hl, fun b hb => hidn (old hb), fun b ps e => ⟨ps, by rw [upd_ne (old (by rw [e]; simp))]; exact e, fun q t => t.ext fun b o x => by rw [upd_ne (old (by rw [x]; simp))]; exact x⟩⟩
  have g0 : GOk (hide G1 l) (upd H1 l (.dK [])) := ⟨fun b z gb => by
    by_cases n : b = l
    · subst n; exact ⟨_, upd_same, .inr (.inr ⟨_, rfl⟩)⟩
    · rw [hidn n] at gb; rw [upd_ne n]; exact g1.lst b z gb, fun b gb => by
    by_cases n : b = l
    · subst n; rw [hids] at gb; cases gb
    · rw [hidn n] at gb
      obtain ⟨i, j, k, eb, z⟩ := g1.pen b gb
      exact ⟨i, j, k, by rw [upd_ne n]; exact eb, z⟩, fun b K J gb => by
    by_cases n : b = l
    · subst n; rw [hids] at gb; cases gb
    · rw [hidn n] at gb
      exact (g1.memo b K J gb).new hl⟩
  refine ⟨fun i m Hc => ∃ Gc acc accD, i ≤ ds.length ∧ m = ds.length - i ∧ Keep G1 Gc H1 Hc ∧ GOk Gc Hc ∧ Gc l = some .hid ∧ Hc l = some (.dK acc) ∧ RepP X.K Gc Hc acc accD ∧ acc.length ≤ i ∧ dDcL dg tk te (ds.drop i) (wipeE env vs) accD (fun ps => q (.val (.dct (ps.map (·.1)) (ps.map (·.2))))),
    ⟨ds.length, hide G1 l, [], [], Nat.zero_le _, rfl, k0, g0, hids, upd_same, .nil, Nat.le_refl _, by simpa using hd⟩, ?_⟩
  rintro i m Hc ⟨Gc, acc, accD, hi, rfl, kc, gc, hh, hll, rl, la, hd'⟩
  obtain ⟨w1, w2⟩ := wk Gc Hc gc (rr.keep kc) i
  by_cases hlt : i < ds.length
  · obtain ⟨go, yl⟩ := w1 hlt
    refine .inr ⟨go, fun Hd => ∃ Gd acc' accD', Keep G1 Gd H1 Hd ∧ GOk Gd Hd ∧ Gd l = some .hid ∧ Hd l = some (.dK acc') ∧ RepP X.K Gd Hd acc' accD' ∧ acc'.length ≤ i + 1 ∧ dDcL dg tk te (ds.drop (i + 1)) (wipeE env vs) accD' (fun ps => q (.val (.dct (ps.map (·.1)) (ps.map (·.2))))),
      fun Hd ⟨Gd, acc', accD', a1, a2, a3, a4, a5, a6, a7⟩ => ⟨ds.length - (i + 1), by omega, Gd, acc', accD', hlt, rfl, a1, a2, a3, a4, a5, a6, a7⟩, fun y H2 hy => ?_⟩
    obtain ⟨dy, hdy, G2, k2, g2, ry⟩ := yl y H2 hy
    rw [List.drop_eq_getElem_cons hlt] at hd'
    rw [List.getElem?_eq_getElem hlt] at hdy
    cases hdy
    obtain ⟨env3, he3, hb3⟩ := hd'
    have k12 := kc.trans g1 k2
    have ew : EnvOk X.K G0 H0 G2 H2 (L2.wipe σ vs) (wipeE env vs) := (e1.step k12 g2).wipe vs
    have hid2 : ∀ {Gx : Gm} {Hx : Hp}, Keep Gc Gx Hc Hx → Gx l = some .hid ∧ Hx l = some (.dK acc) := fun kx => ⟨by rw [kx.gh l (by rw [hll]; simp)]; exact hh, kx.obj l _ hll (by rw [hh]; simp) nofun⟩
    refine gg X.K G0 H0 G2 H2 _ _ y _ env3 rfl ew ry he3 _ fun vals e3 => ⟨wipe_setS his, ?_⟩
    refine ⟨G0, H0, G2, env3, fun b => b = true, noX, e3, rfl, ?_, XOk.noX⟩
    rintro kk G3 H3 rfl k3 g3
    have kc3 := k2.trans gc k3
    have k13 := k12.trans g1 k3
    refine ⟨G0, H0, G3, env3, _, noX, e3.step k3 g3, hb3, ?_, XOk.noX⟩
    rintro r4 y4 G4 H4 ⟨d4, ky, rfl, hky, q4⟩ k4 g4 rr4
    have kc4 := kc3.trans gc k4
    have k14 := k13.trans g1 k4
    refine ⟨G0, H0, G4, env3, _, noX, (e3.step k3 g3).step k4 g4, q4, ?_, XOk.noX⟩
    rintro r5 y5 G5 H5 ⟨d5, rfl, q5⟩ k5 g5 rr5
    have kc5 := kc4.trans gc k5
    have k15 := k14.trans g1 k5
    obtain ⟨z1, z2⟩ := hid2 kc5
    have w : Wr G5 l H5 (upd H5 l (.dK (putK acc ky y5))) := ⟨z1, fun b n => upd_ne n, _, z2, .inr (.inr ⟨_, rfl⟩)⟩
    have lp : (putK acc ky y5).length ≤ acc.length + 1 := by unfold putK; split <;> simp
    refine ⟨acc, ky, key_rep rr4 hky, z2, by rw [sizeLine_eq]; omega, G5, putK acc ky y5, putD accD ky d5, ⟨fun b o hb nb nt => ?_, fun b gb pb => ?_, fun b K J gb pb => w.memo (by rw [k15.gh b pb.ne]; exact gb) (k15.memo b K J gb pb), k15.gh, w.tab k15.tab⟩, ⟨fun b x gb => ?_, fun b gb => w.pen gb (g5.pen b gb), fun b K J gb => w.memo gb (g5.memo b K J gb)⟩, z1, upd_same, RepP.wr w ((RepP.keep kc5 rl).put rr5), by omega, q5⟩
    · rw [upd_ne (old (by rw [hb]; simp))]; exact k15.obj b o hb nb nt
    · exact w.pen (by rw [k15.gh b (by obtain ⟨_, _, _, q, _⟩ := pb; rw [q]; simp)]; exact gb) (k15.pen b gb pb)
    · by_cases nb : b = l
      · subst nb; exact ⟨_, upd_same, .inr (.inr ⟨_, rfl⟩)⟩
      · obtain ⟨zs, qz, m⟩ := g5.lst b x gb
        exact ⟨zs, by rw [upd_ne nb]; exact qz, m⟩
  · refine .inl ⟨w2 (by omega), ?_⟩
    rw [List.drop_eq_nil_of_le (by omega)] at hd'
    have hd2 : q (.val (.dct (accD.map (·.1)) (accD.map (·.2)))) := hd'
    -- the dict is a value now
    have le := unh_le (G := Gc) (a := l) (by rw [hh]; simp)
    have ne : ∀ {b : Addr}, b ≠ l → unh Gc l b = Gc b := fun {b} n => by unfold unh; rw [if_neg n]
    have us : unh Gc l l = none := by unfold unh; rw [if_pos rfl]
    refine hq _ (.ref l) (unh Gc l) Hc hd2 (k1.trans e.gok ⟨kc.obj, kc.pen, kc.memo, fun b hb => by rw [ne (old hb)]; exact kc.gh b hb, kc.tab⟩) ⟨fun b x gb => ?_, fun b gb => ?_, fun b K J gb => ?_⟩ (show Rep X.K (unh Gc l) Hc (.ref l) (.dct _ _) from .dct us (.inl hll) rl.keys (RepL.le le rl.vals))
    · by_cases z : b = l
      · subst z; rw [us] at gb; cases gb
      · rw [ne z] at gb; exact gc.lst b x gb
    · by_cases z : b = l
      · subst z; rw [us] at gb; cases gb
      · rw [ne z] at gb; exact gc.pen b gb
    · by_cases z : b = l
      · subst z; rw [us] at gb; cases gb
      · rw [ne z] at gb; exact gc.memo b K J gb
theorem pd_dc {kx vx : Expr} {scope : Scope} {own : List (Str × Nat)} {is : List Nat} {dg : DG} (hc : X.calm = true) (hN : X.N.Nodup) (hi : PDI X E tg iter ti) (ok : BlkOk X.N X.env.scope scope own)
    (hg : ∃ g, (∀ (s : Shared) (H : Hp) (C : Addr) (cl : List (Str × Addr)) (fp : List Addr), PG (X.blk s H scope (compEnvC scope cl C X.env) fp) tg g) ∧ ∀ (K : PySem.W.Frag) (G0 : Gm) (H0 : HB) (G : Gm) (H : Hp) (σ : L2.St) (env : SE) (v : V) (d : D) (env' : SE), X.K = K → EnvOk K G0 H0 G H σ env → Rep K G H v d → dg d env = some env' → ∀ Q : L2.St → Hp → Prop, (∀ vs, EnvOk K G0 H0 G H (setS is vs σ) env' → Q (setS is vs σ) H) → g v σ H Q)
    (hk : ∀ (s : Shared) (H : Hp) (C : Addr) (cl : List (Str × Addr)) (fp : List Addr), PD (X.blk s H scope (compEnvC scope cl C X.env) fp) E0 kx tk)
    (he : ∀ (s : Shared) (H : Hp) (C : Addr) (cl : List (Str × Addr)) (fp : List Addr), PD (X.blk s H scope (compEnvC scope cl C X.env) fp) E0 vx te) (his : ∀ i ∈ is, i ∈ own.map (·.2) := by decide) (hs : ∀ x, foldedSetIterable iter X.env x = pure x := by intro _; rfl) :
    PD X E (.DictComp kx vx [⟨tg, iter, [], 0⟩] scope pos) (dDc (own.map (·.2)) ti dg tk te) := by
  obtain ⟨g, pg, gg⟩ := hg
  exact PE.wk (pe_dc hc hN hi ok pg (fun s H C cl fp => show PTs (X.blk s H scope (compEnvC scope cl C X.env) fp) [] (liftT X.K E0 dYes) from ptsd_nil) (fun s H C cl fp => show PE (X.blk s H scope (compEnvC scope cl C X.env) fp) kx (lift X.K E0 tk) from hk s H C cl fp) (fun s H C cl fp => show PE (X.blk s H scope (compEnvC scope cl C X.env) fp) vx (lift X.K E0 te) from he s H C cl fp) hs) fun _ _ _ h => lift_dc gg his h
theorem upd_ne2 {H : Hp} {a d : Addr} {o u w : HO} (h : H d = some w) (n : w ≠ o) (r : H a = some o) : upd H d u a = H a := upd_ne (by rintro rfl; rw [h] at r; exact n (Option.some.inj r))
/-! ### d[k] -/
def lkK (k : Key) : List Key → List D → Option D
  | k' :: ks, d :: ds => if k' = k then some d else lkK k ks ds
  | _, _ => none
theorem lkK_rep {K : PySem.W.Frag} {G : Gm} {H : Hp} {k : Key} {d : D} : ∀ {kvs : List (Key × V)} {ds : List D}, RepL K G H (kvs.map (·.2)) ds → lkK k (kvs.map (·.1)) ds = some d → ∃ v, valV kvs k = some v ∧ Rep K G H v d
  | [], _, r, h => by cases r; cases h
  | (k', v) :: kvs, _, r, h => by
    cases r with
    | cons r1 r2 =>
      by_cases q : k' = k
      · rename_i d1 ds1
        have h' : some d1 = some d := by simpa [lkK, q] using h
        cases h'
        exact ⟨v, valV_pos q, r1⟩
      · rename_i d1 ds1
        have h' : lkK k (kvs.map (·.1)) ds1 = some d := by simpa [lkK, q] using h
        obtain ⟨u, e1, e2⟩ := lkK_rep r2 h'
        exact ⟨u, by rw [valV_neg (p := (k', v)) q]; exact e1, e2⟩
def dDGet (ta tb : DE) : DE := fun env q x => ta env (fun r => tb env (fun r2 => ∃ ks ds k d, r.d = .dct ks ds ∧ keyD r2.d = some k ∧ lkK k ks ds = some d ∧ q (.val d)) x) x
theorem RRep.dct {K : PySem.W.Frag} {G : Gm} {H : Hp} {v : V} {r : R} {ks : List Key} {ds : List D} (h : RRep K G H v r) (e : r.d = .dct ks ds) : ∃ a kvs, v = .ref a ∧ Rd H a (.dK kvs) ∧ kvs.map (·.1) = ks ∧ RepL K G H (kvs.map (·.2)) ds := by
  cases r with
  | val d =>
    have e' : d = .dct ks ds := e
    subst e'
    cases h with
    | dct g r q l => exact ⟨_, _, rfl, r, q, l⟩
  | brw es => cases e
  | bin _ _ _ => cases e
theorem RRep.key {K : PySem.W.Frag} {G : Gm} {H : Hp} {v : V} {r : R} {k : Key} (h : RRep K G H v r) (e : keyD r.d = some k) : v = kV k := by
  cases r with
  | val d => exact key_rep (show Rep K G H v d from h) e
  | brw es => cases e
  | bin _ _ _ => cases e
theorem pd_dget {k : Nat} (B : BC X E k) (ha : PD X E a ta) (hb : PD X E b tb) (hs : NoSl b := by intro _ _; rfl) : PD X E (.Subscript a b pos) (dDGet ta tb) := by
  refine PE.wk (pe_dget (by have := B.u65; omega) (show PE X a (lift X.K E ta) from ha) (show PE X b (lift X.K E tb) from hb) hs) ?_
  rintro σ H Q ⟨G0, H0, G, env, q, x, e, h, hq, hx⟩
  refine ⟨G0, H0, G, env, _, x, e, h, ?_, hx⟩
  rintro r v G1 H1 h1 k1 g1 rr
  refine ⟨G0, H0, G1, env, _, x, e.step k1 g1, h1, ?_, hx.keep e.gok k1⟩
  rintro r2 v2 G2 H2 ⟨ks, ds, k, d, e1, e2, e3, qd⟩ k2 g2 rr2
  obtain ⟨l, kvs, rfl, rd, rfl, rl⟩ := (rr.keep k2).dct e1
  obtain ⟨u, l1, l2⟩ := lkK_rep rl e3
  exact ⟨l, u, rfl, .inl ⟨kvs, k, rd, rr2.key e2, l1.symm⟩, hq _ _ G2 H2 qd (k1.trans e.gok k2) g2 l2⟩

/-! ### a dict gone through -/
mutual
def noDl : D → Bool
  | .dcl _ _ => false
  | .tup xs => noDls xs
  | .tupN xs => noDls xs
  | .lst xs => noDls xs
  | .scr xs => noDls xs
  | .dct _ xs => noDls xs
  | .ins _ _ xs => noDls xs
  | .exo _ _ _ _ => false
  | .two _ _ _ _ => false
  | .memo _ => false
  | .wo _ _ _ _ _ _ => false
  | _ => true
def noDls : List D → Bool
  | [] => true
  | x :: xs => noDl x && noDls xs
end
section
variable {K : PySem.W.Frag} {G : Gm} {H : Hp} {d : Addr} {od : Obj} {kvs : List (Key × V)}
theorem Rd.upd_ne' {o u : HO} {a : Addr} (n : a ≠ d) (r : Rd H a o) : Rd (upd H d u) a o := by
  unfold Rd
  rw [upd_ne n]
  exact r
theorem Rd.ne' {o : HO} {a : Addr} {w : HO} (h : H d = some w) (h1 : w ≠ o) (h2 : ∀ z, w ≠ .frz z o) (r : Rd H a o) : a ≠ d := by
  rintro rfl
  rcases r with r | ⟨z, r⟩
  · rw [h] at r; exact h1 (Option.some.inj r)
  · rw [h] at r; exact h2 z (Option.some.inj r)
mutual
theorem Rep.lock (gd : G d = none) (h : H d = some (.dK kvs)) : ∀ {v : V} {x : D}, Rep K G H v x → Rep K G (upd H d (.frz od (.dK kvs))) v x
  | _, _, .non => .non
  | _, _, .bl b => .bl b
  | _, _, .int i => .int i
  | _, _, .str x => .str x
  | _, _, .tup e r l => .tup e (Rd.upd_ne' (Rd.ne' h (by simp) (by simp) r) r) (RepL.lock gd h l)
  | _, _, .lst e r l => .lst e (by rw [QD.upd_ne2 h (by simp) r]; exact r) (RepL.lock gd h l)
  | _, _, .scr r l => .scr (r.imp (fun z => ⟨z.1, z.2.imp fun o q => by rw [QD.upd_ne2 h (by simp) q]; exact q⟩) id) (RepL.lock gd h l)
  | _, _, .dct (a := a) e r q l => .dct e (by
      by_cases n : a = d
      · subst n
        rcases r with r | ⟨z, r⟩
        · rw [h] at r; cases r; exact .inr ⟨od, upd_same⟩
        · rw [h] at r; cases r
      · exact Rd.upd_ne' n r) q (RepL.lock gd h l)
  | _, _, .dcl e r => .dcl e (by rw [QD.upd_ne2 h (by simp) r]; exact r)
  | _, _, .tupN e ⟨o, r, z⟩ l => .tupN e ⟨o, by rw [QD.upd_ne2 h (by simp) r]; exact r, z⟩ (RepL.lock gd h l)
  | _, _, .ins e r q l => .ins e (by rw [QD.upd_ne2 h (by simp) r]; exact r) q (RepL.lock gd h l)
  | _, _, .knil z => .knil z
  | _, _, .pen e ⟨i, j, k, p, z⟩ => .pen e ⟨i, j, k, by rw [QD.upd_ne2 h (by simp) p]; exact p, z⟩
  | _, _, .exo0 => .exo0
  | _, _, .exo e r n l => .exo e (by rw [QD.upd_ne2 h (by simp) r]; exact r) n (RepL.lock gd h l)
  | _, _, .tab t => .tab (tabs_off (MutO.off h (.inr (.inr ⟨_, rfl⟩))) (fun b n => upd_ne n) t)
  | _, _, .two a b => .two (Rep.lock gd h a) (Rep.lock gd h b)
  | _, _, .adr => .adr
  | _, _, .wo e r l d => .wo e (by rw [QD.upd_ne2 h (by simp) r]; exact r) (RepL.lock gd h l) (Rep.lock gd h d)
  | _, _, .memo e p => .memo e (p.off (MutO.nrd h (.inr (.inr ⟨_, rfl⟩))) (fun b n => upd_ne n) fun z => by rw [z, gd] at e; cases e)
theorem RepL.lock (gd : G d = none) (h : H d = some (.dK kvs)) : ∀ {vs : List V} {xs : List D}, RepL K G H vs xs → RepL K G (upd H d (.frz od (.dK kvs))) vs xs
  | _, _, .nil => .nil
  | _, _, .cons a b => .cons (Rep.lock gd h a) (RepL.lock gd h b)
end
mutual
theorem Rep.unlock (h : H d = some (.frz od (.dK kvs))) : ∀ {v : V} {x : D}, noDl x = true → Rep K G H v x → Rep K G (upd H d (.dK kvs)) v x
  | _, _, _, .non => .non
  | _, _, _, .bl b => .bl b
  | _, _, _, .int i => .int i
  | _, _, _, .str x => .str x
  | _, _, n, .tup e r l => .tup e (Rd.upd_ne' (Rd.ne' h (by simp) (by simp) r) r) (RepL.unlock h (by simpa [noDl] using n) l)
  | _, _, n, .lst e r l => .lst e (by rw [QD.upd_ne2 h (by simp) r]; exact r) (RepL.unlock h (by simpa [noDl] using n) l)
  | _, _, n, .scr r l => .scr (r.imp (fun z => ⟨z.1, z.2.imp fun o q => by rw [QD.upd_ne2 h (by simp) q]; exact q⟩) id) (RepL.unlock h (by simpa [noDl] using n) l)
  | _, _, n, .dct (a := a) e r q l => .dct e (by
      by_cases n : a = d
      · subst n
        rcases r with r | ⟨z, r⟩
        · rw [h] at r; cases r
        · rw [h] at r; cases r; exact .inl upd_same
      · exact Rd.upd_ne' n r) q (RepL.unlock h (by simpa [noDl] using n) l)
  | _, _, n, .dcl e r => by simp [noDl] at n
  | _, _, n, .tupN e ⟨o, r, z⟩ l => .tupN e ⟨o, by rw [QD.upd_ne2 h (by simp) r]; exact r, z⟩ (RepL.unlock h (by simpa [noDl] using n) l)
  | _, _, n, .ins e r q l => .ins e (by rw [QD.upd_ne2 h (by simp) r]; exact r) q (RepL.unlock h (by simpa [noDl] using n) l)
  | _, _, _, .knil z => .knil z
  | _, _, _, .pen e ⟨i, j, k, p, z⟩ => .pen e ⟨i, j, k, by rw [QD.upd_ne2 h (by simp) p]; exact p, z⟩
  | _, _, n, .exo0 => by simp [noDl] at n
  | _, _, n, .exo e r m l => by simp [noDl] at n
  | _, _, _, .tab t => .tab (tabs_off ⟨fun ps z => (by rw [h] at z; cases z), fun φ z => (by rw [h] at z; cases z)⟩ (fun b n => upd_ne n) t)
  | _, _, n, .two _ _ => by simp [noDl] at n
  | _, _, _, .adr => .adr
  | _, _, n, .wo _ _ _ _ => by simp [noDl] at n
  | _, _, n, .memo _ _ => by simp [noDl] at n
theorem RepL.unlock (h : H d = some (.frz od (.dK kvs))) : ∀ {vs : List V} {xs : List D}, noDls xs = true → RepL K G H vs xs → RepL K G (upd H d (.dK kvs)) vs xs
  | _, _, _, .nil => .nil
  | _, _, n, .cons a b => by
    simp only [noDls, Bool.and_eq_true] at n
    exact .cons (Rep.unlock h n.1 a) (RepL.unlock h n.2 b)
end
end
theorem PE.or {e : Expr} {t t' : TE} (h : PE X e t) (h' : PE X e t') : PE X e (fun σ H Q => t σ H Q ∨ t' σ H Q) := ⟨fun pins s σ H Q I hw => by
  rcases hw with hw | hw
  · exact h.run pins s σ H Q I hw
  · exact h'.run pins s σ H Q I hw⟩
/-- e evaluated while the dict in slot i is locked -/
def dLocked (i : Nat) (te : DE) : DE := fun env q x => ∃ ks ds, env[i]? = some (.val (.dct ks ds)) ∧ ∀ od kvs, kvs.map (·.1) = ks → te (env.set i (.val (.dcl od kvs))) (fun r => ∃ d, r = .val d ∧ noDl d = true ∧ q r) noX
theorem pd_locked (i : Nat) (he : PD X E e te) : PD X E e (dLocked i te) := by
  have h0 : PE X e (lift X.K E te) := he
  refine PE.wk (PE.or h0 (pe_lock h0)) ?_
  rintro σ H Q ⟨G0, H0, G, env, q, x, e, ⟨ks, ds, hi, h⟩, hq, hx⟩
  obtain ⟨v, hv, rv⟩ := e.val i _ hi
  cases rv with
  | @dct a kvs _ _ ga rd hk rl =>
    have hset : ∀ {o : Option V}, σ[i]? = some o → σ.set i o = σ := fun {o} z => by
      apply List.ext_getElem?
      intro n
      by_cases y : i = n
      · subst y
        rw [List.getElem?_set_self (List.getElem?_eq_some_iff.mp z).1, z]
      · rw [List.getElem?_set_ne y]
    rcases rd with rd | ⟨od, rd⟩
    · refine .inr ⟨a, _, rd, True.intro, fun od => ?_⟩
      let H0' : Hp := fun b => if b = a then (match H0.hp a with | none => none | some _ => some (.frz od (.dK kvs))) else H0.hp b
      have h0n : ∀ {b}, b ≠ a → H0' b = H0.hp b := fun n => if_neg n
      have h0a : H0' a = (match H0.hp a with | none => none | some _ => some (.frz od (.dK kvs))) := if_pos rfl
      have h0d : ∀ {b}, H0' b ≠ none → H0.hp b ≠ none := fun {b} z => by
        by_cases n : b = a
        · subst n; rw [h0a] at z
          cases q : H0.hp b with
          | none => rw [q] at z; exact absurd rfl z
          | some o => simp
        · rw [h0n n] at z; exact z
      have h0nn : ∀ {b}, H0.hp b = none → H0' b = none := fun {b} z => by
        cases q : H0' b with
        | none => rfl
        | some o => exact absurd z (h0d (by rw [q]; simp))
      have gne : ∀ {b g}, G b = some g → b ≠ a := fun h z => by rw [z, ga] at h; cases h
      have g0a : ∀ {b g}, G0 b = some g → b ≠ a := fun {b g} h z => by
        obtain ⟨o, q, _⟩ := e.g0.lst b g h
        have := e.keep.gh b (by rw [q]; simp)
        rw [h] at this
        exact gne this z
      have nr0 : ∀ xs, ¬ Rd H0.hp a (.tup xs) := fun xs r => by
        have f0 : G0 a = none := by rw [← e.keep.gh a (Rd.ne r)]; exact ga
        rcases r with r | ⟨z, r⟩
        · have := e.keep.obj a _ r (by rw [f0]; simp) nofun
          rw [rd] at this; cases this
        · have := e.keep.obj a _ r (by rw [f0]; simp) nofun
          rw [rd] at this; cases this
      have nr0' : ∀ xs, ¬ Rd H0' a (.tup xs) := fun xs r => by
        unfold Rd at r
        rw [h0a] at r
        cases q : H0.hp a with
        | none => rw [q] at r; rcases r with r | ⟨z, r⟩ <;> cases r
        | some o => rw [q] at r; rcases r with r | ⟨z, r⟩ <;> cases r
      have n0 : NT H0' a := by
        cases q : H0.hp a with
        | none => exact ⟨fun ps z => (by rw [h0a, q] at z; cases z), fun φ z => (by rw [h0a, q] at z; cases z)⟩
        | some o => exact ⟨fun ps z => (by rw [h0a, q] at z; cases z), fun φ z => (by rw [h0a, q] at z; cases z)⟩
      have hTab : ∀ b ps, H0' b = some (.tbl ps) → ∃ ps', H b = some (.tbl ps') ∧ ∀ q, TabN H0' b q → TabN H b q := fun b ps hb => by
        have n : b ≠ a := fun z => n0.1 ps (by rw [← z]; exact hb)
        rw [h0n n] at hb
        obtain ⟨ps', q1, q2⟩ := e.keep.tab b ps hb
        exact ⟨ps', q1, fun q t => q2 q (tabs_off n0 (fun c nc => (h0n nc).symm) t)⟩
      have e1 : EnvOk X.K G0 ⟨H0', []⟩ G (upd H a (.frz od (.dK kvs))) σ env := by
        refine ⟨⟨fun b g gb => ?_, fun b gb => ?_, fun b K J gb => ?_⟩, ⟨fun b o hb nb nt => ?_, fun b gb pb => ?_, fun b K J gb pb => ?_, fun b hb => e.keep.gh b (h0d hb), fun b ps hb => ?_⟩, ⟨fun b g gb => ?_, fun b gb => ?_, fun b K J gb => ?_⟩, e.len, fun p hp => (nomatch hp), fun j dj hj => ?_, fun j dj hj => ?_, e.sep, e.dic.off (fun b kvs q g => ⟨g, by rw [upd_ne (gne g)]; exact q⟩) (fun b q _ => h0nn q) (fun _ _ => RepL.lock ga rd) fun b C dx fs q g => ⟨g, by rw [upd_ne (gne g)]; exact q⟩⟩
        · obtain ⟨o, q1, q2⟩ := e.g0.lst b g gb
          exact ⟨o, by show H0' b = _; rw [h0n (g0a gb)]; exact q1, q2⟩
        · obtain ⟨i1, j1, k1, q1, q2⟩ := e.g0.pen b gb
          exact ⟨i1, j1, k1, by show H0' b = _; rw [h0n (g0a gb)]; exact q1, q2⟩
        · exact (e.g0.memo b K J gb).off (p := a) nr0 (fun c n => h0n n) (g0a gb)
        · have hb' : H0' b = some o := hb
          by_cases n : b = a
          · subst n
            rw [h0a] at hb'
            cases q : H0.hp b with
            | none => rw [q] at hb'; cases hb'
            | some u => rw [q] at hb'; rw [upd_same]; exact hb'
          · rw [h0n n] at hb'; rw [upd_ne n]; exact e.keep.obj b o hb' nb nt
        · have n := g0a gb
          obtain ⟨i1, j1, k1, q1, q2⟩ := pb
          have q1' : H0' b = _ := q1
          rw [h0n n] at q1'
          obtain ⟨i2, j2, k2, q3, q4⟩ := e.keep.pen b gb ⟨i1, j1, k1, q1', q2⟩
          exact ⟨i2, j2, k2, by rw [upd_ne n]; exact q3, q4⟩
        · have n := g0a gb
          have m0 : MemoAt K J H0.hp b := MemoAt.off (show MemoAt K J H0' b from pb) (p := a) nr0' (fun c n => (h0n n).symm) n
          exact (e.keep.memo b K J gb m0).off (MutO.nrd rd (.inr (.inr ⟨_, rfl⟩))) (fun c n => upd_ne n) n
        · exact tab_off (fun b ps hb => hTab b ps hb) (MutO.off rd (.inr (.inr ⟨_, rfl⟩))) (fun b n => upd_ne n) b ps hb
        · obtain ⟨o, q1, q2⟩ := e.gok.lst b g gb
          exact ⟨o, by rw [upd_ne (gne gb)]; exact q1, q2⟩
        · obtain ⟨i1, j1, k1, q1, q2⟩ := e.gok.pen b gb
          exact ⟨i1, j1, k1, by rw [upd_ne (gne gb)]; exact q1, q2⟩
        · exact (e.gok.memo b K J gb).off (MutO.nrd rd (.inr (.inr ⟨_, rfl⟩))) (fun c n => upd_ne n) (gne gb)
        · obtain ⟨w, e1, e2⟩ := e.val j dj hj
          exact ⟨w, e1, Rep.lock ga rd e2⟩
        · obtain ⟨b, vs, q1, q2, q3, q4, q5⟩ := e.own j dj hj
          exact ⟨b, vs, q1, q2, h0nn q3, by rw [upd_ne (gne q2)]; exact q4, RepL.lock ga rd q5⟩
      have rl' : Rep X.K G (upd H a (.frz od (.dK kvs))) (.ref a) (.dcl od kvs) := .dcl ga upd_same
      have e2 := e1.setVal i rl'
      rw [hset hv] at e2
      refine ⟨G0, _, G, _, _, noX, e2, h od kvs hk, ?_, XOk.noX⟩
      rintro r v G1 H1 ⟨d, rfl, nd, qd⟩ k1 g1 rr
      have h1a : H1 a = some (.frz od (.dK kvs)) := k1.obj a _ upd_same (by rw [ga]; simp) nofun
      have g1a : G1 a = none := by rw [k1.gh a (by rw [upd_same]; simp)]; exact ga
      have nr1 : ∀ xs, ¬ Rd H1 a (.tup xs) := fun xs r => by
        rcases r with r | ⟨z, r⟩ <;> rw [h1a] at r <;> cases r
      have gne1 : ∀ {b g}, G1 b = some g → b ≠ a := fun h z => by rw [z, g1a] at h; cases h
      refine ⟨h1a, hq _ v G1 _ qd ⟨fun b o hb nb nt => ?_, fun b gb pb => ?_, fun b K J gb pb => ?_, fun b hb => ?_, fun b ps hb => ?_⟩ ⟨fun b g gb => ?_, fun b gb => ?_, fun b K J gb => ?_⟩ (show Rep X.K G1 _ v d from Rep.unlock h1a nd rr)⟩
      · by_cases n : b = a
        · subst n; rw [upd_same, ← rd]; exact hb
        · rw [upd_ne n]; exact k1.obj b o (by rw [upd_ne n]; exact hb) nb nt
      · have n := gne gb
        obtain ⟨i1, j1, k2, q1, q2⟩ := pb
        obtain ⟨i2, j2, k3, q3, q4⟩ := k1.pen b gb ⟨i1, j1, k2, by rw [upd_ne n]; exact q1, q2⟩
        exact ⟨i2, j2, k3, by rw [upd_ne n]; exact q3, q4⟩
      · have n := gne gb
        have m1 := pb.off (H' := upd H a (.frz od (.dK kvs))) (MutO.nrd rd (.inr (.inr ⟨_, rfl⟩))) (fun c n => upd_ne n) n
        exact (k1.memo b K J gb m1).off nr1 (fun c n => upd_ne n) n
      · refine k1.gh b ?_
        by_cases n : b = a
        · subst n; rw [upd_same]; simp
        · rw [upd_ne n]; exact hb
      · have nn : NT H a := MutO.off rd (.inr (.inr ⟨_, rfl⟩))
        have n : b ≠ a := fun z => nn.1 ps (by rw [← z]; exact hb)
        refine tab_off (fun b ps hb => ?_) ⟨fun ps z => (by rw [h1a] at z; cases z), fun φ z => (by rw [h1a] at z; cases z)⟩ (fun c nc => upd_ne nc) b ps hb
        have n : b ≠ a := fun z => nn.1 ps (by rw [← z]; exact hb)
        obtain ⟨ps', q1, q2⟩ := k1.tab b ps (by rw [upd_ne n]; exact hb)
        exact ⟨ps', q1, fun q t => q2 q (tabs_off nn (fun c nc => upd_ne nc) t)⟩
      · obtain ⟨o, q1, q2⟩ := g1.lst b g gb
        exact ⟨o, by rw [upd_ne (gne1 gb)]; exact q1, q2⟩
      · obtain ⟨i1, j1, k2, q1, q2⟩ := g1.pen b gb
        exact ⟨i1, j1, k2, by rw [upd_ne (gne1 gb)]; exact q1, q2⟩
      · exact (g1.memo b K J gb).off nr1 (fun c n => upd_ne n) (gne1 gb)
    · refine .inl ?_
      have e2 := e.setVal i (show Rep X.K G H (.ref a) (.dcl od kvs) from .dcl ga rd)
      rw [hset hv] at e2
      refine ⟨G0, H0, G, _, _, noX, e2, h od kvs hk, ?_, XOk.noX⟩
      rintro r v G1 H1 ⟨d, rfl, nd, qd⟩ k1 g1 rr
      exact hq _ v G1 H1 qd k1 g1 rr
/-- the keys of a locked dict -/
def iKeysD (te : DE) : DI := fun env q x => te env (fun r => ∃ od kvs, r = .val (.dcl od kvs) ∧ q (kvs.map fun p => dKey p.1) true) x
theorem pdi_keys (he : PD X E e te) : PDI X E tg e (iKeysD te) := by
  refine PI.wk (pi_keys (show PE X e (lift X.K E te) from he)) ?_
  rintro σ H Q ⟨G0, H0, G, env, q, x, e, h, hq, hx⟩
  refine ⟨G0, H0, G, env, _, x, e, h, ?_, hx⟩
  rintro r v G' H' ⟨od, kvs, rfl, qd⟩ k g rr
  cases (show Rep X.K G' H' v (.dcl od kvs) from rr) with
  | @dcl a _ _ ga rd =>
    refine ⟨a, od, rfl, .inl ⟨kvs, rd, hq _ (.ref a) (.val (.dcl od kvs)) G' H' _ qd k g rr ?_⟩⟩
    intro G2 H2 g2 rr2 i
    cases (show Rep X.K G2 H2 (.ref a) (.dcl od kvs) from rr2) with
    | dcl ga2 rd2 =>
      rw [List.length_map]
      refine ⟨fun hi => ⟨⟨rd2, hi⟩, fun y H3 hy => ?_⟩, fun hi => ⟨rd2, hi⟩⟩
      obtain ⟨rfl, ky, vy, e1, rfl⟩ := hy
      exact ⟨dKey ky, by rw [List.getElem?_map, e1]; rfl, G2, Keep.refl G2 H3, g2, rep_key ky⟩
end
end QD
/-! the pen of a law: a list of three ints that is drawn from -/
namespace QD
open PySem PySem.Spec PyProof.Rows L2
def penOk : Nat → Int → Prop
  | 0, i => 0 ≤ i
  | 1, i => i = 0 ∨ i = 1
  | 2, i => 0 ≤ i ∧ i < 2147483647
  | _, _ => False
section
variable {X : Cx} {E : XK} {a b o : Expr} {te ta tb : DE} {pos p pos' pos2 : Pos} {n : Nat}
theorem RRep.pen {K : PySem.W.Frag} {G : Gm} {H : Hp} {v : V} {r : R} (h : RRep K G H v r) (e : r.d = .pen) : ∃ a, v = .ref a ∧ G a = some .pen ∧ PenAt H a := by
  cases r with
  | val d =>
    have e' : d = .pen := e
    subst e'
    cases h with
    | pen g p => exact ⟨_, rfl, g, p⟩
  | brw es => cases e
  | bin _ _ _ => cases e
def dPenGet (k : Nat) (te : DE) : DE := fun env q x => te env (fun r => r.d = .pen ∧ k < 3 ∧ ∀ i, penOk k i → q (.val (.int i))) x
theorem pd_penGet {k : Nat} (ha : PD X E o te) (hs : PlainIx (.Constant (.int k) n p) := by exact fun _ _ => rfl) : PD X E (.Subscript o (.Constant (.int k) n p) pos) (dPenGet k te) := by
  refine PE.wk (pe_ix ix_list (show PE X o (lift X.K E te) from ha) pe_int hs) ?_
  rintro σ H Q ⟨G0, H0, G, env, q, x, e, h, hq, hx⟩
  refine ⟨G0, H0, G, env, _, x, e, h, ?_, hx⟩
  rintro r v G' H' ⟨e1, hk, qd⟩ kk g rr
  obtain ⟨a, rfl, ga, i0, i1, i2, hl, h0, h1, h2, h3⟩ := rr.pen e1
  match k, hk with
  | 0, _ => exact ⟨a, [.int i0, .int i1, .int i2], 0, .int i0, rfl, rfl, .inl (.inl hl), rfl, hq _ _ G' H' (qd i0 h0) kk g (Rep.int _)⟩
  | 1, _ => exact ⟨a, [.int i0, .int i1, .int i2], 1, .int i1, rfl, rfl, .inl (.inl hl), rfl, hq _ _ G' H' (qd i1 h1) kk g (Rep.int _)⟩
  | 2, _ => exact ⟨a, [.int i0, .int i1, .int i2], 2, .int i2, rfl, rfl, .inl (.inl hl), rfl, hq _ _ G' H' (qd i2 ⟨h2, h3⟩) kk g (Rep.int _)⟩
/-- pen[k] = e, the pen in slot i -/
def dPenSet (i k : Nat) (te : DE) : DS := fun J env => te env (fun r => ∃ v, r.d = .int v ∧ env[i]? = some (.val .pen) ∧ penOk k v ∧ J.nx env) J.ex
theorem pd_penSet (i : Nat) {k : Nat} {y : Str} {value : Expr} (hv : PD X E value te) (hi : X.N[i]? = some y := by rfl) (hx : Vis X.env.scope y := by first | exact Or.inl rfl | exact Or.inr (Or.inl rfl)) (hd : (y == ("__debug__" : Str)) = false := by decide) (hcd : (y == ("__classdict__" : Str)) = false := by decide)
    (ha : ∀ v, assign (.Subscript (.Name y p) (.Constant (.int k) n pos2) pos') X.env v = (do
      let ov ← holding [v] (eval (.Name y p) X.env)
      let iv ← holding [v, ov] (eval (.Constant (.int k) n pos2) X.env)
      standAt pos'
      holding [v, ov, iv] (setItem ov iv v)
      release [v, ov, iv] []) := by intro _; rfl) (hs : swapsWithSole [.Subscript (.Name y p) (.Constant (.int k) n pos2) pos'] value pos.line X.env = pure false := by rfl) (hw : swappedStores [.Subscript (.Name y p) (.Constant (.int k) n pos2) pos'] value X.env = pure none := by rfl)
    (h1 : (assignEach [.Subscript (.Name y p) (.Constant (.int k) n pos2) pos'] X.env).map (·.2) = [assign (.Subscript (.Name y p) (.Constant (.int k) n pos2) pos') X.env] := by rfl) :
    PDS X E (.Assign [.Subscript (.Name y p) (.Constant (.int k) n pos2) pos'] value pos) (dPenSet i k te) := by
  refine PS.wk (ps_asg (show PE X value (lift X.K E te) from hv) (pg_sub (pe_var hi hx hd hcd) pe_int set_list ha) hs hw h1) ?_
  rintro Z σ H ⟨G0, H0, G, env, J, e, h, hn, hr, hb, hct, hxx⟩
  refine ⟨G0, H0, G, env, _, _, e, h, ?_, hxx.now e⟩
  rintro r v G1 H1 ⟨j, ej, ep, ok, qn⟩ k1 g1 rr
  have e1 := e.step k1 g1
  obtain ⟨w, hsw, rw'⟩ := e1.val i _ ep
  obtain ⟨a, ew, ga, i0, i1, i2, hl, h0, h1', h2, h3⟩ := (show RRep X.K G1 H1 w (.val .pen) from rw').pen rfl
  subst ew
  have ev := rr.int ej
  subst ev
  have fin : ∀ {b0 b1 b2 : Int}, PenI b0 b1 b2 → Z.nx σ (upd H1 a (.lst [.int b0, .int b1, .int b2])) := fun {b0 b1 b2} pi => by
    have hp : PenAt (upd H1 a (.lst [.int b0, .int b1, .int b2])) a := ⟨b0, b1, b2, upd_same, pi⟩
    have kk : Keep G1 G1 H1 (upd H1 a (.lst [.int b0, .int b1, .int b2])) := ⟨fun b ob hb nb _ => by rw [upd_ne fun z => nb.pen (by rw [z]; exact ga)]; exact hb, fun b gb pb => by
      by_cases z : b = a
      · rw [z]; exact hp
      · obtain ⟨c0, c1, c2, q1, q2⟩ := pb
        exact ⟨c0, c1, c2, by rw [upd_ne z]; exact q1, q2⟩, fun b K J gb m => m.off (MutO.nrd hl (.inl ⟨_, rfl⟩)) (fun c n => upd_ne n) fun z => (by rw [z, ga] at gb; cases gb), fun _ _ => rfl, tab_off (fun b ps h => ⟨ps, h, fun q t => t⟩) (MutO.off hl (.inl ⟨_, rfl⟩)) fun c nc => upd_ne nc⟩
    have gg : GOk G1 (upd H1 a (.lst [.int b0, .int b1, .int b2])) := ⟨fun b x gb => by
      by_cases z : b = a
      · rw [z]; exact ⟨_, upd_same, .inl ⟨_, rfl⟩⟩
      · obtain ⟨o, q1, q2⟩ := g1.lst b x gb
        exact ⟨o, by rw [upd_ne z]; exact q1, q2⟩, fun b gb => kk.pen b gb (g1.pen b gb), fun b K J gb => kk.memo b K J gb (g1.memo b K J gb)⟩
    exact hn env G1 σ _ qn (e1.step kk gg)
  match k, ok with
  | 0, ok => exact ⟨_, hsw, ⟨a, [.int i0, .int i1, .int i2], 0, 0, rfl, rfl, hl, rfl, fin ⟨ok, h1', h2, h3⟩⟩⟩
  | 1, ok => exact ⟨_, hsw, ⟨a, [.int i0, .int i1, .int i2], 1, 1, rfl, rfl, hl, rfl, fin ⟨h0, ok, h2, h3⟩⟩⟩
  | 2, ok => exact ⟨_, hsw, ⟨a, [.int i0, .int i1, .int i2], 2, 2, rfl, rfl, hl, rfl, fin ⟨h0, h1', ok.1, ok.2⟩⟩⟩
/-- return [i, j, k]: a pen -/
def dRetPen (t : DFr) : DS := fun J env => t env (fun ds => ∃ i j k, ds = [.int i, .int j, .int k] ∧ PenI i j k ∧ J.rt .pen) J.ex
theorem pd_retPen {t : DFr} {v : Expr} (h : PFL X E v t) : PDS X E (.Return (some v) pos) (dRetPen t) := by
  refine PS.wk (ps_ret (show PE X v (liftF X.K E t) from h)) ?_
  rintro Z σ H ⟨G0, H0, G, env, J, e, h, hn, hr, hb, hct, hxx⟩
  refine ⟨G0, H0, G, env, _, _, e, h, ?_, hxx.now e⟩
  rintro ds v G1 H1 ⟨i, j, k, rfl, pi, qr⟩ k1 g1 ⟨a, vs, rfl, hn', gh, hl, rl⟩
  cases rl with
  | cons r1 rl => cases rl with
    | cons r2 rl => cases rl with
      | cons r3 rl =>
        cases rl
        cases r1; cases r2; cases r3
        let G2 : Gm := fun b => if b = a then some .pen else G1 b
        have gs : G2 a = some .pen := if_pos rfl
        have gn : ∀ {b}, b ≠ a → G2 b = G1 b := fun n => if_neg n
        have hp : PenAt H1 a := ⟨i, j, k, hl, pi⟩
        have k2 : Keep G G2 H H1 := ⟨k1.obj, k1.pen, k1.memo, fun b hb => by rw [gn fun z => hb (by rw [z]; exact hn')]; exact k1.gh b hb, k1.tab⟩
        have g2 : GOk G2 H1 := ⟨fun b x gb => by
          by_cases z : b = a
          · rw [z]; exact ⟨_, hl, .inl ⟨_, rfl⟩⟩
          · rw [gn z] at gb; exact g1.lst b x gb, fun b gb => by
          by_cases z : b = a
          · rw [z]; exact hp
          · rw [gn z] at gb; exact g1.pen b gb, fun b K J gb => by
          by_cases z : b = a
          · rw [z, gs] at gb; cases gb
          · rw [gn z] at gb; exact g1.memo b K J gb⟩
        exact hr .pen (.ref a) G2 H1 qr (e.keep.trans e.g0 k2) g2 (.pen gs hp)
end
end QD
/-! tuple[::-1], join, displays of dicts -/
namespace QD
open PySem PySem.Spec PyProof.Rows L2
section
variable {prog : Program} {w : World} {A : Around} {E : Value → Shared → Prop} {s : Shared}
end
section
variable {X : Cx} {E : XK} {e a b o : Expr} {te ta tb : DE} {pos : Pos}
def dRev (te : DE) : DE := fun env q x => te env (fun r => ∃ ds, r.d = .tup ds ∧ q (.val (.tup ds.reverse))) x
/-- text.join(a list or tuple of texts) -/
def strsOf : List D → Option (List Str)
  | [] => some []
  | .str x :: r => (strsOf r).map (x :: ·)
  | _ => none
def dJoin (sep : Str) (te : DE) : DE := fun env q x => te env (fun r => ∃ ds ys, seqOf r.d = some ds ∧ strsOf ds = some ys ∧ (ys.map (·.length)).sum + ys.length * sep.length ≤ 16777216 ∧ q (.val (.str (Txt.join sep ys)))) x
/-- {} and {k: v} -/
def dDict0 : DE := fun _ q _ => q (.val (.dct [] []))
def dDict1 (a b : Int) : DE := fun _ q _ => q (.val (.dct [.inl a] [.int b]))
end
end QD
/-! the end: a law's def, promised where no repr is under way, is called with its script -/
namespace QD
open PyProof
open PySem PySem.Spec PyProof.Rows L2
section
variable {P : Program} {w : World} {K : PySem.W.Frag} {mg mb : Str → Option Value} {a : Addr} {s : Shared} {H : Hp} {vs : List Value}
/-- the script's list alone is tracked, if anything -/
structure ScrOnly (K : PySem.W.Frag) (H : Hp) (a : Addr) : Prop where
  frz : ∀ b, H b = none ∨ ∃ o xs, H b = some (.frz o (.lst xs))
  one : ∀ b, H b ≠ none → b = a
  out : H a ≠ none → K.lookup a = none
theorem ScrOnly.free {b : Addr} {o : Obj} {es : Array DictEntry} {n : Nat} (S : ScrOnly K H a) (obj : s.heap.get? a = some { cls := .type "list", data := .seq vs.toArray }) (e : s.heap.get? b = some o) (d : o.data = .dict es n) : H b = none := by
  cases q : H b with
  | none => rfl
  | some u =>
    have eb := S.one b (by rw [q]; simp)
    rw [eb, obj] at e
    cases e
    cases (show Data.seq vs.toArray _ = Data.dict es n from d)
theorem ScrOnly.ns {b : Addr} {m : Str → Option Value} (S : ScrOnly K H a) (obj : s.heap.get? a = some { cls := .type "list", data := .seq vs.toArray }) (x : s.heap.Ns b m) : (hidT s.heap H).Ns b m := by
  obtain ⟨o, es, n, e, d, r⟩ := x
  exact ⟨o, es, n, hidT_get e (S.free obj e d), d, r⟩
theorem ScrOnly.kin (S : ScrOnly K H a) (k : K.In s.heap) : K.In (hidT s.heap H) := fun b o e => hidT_get (k b o e) (by
  cases q : H b with
  | none => rfl
  | some u =>
    have nz : H b ≠ none := by rw [q]; simp
    have eb := S.one b nz
    rw [eb] at nz e
    rw [S.out nz] at e
    cases e)
theorem script_call {k : Nat} {fa : Addr} {fd : FuncData} {x : Str} {sp : Sp} {ns : List Int} (kin : K.In s.heap) (hm : s.heap.Ns mainGlobals mg) (hb : s.heap.Ns builtinsNs mb) (hbb : ∀ y : Str, y ≠ "__name__" → mb y = bootBuiltins y) (nl : s.heap.NoLimit) (ng : s.gens = #[])
    (obj : s.heap.get? a = some { cls := .type "list", data := .seq vs.toArray }) (isI : IntsAre vs ns) (len : ns.length ≤ sizeLine) (hr : Room k callerA)
    (F : ∀ base : Heap, K.In base → base.Ns mainGlobals mg → FnG P w K mg base k fa fd [x] sp) (bd : ∀ (s : Shared) (u : Value), BindsTo s fd ⟨[u], []⟩ [(x, u)])
    (pr : ∀ H : Hp, Only H → SqL K H a (ns.map V.int) → sp [.ref a] H (fun v _ => v = .bl true) XF) :
    codeAny (model P w) callerA (.call (.ref fa) ⟨[.ref a], []⟩) (fun r s' => r = .ok (.ret (.bool true)) ∧ OldK s.heap s'.heap ∧ s'.os = s.os ∧ AllBare s'.gens) s := by
  have rv := vals_ints isI
  have go : ∀ H : Hp, ScrOnly K H a → SqL K H a (ns.map V.int) → HOk P w H s.heap →
      codeAny (model P w) callerA (.call (.ref fa) ⟨[.ref a], []⟩) (fun r s' => r = .ok (.ret (.bool true)) ∧ OldK s.heap s'.heap ∧ s'.os = s.os ∧ AllBare s'.gens) s := by
    intro H S sq ok
    have kb := S.kin kin
    have mn := S.ns obj hm
    have md : Mod K mg (hidT s.heap H) := ⟨kb, mn, ⟨mb, S.ns obj hb, hbb⟩, by
      obtain ⟨mc, q1, q2⟩ := nl
      exact ⟨mc, S.ns obj q1, q2⟩⟩
    have en : Env0 P w K mg (hidT s.heap H) callerA [] s H := ⟨rfl, md, fun b o e => of_hidT e, Nat.le_of_eq (hidT_size _ _), trivial, (fun b hb => absurd (show b ∈ ([] : List Addr) from hb) List.not_mem_nil), ok, .of_eq ng⟩
    have run := (F _ kb mn).run callerA [] s H ⟨[.ref a], []⟩ [.ref a] [.ref a] (fun v _ => v = .bl true) XF rfl hr en (bd s (.ref a)) (.cons rfl .nil) (pr H S.frz sq)
    refine codeAny_mono run fun res s' q => ?_
    match res, q with
    | .error ex, ⟨_, _, _, _, _, _, _, _, _, _, _, _, z⟩ => exact z.elim
    | .ok (.ret u), ⟨v, H', os, bare, un, ok', rl, ev⟩ =>
      have ev' : v = .bl true := ev
      subst ev'
      obtain rfl : u = Value.bool true := rl
      refine ⟨rfl, OldK.of_keep fun b o e => ?_, os, bare⟩
      rcases S.frz b with z | ⟨ob, xs, z⟩
      · exact un.keep b o e z (fun m => by cases m) (by simp)
      · obtain ⟨q1, _⟩ := ok b _ z
        obtain ⟨q2, _⟩ := ok' b _ (un.frzs b ob _ z)
        rw [e] at q1
        cases q1
        exact q2
    | .ok .next, z => exact z.elim
    | .ok .brk, z => exact z.elim
    | .ok .cont, z => exact z.elim
  cases known : K.lookup a with
  | some o =>
    have eo := kin a o known
    rw [obj] at eo
    cases eo
    exact go (fun _ => none) ⟨fun _ => .inl rfl, fun b z => absurd rfl z, fun z => absurd rfl z⟩ (.inr ⟨_, vs.toArray, _, known, rfl, rfl, rfl, by rw [List.size_toArray, isI.length]; exact len, by simpa using rv⟩) fun b u z => by cases (show (none : Option HO) = some u from z)
  | none =>
    let Hs : Hp := fun b => if b = a then some (.frz { cls := .type "list", data := .seq vs.toArray } (.lst (ns.map V.int))) else none
    have at_ : Hs a = some (.frz { cls := .type "list", data := .seq vs.toArray } (.lst (ns.map V.int))) := if_pos rfl
    have off : ∀ {b}, b ≠ a → Hs b = none := fun n => if_neg n
    refine go Hs ⟨fun b => ?_, fun b z => ?_, fun _ => known⟩ (.inl (.inr ⟨_, at_⟩)) fun b u z => ?_
    · by_cases q : b = a
      · rw [q]; exact .inr ⟨_, _, at_⟩
      · exact .inl (off q)
    · by_cases q : b = a
      · exact q
      · exact absurd (off q) z
    · by_cases q : b = a
      · subst q
        rw [at_] at z
        cases z
        exact ⟨obj, by rw [List.length_map]; exact len, vs, _, rv, obj⟩
      · rw [off q] at z
        cases z
end
/-- the row's goal, from the law's promise -/
theorem row_of {l : PySem.W.OpenLaw} {n k : Nat} {q : Program} {loose : List Str} {XP : (Str → Option Value) → Heap → Prop} {YP : World → Heap → Prop} {d : DefRec} {K : Params → PySem.W.Frag} {sp : World → Sp} {x : Str}
    (hn : l.most = some n) (hz : n ≤ sizeLine) (hdf : d.params.defaults = []) (hr : Room k callerA) (hY : ∀ (w : World) (h : Heap), YP w h → (K w.params).In h)
    (F : ∀ (w : World) (mg : Str → Option Value) (fa : Addr) (h : Heap), (K w.params).In h → h.Ns mainGlobals mg → mg d.name = some (.ref fa) →
      ∃ fd : FuncData, (∀ (s : Shared) (u : Value), BindsTo s fd ⟨[u], []⟩ [(x, u)]) ∧ ∀ base : Heap, (K w.params).In base → base.Ns mainGlobals mg → FnG l.prog w (K w.params) mg base k fa fd [x] (sp w))
    (pr : ∀ (w : World) (H : Hp) (a : Addr) (ns : List Int), ns.length ≤ n → (∀ z ∈ ns, Builtin.Int.intBits z ≤ 1048576) → Only H → SqL (K w.params) H a (ns.map V.int) → sp w [.ref a] H (fun v _ => v = .bl true) XF) :
    PySem.W.WalkO q loose XP YP l.row.toRowW d [] (fun f vs => PySem.call f vs) := by
  refine Att.attach_callB hn hdf fun w s₀ s mg mb fa o pm cd doc a vs ns G Y _ _ _ hmg obj isI len bits ng => ?_
  have kin := hY w _ Y
  obtain ⟨fd, bd, FF⟩ := F w mg fa _ kin G.T.g hmg
  exact script_call kin G.T.g G.T.b G.T.builtins G.T.nolimit ng obj isI (Nat.le_trans len hz) hr FF bd fun H hO hS => pr w H a ns len bits hO hS
theorem BC.pd {X : Cx} {E : XK} {k : Nat} (B : BC X E k) {s : Shared} {H : Hp} {scope : Scope} {ce : PySem.Env} {fp : List Addr} {e : Expr} {t : DE} (h : BC (X.blk s H scope ce fp) E0 k → PD (X.blk s H scope ce fp) E0 e t) : PD (X.blk s H scope ce fp) E0 e t := h (B.blk s H scope ce fp)
theorem BC.ptd {X : Cx} {E : XK} {k : Nat} (B : BC X E k) {s : Shared} {H : Hp} {scope : Scope} {ce : PySem.Env} {fp : List Addr} {es : List Expr} {t : DT} (h : BC (X.blk s H scope ce fp) E0 k → PTsD (X.blk s H scope ce fp) es t) : PTsD (X.blk s H scope ce fp) es t := h (B.blk s H scope ce fp)
/-- the law's promise over data: the script as a read-only list -/
theorem law_data {K : PySem.W.Frag} {F : DF} {H : Hp} {a : Addr} {ns : List Int} (hO : Only H) (hS : SqL K H a (ns.map V.int)) (h : F [.scr (ns.map D.int)] (fun d => d = .bl true) noX) : spOf K F [.ref a] H (fun v _ => v = .bl true) XF := by
  have rl : ∀ l : List Int, RepL K (fun _ => none) H (l.map V.int) (l.map D.int) := fun l => by
    induction l with
    | nil => exact .nil
    | cons z l ih => exact .cons (.int z) ih
  refine ⟨fun _ => none, [.scr (ns.map D.int)], _, noX, ⟨fun b g e => (nomatch e), fun b e => (nomatch e), fun b K J e => (nomatch e)⟩, .cons ?_ .nil, h, ?_, XOk.noX⟩
  · rcases hS with (hS | ⟨o, hS⟩) | ⟨o, its, n, k1, k2, k3, k4, k5, k6⟩
    · rcases hO a with z | ⟨o, xs, z⟩ <;> (rw [hS] at z; cases z)
    · exact .scr (.inl ⟨rfl, o, hS⟩) (rl ns)
    · exact .scr (.inr ⟨o, its, n, k1, k2, k3, k4, k5, k6⟩) (rl ns)
  · rintro d v G' H' rfl k g r
    cases r
    rfl
/-- the row's goal, from the law's promise over data -/
theorem row_ofF {l : PySem.W.OpenLaw} {n k : Nat} {q : Program} {loose : List Str} {XP : (Str → Option Value) → Heap → Prop} {YP : World → Heap → Prop} {d : DefRec} {K : Params → PySem.W.Frag} {x : Str} (Fl : DF)
    (hn : l.most = some n) (hz : n ≤ sizeLine) (hdf : d.params.defaults = []) (hr : Room k callerA) (hY : ∀ (w : World) (h : Heap), YP w h → (K w.params).In h)
    (pr : ∀ ns : List Int, ns.length ≤ n → (∀ z ∈ ns, Builtin.Int.intBits z ≤ 1048576) → Fl [.scr (ns.map D.int)] (fun d => d = .bl true) noX)
    (F : ∀ (w : World) (mg : Str → Option Value) (fa : Addr) (h : Heap), (K w.params).In h → h.Ns mainGlobals mg → mg d.name = some (.ref fa) →
      ∃ fd : FuncData, (∀ (s : Shared) (u : Value), BindsTo s fd ⟨[u], []⟩ [(x, u)]) ∧ ∀ base : Heap, (K w.params).In base → base.Ns mainGlobals mg → FnG l.prog w (K w.params) mg base k fa fd [x] (spOf (K w.params) Fl)) :
    PySem.W.WalkO q loose XP YP l.row.toRowW d [] (fun f vs => PySem.call f vs) :=
  row_of (sp := fun w => spOf (K w.params) Fl) hn hz hdf hr hY F fun _ H a ns hl hb hO hS => law_data hO hS (pr ns hl hb)
end QD
/-! x in o, x not in o for an own class; bit_length -/
namespace QD
open PySem PySem.Spec PyProof.Rows L2
section
variable {X : Cx} {E : XK} {k j : Nat} {C : Addr} {a b o : Expr} {ta tb te : DE} {pos apos : Pos}
theorem ok_inC {F : DF} {neg : Bool} (M : MetG X.prog X.w X.K X.mg X.base k C "__contains__" (spOf X.K F)) (B : BC X E j) (hk : k ≤ j) :
    OpR X (compareOp (if neg then .NotIn else .In)) (fun x y H Q => ∃ l dx fs, y = .ref l ∧ H l = some (.ins C dx fs) ∧ spOf X.K F [.ref l, x] H (fun v H' => ∃ c, v = .bl c ∧ Q (.bl (if neg then !c else c)) H') XF) := by
  intro pins s σ H x y v u Q I rx ry ⟨l, dx, fs, e, hl, h⟩
  subst e
  cases ry
  obtain ⟨g, fd, ps, FG, hm, hb⟩ := M.ex
  obtain ⟨mA, O, _, _, _, _⟩ := ins_get I.hok hl
  obtain ⟨od, J, _⟩ := O.look
  obtain ⟨m, hF⟩ := I.fr
  have rv : Vals [V.ref l, x] [Value.ref l, v] := .cons rfl (.cons rx .nil)
  have run := run_at (A1 := X.A) FG B.gd (B.room.mono hk) I.env0 passF hb I rv h
  have fin : ∀ (r : Value) (s' : Shared), EP X pins σ (fun v H' => ∃ c, v = .bl c ∧ Q (.bl (if neg then !c else c)) H') r s' → wpAny (model X.prog X.w) X.A (truthy r) (fun b => EP X pins σ Q (.bool (if neg then !b else b))) X.xe s' := by
    rintro r s' ⟨v', H', I', r', c, e, q⟩
    subst e
    obtain rfl : r = Value.bool c := r'
    exact wpAny_pure ⟨.bl (if neg then !c else c), H', I', rfl, q⟩
  cases neg with
  | false => exact PySem.W.in_K hF I.ok.mod.kin J hm.at_ hm.fn (thn run fin)
  | true => exact PySem.W.notIn_K hF I.ok.mod.kin J hm.at_ hm.fn (thn run fin)
def dInC (F : DF) (neg : Bool) (ta tb : DE) : DE := fun env q x => ta env (fun r1 => tb env (fun r2 => r1.isVal = true ∧ r2.isVal = true ∧ F [r2.d, r1.d] (fun d => ∃ c, d = .bl c ∧ q (.val (.bl (if neg then !c else c)))) noX) x) x
theorem RRep.isVal {K : PySem.W.Frag} {G : Gm} {H : Hp} {v : V} {r : R} (h : RRep K G H v r) (e : r.isVal = true) : Rep K G H v r.d := by
  cases r with
  | val d => exact h
  | brw ds => cases e
  | bin _ _ _ => cases e
def rInC (K : PySem.W.Frag) (C : Addr) (F : DF) (neg : Bool) : R2 := fun x y H Q => ∃ l dx fs, y = .ref l ∧ H l = some (.ins C dx fs) ∧ spOf K F [.ref l, x] H (fun v H' => ∃ c, v = .bl c ∧ Q (.bl (if neg then !c else c)) H') XF
theorem lift_inC {F : DF} {neg : Bool} {σ : L2.St} {H : Hp} {Q : VK} (hC : ∀ ds q x, F ds q x → ∃ ns vs d, ds = [.ins C ns vs, d]) (h : lift X.K E (dInC F neg ta tb) σ H Q) : tOp (rInC X.K C F neg) (lift X.K E ta) (lift X.K E tb) σ H Q := by
  obtain ⟨G0, H0, G, env, q, x, e, h, hq, hx⟩ := h
  refine ⟨G0, H0, G, env, _, x, e, h, ?_, hx⟩
  rintro r1 v1 G1 H1 h1 k1 g1 rr1
  refine ⟨G0, H0, G1, env, _, x, e.step k1 g1, h1, ?_, hx.keep e.gok k1⟩
  rintro r2 v2 G2 H2 ⟨w1, w2, hF⟩ k2 g2 rr2
  obtain ⟨ns, vs, d, e0⟩ := hC _ _ _ hF
  obtain ⟨l, dx, fs, rfl, ga, hl, e3, rl⟩ := rr2.ins (List.cons.inj e0).1
  refine ⟨l, dx, fs, rfl, hl, G2, [r2.d, r1.d], _, noX, g2, .cons (rr2.isVal w2) (.cons ((rr1.keep k2).isVal w1) .nil), hF, ?_, XOk.noX⟩
  rintro d' v G3 H3 ⟨c, rfl, qc⟩ k3 g3 r3
  cases r3
  exact ⟨c, rfl, hq _ _ G3 H3 qc ((k1.trans e.gok k2).trans e.gok k3) g3 (Rep.bl _)⟩
theorem pdt_inC {F : DF} {neg : Bool} (M : MetG X.prog X.w X.K X.mg X.base k C "__contains__" (spOf X.K F)) (B : BC X E j) (hk : k ≤ j) (ha : PD X E a ta) (hb : PD X E b tb) (hC : ∀ ds q x, F ds q x → ∃ ns vs d, ds = [.ins C ns vs, d])
    (hm : behindInMarks (if neg then .NotIn else .In) b = false) : PDT X E (.Compare a [if neg then .NotIn else .In] [b] pos) (dTest (dInC F neg ta tb)) :=
  PT.wk (pt_cmpR (ok_inC M B hk) (show PE X a (lift X.K E ta) from ha) (show PE X b (lift X.K E tb) from hb) hm) fun _ _ _ h => lift_test (fun _ h => lift_inC hC h) h
/-- x.bit_length() -/
def dBits (te : DE) : DE := fun env q x => te env (fun r => ∃ i, r.d = .int i ∧ q (.val (.int (Builtin.Int.intBits i : Nat)))) x
theorem pd_bits (he : PD X E o te) (hbase : attributeBase o "bit_length" X.env (eval o X.env) = eval o X.env := by rfl) (hline : (apos.endLine == pos.line) = true := by rfl) : PD X E (.Call (.Attribute o "bit_length" apos) [] [] pos) (dBits te) := by
  refine PE.wk (pe_bits (show PE X o (lift X.K E te) from he) hbase hline) ?_
  rintro σ H Q ⟨G0, H0, G, env, q, x, e, h, hq, hx⟩
  refine ⟨G0, H0, G, env, _, x, e, h, ?_, hx⟩
  rintro r v G' H' ⟨i, ei, qi⟩ k g rr
  exact ⟨i, rr.int ei, hq _ _ G' H' qi k g (Rep.int _)⟩
end
end QD
/-! defs with defaults -/
namespace QD
open PySem PySem.Spec PyProof.Rows L2
/-- a def by its body -/
theorem fnG_ofD {P : Program} {w : World} {K : PySem.W.Frag} {mg : Str → Option Value} {base : Heap} {x qual : Str} {st : Stmt} {f : Addr} {fd : FuncData} {N ps : List Str} {k : Nat} {sp : Sp} {dvs : List V} {kws : List (Str × V)} (F : FunD K x qual (defArgs st) (defBody st) (defScope st) dvs kws f fd) (S : FnScope N ps (defScope st))
    (len : ∀ vs H Q E, sp vs H Q E → vs.length = ps.length)
    (body : ∀ (cdv : Value) (A : Around) (callers : List PySem.Env) (s : Shared) (H : Hp) (vs : List V) (Q : VK) (E : XK), BC (cxOf (L2.CX P w) P w K mg base N qual (defScope st) f cdv A callers s H E) E k →
      PassesOwn (model P w) (cxOf (L2.CX P w) P w K mg base N qual (defScope st) f cdv A callers s H E).A (cxOf (L2.CX P w) P w K mg base N qual (defScope st) f cdv A callers s H E).env (cxOf (L2.CX P w) P w K mg base N qual (defScope st) f cdv A callers s H E).xe →
      sp vs H Q E → ∃ t, PSs (cxOf (L2.CX P w) P w K mg base N qual (defScope st) f cdv A callers s H E) (defBody st) t ∧ t { nx := fun _ H' => Q .non H', rt := Q } (L2.start N vs) H) : FnG P w K mg base (k + 1) f fd ps sp := by
  obtain ⟨oc, od, dV, kV, doc, pm, an, cdv, ct, osl, rfl, lk, hcd, _, _⟩ := F.ex
  refine ⟨len, fun A l s H args us vs Q E hg hr e0 hb rv hsp => ?_⟩
  have nArgs := len _ _ _ _ hsp
  have inK : K.In s.heap := e0.mod.kin.keeps fun b o q => (e0.bs b o q).1
  have noLim : s.heap.NoLimit := e0.mod.nolimit.keeps fun b o q => (e0.bs b o q).1
  have kinds : ∀ y ∈ ps.zip us, (defScope st).names.lookup y.1 = some .local ∨ ((defScope st).names.lookup y.1 = some .cell ∧ ((cellsFrom (s.heap.objs.size + 1) (defScope st).names []).lookup y.1).isSome = true) := by
    rintro ⟨n, v⟩ hy
    rcases S.par n (List.of_mem_zip hy).1 with q | q
    · exact .inl q
    · exact .inr ⟨q, PySem.W.cellsFrom_some _ _ _ (.inl q)⟩
  refine codeAny_call_function hr.depth (inK _ _ lk) rfl S.co S.gen rfl (PySem.W.codeRec_of inK hcd) (hb _ _ _ _ ?_)
  refine wpAny_newFunctionEnv_cells S.kind kinds fun env he s2 entered => ?_
  subst he
  refine ⟨noLim.keeps entered.toInCall.keep, codeAny_func ?_⟩
  have tk : Takes (cxOf (L2.CX P w) P w K mg base N qual (defScope st) f cdv A l s H E) (fun cls d _ H => E cls d H) := takes_of rfl rfl rfl rfl
  have ctx : BC (cxOf (L2.CX P w) P w K mg base N qual (defScope st) f cdv A l s H E) E k := ⟨rfl, hr.deeper _, hg, passes_call tk fun _ _ _ _ z => z, S.nd, tk⟩
  obtain ⟨t, ht, q⟩ := body cdv A l s H vs Q E ctx (passes_of rfl) hsp
  have I := inv_start (CX := L2.CX P w) (qual := qual) (f := f) (cd := cdv) (E := E) S hr.hd e0 nArgs rv entered
  have out : ∀ {σ' : L2.St} {H' : Hp} {s' : Shared} {v : V} {u : Value}, Inv (cxOf (L2.CX P w) P w K mg base N qual (defScope st) f cdv A l s H E) [] σ' H' s' → RelV v u → Q v H' → CE l P w H s Q u s' := by
    intro σ' H' s' v u J r1 r2
    exact ⟨v, H', J.os, J.bare, J.base, J.hok, r1, r2⟩
  refine wpAny_mono (ht.run [] s2 _ H _ I q) (fun fl s' hs => ?_) fun _ _ hs => hs
  cases fl with
  | ret u => obtain ⟨v, σ', H', J, r1, r2⟩ := hs; exact out J r1 r2
  | next => obtain ⟨σ', H', J, r2⟩ := hs; exact out (v := .non) (u := .none) J rfl r2
  | brk => obtain ⟨_, _, _, z⟩ := hs; exact z.elim
  | cont => obtain ⟨_, _, _, z⟩ := hs; exact z.elim

/-- a def's promise over data, by its body's reading -/
theorem def_okD {P : Program} {w : World} {K : PySem.W.Frag} {mg : Str → Option Value} {base : Heap} {x qual : Str} {st : Stmt} {f : Addr} {fd : FuncData} {N ps : List Str} {k : Nat} {F : DF} {t : DS} {dvs : List V} {kws : List (Str × V)} (fn : FunD K x qual (defArgs st) (defBody st) (defScope st) dvs kws f fd) (S : FnScope N ps (defScope st))
    (body : ∀ (cdv : Value) (A : Around) (callers : List PySem.Env) (s : Shared) (H : Hp) (E : XK), BC (cxOf (L2.CX P w) P w K mg base N qual (defScope st) f cdv A callers s H E) E k →
      PassesOwn (model P w) (cxOf (L2.CX P w) P w K mg base N qual (defScope st) f cdv A callers s H E).A (cxOf (L2.CX P w) P w K mg base N qual (defScope st) f cdv A callers s H E).env (cxOf (L2.CX P w) P w K mg base N qual (defScope st) f cdv A callers s H E).xe →
      PDSs (cxOf (L2.CX P w) P w K mg base N qual (defScope st) f cdv A callers s H E) E (defBody st) t)
    (pure : ∀ ds q x, F ds q x → ds.length = ps.length ∧ t { nx := fun _ => q .non, rt := q, ex := x } (startE N.length ds)) : FnG P w K mg base (k + 1) f fd ps (spOf K F) := by
  refine fnG_ofD fn S (fun vs H Q E ⟨G, ds, q, x, g, r, h, _⟩ => by rw [r.length]; exact (pure ds q x h).1) fun cdv A l s H vs Q E B po ⟨G, ds, q, x, g, r, h, hq, hx⟩ => ?_
  refine ⟨_, body cdv A l s H E B po, G, ⟨H, []⟩, G, startE N.length ds, _, startE_ok g r, (pure ds q x h).2, ?_, ?_, fun _ _ _ _ z => z.elim, fun _ _ _ _ z => z.elim, hx⟩
  · intro env' G' σ' H' z e'
    exact hq .non .non G' H' z e'.keep e'.gok .non
  · intro d v G' H' z k' g' r'
    exact hq d v G' H' z k' g' r'

/-- one default, and all arguments are given -/
theorem binds_all1 {K : PySem.W.Frag} {x qual : Str} {params : Arguments} {body : List Stmt} {scope : Scope} {v : V} {f : Addr} {fd : FuncData} {ps : List Str} (F : FunD K x qual params body scope [v] [] f fd)
    (h : ∀ (T : Addr) (kV doc pm : Value) (an : Option Addr) (cdv ct : Value) (us its : List Value), us.length = ps.length → its.length = 1 →
      ∃ k, bindArgs (PySem.W.fnOf x qual params body scope (.ref T) kV doc pm an cdv ct) ⟨us, []⟩ = seqItems? (.ref T) >>= k ∧ k (some its.toArray) = pure (ps.zip (us ++ its.drop 1))) : Binds K fd ps [] := by
  obtain ⟨ds, r, b⟩ := F.binds1 ps.length 1 (by simp) (by simp) h
  have r' : Vals [] ds := r
  cases r'
  exact b
end QD
namespace QD
open PySem PySem.Spec PyProof.Rows L2
/-! rows of so many values -/
theorem ulen1 {P : List Value → Prop} (h : ∀ a, P [a]) : ∀ us : List Value, us.length = 1 → P us
  | [a], _ => h a
theorem ulen2 {P : List Value → Prop} (h : ∀ a b, P [a, b]) (us : List Value) (e : us.length = 2) : P us := by
  cases us with
  | nil => cases e
  | cons a us => exact ulen1 (P := fun l => P (a :: l)) (h a) us (Nat.succ.inj e)
theorem ulen3 {P : List Value → Prop} (h : ∀ a b c, P [a, b, c]) (us : List Value) (e : us.length = 3) : P us := by
  cases us with
  | nil => cases e
  | cons a us => exact ulen2 (P := fun l => P (a :: l)) (h a) us (Nat.succ.inj e)
theorem ulen4 {P : List Value → Prop} (h : ∀ a b c d, P [a, b, c, d]) (us : List Value) (e : us.length = 4) : P us := by
  cases us with
  | nil => cases e
  | cons a us => exact ulen3 (P := fun l => P (a :: l)) (h a) us (Nat.succ.inj e)
theorem ulen5 {P : List Value → Prop} (h : ∀ a b c d f, P [a, b, c, d, f]) (us : List Value) (e : us.length = 5) : P us := by
  cases us with
  | nil => cases e
  | cons a us => exact ulen4 (P := fun l => P (a :: l)) (h a) us (Nat.succ.inj e)
end QD
/-! a comprehension over two sources -/
namespace QD
open PySem PySem.Spec PyProof.Rows L2
section
variable {X : Cx} {E : XK} {tg iter tg1 iter1 : Expr} {pos : Pos} {ti ti1 : DI}
def noOwnB (env : SE) : Bool := env.all fun | .own _ => false | .dic _ _ => false | .sto _ _ _ _ _ => false | _ => true
theorem noOwn {env : SE} (h : noOwnB env = true) {i : Nat} {ds : List D} : env[i]? ≠ some (.own ds) := fun z => by
  have := List.all_eq_true.mp h _ (List.mem_of_getElem? z)
  cases this
theorem noDic {env : SE} (h : noOwnB env = true) {i : Nat} {ks : List Key} {ds : List D} : env[i]? ≠ some (.dic ks ds) := fun z => by
  have := List.all_eq_true.mp h _ (List.mem_of_getElem? z)
  cases this
theorem Wr.gok {G : Gm} {l : Addr} {H : Hp} {us : List V} (w : Wr G l H (upd H l (.lst us))) (g : GOk G H) : GOk G (upd H l (.lst us)) := ⟨fun b x gb => by
  by_cases nb : b = l
  · subst nb; exact ⟨_, upd_same, .inl ⟨_, rfl⟩⟩
  · obtain ⟨zs, qz, m⟩ := g.lst b x gb
    exact ⟨zs, by rw [upd_ne nb]; exact qz, m⟩, fun b gb => w.pen gb (g.pen b gb), fun b K J gb => w.memo gb (g.memo b K J gb)⟩
theorem noSto {env : SE} (h : noOwnB env = true) {i : Nat} {a C dx : Addr} {fs : List (Str × V)} {ds : List D} : env[i]? ≠ some (.sto a C dx fs ds) := fun z => by
  have := List.all_eq_true.mp h _ (List.mem_of_getElem? z)
  cases this
theorem EnvOk.wrl {K : PySem.W.Frag} {G0 G : Gm} {H0 : HB} {H : Hp} {σ : L2.St} {env : SE} {l : Addr} {us : List V} (e : EnvOk K G0 H0 G H σ env) (no : noOwnB env = true) (h0 : H0.hp l = none) (w : Wr G l H (upd H l (.lst us))) : EnvOk K G0 H0 G (upd H l (.lst us)) σ env :=
  ⟨e.g0, ⟨fun b o hb nb nt => by
      rw [upd_ne fun z => by rw [z, h0] at hb; cases hb]
      exact e.keep.obj b o hb nb nt, fun b gb pb => w.pen (by rw [e.keep.gh b (by obtain ⟨_, _, _, q, _⟩ := pb; rw [q]; simp)]; exact gb) (e.keep.pen b gb pb), fun b K J gb pb => w.memo (by rw [e.keep.gh b pb.ne]; exact gb) (e.keep.memo b K J gb pb), e.keep.gh, w.tab e.keep.tab⟩, w.gok e.gok, e.len, fun p hp => Rep.wr w (e.tmp p hp), fun i d hd => by
      obtain ⟨v, a, b⟩ := e.val i d hd
      exact ⟨v, a, Rep.wr w b⟩, fun i ds hd => absurd hd (noOwn no), fun i j ds es a n hi => absurd hi (noOwn no), DicOk.non (fun i ks ds z => noDic no z) fun i a C dx fs ds z => noSto no z⟩
def dLc2L (vs1 : List Nat) (dg : DG) (tt : DT) (ti1 : DI) (dg1 : DG) (tt1 : DT) (te : DE) : List D → SE → (List D → Prop) → Prop
  | [], _, q => q []
  | d :: ds, env, q => ∃ env', dg d env = some env' ∧ tt env' (fun k => if k = true then ti1 env' (fun es v => v = true ∧ noOwnB env' = true ∧ es.length ≤ 4096 ∧ dLcL dg1 tt1 te es (wipeE env' vs1) (fun l => dLc2L vs1 dg tt ti1 dg1 tt1 te ds env (fun l' => q (l ++ l')))) noX else dLc2L vs1 dg tt ti1 dg1 tt1 te ds env q) noX
def dLc2 (vs vs1 : List Nat) (ti : DI) (dg : DG) (tt : DT) (ti1 : DI) (dg1 : DG) (tt1 : DT) (te : DE) : DFr := fun env q x => ti env (fun ds _ => ds.length ≤ 4096 ∧ dLc2L vs1 dg tt ti1 dg1 tt1 te ds (wipeE env vs) q) x
theorem dLc2_app (vs vs1 : List Nat) (ti : DI) (dg : DG) (tt : DT) (ti1 : DI) (dg1 : DG) (tt1 : DT) (te : DE) (env : SE) (q : List D → Prop) (x : XP) : dLc2 vs vs1 ti dg tt ti1 dg1 tt1 te env q x = ti env (fun ds _ => ds.length ≤ 4096 ∧ dLc2L vs1 dg tt ti1 dg1 tt1 te ds (wipeE env vs) q) x := rfl
end
end QD
/-! an item of an own list is set -/
namespace QD
open PySem PySem.Spec PyProof.Rows L2
section
variable {X : Cx} {E : XK} {value idx : Expr} {te tk : DE} {p pos pos' : Pos} {y : Str}
end
end QD
/-! a dict of plain values by ints that defs pass on and write -/
namespace QD
open PySem PySem.Spec PyProof.Rows L2
mutual
def plD : Pl → D
  | .non => .non
  | .bl b => .bl b
  | .int i => .int i
  | .str x => .str x
  | .tup xs => .tup (plDs xs)
def plDs : List Pl → List D
  | [] => []
  | x :: xs => plD x :: plDs xs
end
theorem rd_tup_non {G : Gm} {H : Hp} (g : GOk G H) {a : Addr} {xs : List V} (r : Rd H a (.tup xs)) : G a = none := by
  cases e : G a with
  | none => rfl
  | some x =>
    obtain ⟨o, q, m⟩ := g.lst a x e
    exact absurd r (m.nrd q xs)
mutual
theorem PlT.rep {K : PySem.W.Frag} {G : Gm} {H : Hp} (g : GOk G H) : ∀ {v : V} {t : Pl}, PlT K H v t → Rep K G H v (plD t)
  | _, _, .non => .non
  | _, _, .bl b => .bl b
  | _, _, .int i => .int i
  | _, _, .str x => .str x
  | _, _, .tup r l => .tup (rd_tup_non g r) r (PlTs.rep g l)
  | _, _, .knil z => .knil z
theorem PlTs.rep {K : PySem.W.Frag} {G : Gm} {H : Hp} (g : GOk G H) : ∀ {vs : List V} {ts : List Pl}, PlTs K H vs ts → RepL K G H vs (plDs ts)
  | _, _, .nil => .nil
  | _, _, .cons a b => .cons (PlT.rep g a) (PlTs.rep g b)
end
mutual
theorem PlT.of {K : PySem.W.Frag} {G : Gm} {H : Hp} : ∀ {v : V} (t : Pl), Rep K G H v (plD t) → PlT K H v t
  | _, .non, r => by cases r; exact .non
  | _, .bl b, r => by cases r; exact .bl b
  | _, .int i, r => by cases r; exact .int i
  | _, .str x, r => by cases r; exact .str x
  | _, .tup [], r => by
    cases r with
    | tup e q l => cases l; exact .tup q .nil
    | knil z => exact .knil z
  | _, .tup (x :: xs), r => by
    cases r with
    | tup e q l => cases l with
      | cons a b => exact .tup q (.cons (PlT.of x a) (PlTs.of xs b))
theorem PlTs.of {K : PySem.W.Frag} {G : Gm} {H : Hp} : ∀ {vs : List V} (ts : List Pl), RepL K G H vs (plDs ts) → PlTs K H vs ts
  | _, [], r => by cases r; exact .nil
  | _, x :: xs, r => by
    cases r with
    | cons a b => exact .cons (PlT.of x a) (PlTs.of xs b)
end
theorem MemoAt.get {K : PySem.W.Frag} {J : Int → Pl → Prop} {H : Hp} {a : Addr} {kvs : List (Key × V)} (m : MemoAt K J H a) (h : H a = some (.dK kvs)) {i : Int} {v : V} (e : valV kvs (.inl i) = some v) : ∃ t, J i t ∧ PlT K H v t := by
  obtain ⟨kvs', h', _, h2⟩ := m
  rw [h] at h'
  cases h'
  unfold valV at e
  rw [Option.map_eq_some_iff] at e
  obtain ⟨p, hp, rfl⟩ := e
  obtain ⟨j, t, _, e1, e2, e3⟩ := h2 p (List.mem_of_find?_eq_some hp)
  have := List.find?_some hp
  rw [decide_eq_true_eq, e1] at this
  cases this
  exact ⟨t, e2, e3⟩
theorem nodup_lt : ∀ (n : Nat) (L : List Nat), L.Nodup → (∀ i ∈ L, i < n) → L.length ≤ n
  | 0, [], _, _ => Nat.le_refl 0
  | 0, x :: L, _, h => absurd (h x List.mem_cons_self) (by omega)
  | n + 1, L, nd, h => by
    have e := nodup_lt n (L.erase n) (nd.erase n) fun i hi => by
      have h1 := h i (List.mem_of_mem_erase hi)
      have h2 : i ≠ n := fun z => by
        rw [z] at hi
        exact nd.not_mem_erase hi
      omega
    by_cases c : n ∈ L
    · rw [List.length_erase_of_mem c] at e
      omega
    · rw [List.erase_of_not_mem c] at e
      omega
theorem MemoAt.len {K : PySem.W.Frag} {J : Int → Pl → Prop} {H : Hp} {a : Addr} {kvs : List (Key × V)} (m : MemoAt K J H a) (h : H a = some (.dK kvs)) : kvs.length < sizeLine := by
  obtain ⟨kvs', h', nd, h2⟩ := m
  rw [h] at h'
  cases h'
  have hk : ∃ L : List Nat, kvs.map (·.1) = L.map (fun n : Nat => (Sum.inl (n : Int) : Key)) ∧ ∀ i ∈ L, i < 16777215 := by
    clear nd h
    induction kvs with
    | nil => exact ⟨[], rfl, by simp⟩
    | cons p kvs ih =>
      obtain ⟨L, e, hL⟩ := ih fun q hq => h2 q (List.mem_cons_of_mem _ hq)
      obtain ⟨i, _, lt, e1, _⟩ := h2 p List.mem_cons_self
      exact ⟨i :: L, by rw [List.map_cons, List.map_cons, e, e1], fun j hj => by
        rcases List.mem_cons.mp hj with rfl | hj
        · exact lt
        · exact hL j hj⟩
  obtain ⟨L, e, hL⟩ := hk
  have ndL : L.Nodup := by
    rw [e] at nd
    exact (List.pairwise_map.mp nd).imp fun h z => h (by rw [z])
  have := nodup_lt _ L ndL hL
  have l2 : kvs.length = L.length := by
    have := congrArg List.length e
    rwa [List.length_map, List.length_map] at this
  rw [sizeLine_eq, l2]
  omega
theorem MemoAt.put {K : PySem.W.Frag} {J : Int → Pl → Prop} {H : Hp} {a : Addr} {kvs : List (Key × V)} (m : MemoAt K J H a) (h : H a = some (.dK kvs)) {i : Nat} {v : V} {t : Pl} (hi : i < 16777215) (hj : J (i : Int) t) (p : PlT K H v t) : MemoAt K J (upd H a (.dK (putK kvs (.inl (i : Int)) v))) a := by
  have ts : TupS H (upd H a (.dK (putK kvs (.inl (i : Int)) v))) := TupS.off (MutO.nrd h (.inr (.inr ⟨_, rfl⟩))) fun b n => upd_ne n
  obtain ⟨kvs', h', nd, h2⟩ := m
  rw [h] at h'
  cases h'
  refine ⟨_, upd_same, ?_, fun q hq => ?_⟩
  · unfold putK
    split
    · rw [List.map_map]
      have : ((fun x : Key × V => x.1) ∘ fun kv : Key × V => if kv.1 = Sum.inl (i : Int) then (kv.1, v) else kv) = (·.1) := by
        funext kv
        show (if kv.1 = Sum.inl (i : Int) then (kv.1, v) else kv).1 = kv.1
        split <;> rfl
      rw [this]
      exact nd
    · rename_i c
      rw [List.map_append, List.nodup_append]
      refine ⟨nd, by simp, fun x hx y hy z => ?_⟩
      rw [List.map_cons, List.map_nil, List.mem_singleton] at hy
      subst hy
      subst z
      obtain ⟨w, hw, e⟩ := List.mem_map.mp hx
      exact c (List.any_eq_true.mpr ⟨w, hw, decide_eq_true e⟩)
  · unfold putK at hq
    split at hq
    · obtain ⟨w, hw, e⟩ := List.mem_map.mp hq
      subst e
      by_cases c : w.1 = Sum.inl (i : Int)
      · rw [if_pos c]
        exact ⟨i, t, hi, c, hj, p.ext ts⟩
      · rw [if_neg c]
        obtain ⟨j, u, lt, e1, e2, e3⟩ := h2 w hw
        exact ⟨j, u, lt, e1, e2, e3.ext ts⟩
    · rcases List.mem_append.mp hq with z | z
      · obtain ⟨j, u, lt, e1, e2, e3⟩ := h2 q z
        exact ⟨j, u, lt, e1, e2, e3.ext ts⟩
      · rw [List.mem_singleton.mp z]
        exact ⟨i, t, hi, rfl, hj, p.ext ts⟩
section
variable {X : Cx} {E : XK} {value : Expr} {tv : DE} {pos p1 p2 p3 p4 p5 p6 p7 p8 : Pos} {x y z : Str} {k : Nat}
end
end QD
/-! the one own dict of a frame: made, written, asked, returned -/
namespace QD
open PySem PySem.Spec PyProof.Rows L2
section
variable {K : PySem.W.Frag} {G0 G : Gm} {H0 : HB} {H : Hp} {σ : L2.St} {env : SE}
end
theorem valV_none {kvs : List (Key × V)} {k : Key} (h : k ∉ kvs.map (·.1)) : valV kvs k = none := by
  unfold valV
  rw [Option.map_eq_none_iff, List.find?_eq_none]
  intro p hp z
  rw [decide_eq_true_eq] at z
  exact h (z ▸ List.mem_map_of_mem hp)
theorem valV_some {kvs : List (Key × V)} {k : Key} (h : k ∈ kvs.map (·.1)) : (valV kvs k).isSome = true := by
  obtain ⟨p, hp, e⟩ := List.mem_map.mp h
  unfold valV
  rw [Option.isSome_map, List.find?_isSome]
  exact ⟨p, hp, decide_eq_true e⟩
def inK (k : Key) (ks : List Key) : Bool := ks.any fun y => decide (y = k)
theorem inK_iff {k : Key} {ks : List Key} : inK k ks = true ↔ k ∈ ks := by
  unfold inK
  rw [List.any_eq_true]
  exact ⟨fun ⟨y, hy, e⟩ => of_decide_eq_true e ▸ hy, fun h => ⟨k, h, decide_eq_true rfl⟩⟩
theorem valV_in {kvs : List (Key × V)} {k : Key} : (valV kvs k).isSome = inK k (kvs.map (·.1)) := by
  cases h : inK k (kvs.map (·.1)) with
  | true => exact valV_some (inK_iff.mp h)
  | false => rw [valV_none fun z => by rw [inK_iff.mpr z] at h; cases h]; rfl
theorem putK_new {kvs : List (Key × V)} {k : Key} {v : V} (h : k ∉ kvs.map (·.1)) : putK kvs k v = kvs ++ [(k, v)] := by
  unfold putK
  rw [if_neg]
  intro z
  obtain ⟨p, hp, e⟩ := List.any_eq_true.mp z
  exact h (of_decide_eq_true e ▸ List.mem_map_of_mem hp)
section
variable {X : Cx} {E : XK} {value key : Expr} {tv tk ta tb : DE} {pos p p1 p2 p3 p4 p5 : Pos} {x y : Str} {k : Nat}
/-! ### a dict that is a value -/
end
end QD
/-! classmethods: C.m(..), cls(..); a starred list in a display -/
namespace QD
open PySem PySem.Spec PyProof.Rows L2 ClX StX
structure CmtG (P : Program) (w : World) (K : PySem.W.Frag) (mg : Str → Option Value) (base : Heap) (k : Nat) (x : Str) (C : Addr) (m : Str) (F : DF) : Prop where
  g : mg x = some (.ref C)
  ex : ∃ mc p f fd ps, FnG P w K mg base k f fd ps (spOf K F) ∧ CRead K C mc ∧ CMet K C mc m p f ∧ Binds K fd ps []
section
variable {X : Cx} {E : XK} {e a b c o : Expr} {te ta tb : DE} {pos p apos : Pos} {es : List Expr} {sA : DA} {k j : Nat} {C : Addr} {x m f y : Str}
theorem RepL.rr {K : PySem.W.Frag} {G : Gm} {H : Hp} : ∀ {vs : List V} {ds : List D}, RepL K G H vs ds → RRepL K G H vs (ds.map R.val)
  | _, _, .nil => .nil
  | _, _, .cons a b => .cons a (RepL.rr b)
theorem RRepL.app {K : PySem.W.Frag} {G : Gm} {H : Hp} : ∀ {vs us : List V} {ds es : List R}, RRepL K G H vs ds → RRepL K G H us es → RRepL K G H (vs ++ us) (ds ++ es)
  | _, _, _, _, .nil, h => h
  | _, _, _, _, .cons a b, h => .cons a (RRepL.app b h)
end
end QD
/-! an own object that changes -/
namespace QD
open PySem PySem.Spec PyProof.Rows L2
section
variable {K : PySem.W.Frag} {G0 G : Gm} {H0 : HB} {H : Hp} {σ : L2.St} {env : SE}
end
section
variable {X : Cx} {E : XK} {value o e : Expr} {te ta : DE} {pos pos' p p1 p2 apos : Pos} {y : Str} {C : Addr} {f : Str}
end
/-! ### a def that is lent an object -/
end QD
/-! further expressions -/
namespace QD
open PySem PySem.Spec PyProof.Rows L2
section
variable {X : Cx} {E : XK} {a o e : Expr} {te ta : DE} {p p2 pos apos : Pos}
/-- tuple(range(n)) -/
def dTupRg (te : DE) : DE := fun env q x => te env (fun r => ∃ j : Int, r.d = .int j ∧ -(2 ^ 62) ≤ j ∧ j < 2 ^ 62 ∧ j.toNat ≤ 16777216 ∧ q (.val (.tup (rngD 0 j.toNat)))) x
/-- xs.index(v), where it is there -/
def dIndex (te ta : DE) : DE := fun env q x => te env (fun r1 => ∃ ds : List D, r1.d = .lst ds ∧ ta env (fun r2 => ∃ (j : Nat) (c : D), eqB (.lst ds) (.lst ds) ≠ none ∧ ds[j]? = some c ∧ eqB c r2.d = some true ∧ (∀ m c', m < j → ds[m]? = some c' → eqB c' r2.d = some false) ∧ q (.val (.int (j : Int)))) x) x
theorem dTupRg_app (te : DE) (env : SE) (q : R → Prop) (x : XP) : dTupRg te env q x = te env (fun r => ∃ j : Int, r.d = .int j ∧ -(2 ^ 62) ≤ j ∧ j < 2 ^ 62 ∧ j.toNat ≤ 16777216 ∧ q (.val (.tup (rngD 0 j.toNat)))) x := rfl
theorem dIndex_app (te ta : DE) (env : SE) (q : R → Prop) (x : XP) : dIndex te ta env q x = te env (fun r1 => ∃ ds : List D, r1.d = .lst ds ∧ ta env (fun r2 => ∃ (j : Nat) (c : D), eqB (.lst ds) (.lst ds) ≠ none ∧ ds[j]? = some c ∧ eqB c r2.d = some true ∧ (∀ m c', m < j → ds[m]? = some c' → eqB c' r2.d = some false) ∧ q (.val (.int (j : Int)))) x) x := rfl
end
/-! ### a call that leaves a default out -/
/-! ### a comprehension's names, several -/
/-! ### xs[::-1], a list; reversed(range(n)); a number of the module -/
section
variable {X : Cx} {E : XK} {e a o : Expr} {te ta : DE} {p p2 pos apos : Pos} {x : Str} {i : Int} {tg : Expr}
def dRevL (te : DE) : DE := fun env q x => te env (fun r => ∃ ds, r.d = .lst ds ∧ q (.val (.lst ds.reverse))) x
theorem dRevL_app (te : DE) (env : SE) (q : R → Prop) (x : XP) : dRevL te env q x = te env (fun r => ∃ ds, r.d = .lst ds ∧ q (.val (.lst ds.reverse))) x := rfl
/-- from the end of a range -/
def iRevRg (te : DE) : DI := fun env q x => te env (fun r => ∃ j : Int, r.d = .int j ∧ -(2 ^ 62) ≤ j ∧ j < 2 ^ 62 ∧ q (rngD 0 j.toNat).reverse true) x
theorem iRevRg_app (te : DE) (env : SE) (q : List D → Bool → Prop) (x : XP) : iRevRg te env q x = te env (fun r => ∃ j : Int, r.d = .int j ∧ -(2 ^ 62) ≤ j ∧ j < 2 ^ 62 ∧ q (rngD 0 j.toNat).reverse true) x := rfl
end
end QD
namespace QD
open PySem PySem.Spec PyProof.Rows L2
/-! ### tuple * int -/
section
variable {X : Cx}
theorem RepL.rep {K : PySem.W.Frag} {G : Gm} {H : Hp} {vs : List V} {ds : List D} (h : RepL K G H vs ds) : ∀ n, RepL K G H (List.replicate n vs).flatten (List.replicate n ds).flatten
  | 0 => .nil
  | n + 1 => by
    rw [List.replicate_succ, List.replicate_succ, List.flatten_cons, List.flatten_cons]
    exact h.append (RepL.rep h n)
end
end QD
/-! own objects compared, joined by signs; isinstance of an own class; a statement that is not reached -/
namespace QD
open PySem PySem.Spec PyProof.Rows L2
def cTys : List String := ["NoneType", "bool", "int", "str", "tuple", "list", "dict"]
/-- what is asked of an own class -/
def clB (K : PySem.W.Frag) (C : Addr) : Bool := (cTys.all fun T => PySem.W.notFirst K C (.type T) && (PySem.W.kitOne K (.type T) (.ref C) == some false)) && (PySem.W.kitOne K (.ref C) (.ref C) == some true)
structure KitC (K : PySem.W.Frag) (C : Addr) : Prop where
  cl : Cls K C
  ha : PySem.W.findIn K (.ref C) "__class__" = some (some (.builtin "object.__class__"))
  hn : PySem.W.specialIn K (.builtin "object.__class__") "__get__" = some (some (.builtin "getset_descriptor.__get__"))
  ht : PySem.W.takesIn K (.builtin "object.__class__") = some true
  hm : PySem.W.mroIn K C (.type "object") = some true
  ty : ∀ T ∈ cTys, PySem.W.notFirst K C (.type T) = true ∧ PySem.W.kitOne K (.type T) (.ref C) = some false
  own : PySem.W.kitOne K (.ref C) (.ref C) = some true
theorem KitC.of {K : PySem.W.Frag} {C : Addr} (cl : Cls K C) (ha : PySem.W.findIn K (.ref C) "__class__" = some (some (.builtin "object.__class__")))
    (hn : PySem.W.specialIn K (.builtin "object.__class__") "__get__" = some (some (.builtin "getset_descriptor.__get__"))) (ht : PySem.W.takesIn K (.builtin "object.__class__") = some true) (hm : PySem.W.mroIn K C (.type "object") = some true) (h : clB K C = true) : KitC K C := by
  unfold clB at h
  rw [Bool.and_eq_true, List.all_eq_true] at h
  refine ⟨cl, ha, hn, ht, hm, fun T hT => ?_, beq_iff_eq.mp h.2⟩
  have := h.1 T hT
  rw [Bool.and_eq_true] at this
  exact ⟨this.1, beq_iff_eq.mp this.2⟩
def tyD : D → Option String
  | .non => some "NoneType"
  | .bl _ => some "bool"
  | .int _ => some "int"
  | .str _ => some "str"
  | .tup _ => some "tuple"
  | .lst _ => some "list"
  | .dct _ _ => some "dict"
  | _ => none
def isC (C : Addr) (d : D) : Option Bool := match d with
  | .ins C' _ _ => if C' = C then some true else none
  | d => if (tyD d).isSome then some false else none
section
variable {X : Cx} {E : XK} {k j : Nat} {C : Addr} {a b o : Expr} {ta tb te : DE} {pos apos p : Pos} {y : Str}
/-! ### isinstance(x, C) -/
def dIsC (C : Addr) (ta : DE) : DE := fun env q x => ta env (fun r => ∃ b, isC C r.d = some b ∧ q (.val (.bl b))) x
/-! ### o == x, o <= x .. by the method of the class -/
def dCmpC (C : Addr) (F : DF) (ta tb : DE) : DE := fun env q x => ta env (fun r1 => tb env (fun r2 => r1.isVal = true ∧ r2.isVal = true ∧ (isC C r2.d).isSome = true ∧ F [r1.d, r2.d] (fun d => q (.val d)) noX) x) x
/-! ### o & x, o | x, o + x -/
def dBinC (C : Addr) (F : DF) (ta tb : DE) : DE := fun env q x => ta env (fun r1 => tb env (fun r2 => r1.isVal = true ∧ r2.isVal = true ∧ isC C r2.d = some true ∧ F [r1.d, r2.d] (fun d => q (.val d)) noX) x) x
end
theorem dCmpC_app (C : Addr) (F : DF) (ta tb : DE) (env : SE) (q : R → Prop) (x : XP) : dCmpC C F ta tb env q x = ta env (fun r1 => tb env (fun r2 => r1.isVal = true ∧ r2.isVal = true ∧ (isC C r2.d).isSome = true ∧ F [r1.d, r2.d] (fun d => q (.val d)) noX) x) x := rfl
theorem dBinC_app (C : Addr) (F : DF) (ta tb : DE) (env : SE) (q : R → Prop) (x : XP) : dBinC C F ta tb env q x = ta env (fun r1 => tb env (fun r2 => r1.isVal = true ∧ r2.isVal = true ∧ isC C r2.d = some true ∧ F [r1.d, r2.d] (fun d => q (.val d)) noX) x) x := rfl
theorem dIsC_app (C : Addr) (ta : DE) (env : SE) (q : R → Prop) (x : XP) : dIsC C ta env q x = ta env (fun r => ∃ b, isC C r.d = some b ∧ q (.val (.bl b))) x := rfl
theorem isC_ins (C : Addr) (ns : List Str) (ds : List D) : isC C (.ins C ns ds) = some true := by
  show (if C = C then some true else none) = some true
  rw [if_pos rfl]
/-- a promise that asks for nothing -/
theorem FnG.no {P : Program} {w : World} {K : PySem.W.Frag} {mg : Str → Option Value} {base : Heap} {k : Nat} {x qual : Str} {st : Stmt} {f : Addr} {fd : FuncData} {ps : List Str} {F : DF} (_ : Fun K x qual st f fd) (h : ∀ ds q x, ¬ F ds q x) : FnG P w K mg base k f fd ps (spOf K F) := by
  refine ⟨fun vs H Q E z => ?_, fun A callers s H a us vs Q E hg hr e0 bt r z => ?_⟩
  · obtain ⟨_, _, _, _, _, _, hF, _⟩ := z
    exact absurd hF (h _ _ _)
  · obtain ⟨_, _, _, _, _, _, hF, _⟩ := z
    exact absurd hF (h _ _ _)
end QD
/-! o[i] of an own class -/
namespace QD
open PySem PySem.Spec PyProof.Rows L2
structure GetG (P : Program) (w : World) (K : PySem.W.Frag) (mg : Str → Option Value) (base : Heap) (k : Nat) (C : Addr) (sp : Sp) : Prop where
  ex : ∃ f fd ps, FnG P w K mg base k f fd ps sp ∧ Meth K C "__getitem__" f ∧ PySem.W.fnIn K f = true ∧ Binds K fd ps []
section
variable {X : Cx} {E : XK} {a b : Expr} {ta tb : DE} {pos : Pos} {k j : Nat} {C : Addr}
end
end QD
/-! calls of methods of an own object -/
namespace QD
open PySem PySem.Spec PyProof.Rows L2
section
variable {X : Cx} {E : XK} {o e a b : Expr} {es : List Expr} {te ta tb : DE} {sA : DA} {pos apos p p2 p3 p4 : Pos} {k j : Nat} {C : Addr} {m x y : Str} {sp : Sp} {tt : TE} {t : TA}
theorem pe_methG {pl : Sem Bool} (he : PE X o tt) (M : MetG X.prog X.w X.K X.mg X.base k C m sp) (B : BC X E j) (hk : k ≤ j) (ha : PA X (e :: es) t)
    (hst : starEach (e :: es) X.env = (false, eval e X.env) :: starEach es X.env := by rfl) (hpl : (backTo pos (starEach es X.env)).any (·.1) = false := by rfl)
    (ht : eval (.Call (.Attribute o m apos) (e :: es) [] pos) X.env = (do
      let ov ← eval o X.env
      standAt apos.atName
      let (f, first) ← holding [ov] (getMethod ov m pl)
      callWith pos f first (backTo pos (starEach (e :: es) X.env)) (backToKw pos (keywordEach [] X.env))) := by rfl) :
    PE X (.Call (.Attribute o m apos) (e :: es) [] pos) (tMeth C m sp [] E tt t) := by
  obtain ⟨f, fd, ps, F, hm, hb⟩ := M.ex
  refine ⟨fun pins s σ H Q I h => ?_⟩
  refine PySem.W.methodCall_KW (pl := pl) (thn (he.run pins s σ H _ I h) fun u s1 ⟨x, H1, I1, rx, a, dx, fs, ex, ea, l, q⟩ => ?_) ht
  subst ex
  obtain rfl : u = Value.ref a := rx
  refine getmeth_ok I1 ea M.cls hm l ?_
  refine PySem.W.callWith_K (first := [.ref a]) (h₀ := X.base) I1.ok.mod.kin hm.kp (thn (ha.run pos pins s1 σ H1 _ I1 q) fun us s2 ⟨vs, H2, I2, r, q2⟩ => ⟨I2.kIn, ?_⟩) hst hpl
  exact run_g (us := .ref a :: us) (vs := .ref a :: vs) F (B.down hk) hb .nil I2 (.cons rfl r) q2
/-! ### methods that only read -/
theorem sp_rs {F : DF} {G : Gm} {H : Hp} {vs : List V} {rs : List R} {q : D → Prop} {x : XP} {Q : VK} (g : GOk G H) (rl : RRepL X.K G H vs rs) (h : F (rs.map R.d) (fun d => (allVal rs = true ∨ noLst d = true) ∧ q d) x)
    (hq : ∀ d v G' H', q d → Keep G G' H H' → GOk G' H' → Rep X.K G' H' v d → Q v H') (hx : XOk X.K E G H x) : spOf X.K F vs H Q E := by
  by_cases hv : allVal rs = true
  · have rl' := rl
    rw [allVal_map hv] at rl'
    exact ⟨G, rs.map R.d, _, x, g, rl'.vals, h, fun d v G2 H2 qd k2 g2 r => hq _ _ G2 H2 qd.2 k2 g2 r, hx⟩
  · refine ⟨pens G, rs.map R.d, _, x, pens_ok g, rl.pens, h, fun d v G2 H2 qd k2 g2 r => ?_, ?_⟩
    · rcases qd with ⟨z | z, qd⟩
      · exact absurd z hv
      · exact hq _ _ _ H2 qd (keep_back k2) (gok_back g k2 g2) (Rep.back g k2 z r)
    · intro ex G2 H2 xe k2 g2
      have := hx ex (gback G G2 H) H2 xe (keep_back k2) (gok_back g k2 g2)
      exact ⟨this.1, fun fs hf n d vs r q => this.2 fs hf n d vs (RepL.back g k2 n r) q⟩
theorem lookup_no {m : Str} : ∀ {fs : List (Str × V)}, m ∉ fs.map (·.1) → fs.lookup m = none
  | [], _ => rfl
  | (n, v) :: fs, h => by
    have h1 : m ≠ n := fun z => h (by simp [z])
    have h2 : m ∉ fs.map (·.1) := fun z => h (by simp at z ⊢; exact .inr z)
    show (match m == n with | true => some v | false => fs.lookup m) = none
    rw [beq_false_of_ne h1]
    exact lookup_no h2
/-- o.m(..) -/
def dMethR (C : Addr) (m : Str) (F : DF) (te : DE) (sA : DA) : DE := fun env q x => te env (fun r => (∃ ns ds, r.d = .ins C ns ds ∧ m ∉ ns) ∧ sA env (fun rs => F (r.d :: rs.map R.d) (fun d => (allVal (r :: rs) = true ∨ noLst d = true) ∧ q (.val d)) x) x) x
theorem dMethR_app (C : Addr) (m : Str) (F : DF) (te : DE) (sA : DA) (env : SE) (q : R → Prop) (x : XP) : dMethR C m F te sA env q x = te env (fun r => (∃ ns ds, r.d = .ins C ns ds ∧ m ∉ ns) ∧ sA env (fun rs => F (r.d :: rs.map R.d) (fun d => (allVal (r :: rs) = true ∨ noLst d = true) ∧ q (.val d)) x) x) x := rfl
theorem pd_methR {F : DF} {pl : Sem Bool} (M : MetG X.prog X.w X.K X.mg X.base k C m (spOf X.K F)) (B : BC X E j) (hk : k ≤ j) (he : PD X E o te) (ha : PDA X E (e :: es) sA)
    (hst : starEach (e :: es) X.env = (false, eval e X.env) :: starEach es X.env := by rfl) (hpl : (backTo pos (starEach es X.env)).any (·.1) = false := by rfl)
    (ht : eval (.Call (.Attribute o m apos) (e :: es) [] pos) X.env = (do
      let ov ← eval o X.env
      standAt apos.atName
      let (f, first) ← holding [ov] (getMethod ov m pl)
      callWith pos f first (backTo pos (starEach (e :: es) X.env)) (backToKw pos (keywordEach [] X.env))) := by rfl) : PD X E (.Call (.Attribute o m apos) (e :: es) [] pos) (dMethR C m F te sA) := by
  refine PE.wk (pe_methG (show PE X o (lift X.K E te) from he) M B hk (show PA X (e :: es) (liftA X.K E sA) from ha) hst hpl ht) ?_
  rintro σ H Q ⟨G0, H0, G, env, q, x, ev, h, hq, hx⟩
  refine ⟨G0, H0, G, env, _, x, ev, h, ?_, hx⟩
  rintro r v G1 H1 ⟨⟨ns, ds, er, hm⟩, h2⟩ k1 g1 rr
  obtain ⟨l, dx, fs, rfl, ga, hl, e3, rl⟩ := rr.ins er
  refine ⟨l, dx, fs, rfl, hl, lookup_no (by rw [e3]; exact hm), G0, H0, G1, env, _, x, ev.step k1 g1, h2, ?_, hx.keep ev.gok k1⟩
  rintro rs vs G2 H2 hF k2 g2 rl2
  rw [List.append_nil]
  have k12 := k1.trans ev.gok k2
  exact sp_rs g2 (.cons (rr.keep k2) rl2) hF (fun d v G3 H3 qd k3 g3 r3 => hq _ _ G3 H3 qd (k12.trans ev.gok k3) g3 r3) (hx.keep ev.gok k12)
end
/-! ### an object is lent -/
mutual
theorem Rep.insOff {K : PySem.W.Frag} {G : Gm} {H : Hp} {a C dx C' dx' : Addr} {fs fs' : List (Str × V)} (ha : H a = some (.ins C dx fs)) : ∀ {v : V} {d : D}, noLst d = true → Rep K G H v d → Rep K G (upd H a (.ins C' dx' fs')) v d
  | _, _, _, .non => .non
  | _, _, _, .bl b => .bl b
  | _, _, _, .int i => .int i
  | _, _, _, .str x => .str x
  | _, _, n, .tup e r l => .tup e (by
      rcases r with r | ⟨o, r⟩
      · exact .inl (by rw [upd_ne (fun z => by rw [z, ha] at r; cases r)]; exact r)
      · exact .inr ⟨o, by rw [upd_ne (fun z => by rw [z, ha] at r; cases r)]; exact r⟩) (RepL.insOff ha (by simpa [noLst] using n) l)
  | _, _, n, .lst e r l => by simp [noLst] at n
  | _, _, n, .scr r l => by simp [noLst] at n
  | _, _, n, .dct e r q l => by simp [noLst] at n
  | _, _, n, .dcl e r => by simp [noLst] at n
  | _, _, n, .tupN e ⟨o, r, z⟩ l => .tupN e ⟨o, by rw [upd_ne (fun z => by rw [z, ha] at r; cases r)]; exact r, z⟩ (RepL.insOff ha (by simpa [noLst] using n) l)
  | _, _, n, .ins e r q l => by simp [noLst] at n
  | _, _, _, .knil z => .knil z
  | _, _, n, .pen e p => by simp [noLst] at n
  | _, _, n, .exo0 => by simp [noLst] at n
  | _, _, n, .exo e r m l => by simp [noLst] at n
  | _, _, n, .tab t => by simp [noLst] at n
  | _, _, n, .two _ _ => by simp [noLst] at n
  | _, _, _, .adr => .adr
  | _, _, n, .wo _ _ _ _ => by simp [noLst] at n
  | _, _, n, .memo _ _ => by simp [noLst] at n
theorem RepL.insOff {K : PySem.W.Frag} {G : Gm} {H : Hp} {a C dx C' dx' : Addr} {fs fs' : List (Str × V)} (ha : H a = some (.ins C dx fs)) : ∀ {vs : List V} {ds : List D}, noLsts ds = true → RepL K G H vs ds → RepL K G (upd H a (.ins C' dx' fs')) vs ds
  | _, _, _, .nil => .nil
  | _, _, n, .cons a b => by
    simp only [noLsts, Bool.and_eq_true] at n
    exact .cons (Rep.insOff ha n.1 a) (RepL.insOff ha n.2 b)
end
section
variable {K : PySem.W.Frag} {G0 G : Gm} {H0 : HB} {H : Hp} {σ : L2.St} {env : SE} {C : Addr}
end
section
variable {X : Cx} {E : XK} {o e a b : Expr} {es : List Expr} {te ta tb : DE} {sA : DA} {pos apos p p2 p3 p4 p5 : Pos} {k j : Nat} {C : Addr} {m x y : Str}
/-! ### a new object of one's own -/
end
/-! ### self.f = a parameter, in __init__ -/
section
variable {X : Cx} {E : XK} {C : Addr} {f : Str} {p p2 pos : Pos}
end
end QD
/-! own objects by address: regions -/
namespace QD
open PySem PySem.Spec PyProof.Rows L2
/-- an own object: what it holds; its own objects in it stand as addresses -/
inductive OO where
  | lst (ds : List D) | ins (C dx : Addr) (ns : List Str) (ds : List D) | dic (ks : List Key) (ds : List D)
abbrev Reg := List (Addr × OO)
section
variable {K : PySem.W.Frag} {G0 G G' : Gm} {H0 : HB} {H H' : Hp} {σ : L2.St} {env : SE} {os : Reg}
def OO.At (K : PySem.W.Frag) (G : Gm) (H : Hp) (a : Addr) : OO → Prop
  | .lst ds => ∃ vs, H a = some (.lst vs) ∧ RepL K G H vs ds
  | .ins C dx ns ds => ∃ fs : List (Str × V), H a = some (.ins C dx fs) ∧ fs.map (·.1) = ns ∧ RepL K G H (fs.map (·.2)) ds
  | .dic ks ds => ∃ kvs : List (Key × V), H a = some (.dK kvs) ∧ kvs.map (·.1) = ks ∧ RepL K G H (kvs.map (·.2)) ds
theorem OO.At.mut {a : Addr} : ∀ {o : OO}, o.At K G H a → ∃ x, H a = some x ∧ MutO x
  | .lst _, ⟨vs, h, _⟩ => ⟨_, h, .inl ⟨_, rfl⟩⟩
  | .ins _ _ _ _, ⟨fs, h, _⟩ => ⟨_, h, .inr (.inl ⟨_, _, _, rfl⟩)⟩
  | .dic _ _, ⟨kvs, h, _⟩ => ⟨_, h, .inr (.inr ⟨_, rfl⟩)⟩
theorem OO.At.keep {a : Addr} (k : Keep G G' H H') (hid : G a = some .hid) : ∀ {o : OO}, o.At K G H a → o.At K G' H' a
  | .lst _, ⟨vs, h, r⟩ => ⟨vs, k.obj a _ h (by rw [hid]; simp) nofun, RepL.keep k r⟩
  | .ins _ _ _ _, ⟨fs, h, e, r⟩ => ⟨fs, k.obj a _ h (by rw [hid]; simp) nofun, e, RepL.keep k r⟩
  | .dic _ _, ⟨kvs, h, e, r⟩ => ⟨kvs, k.obj a _ h (by rw [hid]; simp) nofun, e, RepL.keep k r⟩
theorem OO.At.wr {a b : Addr} (w : Wr G b H H') (n : a ≠ b) : ∀ {o : OO}, o.At K G H a → o.At K G H' a
  | .lst _, ⟨vs, h, r⟩ => ⟨vs, by rw [w.oth a n]; exact h, RepL.wr w r⟩
  | .ins _ _ _ _, ⟨fs, h, e, r⟩ => ⟨fs, by rw [w.oth a n]; exact h, e, RepL.wr w r⟩
  | .dic _ _, ⟨kvs, h, e, r⟩ => ⟨kvs, by rw [w.oth a n]; exact h, e, RepL.wr w r⟩
structure RegOk (K : PySem.W.Frag) (H0 : Hp) (G : Gm) (H : Hp) (os : Reg) : Prop where
  nd : (os.map (·.1)).Nodup
  hid : ∀ p ∈ os, G p.1 = some .hid
  new : ∀ p ∈ os, H0 p.1 = none
  at_ : ∀ p ∈ os, p.2.At K G H p.1
theorem RegOk.nil {H0 : Hp} : RegOk K H0 G H [] := ⟨List.nodup_nil, fun _ h => (nomatch h), fun _ h => (nomatch h), fun _ h => (nomatch h)⟩
theorem RegOk.step {H0 : Hp} (r : RegOk K H0 G H os) (k : Keep G G' H H') : RegOk K H0 G' H' os := by
  refine ⟨r.nd, fun p h => ?_, r.new, fun p h => (r.at_ p h).keep k (r.hid p h)⟩
  obtain ⟨x, q, _⟩ := (r.at_ p h).mut
  rw [k.gh p.1 (by rw [q]; simp)]
  exact r.hid p h
theorem RegOk.write {H0 : Hp} (r : RegOk K H0 G H os) {m : Nat} {b : Addr} {o o' : OO} (hm : os[m]? = some (b, o)) (w : Wr G b H H') (a' : o'.At K G H' b) : RegOk K H0 G H' (os.set m (b, o')) := by
  have lm := (List.getElem?_eq_some_iff.mp hm).1
  have em : (os.set m (b, o')).map (·.1) = os.map (·.1) := by
    rw [List.map_set]
    refine List.ext_getElem? fun j => ?_
    by_cases z : m = j
    · subst z
      rw [List.getElem?_set_self (by simpa using lm), List.getElem?_map, hm]; rfl
    · rw [List.getElem?_set_ne z]
  have back : ∀ p ∈ os.set m (b, o'), p = (b, o') ∨ (p ∈ os ∧ p.1 ≠ b) := fun p hp => by
    obtain ⟨j, hj⟩ := List.mem_iff_getElem?.mp hp
    by_cases z : m = j
    · subst z
      rw [List.getElem?_set_self lm] at hj
      exact .inl (Option.some.inj hj).symm
    · rw [List.getElem?_set_ne z] at hj
      refine .inr ⟨List.mem_of_getElem? hj, fun y => z ?_⟩
      have h1 : (os.map (·.1))[m]? = some b := by rw [List.getElem?_map, hm]; rfl
      have h2 : (os.map (·.1))[j]? = some b := by rw [List.getElem?_map, hj, ← y]; rfl
      exact (List.getElem?_inj (by simpa using lm) r.nd).mp (h1.trans h2.symm)
  have mb := List.mem_of_getElem? hm
  refine ⟨by rw [em]; exact r.nd, fun p hp => ?_, fun p hp => ?_, fun p hp => ?_⟩
  · rcases back p hp with rfl | ⟨h, _⟩
    · exact r.hid (b, o) mb
    · exact r.hid p h
  · rcases back p hp with rfl | ⟨h, _⟩
    · exact r.new (b, o) mb
    · exact r.new p h
  · rcases back p hp with rfl | ⟨h, n⟩
    · exact a'
    · exact (r.at_ p h).wr w n
theorem EnvOk.rebase (e : EnvOk K G0 H0 G H σ env) (no : noOwnB env = true) : EnvOk K G ⟨H, H0.tmp⟩ G H σ env :=
  ⟨e.gok, Keep.refl G H, e.gok, e.len, e.tmp, e.val, fun _ _ h => absurd h (noOwn no), fun _ _ _ _ _ _ h => absurd h (noOwn no), DicOk.non (fun _ _ _ z => noDic no z) fun _ _ _ _ _ _ z => noSto no z⟩
theorem EnvOk.debase {σ' : L2.St} {env' : SE} (e : EnvOk K G0 H0 G H σ env) (e' : EnvOk K G ⟨H, H0.tmp⟩ G' H' σ' env') (no : noOwnB env' = true) : EnvOk K G0 H0 G' H' σ' env' :=
  ⟨e.g0, e.keep.trans e.g0 e'.keep, e'.gok, e'.len, e'.tmp, e'.val, fun _ _ h => absurd h (noOwn no), fun _ _ _ _ _ _ h => absurd h (noOwn no), DicOk.non (fun _ _ _ z => noDic no z) fun _ _ _ _ _ _ z => noSto no z⟩
end
/-! ### statements over a region -/
structure REnds where
  nx : SE → Reg → Prop
  rt : D → Reg → Prop
  bk : SE → Reg → Prop := fun _ _ => False
  ct : SE → Reg → Prop := fun _ _ => False
  ex : Reg → XP := fun _ _ => False
abbrev DR := REnds → SE → Reg → Prop
/-- what a text over regions leaves -/
structure ROk (K : PySem.W.Frag) (E : XK) (G0 : Gm) (H0 : HB) (J : REnds) (Z : Ends) : Prop where
  nx : ∀ env' os' G' σ' H', J.nx env' os' → EnvOk K G0 H0 G' H' σ' env' → RegOk K H0.hp G' H' os' → noOwnB env' = true → Z.nx σ' H'
  rt : ∀ d os' v G' H', J.rt d os' → Keep G0 G' H0.hp H' → GOk G' H' → RegOk K H0.hp G' H' os' → Rep K G' H' v d → Z.rt v H'
  bk : ∀ env' os' G' σ' H', J.bk env' os' → EnvOk K G0 H0 G' H' σ' env' → RegOk K H0.hp G' H' os' → noOwnB env' = true → Z.bk σ' H'
  ct : ∀ env' os' G' σ' H', J.ct env' os' → EnvOk K G0 H0 G' H' σ' env' → RegOk K H0.hp G' H' os' → noOwnB env' = true → Z.ct σ' H'
  ex : ∀ os' G' H', Keep G0 G' H0.hp H' → GOk G' H' → RegOk K H0.hp G' H' os' → XOk K E G' H' (J.ex os')
def liftR (K : PySem.W.Frag) (E : XK) (t : DR) : TS := fun Z σ H => ∃ G0 H0 G env os J, EnvOk K G0 H0 G H σ env ∧ RegOk K H0.hp G H os ∧ noOwnB env = true ∧ t J env os ∧ ROk K E G0 H0 J Z
def PRS (X : Cx) (E : XK) (s : Stmt) (t : DR) : Prop := PS X s (liftR X.K E t)
def PRSs (X : Cx) (E : XK) (s : List Stmt) (t : DR) : Prop := PSs X s (liftR X.K E t)
section
variable {X : Cx} {E : XK} {st : Stmt} {rest : List Stmt} {t u : DR} {e a b c : Expr} {te ta tb : DE} {sc : DT} {pos p : Pos} {x : Str}
def rNext : DR := fun J env os => J.nx env os
def rSeq (t u : DR) : DR := fun J env os => t { J with nx := u J } env os
theorem prs_nil : PRSs X E [] rNext := by
  refine PSs.wk pss_nil ?_
  rintro Z σ H ⟨G0, H0, G, env, os, J, e, r, no, h, z⟩
  exact z.nx env os G σ H h e r no
theorem prs_cons (h1 : PRS X E st t) (h2 : PRSs X E rest u) : PRSs X E (st :: rest) (rSeq t u) := by
  refine PSs.wk (pss_cons h1 h2) ?_
  rintro Z σ H ⟨G0, H0, G, env, os, J, e, r, no, h, z⟩
  exact ⟨G0, H0, G, env, os, _, e, r, no, h, ⟨fun env' os' G' σ' H' q e' r' no' => ⟨G0, H0, G', env', os', J, e', r', no', q, z⟩, z.rt, z.bk, z.ct, z.ex⟩⟩
theorem prs_one (h : PRS X E st t) : PRSs X E [st] t := pss_one h
/-- a statement that doesn't touch the region -/
def rOf (t : DS) : DR := fun J env os => t { nx := fun env' => noOwnB env' = true ∧ J.nx env' os, rt := fun d => J.rt d os, bk := fun env' => noOwnB env' = true ∧ J.bk env' os, ct := fun env' => noOwnB env' = true ∧ J.ct env' os, ex := J.ex os } env
theorem lift_of {t : DS} {Z : Ends} {σ : L2.St} {H : Hp} (h : liftR X.K E (rOf t) Z σ H) : liftS X.K E t Z σ H := by
  obtain ⟨G0, H0, G, env, os, J, e, r, no, h, z⟩ := h
  refine ⟨G, ⟨H, H0.tmp⟩, G, env, _, e.rebase no, h, ?_, ?_, ?_, ?_, z.ex os G H e.keep e.gok r⟩
  · rintro env' G' σ' H' ⟨no', q⟩ e'
    exact z.nx env' os G' σ' H' q (e.debase e' no') (r.step e'.keep) no'
  · intro d v G' H' q k g rp
    exact z.rt d os v G' H' q (e.keep.trans e.g0 k) g (r.step k) rp
  · rintro env' G' σ' H' ⟨no', q⟩ e'
    exact z.bk env' os G' σ' H' q (e.debase e' no') (r.step e'.keep) no'
  · rintro env' G' σ' H' ⟨no', q⟩ e'
    exact z.ct env' os G' σ' H' q (e.debase e' no') (r.step e'.keep) no'
theorem prs_of {t : DS} (h : PDS X E st t) : PRS X E st (rOf t) := PS.wk h fun _ _ _ h => lift_of h
/-- if -/
def rIfS (c : DT) (t u : DR) : DR := fun J env os => c env (fun k => if k = true then t J env os else u J env os) (J.ex os)
theorem prs_ifS {sa sb : List Stmt} (hc : PDT X E c sc) (ha : PRSs X E sa t) (hb : PRSs X E sb u) : PRS X E (.If c sa sb pos) (rIfS sc t u) := by
  refine PS.wk (ps_if (show PT X c (liftT X.K E sc) from hc) ha hb) ?_
  rintro Z σ H ⟨G0, H0, G, env, os, J, e, r, no, h, z⟩
  refine ⟨G0, H0, G, env, _, _, e, h, ?_, z.ex os G H e.keep e.gok r⟩
  rintro k G' H' q kk g
  cases k with
  | true => exact ⟨G0, H0, G', env, os, J, e.step kk g, r.step kk, no, q, z⟩
  | false => exact ⟨G0, H0, G', env, os, J, e.step kk g, r.step kk, no, q, z⟩
/-- for -/
def rForL (dg : DG) (tb : DR) (J : REnds) : List D → SE → Reg → Prop
  | [], env, os => J.nx env os
  | d :: ds, env, os => ∃ env', dg d env = some env' ∧ noOwnB env' = true ∧ tb { J with nx := fun e o => rForL dg tb J ds e o, ct := fun e o => rForL dg tb J ds e o, bk := J.nx } env' os
def rFor (ti : DI) (dg : DG) (tb : DR) : DR := fun J env os => ti env (fun ds v => v = true ∧ rForL dg tb J ds env os) (J.ex os)
theorem prs_for {tg iter : Expr} {body : List Stmt} {is : List Nat} {dg : DG} {tb : DR} {ti : DI} (po : PassesOwn (model X.prog X.w) X.A X.env X.xe) (hc : X.calm = true) (hi : PDI X E tg iter ti) (hg : PGD X tg is dg) (hb : PRSs X E body tb)
    (hs : ∀ x, foldedSetIterable iter X.env x = pure x := by intro _; rfl) : PRS X E (.For tg iter body [] pos) (rFor ti dg tb) := by
  obtain ⟨g, pg, gg⟩ := hg
  refine PS.wk (ps_for po hc (show PI X tg iter (liftI X.K E ti) from hi) pg hb hs) ?_
  rintro Z σ H ⟨G0, H0, G, env, os, J, e, r0, no, h, z⟩
  refine ⟨G0, H0, G, env, _, _, e, h, ?_, z.ex os G H e.keep e.gok r0⟩
  rintro ds v r G1 H1 Jt ⟨isv, hd⟩ k1 g1 rr wk
  cases r with
  | brw _ => cases isv
  | bin _ _ _ => cases isv
  | val d =>
    have e1 := (e.step k1 g1).tmpCons (show Rep X.K G1 H1 v d from rr)
    have rep : ∀ {G' H' σ' env'}, EnvOk X.K G0 ⟨H0.hp, (v, d) :: H0.tmp⟩ G' H' σ' env' → RRep X.K G' H' v (.val d) := fun e' => e'.tmp (v, d) List.mem_cons_self
    refine ⟨fun i m σ' H' => ∃ G' env' os', i ≤ ds.length ∧ m = ds.length - i ∧ EnvOk X.K G0 ⟨H0.hp, (v, d) :: H0.tmp⟩ G' H' σ' env' ∧ RegOk X.K H0.hp G' H' os' ∧ noOwnB env' = true ∧ rForL dg tb J (ds.drop i) env' os', ⟨ds.length, G1, env, os, Nat.zero_le _, rfl, e1, r0.step k1, no, hd⟩, ?_⟩
    rintro i m σ' H' ⟨G', env', os', hi', rfl, e', r', no', hd'⟩
    obtain ⟨w1, w2⟩ := wk G' H' e'.gok (rep e') i
    by_cases hlt : i < ds.length
    · obtain ⟨go, yl⟩ := w1 hlt
      refine .inr ⟨go, fun σ2 H2 => ∃ G2 env2 os2, EnvOk X.K G0 ⟨H0.hp, (v, d) :: H0.tmp⟩ G2 H2 σ2 env2 ∧ RegOk X.K H0.hp G2 H2 os2 ∧ noOwnB env2 = true ∧ rForL dg tb J (ds.drop (i + 1)) env2 os2, fun σ2 H2 ⟨G2, env2, os2, e2, r2, no2, h2⟩ => ⟨ds.length - (i + 1), by omega, G2, env2, os2, hlt, rfl, e2, r2, no2, h2⟩, fun y H2 hy => ?_⟩
      obtain ⟨dy, hdy, G2, k2, g2, ry⟩ := yl y H2 hy
      rw [List.drop_eq_getElem_cons hlt] at hd'
      rw [List.getElem?_eq_getElem hlt] at hdy
      cases hdy
      obtain ⟨env3, he3, no3, hb3⟩ := hd'
      refine gg X.K G0 _ G2 H2 σ' env' y _ env3 rfl (e'.step k2 g2) ry he3 _ fun vs e3 => ?_
      refine ⟨G0, _, G2, env3, os', _, e3, r'.step k2, no3, hb3, ⟨fun env4 os4 G4 σ4 H4 q4 e4 r4 no4 => ⟨G4, env4, os4, e4, r4, no4, q4⟩, z.rt, fun env4 os4 G4 σ4 H4 q4 e4 r4 no4 => z.nx env4 os4 G4 σ4 H4 q4 e4.tmpTail r4 no4, fun env4 os4 G4 σ4 H4 q4 e4 r4 no4 => ⟨G4, env4, os4, e4, r4, no4, q4⟩, z.ex⟩⟩
    · refine .inl ⟨w2 (by omega), ?_⟩
      rw [List.drop_eq_nil_of_le (by omega)] at hd'
      exact z.nx env' os' G' σ' H' hd' e'.tmpTail r' no'
/-! ### a list in a list: x[k].append(e) -/
theorem rep_adr {K : PySem.W.Frag} {G : Gm} {H : Hp} {v : V} {a : Addr} (h : Rep K G H v (.adr a)) : v = .ref a := by cases h; rfl
/-! ### lists in a list, made and given back -/
theorem noOwnB_set {env : SE} {d : D} (i : Nat) (h : noOwnB env = true) : noOwnB (env.set i (.val d)) = true := by
  refine List.all_eq_true.mpr fun y hy => ?_
  rcases List.mem_or_eq_of_mem_set hy with z | z
  · exact List.all_eq_true.mp h y z
  · rw [z]
/-- the region let go -/
def unR (G : Gm) (os : Reg) : Gm := fun b => if b ∈ os.map (·.1) then none else G b
theorem RegOk.free {K : PySem.W.Frag} {G0 G : Gm} {H0 : HB} {H : Hp} {os : Reg} (r : RegOk K H0.hp G H os) (k : Keep G0 G H0.hp H) (g : GOk G H) : Keep G0 (unR G os) H0.hp H ∧ GOk (unR G os) H := by
  have sub : ∀ b x, unR G os b = some x → G b = some x := fun b x h => by
    unfold unR at h
    split at h
    · cases h
    · exact h
  refine ⟨⟨k.obj, k.pen, k.memo, fun b hb => ?_, k.tab⟩, ⟨fun b x h => g.lst b x (sub b x h), fun b h => g.pen b (sub b _ h), fun b K J h => g.memo b K J (sub b _ h)⟩⟩
  have : unR G os b = G b := by
    unfold unR
    rw [if_neg fun z => ?_]
    obtain ⟨p, h1, h2⟩ := List.mem_map.mp z
    exact hb (h2 ▸ r.new p h1)
  rw [this]
  exact k.gh b hb
/-- a def of such a text -/
theorem noOwn_start {n : Nat} {ds : List D} : noOwnB (startE n ds) = true := by
  refine List.all_eq_true.mpr fun y hy => ?_
  unfold startE at hy
  rcases List.mem_append.mp hy with h | h
  · obtain ⟨d, _, rfl⟩ := List.mem_map.mp h; rfl
  · rw [(List.mem_replicate.mp h).2]
theorem def_okR {P : Program} {w : World} {K : PySem.W.Frag} {mg : Str → Option Value} {base : Heap} {x qual : Str} {st : Stmt} {f : Addr} {fd : FuncData} {N ps : List Str} {k : Nat} {F : DF} {t : DR} (fn : Fun K x qual st f fd) (S : FnScope N ps (defScope st))
    (body : ∀ (cdv : Value) (A : Around) (callers : List PySem.Env) (s : Shared) (H : Hp) (E : XK), BC (cxOf (L2.CX P w) P w K mg base N qual (defScope st) f cdv A callers s H E) E k →
      PassesOwn (model P w) (cxOf (L2.CX P w) P w K mg base N qual (defScope st) f cdv A callers s H E).A (cxOf (L2.CX P w) P w K mg base N qual (defScope st) f cdv A callers s H E).env (cxOf (L2.CX P w) P w K mg base N qual (defScope st) f cdv A callers s H E).xe →
      PRSs (cxOf (L2.CX P w) P w K mg base N qual (defScope st) f cdv A callers s H E) E (defBody st) t)
    (pure : ∀ ds q x, F ds q x → ds.length = ps.length ∧ t { nx := fun _ _ => q .non, rt := fun d _ => q d, ex := fun _ => x } (startE N.length ds) []) : FnG P w K mg base (k + 1) f fd ps (spOf K F) := by
  refine fnG_of fn S (fun vs H Q E ⟨G, ds, q, x, g, r, h, _⟩ => by rw [r.length]; exact (pure ds q x h).1) fun cdv A l s H vs Q E B po ⟨G, ds, q, x, g, r, h, hq, hx⟩ => ?_
  refine ⟨_, body cdv A l s H E B po, G, ⟨H, []⟩, G, startE N.length ds, [], _, startE_ok g r, RegOk.nil, noOwn_start, (pure ds q x h).2, ⟨?_, ?_, fun _ _ _ _ _ z => z.elim, fun _ _ _ _ _ z => z.elim, fun os' G' H' k' g' _ => hx.keep g k'⟩⟩
  · intro env' os' G' σ' H' z e' _ _
    exact hq .non .non G' H' z e'.keep e'.gok .non
  · intro d os' v G' H' z k' g' _ r'
    exact hq d v G' H' z k' g' r'
end
end QD
/-! a region lent to defs: expressions that change it, calls -/
namespace QD
open PySem PySem.Spec PyProof.Rows L2
/-- the heap without the region -/
def offR (H : Hp) (os : Reg) : Hp := fun b => if b ∈ os.map (·.1) then none else H b
theorem offR_in {H : Hp} {os : Reg} {b : Addr} (h : b ∈ os.map (·.1)) : offR H os b = none := if_pos h
theorem offR_out {H : Hp} {os : Reg} {b : Addr} (h : b ∉ os.map (·.1)) : offR H os b = H b := if_neg h
theorem offR_some {H : Hp} {os : Reg} {b : Addr} {o : HO} (h : offR H os b = some o) : b ∉ os.map (·.1) ∧ H b = some o := by
  by_cases z : b ∈ os.map (·.1)
  · rw [offR_in z] at h; cases h
  · rw [offR_out z] at h; exact ⟨z, h⟩
theorem unR_in {G : Gm} {os : Reg} {b : Addr} (h : b ∈ os.map (·.1)) : unR G os b = none := if_pos h
theorem unR_out {G : Gm} {os : Reg} {b : Addr} (h : b ∉ os.map (·.1)) : unR G os b = G b := if_neg h
section
variable {K : PySem.W.Frag} {G0 G G' : Gm} {H0 : Hp} {H H' : Hp} {os os' : Reg}
theorem RegOk.hidden (r : RegOk K H0 G H os) {b : Addr} (h : b ∈ os.map (·.1)) : G b = some .hid := by
  obtain ⟨p, h1, h2⟩ := List.mem_map.mp h
  exact h2 ▸ r.hid p h1
theorem RegOk.out (r : RegOk K H0 G H os) {b : Addr} (e : G b ≠ some .hid) : b ∉ os.map (·.1) := fun z => e (r.hidden z)
theorem RegOk.mutb (r : RegOk K H0 G H os) {b : Addr} (h : b ∈ os.map (·.1)) : ∃ o, H b = some o ∧ MutO o := by
  obtain ⟨p, h1, h2⟩ := List.mem_map.mp h
  exact h2 ▸ (r.at_ p h1).mut
theorem RegOk.newb (r : RegOk K H0 G H os) {b : Addr} (h : b ∈ os.map (·.1)) : H0 b = none := by
  obtain ⟨p, h1, h2⟩ := List.mem_map.mp h
  exact h2 ▸ r.new p h1
theorem RegOk.ntb (r : RegOk K H0 G H os) {b : Addr} (h : b ∈ os.map (·.1)) : NT H b := by
  obtain ⟨o, e, m⟩ := r.mutb h
  exact m.off e
theorem RegOk.tabN (r : RegOk K H0 G H os) {P : Addr} {q : Str} (t : TabN H P q) : TabN (offR H os) P q := by
  obtain ⟨eq, ps, e, tr, ch⟩ := t
  refine ⟨eq, ps, ?_, tr, fun pos cv z => ?_⟩
  · rw [offR_out fun y => (r.ntb y).1 ps e]; exact e
  · obtain ⟨c, e1, e2⟩ := ch pos cv z
    refine ⟨c, e1, ?_⟩
    rw [offR_out fun y => (r.ntb y).2 _ e2]; exact e2
theorem RegOk.tups (r : RegOk K H0 G H os) : TupS H (offR H os) := fun a xs rd => by
  have : a ∉ os.map (·.1) := fun z => by
    obtain ⟨o, e, m⟩ := r.mutb z
    exact m.nrd e xs rd
  unfold Rd
  rw [offR_out this]
  exact rd
theorem RegOk.memR (r : RegOk K H0 G H os) {b : Addr} {K' : PySem.W.Frag} {J : Int → Pl → Prop} (e : G b = some (.memo K' J)) (m : MemoAt K' J H b) : MemoAt K' J (offR H os) b :=
  m.ext r.tups fun kvs h => by rw [offR_out (r.out (by rw [e]; nofun))]; exact h
theorem RegOk.penR (r : RegOk K H0 G H os) {b : Addr} (e : G b = some .pen) (m : PenAt H b) : PenAt (offR H os) b := by
  obtain ⟨i, j, k, h, z⟩ := m
  exact ⟨i, j, k, by rw [offR_out (r.out (by rw [e]; nofun))]; exact h, z⟩
theorem RegOk.un (r : RegOk K H0 G H os) {b : Addr} (e : G b = none) : unR G os b = none := by
  unfold unR; split <;> simp [e]
theorem RegOk.same (r : RegOk K H0 G H os) {b : Addr} (e : G b = none) : offR H os b = H b := offR_out (r.out (by rw [e]; nofun))
theorem RegOk.rdR (r : RegOk K H0 G H os) {b : Addr} {o : HO} (e : G b = none) (q : Rd H b o) : Rd (offR H os) b o := by
  unfold Rd; rw [r.same e]; exact q
mutual
theorem Rep.offR (r : RegOk K H0 G H os) : ∀ {v : V} {d : D}, Rep K G H v d → Rep K (unR G os) (offR H os) v d
  | _, _, .non => .non
  | _, _, .bl b => .bl b
  | _, _, .int i => .int i
  | _, _, .str x => .str x
  | _, _, .tup e q l => .tup (r.un e) (r.rdR e q) (RepL.offR r l)
  | _, _, .lst e q l => .lst (r.un e) (by rw [r.same e]; exact q) (RepL.offR r l)
  | _, _, .scr q l => .scr (q.imp (fun ⟨e, o, z⟩ => ⟨r.un e, o, by rw [r.same e]; exact z⟩) id) (RepL.offR r l)
  | _, _, .dct e q z l => .dct (r.un e) (r.rdR e q) z (RepL.offR r l)
  | _, _, .dcl e q => .dcl (r.un e) (by rw [r.same e]; exact q)
  | _, _, .ins e q z l => .ins (r.un e) (by rw [r.same e]; exact q) z (RepL.offR r l)
  | _, _, .pen e p => .pen (by rw [unR_out (r.out (by rw [e]; nofun))]; exact e) (r.penR e p)
  | _, _, .memo e m => .memo (by rw [unR_out (r.out (by rw [e]; nofun))]; exact e) (r.memR e m)
  | _, _, .tupN e ⟨o, q, z⟩ l => .tupN (r.un e) ⟨o, by rw [r.same e]; exact q, z⟩ (RepL.offR r l)
  | _, _, .adr => .adr
  | _, _, .wo e q l d => .wo (r.un e) (by rw [r.same e]; exact q) (RepL.offR r l) (Rep.offR r d)
  | _, _, .knil z => .knil z
  | _, _, .exo0 => .exo0
  | _, _, .exo e q n l => .exo (r.un e) (by rw [r.same e]; exact q) n (RepL.offR r l)
  | _, _, .tab t => .tab (r.tabN t)
  | _, _, .two a b => .two (Rep.offR r a) (Rep.offR r b)
theorem RepL.offR (r : RegOk K H0 G H os) : ∀ {vs : List V} {ds : List D}, RepL K G H vs ds → RepL K (unR G os) (offR H os) vs ds
  | _, _, .nil => .nil
  | _, _, .cons a b => .cons (Rep.offR r a) (RepL.offR r b)
end
theorem unR_some {b : Addr} {g : Gh} (h : unR G os b = some g) : b ∉ os.map (·.1) ∧ G b = some g := by
  by_cases z : b ∈ os.map (·.1)
  · rw [unR_in z] at h; cases h
  · rw [unR_out z] at h; exact ⟨z, h⟩
theorem RegOk.gokR (r : RegOk K H0 G H os) (g : GOk G H) : GOk (unR G os) (QD.offR H os) := ⟨fun b x h => by
  obtain ⟨z, h⟩ := unR_some h
  obtain ⟨o, q, m⟩ := g.lst b x h
  exact ⟨o, by rw [offR_out z]; exact q, m⟩, fun b h => r.penR (unR_some h).2 (g.pen b (unR_some h).2), fun b K' J h => r.memR (unR_some h).2 (g.memo b K' J (unR_some h).2)⟩
theorem RegOk.keepR (r : RegOk K H0 G H os) (g : GOk G H) : Keep (unR G os) G (QD.offR H os) H := ⟨fun b o h _ _ => (offR_some h).2, fun b h _ => g.pen b (unR_some h).2, fun b K' J h _ => g.memo b K' J (unR_some h).2, fun b h => by
  cases z : QD.offR H os b with
  | none => exact absurd z h
  | some o => exact (unR_out (offR_some z).1).symm, fun b ps h => ⟨ps, (offR_some h).2, fun q t => t.ext fun c o h => (offR_some h).2⟩⟩
theorem RegOk.re (r : RegOk K H0 G H os) : RegOk K (QD.offR H os) G H os := ⟨r.nd, r.hid, fun p h => offR_in (List.mem_map_of_mem h), r.at_⟩
end
section
variable {K : PySem.W.Frag} {G0 G1 G G' : Gm} {H0 H1 : HB} {H H' : Hp} {σ : L2.St} {env : SE} {os os' : Reg}
theorem EnvOk.base (e : EnvOk K G1 H1 G H σ env) (no : noOwnB env = true) (g0 : GOk G0 H0.hp) (k : Keep G0 G H0.hp H) (t : ∀ p ∈ H0.tmp, Rep K G H p.1 p.2) : EnvOk K G0 H0 G H σ env :=
  ⟨g0, k, e.gok, e.len, t, e.val, fun _ _ h => absurd h (noOwn no), fun _ _ _ _ _ _ h => absurd h (noOwn no), DicOk.non (fun _ _ _ z => noDic no z) fun _ _ _ _ _ _ z => noSto no z⟩
theorem EnvOk.rebaseR {H2 : Hp} (e : EnvOk K G0 H0 G H σ env) (r : RegOk K H2 G H os) (no : noOwnB env = true) : EnvOk K (unR G os) ⟨offR H os, []⟩ G H σ env := e.base no (r.gokR e.gok) (r.keepR e.gok) (fun _ h => nomatch h)
theorem EnvOk.lowR (e : EnvOk K G0 H0 G H σ env) (r : RegOk K H0.hp G H os) : Keep G0 (unR G os) H0.hp (offR H os) := by
  have ne : ∀ {b}, H0.hp b ≠ none → b ∉ os.map (·.1) := fun h z => h (r.newb z)
  refine ⟨fun b o h n nt => ?_, fun b g p => ?_, fun b K' J g p => ?_, fun b h => ?_, fun b ps h => ?_⟩
  · rw [offR_out (ne (by rw [h]; simp))]; exact e.keep.obj b o h n nt
  · have hn : H0.hp b ≠ none := by obtain ⟨_, _, _, q, _⟩ := p; rw [q]; simp
    exact r.penR (by rw [e.keep.gh b hn]; exact g) (e.keep.pen b g p)
  · exact r.memR (by rw [e.keep.gh b p.ne]; exact g) (e.keep.memo b K' J g p)
  · rw [unR_out (ne h)]; exact e.keep.gh b h
  · obtain ⟨ps', q1, q2⟩ := e.keep.tab b ps h
    exact ⟨ps', by rw [offR_out fun z => (r.ntb z).1 ps' q1]; exact q1, fun q t => r.tabN (q2 q t)⟩
theorem EnvOk.debaseR (e : EnvOk K G0 H0 G H σ env) (r : RegOk K H0.hp G H os) (no : noOwnB env = true) (k : Keep (unR G os) G' (offR H os) H') (g : GOk G' H') : EnvOk K G0 H0 G' H' σ env :=
  ⟨e.g0, (e.lowR r).trans e.g0 k, g, e.len, fun p hp => Rep.keep k (Rep.offR r (e.tmp p hp)), fun i d h => by
    obtain ⟨v, a, b⟩ := e.val i d h
    exact ⟨v, a, Rep.keep k (Rep.offR r b)⟩, fun _ _ h => absurd h (noOwn no), fun _ _ _ _ _ _ h => absurd h (noOwn no), DicOk.non (fun _ _ _ z => noDic no z) fun _ _ _ _ _ _ z => noSto no z⟩
theorem RegOk.deb (e : EnvOk K G0 H0 G H σ env) (r : RegOk K H0.hp G H os) (r' : RegOk K (offR H os) G' H' os') : RegOk K H0.hp G' H' os' := ⟨r'.nd, r'.hid, fun p h => by
  cases z : H0.hp p.1 with
  | none => rfl
  | some o =>
    have h1 : H0.hp p.1 ≠ none := by rw [z]; simp
    have h2 := e.keep.dom e.g0 h1
    have h3 := r'.new p h
    rw [offR_out fun y => h1 (r.newb y)] at h3
    exact absurd h3 h2, r'.at_⟩
end
/-! ### defs that are lent a region -/
abbrev FR := List D → Reg → (D → Reg → Prop) → (Reg → XP) → Prop
def spR (K : PySem.W.Frag) (F : FR) : Sp := fun vs H Q E => ∃ (G0 : Gm) (H0 : Hp) (G : Gm) (ds : List D) (os : Reg) (q : D → Reg → Prop) (x : Reg → XP), GOk G0 H0 ∧ Keep G0 G H0 H ∧ GOk G H ∧ RegOk K H0 G H os ∧ RepL K G H vs ds ∧ F ds os q x ∧
  (∀ d os' v G' H', q d os' → Keep G0 G' H0 H' → GOk G' H' → RegOk K H0 G' H' os' → Rep K G' H' v d → Q v H') ∧
  (∀ os' G' H', Keep G0 G' H0 H' → GOk G' H' → RegOk K H0 G' H' os' → XOk K E G' H' (x os'))
theorem def_okS {P : Program} {w : World} {K : PySem.W.Frag} {mg : Str → Option Value} {base : Heap} {x qual : Str} {st : Stmt} {f : Addr} {fd : FuncData} {N ps : List Str} {k : Nat} {F : FR} {t : DR} (fn : Fun K x qual st f fd) (S : FnScope N ps (defScope st))
    (body : ∀ (cdv : Value) (A : Around) (callers : List PySem.Env) (s : Shared) (H : Hp) (E : XK), BC (cxOf (L2.CX P w) P w K mg base N qual (defScope st) f cdv A callers s H E) E k →
      PassesOwn (model P w) (cxOf (L2.CX P w) P w K mg base N qual (defScope st) f cdv A callers s H E).A (cxOf (L2.CX P w) P w K mg base N qual (defScope st) f cdv A callers s H E).env (cxOf (L2.CX P w) P w K mg base N qual (defScope st) f cdv A callers s H E).xe →
      PRSs (cxOf (L2.CX P w) P w K mg base N qual (defScope st) f cdv A callers s H E) E (defBody st) t)
    (pure : ∀ ds os q x, F ds os q x → ds.length = ps.length ∧ t { nx := fun _ os' => q .non os', rt := q, ex := x } (startE N.length ds) os) : FnG P w K mg base (k + 1) f fd ps (spR K F) := by
  refine fnG_of fn S (fun vs H Q E ⟨_, _, _, ds, os, q, x, _, _, _, _, rl, h, _⟩ => by rw [rl.length]; exact (pure ds os q x h).1) fun cdv A l s H vs Q E B po ⟨G0, H0, G, ds, os, q, x, g0, k0, g, r, rl, h, hq, hx⟩ => ?_
  refine ⟨_, body cdv A l s H E B po, G0, ⟨H0, []⟩, G, startE N.length ds, os, _, (startE_ok g rl).base noOwn_start g0 k0 (fun _ h => nomatch h), r, noOwn_start, (pure ds os q x h).2, ⟨?_, ?_, fun _ _ _ _ _ z => z.elim, fun _ _ _ _ _ z => z.elim, hx⟩⟩
  · intro env' os' G' σ' H' z e' r' _
    exact hq .non os' .non G' H' z e'.keep e'.gok r' .non
  · intro d os' v G' H' z k' g' r' rp
    exact hq d os' v G' H' z k' g' r' rp
theorem FnG.noR {P : Program} {w : World} {K : PySem.W.Frag} {mg : Str → Option Value} {base : Heap} {k : Nat} {x qual : Str} {st : Stmt} {f : Addr} {fd : FuncData} {ps : List Str} {F : FR} (_ : Fun K x qual st f fd) (h : ∀ ds os q x, ¬ F ds os q x) : FnG P w K mg base k f fd ps (spR K F) := by
  refine ⟨fun vs H Q E z => ?_, fun A callers s H a us vs Q E hg hr e0 bt r z => ?_⟩
  · obtain ⟨_, _, _, _, _, _, _, _, _, _, _, _, hF, _⟩ := z
    exact absurd hF (h _ _ _ _)
  · obtain ⟨_, _, _, _, _, _, _, _, _, _, _, _, hF, _⟩ := z
    exact absurd hF (h _ _ _ _)
theorem callR {K : PySem.W.Frag} {G0 G : Gm} {H0 : HB} {H : Hp} {σ : L2.St} {env : SE} {os : Reg} {F : FR} {vs : List V} {as : List D} {q : D → Reg → Prop} {x : Reg → XP} {Q : VK} {E : XK} (e : EnvOk K G0 H0 G H σ env) (r : RegOk K H0.hp G H os) (no : noOwnB env = true) (rv : RepL K G H vs as) (hF : F as os q x)
    (hq : ∀ d os' v G' H', q d os' → EnvOk K G0 H0 G' H' σ env → RegOk K H0.hp G' H' os' → Rep K G' H' v d → Q v H')
    (hx : ∀ os' G' H', Keep G0 G' H0.hp H' → GOk G' H' → RegOk K H0.hp G' H' os' → XOk K E G' H' (x os')) : spR K F vs H Q E := by
  refine ⟨unR G os, offR H os, G, as, os, q, x, r.gokR e.gok, r.keepR e.gok, e.gok, r.re, rv, hF, ?_, ?_⟩
  · intro d os' v G' H' qd k' g' r' rd
    exact hq d os' v G' H' qd (e.debaseR r no k' g') (RegOk.deb e r r') rd
  · intro os' G' H' k' g' r'
    exact hx os' G' H' (e.debaseR r no k' g').keep g' (RegOk.deb e r r')
/-! ### expressions that change the region -/
abbrev DRE := SE → Reg → (R → Reg → Prop) → (Reg → XP) → Prop
def liftRE (K : PySem.W.Frag) (E : XK) (t : DRE) : TE := fun σ H Q => ∃ G0 H0 G env os q x, EnvOk K G0 H0 G H σ env ∧ RegOk K H0.hp G H os ∧ noOwnB env = true ∧ t env os q x ∧
  (∀ r os' v G' H', q r os' → EnvOk K G0 H0 G' H' σ env → RegOk K H0.hp G' H' os' → RRep K G' H' v r → Q v H') ∧
  (∀ os' G' H', Keep G0 G' H0.hp H' → GOk G' H' → RegOk K H0.hp G' H' os' → XOk K E G' H' (x os'))
def PRE (X : Cx) (E : XK) (e : Expr) (t : DRE) : Prop := PE X e (liftRE X.K E t)
section
variable {X : Cx} {E : XK} {e o a b : Expr} {es : List Expr} {te ta tb : DE} {sA : DA} {t u : DR} {tr : DRE} {pos apos p p3 p4 : Pos} {k j : Nat} {C : Addr} {m x y : Str}
def reOf (te : DE) : DRE := fun env os q x => te env (fun r => q r os) (x os)
def reMeth (C : Addr) (m : Str) (F : FR) (te : DE) (sA : DA) : DRE := fun env os q x => te env (fun r => (∃ ns ds, r.d = .ins C ns ds ∧ m ∉ ns) ∧ sA env (fun rs => ∃ as, r :: rs = as.map R.val ∧ F as os (fun d os' => q (.val d) os') x) (x os)) (x os)
theorem reMeth_app (C : Addr) (m : Str) (F : FR) (te : DE) (sA : DA) (env : SE) (os : Reg) (q : R → Reg → Prop) (x : Reg → XP) : reMeth C m F te sA env os q x = te env (fun r => (∃ ns ds, r.d = .ins C ns ds ∧ m ∉ ns) ∧ sA env (fun rs => ∃ as, r :: rs = as.map R.val ∧ F as os (fun d os' => q (.val d) os') x) (x os)) (x os) := rfl
theorem pre_meth {F : FR} {pl : Sem Bool} (M : MetG X.prog X.w X.K X.mg X.base k C m (spR X.K F)) (B : BC X E j) (hk : k ≤ j) (he : PD X E o te) (ha : PDA X E (e :: es) sA)
    (hst : starEach (e :: es) X.env = (false, eval e X.env) :: starEach es X.env := by rfl) (hpl : (backTo pos (starEach es X.env)).any (·.1) = false := by rfl)
    (ht : eval (.Call (.Attribute o m apos) (e :: es) [] pos) X.env = (do
      let ov ← eval o X.env
      standAt apos.atName
      let (f, first) ← holding [ov] (getMethod ov m pl)
      callWith pos f first (backTo pos (starEach (e :: es) X.env)) (backToKw pos (keywordEach [] X.env))) := by rfl) : PRE X E (.Call (.Attribute o m apos) (e :: es) [] pos) (reMeth C m F te sA) := by
  refine PE.wk (pe_methG (show PE X o (lift X.K E te) from he) M B hk (show PA X (e :: es) (liftA X.K E sA) from ha) hst hpl ht) ?_
  rintro σ H Q ⟨G0, H0, G, env, os, q, x, ev, r, no, h, hq, hx⟩
  refine ⟨G0, H0, G, env, _, _, ev, h, ?_, hx os G H ev.keep ev.gok r⟩
  rintro r1 v G1 H1 ⟨⟨ns, ds, er, hm⟩, h2⟩ k1 g1 rr
  obtain ⟨l, dx, fs, rfl, ga, hl, e3, rl⟩ := rr.ins er
  have e1 := ev.step k1 g1
  have rr1 := r.step k1
  refine ⟨l, dx, fs, rfl, hl, lookup_no (by rw [e3]; exact hm), G0, H0, G1, env, _, _, e1, h2, ?_, hx os G1 H1 e1.keep e1.gok rr1⟩
  rintro rs vs G2 H2 ⟨as, eas, hF⟩ k2 g2 rl2
  rw [List.append_nil]
  have rl3 : RRepL X.K G2 H2 (.ref l :: vs) (as.map R.val) := eas ▸ RRepL.cons (rr.keep k2) rl2
  exact callR (e1.step k2 g2) (rr1.step k2) no rl3.vals hF (fun d os' v G' H' q1 e' r' rd => hq _ os' v G' H' q1 e' r' rd) hx
/-! ### statements -/
/-- x = e -/
def rSetE (i : Nat) (tr : DRE) : DR := fun J env os => tr env os (fun r os' => ∃ d, r = .val d ∧ J.nx (env.set i (.val d)) os') J.ex
theorem rSetE_app (i : Nat) (tr : DRE) (J : REnds) (env : SE) (os : Reg) : rSetE i tr J env os = tr env os (fun r os' => ∃ d, r = .val d ∧ J.nx (env.set i (.val d)) os') J.ex := rfl
theorem prs_setE (i : Nat) (hp : PRE X E e tr) (hNd : X.N.Nodup) (hi : X.N[i]? = some y := by rfl) (hy : Loc X.env.scope y := by first | exact Or.inl rfl | exact Or.inr rfl)
    (hs : swapsWith e (some (.Name y p4)) pos.line X.env = pure false := by rfl) (hf : X.fn y = true ∨ X.env.scope.names.lookup y = some .local := by first | exact .inl rfl | exact .inr rfl) : PRS X E (.Assign [.Name y p4] e pos) (rSetE i tr) := by
  refine PS.wk (ps_set hNd hi hy (show PE X e (liftRE X.K E tr) from hp) hs hf) ?_
  rintro Z σ H ⟨G0, H0, G, env, os, J, ev, r, no, h, z⟩
  refine ⟨G0, H0, G, env, os, _, _, ev, r, no, h, ?_, z.ex⟩
  rintro r1 os' v G' H' ⟨d, rfl, q⟩ e' r' rr
  exact z.nx _ os' G' _ H' q (e'.setVal i rr) r' (noOwnB_set i no)
/-- return e -/
def rRetE (tr : DRE) : DR := fun J env os => tr env os (fun r os' => ∃ d, r = .val d ∧ J.rt d os') J.ex
theorem rRetE_app (tr : DRE) (J : REnds) (env : SE) (os : Reg) : rRetE tr J env os = tr env os (fun r os' => ∃ d, r = .val d ∧ J.rt d os') J.ex := rfl
theorem prs_retE (hp : PRE X E e tr) : PRS X E (.Return (some e) pos) (rRetE tr) := by
  refine PS.wk (ps_ret (show PE X e (liftRE X.K E tr) from hp)) ?_
  rintro Z σ H ⟨G0, H0, G, env, os, J, ev, r, no, h, z⟩
  refine ⟨G0, H0, G, env, os, _, _, ev, r, no, h, ?_, z.ex⟩
  rintro r1 os' v G' H' ⟨d, rfl, q⟩ e' r' rr
  exact z.rt d os' v G' H' q e'.keep e'.gok r' rr
/-- return (a, b, e) -/
def rRet3 (ta tb : DE) (tr : DRE) : DR := fun J env os => ta env (fun r1 => ∃ d1, r1 = .val d1 ∧ tb env (fun r2 => ∃ d2, r2 = .val d2 ∧ tr env os (fun r os' => ∃ d, r = .val d ∧ J.rt (.tup [d1, d2, d]) os') J.ex) (J.ex os)) (J.ex os)
theorem rRet3_app (ta tb : DE) (tr : DRE) (J : REnds) (env : SE) (os : Reg) : rRet3 ta tb tr J env os = ta env (fun r1 => ∃ d1, r1 = .val d1 ∧ tb env (fun r2 => ∃ d2, r2 = .val d2 ∧ tr env os (fun r os' => ∃ d, r = .val d ∧ J.rt (.tup [d1, d2, d]) os') J.ex) (J.ex os)) (J.ex os) := rfl
theorem prs_ret3 {n : Nat} {pt : Pos} (ha : PD X E a ta) (hb : PD X E b tb) (hp : PRE X E e tr) (h1 : starEach [a, b, e] X.env = (false, eval a X.env) :: starEach [b, e] X.env := by rfl) (h2 : starEach [b, e] X.env = (false, eval b X.env) :: starEach [e] X.env := by rfl)
    (h3 : starEach [e] X.env = (false, eval e X.env) :: starEach [] X.env := by rfl) : PRS X E (.Return (some (.Tuple [a, b, e] n pt)) pos) (rRet3 ta tb tr) := by
  refine PS.wk (ps_ret (pe_tup (pa_cons (show PE X a (lift X.K E ta) from ha) (pa_cons (show PE X b (lift X.K E tb) from hb) (pa_cons (show PE X e (liftRE X.K E tr) from hp) pa_nil h3) h2) h1))) ?_
  rintro Z σ H ⟨G0, H0, G, env, os, J, ev, r, no, h, z⟩
  refine ⟨G0, H0, G, env, _, _, ev, h, ?_, z.ex os G H ev.keep ev.gok r⟩
  rintro r1 v1 G1 H1 ⟨d1, rfl, h1⟩ k1 g1 rr1
  have e1 := ev.step k1 g1
  have s1 := r.step k1
  refine ⟨G0, H0, G1, env, _, _, e1, h1, ?_, z.ex os G1 H1 e1.keep e1.gok s1⟩
  rintro r2 v2 G2 H2 ⟨d2, rfl, h2⟩ k2 g2 rr2
  have e2 := e1.step k2 g2
  have s2 := s1.step k2
  have e3 := (e2.tmpCons (show Rep X.K G2 H2 v2 d2 from rr2)).tmpCons (Rep.keep k2 (show Rep X.K G1 H1 v1 d1 from rr1))
  refine ⟨G0, _, G2, env, os, _, _, e3, s2, no, h2, ?_, z.ex⟩
  rintro r4 os' v G' H' ⟨d, rfl, q⟩ e' r' rr
  have w1 := e'.tmp (v1, d1) List.mem_cons_self
  have w2 := e'.tmp (v2, d2) (List.mem_cons_of_mem _ List.mem_cons_self)
  have rl : RepL X.K G' H' [v1, v2, v] [d1, d2, d] := .cons w1 (.cons w2 (.cons rr .nil))
  refine ⟨by rw [sizeLine_eq]; show 3 ≤ 16777216; omega, fun q0 hq0 => ?_⟩
  exact z.rt _ os' _ G' _ q (e'.keep.trans e'.g0 (Keep.laid hq0)) (e'.gok.laid hq0) (r'.step (Keep.laid hq0)) (Rep.newT e'.gok hq0 rl)
/-- e -/
def rExprE (tr : DRE) : DR := fun J env os => tr env os (fun _ os' => J.nx env os') J.ex
theorem rExprE_app (tr : DRE) (J : REnds) (env : SE) (os : Reg) : rExprE tr J env os = tr env os (fun _ os' => J.nx env os') J.ex := rfl
theorem prs_exprE (hp : PRE X E e tr) (hs : swapsWith e none pos.line X.env = pure false := by rfl) : PRS X E (.Expr e pos) (rExprE tr) := by
  refine PS.wk (ps_expr (show PE X e (liftRE X.K E tr) from hp) hs) ?_
  rintro Z σ H ⟨G0, H0, G, env, os, J, ev, r, no, h, z⟩
  refine ⟨G0, H0, G, env, os, _, _, ev, r, no, h, ?_, z.ex⟩
  rintro r1 os' v G' H' q e' r' rr
  exact z.nx _ os' G' _ H' q e' r' no
theorem noOwnB_setE : ∀ {is : List Nat} {ds : List D} {env : SE}, noOwnB env = true → noOwnB (setE is (ds.map RF.val) env) = true
  | [], ds, _, h => by cases ds <;> exact h
  | _ :: _, [], _, h => h
  | i :: is, d :: ds, env, h => noOwnB_setE (is := is) (ds := ds) (noOwnB_set (d := d) i h)
/-- a, b = e -/
def rUnpE (is : List Nat) (tr : DRE) : DR := fun J env os => tr env os (fun r os' => ∃ ds, r = .val (.tup ds) ∧ ds.length = is.length ∧ J.nx (setE is (ds.map RF.val) env) os') J.ex
theorem rUnpE_app (is : List Nat) (tr : DRE) (J : REnds) (env : SE) (os : Reg) : rUnpE is tr J env os = tr env os (fun r os' => ∃ ds, r = .val (.tup ds) ∧ ds.length = is.length ∧ J.nx (setE is (ds.map RF.val) env) os') J.ex := rfl
theorem prs_unpE {is : List Nat} {tgs : List Expr} {tt : TGs} {kt : Nat} {pt : Pos} (hp : PRE X E a tr) (gn : GN X tgs is tt) (hc : X.calm = true) (hN : X.N.Nodup)
    (hn : (assignEach tgs X.env).length = is.length := by rfl) (hst : (assignEach tgs X.env).findIdx? (·.1) = none := by rfl)
    (hs : swapsWithSole [.Tuple tgs kt pt] a pos.line X.env = pure false := by rfl) (hw : swappedStores [.Tuple tgs kt pt] a X.env = pure none := by rfl)
    (h1 : (assignEach [.Tuple tgs kt pt] X.env).map (·.2) = [assign (.Tuple tgs kt pt) X.env] := by rfl) : PRS X E (.Assign [.Tuple tgs kt pt] a pos) (rUnpE is tr) := by
  refine PS.wk (ps_asg (show PE X a (liftRE X.K E tr) from hp) (pg_tup hc (gn.pgs hN) hn hst) hs hw h1) ?_
  rintro Z σ H ⟨G0, H0, G, env, os, J, ev, r, no, h, z⟩
  refine ⟨G0, H0, G, env, os, _, _, ev, r, no, h, ?_, z.ex⟩
  rintro r1 os' v G' H' ⟨ds, rfl, hl, q⟩ e' r' rr
  obtain ⟨l, vs, rfl, hs, hv⟩ := rr.tup rfl
  have l2 := hv.length.trans hl
  exact ⟨l, vs, rfl, hs, l2, gn.set l2 (z.nx _ os' G' _ H' q (e'.setBatch (Keep.refl _ _) e'.gok is (frep_vals hv)) r' (noOwnB_setE no))⟩
/-- while -/
def rWhileL (c : DT) (tb : DR) (J : REnds) : Nat → SE → Reg → Prop
  | 0, _, _ => False
  | n + 1, env, os => c env (fun k => if k = true then tb { J with nx := fun e o => rWhileL c tb J n e o, ct := fun e o => rWhileL c tb J n e o, bk := J.nx } env os else J.nx env os) (J.ex os)
def rWhile (c : DT) (tb : DR) : DR := fun J env os => ∃ n, rWhileL c tb J n env os
theorem prs_while {c : Expr} {sc : DT} {body : List Stmt} {tb : DR} (po : PassesOwn (model X.prog X.w) X.A X.env X.xe) (hc : PDT X E c sc) (hb : PRSs X E body tb) : PRS X E (.While c body [] pos) (rWhile sc tb) := by
  refine PS.wk (ps_while po (show PT X c (liftT X.K E sc) from hc) hb) ?_
  rintro Z σ H ⟨G0, H0, G, env, os, J, e, r, no, ⟨n, h⟩, z⟩
  refine ⟨fun m σ' H' => ∃ G' env' os', EnvOk X.K G0 H0 G' H' σ' env' ∧ RegOk X.K H0.hp G' H' os' ∧ noOwnB env' = true ∧ rWhileL sc tb J m env' os', ⟨n, G, env, os, e, r, no, h⟩, ?_⟩
  rintro m σ' H' ⟨G', env', os', e', r', no', h'⟩
  cases m with
  | zero => exact h'.elim
  | succ m =>
    refine ⟨G0, H0, G', env', _, _, e', h', ?_, z.ex os' G' H' e'.keep e'.gok r'⟩
    rintro k G2 H2 qk k2 g2
    have e2 := e'.step k2 g2
    have r2 := r'.step k2
    cases k with
    | false => exact z.nx env' os' G2 σ' H2 qk e2 r2 no'
    | true =>
      refine ⟨fun σ3 H3 => ∃ G3 env3 os3, EnvOk X.K G0 H0 G3 H3 σ3 env3 ∧ RegOk X.K H0.hp G3 H3 os3 ∧ noOwnB env3 = true ∧ rWhileL sc tb J m env3 os3, fun σ3 H3 z => ⟨m, Nat.lt_succ_self m, z⟩, ?_⟩
      exact ⟨G0, H0, G2, env', os', _, e2, r2, no', qk, ⟨fun env4 os4 G4 σ4 H4 q4 e4 r4 no4 => ⟨G4, env4, os4, e4, r4, no4, q4⟩, z.rt, fun env4 os4 G4 σ4 H4 q4 e4 r4 no4 => z.nx env4 os4 G4 σ4 H4 q4 e4 r4 no4, fun env4 os4 G4 σ4 H4 q4 e4 r4 no4 => ⟨G4, env4, os4, e4, r4, no4, q4⟩, z.ex⟩⟩
end
end QD
/-! lists and dicts of a region, reached by a field of an object -/
namespace QD
open PySem PySem.Spec PyProof.Rows L2
section
variable {K : PySem.W.Frag} {G0 G : Gm} {H0 : HB} {H : Hp} {σ : L2.St} {env : SE} {os : Reg}
theorem Wr.gokO {l : Addr} {o : HO} (w : Wr G l H (upd H l o)) (mo : MutO o) (g : GOk G H) : GOk G (upd H l o) := ⟨fun b x gb => by
  by_cases nb : b = l
  · subst nb; exact ⟨_, upd_same, mo⟩
  · obtain ⟨zs, qz, m⟩ := g.lst b x gb
    exact ⟨zs, by rw [upd_ne nb]; exact qz, m⟩, fun b gb => w.pen gb (g.pen b gb), fun b K J gb => w.memo gb (g.memo b K J gb)⟩
theorem EnvOk.wrO {l : Addr} {o : HO} (e : EnvOk K G0 H0 G H σ env) (no : noOwnB env = true) (h0 : H0.hp l = none) (w : Wr G l H (upd H l o)) (mo : MutO o) : EnvOk K G0 H0 G (upd H l o) σ env :=
  ⟨e.g0, ⟨fun b o hb nb nt => by
      rw [upd_ne fun z => by rw [z, h0] at hb; cases hb]
      exact e.keep.obj b o hb nb nt, fun b gb pb => w.pen (by rw [e.keep.gh b (by obtain ⟨_, _, _, q, _⟩ := pb; rw [q]; simp)]; exact gb) (e.keep.pen b gb pb), fun b K J gb pb => w.memo (by rw [e.keep.gh b pb.ne]; exact gb) (e.keep.memo b K J gb pb), e.keep.gh, w.tab e.keep.tab⟩, w.gokO mo e.gok, e.len, fun p hp => Rep.wr w (e.tmp p hp), fun i d hd => by
      obtain ⟨v, a, b⟩ := e.val i d hd
      exact ⟨v, a, Rep.wr w b⟩, fun i ds hd => absurd hd (noOwn no), fun i j ds es a n hi => absurd hi (noOwn no), DicOk.non (fun i ks ds z => noDic no z) fun i a C dx fs ds z => noSto no z⟩
theorem Keep.hideO {p : Addr} {o : HO} (h : H p = none) : Keep G (QD.hide G p) H (upd H p o) :=
  ⟨(Keep.laid (G := G) h).obj, (Keep.laid (G := G) h).pen, (Keep.laid (G := G) h).memo, fun b hb => hide_ne fun z => hb (by rw [z]; exact h), (Keep.laid (G := G) h).tab⟩
theorem GOk.hideO {p : Addr} {o : HO} (g : GOk G H) (h : H p = none) (m : MutO o) : GOk (QD.hide G p) (upd H p o) := ⟨fun b x gb => by
    by_cases z : b = p
    · rw [z]; exact ⟨_, upd_same, m⟩
    · rw [hide_ne z] at gb; exact (g.laid h).lst b x gb, fun b gb => by
    by_cases z : b = p
    · rw [z, hide_same] at gb; cases gb
    · rw [hide_ne z] at gb; exact (g.laid h).pen b gb, fun b K' J' gb => by
    by_cases z : b = p
    · rw [z, hide_same] at gb; cases gb
    · rw [hide_ne z] at gb; exact (g.laid h).memo b K' J' gb⟩
/-- a new object in the region -/
theorem EnvOk.regO (e : EnvOk K G0 H0 G H σ env) (r : RegOk K H0.hp G H os) {q : Addr} {ho : HO} {oo : OO} (hp : H q = none) (m : MutO ho) (at_ : oo.At K (hide G q) (upd H q ho) q) :
    EnvOk K G0 H0 (hide G q) (upd H q ho) σ env ∧ RegOk K H0.hp (hide G q) (upd H q ho) ((q, oo) :: os) := by
  have k : Keep G (hide G q) H (upd H q ho) := Keep.hideO hp
  have r' := r.step k
  refine ⟨e.step k (e.gok.hideO hp m), ⟨List.nodup_cons.mpr ⟨fun z => ?_, r.nd⟩, fun p h => ?_, fun p h => ?_, fun p h => ?_⟩⟩
  · obtain ⟨y, h3, _⟩ := r.mutb z
    rw [hp] at h3; cases h3
  · rcases List.mem_cons.mp h with rfl | h
    · exact hide_same
    · exact r'.hid p h
  · rcases List.mem_cons.mp h with rfl | h
    · show H0.hp q = none
      cases y : H0.hp q with
      | none => rfl
      | some o => exact absurd hp (e.keep.dom e.g0 (by rw [y]; simp))
    · exact r.new p h
  · rcases List.mem_cons.mp h with rfl | h
    · exact at_
    · exact r'.at_ p h
theorem RegOk.wrOut {H0' : Hp} {l : Addr} {H' : Hp} (r : RegOk K H0' G H os) (w : Wr G l H H') (n : l ∉ os.map (·.1)) : RegOk K H0' G H' os :=
  ⟨r.nd, r.hid, r.new, fun p h => (r.at_ p h).wr w fun z => n (by rw [← z]; exact List.mem_map_of_mem h)⟩
end
section
variable {X : Cx} {E : XK} {e o a b key dict value tg iter : Expr} {es : List Expr} {te ta tb tk td tv : DE} {sA : DA} {t u : DR} {tr : DRE} {pos apos p p1 p2 p3 p4 p5 : Pos} {k j : Nat} {C : Addr} {m x y f : Str}
/-! ### a list gone through -/
def rForK (pr : Reg → Prop) (dg : DG) (tb : DR) (J : REnds) : List D → SE → Reg → Prop
  | [], env, os => J.nx env os
  | d :: ds, env, os => ∃ env', dg d env = some env' ∧ noOwnB env' = true ∧ tb { J with nx := fun e o => pr o ∧ rForK pr dg tb J ds e o, ct := fun e o => pr o ∧ rForK pr dg tb J ds e o, bk := J.nx } env' os
def rForF (te : DE) (m : Nat) (dg : DG) (tb : DR) : DR := fun J env os => te env (fun r => ∃ b es, r = .val (.adr b) ∧ os[m]? = some (b, .lst es) ∧ rForK (fun o => o[m]? = some (b, .lst es)) dg tb J es env os) (J.ex os)
theorem prs_forF {body : List Stmt} {is : List Nat} {dg : DG} {tb : DR} (m : Nat) (po : PassesOwn (model X.prog X.w) X.A X.env X.xe) (hc : X.calm = true) (hi : PD X E iter te) (hg : PGD X tg is dg) (hb : PRSs X E body tb)
    (hs : ∀ x, foldedSetIterable iter X.env x = pure x := by intro _; rfl) : PRS X E (.For tg iter body [] pos) (rForF te m dg tb) := by
  obtain ⟨g, pg, gg⟩ := hg
  refine PS.wk (ps_for po hc (pi_list (show PE X iter (lift X.K E te) from hi)) pg hb hs) ?_
  rintro Z σ H ⟨G0, H0, G, env, os, J, e, r0, no, h, z⟩
  refine ⟨G0, H0, G, env, _, _, e, h, ?_, z.ex os G H e.keep e.gok r0⟩
  rintro r v G1 H1 ⟨l, ds, rfl, hm, hd⟩ k1 g1 rr
  have ev1 : v = .ref l := rep_adr rr
  subst ev1
  have e1 := e.step k1 g1
  have r1 := r0.step k1
  have rep : ∀ {G' H' os'}, RegOk X.K H0.hp G' H' os' → os'[m]? = some (l, .lst ds) → RRep X.K G' H' (.ref l) (.brw ds) ∧ ∃ vs, SqL X.K H' l vs := fun r' h' => by
    obtain ⟨vs, q1, q2⟩ := r'.at_ _ (List.mem_of_getElem? h')
    exact ⟨⟨l, vs, rfl, q1, by rw [r'.hid _ (List.mem_of_getElem? h')]; simp, q2⟩, vs, .inl (.inl q1)⟩
  have wk := walk_list (K := X.K) (a := l) (r := .brw ds) rfl
  refine ⟨l, rfl, (rep r1 hm).2, fun i m' σ' H' => ∃ G' env' os', i ≤ ds.length ∧ m' = ds.length - i ∧ EnvOk X.K G0 H0 G' H' σ' env' ∧ RegOk X.K H0.hp G' H' os' ∧ noOwnB env' = true ∧ os'[m]? = some (l, .lst ds) ∧ rForK (fun o => o[m]? = some (l, .lst ds)) dg tb J (ds.drop i) env' os', ⟨ds.length, G1, env, os, Nat.zero_le _, rfl, e1, r1, no, hm, hd⟩, ?_⟩
  rintro i m' σ' H' ⟨G', env', os', hi', rfl, e', r', no', hm', hd'⟩
  obtain ⟨w1, w2⟩ := wk G' H' e'.gok (rep r' hm').1 i
  by_cases hlt : i < ds.length
  · obtain ⟨go, yl⟩ := w1 hlt
    refine .inr ⟨go, fun σ2 H2 => ∃ G2 env2 os2, EnvOk X.K G0 H0 G2 H2 σ2 env2 ∧ RegOk X.K H0.hp G2 H2 os2 ∧ noOwnB env2 = true ∧ os2[m]? = some (l, .lst ds) ∧ rForK (fun o => o[m]? = some (l, .lst ds)) dg tb J (ds.drop (i + 1)) env2 os2, fun σ2 H2 ⟨G2, env2, os2, e2, r2, no2, hm2, h2⟩ => ⟨ds.length - (i + 1), by omega, G2, env2, os2, hlt, rfl, e2, r2, no2, hm2, h2⟩, fun y H2 hy => ?_⟩
    obtain ⟨dy, hdy, G2, k2, g2, ry⟩ := yl y H2 hy
    rw [List.drop_eq_getElem_cons hlt] at hd'
    rw [List.getElem?_eq_getElem hlt] at hdy
    cases hdy
    obtain ⟨env3, he3, no3, hb3⟩ := hd'
    refine gg X.K G0 _ G2 H2 σ' env' y _ env3 rfl (e'.step k2 g2) ry he3 _ fun vs e3 => ?_
    refine ⟨G0, _, G2, env3, os', _, e3, r'.step k2, no3, hb3, ⟨fun env4 os4 G4 σ4 H4 q4 e4 r4 no4 => ⟨G4, env4, os4, e4, r4, no4, q4.1, q4.2⟩, z.rt, fun env4 os4 G4 σ4 H4 q4 e4 r4 no4 => z.nx env4 os4 G4 σ4 H4 q4 e4 r4 no4, fun env4 os4 G4 σ4 H4 q4 e4 r4 no4 => ⟨G4, env4, os4, e4, r4, no4, q4.1, q4.2⟩, z.ex⟩⟩
  · refine .inl ⟨w2 (by omega), ?_⟩
    rw [List.drop_eq_nil_of_le (by omega)] at hd'
    exact z.nx env' os' G' σ' H' hd' e' r' no'
/-! ### x.f.append(e) -/
def rAppF (tb ta : DE) : DR := fun J env os => tb env (fun r => ∃ (b : Addr) (m : Nat) (ds : List D), r = .val (.adr b) ∧ os[m]? = some (b, .lst ds) ∧ ds.length < 16777216 ∧ ta env (fun r2 => ∃ d, r2 = .val d ∧ J.nx env (os.set m (b, .lst (ds ++ [d])))) (J.ex os)) (J.ex os)
theorem rAppF_app (tb ta : DE) (J : REnds) (env : SE) (os : Reg) : rAppF tb ta J env os = tb env (fun r => ∃ (b : Addr) (m : Nat) (ds : List D), r = .val (.adr b) ∧ os[m]? = some (b, .lst ds) ∧ ds.length < 16777216 ∧ ta env (fun r2 => ∃ d, r2 = .val d ∧ J.nx env (os.set m (b, .lst (ds ++ [d])))) (J.ex os)) (J.ex os) := rfl
theorem prs_appF (ho : PD X E o tb) (he : PD X E a ta) (hline : (p2.endLine == p3.line) = true := by rfl) (hst : starEach [a] X.env = (false, eval a X.env) :: starEach [] X.env := by rfl)
    (hbase : attributeBase o "append" X.env (eval o X.env) = eval o X.env := by rfl)
    (hfew : ((backTo p3 (starEach [a] X.env)).all (fun x => !x.1) && (backToKw p3 (keywordEach [] X.env)).all (fun x => x.1.isSome) && decide ([a].length + ([] : List Keyword).length + (if ([] : List Keyword).isEmpty then 0 else 1) < 30)) = true := by rfl)
    (hs : swapsWith (.Call (.Attribute o "append" p2) [a] [] p3) none pos.line X.env = pure false := by rfl) :
    PRS X E (.Expr (.Call (.Attribute o "append" p2) [a] [] p3) pos) (rAppF tb ta) := by
  refine PS.wk (ps_expr (pe_bm PySem.F.plainAttrs_list PySem.F.slot_list_append PySem.F.type_list_append mt_append (show PE X o (lift X.K E tb) from ho) (pa_cons (show PE X a (lift X.K E ta) from he) pa_nil hst) hbase hfew hline hst rfl) hs) ?_
  rintro Z σ H ⟨G0, H0, G, env, os, J, e, r, no, h, z⟩
  refine ⟨G0, H0, G, env, _, _, e, h, ?_, z.ex os G H e.keep e.gok r⟩
  rintro r1 v1 G1 H1 ⟨lb, m, ds, rfl, hm, hl, h1⟩ k1 g1 rr1
  have ev1 : v1 = .ref lb := rep_adr rr1
  subst ev1
  have e1 := e.step k1 g1
  have s1 := r.step k1
  obtain ⟨us, hb, rb⟩ := s1.at_ (lb, .lst ds) (List.mem_of_getElem? hm)
  refine ⟨.inl ⟨rfl, us, .inl (.inl hb)⟩, G0, H0, G1, env, _, _, e1, h1, ?_, z.ex os G1 H1 e1.keep e1.gok s1⟩
  rintro rr v G' H' ⟨d, rfl, q⟩ kk g rp
  have r' := s1.step kk
  have e' := e1.step kk g
  obtain ⟨us', hb', rb'⟩ := r'.at_ (lb, .lst ds) (List.mem_of_getElem? hm)
  have hid' := r'.hid _ (List.mem_of_getElem? hm)
  have w : Wr G' lb H' (upd H' lb (.lst (us' ++ [v]))) := ⟨hid', fun b n => upd_ne n, _, hb', .inl ⟨_, rfl⟩⟩
  refine ⟨lb, us', v, rfl, rfl, hb', by rw [rb'.length, sizeLine_eq]; exact hl, ?_⟩
  exact z.nx env _ G' σ _ q (e'.wrl no (r'.new _ (List.mem_of_getElem? hm)) w) (r'.write hm w ⟨_, upd_same, RepL.wr w (rb'.append (.cons rp .nil))⟩) no
/-! ### a dict: k not in x.f, x.f[k] = v, x.f[k] -/
def rIfNin (tk td : DE) (t u : DR) : DR := fun J env os => tk env (fun r1 => td env (fun r2 => ∃ (b : Addr) (m : Nat) (ks : List Key) (ds : List D) (k : Key), r2 = .val (.adr b) ∧ os[m]? = some (b, OO.dic ks ds) ∧ keyD r1.d = some k ∧ (if inK k ks = false then t J env os else u J env os)) (J.ex os)) (J.ex os)
theorem rIfNin_app (tk td : DE) (t u : DR) (J : REnds) (env : SE) (os : Reg) : rIfNin tk td t u J env os = tk env (fun r1 => td env (fun r2 => ∃ (b : Addr) (m : Nat) (ks : List Key) (ds : List D) (k : Key), r2 = .val (.adr b) ∧ os[m]? = some (b, OO.dic ks ds) ∧ keyD r1.d = some k ∧ (if inK k ks = false then t J env os else u J env os)) (J.ex os)) (J.ex os) := rfl
theorem prs_ifNin {sa sb : List Stmt} {pp : Pos} (B : BC X E k) (hk : PD X E key tk) (hd : PD X E dict td) (ha : PRSs X E sa t) (hb : PRSs X E sb u) (hm : behindInMarks .NotIn dict = false := by with_unfolding_all rfl) : PRS X E (.If (.Compare key [.NotIn] [dict] pp) sa sb pos) (rIfNin tk td t u) := by
  have hu : X.A.units + 1 < cLine := by have := B.u65; omega
  refine PS.wk (ps_if (pt_cmp (pc_dnotin hu (show PE X key (lift X.K E tk) from hk) (show PE X dict (lift X.K E td) from hd)) hm) ha hb) ?_
  rintro Z σ H ⟨G0, H0, G, env, os, J, e, r, no, h, z⟩
  refine ⟨G0, H0, G, env, _, _, e, h, ?_, z.ex os G H e.keep e.gok r⟩
  rintro r1 y G1 H1 h1 k1 g1 rr1
  have e1 := e.step k1 g1
  have s1 := r.step k1
  refine ⟨G0, H0, G1, env, _, _, e1, h1, ?_, z.ex os G1 H1 e1.keep e1.gok s1⟩
  rintro r2 v2 G2 H2 ⟨l, m, ks, ds, kk, rfl, hm, ek, qd⟩ k2 g2 rr2
  have e2 := e1.step k2 g2
  have s2 := s1.step k2
  have ev2 : v2 = .ref l := rep_adr rr2
  subst ev2
  obtain ⟨kvs, z4, z5, z6⟩ := s2.at_ _ (List.mem_of_getElem? hm)
  have ey : y = kV kk := (rr1.keep k2).key ek
  subst ey
  refine ⟨l, valV kvs kk, rfl, DGet.k z4, _, rfl, ?_⟩
  rw [valV_in, z5]
  cases hin : inK kk ks with
  | true =>
    rw [hin, if_neg (by simp)] at qd
    exact ⟨G0, H0, G2, env, os, J, e2, s2, no, qd, z⟩
  | false =>
    rw [hin, if_pos rfl] at qd
    exact ⟨G0, H0, G2, env, os, J, e2, s2, no, qd, z⟩
def rPutF (tv td tk : DE) : DR := fun J env os => tv env (fun r1 => ∃ d, r1 = .val d ∧ td env (fun r2 => tk env (fun r3 => ∃ (b : Addr) (m : Nat) (ks : List Key) (ds : List D) (k : Key), r2 = .val (.adr b) ∧ os[m]? = some (b, OO.dic ks ds) ∧ keyD r3.d = some k ∧ k ∉ ks ∧ ks.length < 16777216 ∧ J.nx env (os.set m (b, .dic (ks ++ [k]) (ds ++ [d])))) (J.ex os)) (J.ex os)) (J.ex os)
theorem rPutF_app (tv td tk : DE) (J : REnds) (env : SE) (os : Reg) : rPutF tv td tk J env os = tv env (fun r1 => ∃ d, r1 = .val d ∧ td env (fun r2 => tk env (fun r3 => ∃ (b : Addr) (m : Nat) (ks : List Key) (ds : List D) (k : Key), r2 = .val (.adr b) ∧ os[m]? = some (b, OO.dic ks ds) ∧ keyD r3.d = some k ∧ k ∉ ks ∧ ks.length < 16777216 ∧ J.nx env (os.set m (b, .dic (ks ++ [k]) (ds ++ [d])))) (J.ex os)) (J.ex os)) (J.ex os) := rfl
theorem prs_putF (B : BC X E k) (hv : PD X E value tv) (hd : PD X E dict td) (hk : PD X E key tk) (hs : swapsWith value (some (.Subscript dict key p5)) pos.line X.env = pure false := by rfl) : PRS X E (.Assign [.Subscript dict key p5] value pos) (rPutF tv td tk) := by
  have hu : X.A.units + 1 < cLine := by have := B.u65; omega
  refine PS.wk (ps_dput hu (show PE X dict (lift X.K E td) from hd) (show PE X key (lift X.K E tk) from hk) (show PE X value (lift X.K E tv) from hv) hs) ?_
  rintro Z σ H ⟨G0, H0, G, env, os, J, e, r, no, h, z⟩
  refine ⟨G0, H0, G, env, _, _, e, h, ?_, z.ex os G H e.keep e.gok r⟩
  rintro r1 v G1 H1 ⟨d, rfl, h1⟩ k1 g1 rr1
  have e1 := e.step k1 g1
  have s1 := r.step k1
  refine ⟨G0, H0, G1, env, _, _, e1, h1, ?_, z.ex os G1 H1 e1.keep e1.gok s1⟩
  rintro r2 v2 G2 H2 h2 k2 g2 rr2
  have e2 := e1.step k2 g2
  have s2 := s1.step k2
  refine ⟨G0, H0, G2, env, _, _, e2, h2, ?_, z.ex os G2 H2 e2.keep e2.gok s2⟩
  rintro r3 y G3 H3 ⟨l, m, ks, ds, kk, rfl, hm, ek, nk, hl, q⟩ k3 g3 rr3
  have e3 := e2.step k3 g3
  have s3 := s2.step k3
  have ev2 : v2 = .ref l := rep_adr rr2
  subst ev2
  obtain ⟨kvs, z4, z5, z6⟩ := s3.at_ _ (List.mem_of_getElem? hm)
  have ey : y = kV kk := rr3.key ek
  subst ey
  have nk' : kk ∉ kvs.map (·.1) := by rw [z5]; exact nk
  have hl' : kvs.length < sizeLine := by
    have := congrArg List.length z5
    rw [List.length_map] at this
    rw [sizeLine_eq, this]; exact hl
  refine ⟨l, _, rfl, DPut.k z4 hl', ?_⟩
  rw [putK_new nk']
  have hid' := s3.hid _ (List.mem_of_getElem? hm)
  have w : Wr G3 l H3 (upd H3 l (.dK (kvs ++ [(kk, v)]))) := ⟨hid', fun b n => upd_ne n, _, z4, .inr (.inr ⟨_, rfl⟩)⟩
  have rv : Rep X.K G3 H3 v d := Rep.keep k3 (Rep.keep k2 rr1)
  refine z.nx env _ G3 σ _ q (e3.wrO no (s3.new _ (List.mem_of_getElem? hm)) w (.inr (.inr ⟨_, rfl⟩))) (s3.write hm w ⟨_, upd_same, by rw [List.map_append, z5]; rfl, ?_⟩) no
  rw [List.map_append]
  exact RepL.wr w (z6.append (.cons rv .nil))
def reGetF (td tk : DE) : DRE := fun env os q x => td env (fun r1 => tk env (fun r2 => ∃ (b : Addr) (m : Nat) (ks : List Key) (ds : List D) (k : Key) (d : D), r1 = .val (.adr b) ∧ os[m]? = some (b, OO.dic ks ds) ∧ keyD r2.d = some k ∧ lkK k ks ds = some d ∧ q (.val d) os) (x os)) (x os)
theorem reGetF_app (td tk : DE) (env : SE) (os : Reg) (q : R → Reg → Prop) (x : Reg → XP) : reGetF td tk env os q x = td env (fun r1 => tk env (fun r2 => ∃ (b : Addr) (m : Nat) (ks : List Key) (ds : List D) (k : Key) (d : D), r1 = .val (.adr b) ∧ os[m]? = some (b, OO.dic ks ds) ∧ keyD r2.d = some k ∧ lkK k ks ds = some d ∧ q (.val d) os) (x os)) (x os) := rfl
theorem pre_getF (B : BC X E k) (ha : PD X E a ta) (hb : PD X E b tb) (hs : NoSl b := by intro _ _; rfl) : PRE X E (.Subscript a b pos) (reGetF ta tb) := by
  refine PE.wk (pe_dget (by have := B.u65; omega) (show PE X a (lift X.K E ta) from ha) (show PE X b (lift X.K E tb) from hb) hs) ?_
  rintro σ H Q ⟨G0, H0, G, env, os, q, x, e, r, no, h, hq, hx⟩
  refine ⟨G0, H0, G, env, _, _, e, h, ?_, hx os G H e.keep e.gok r⟩
  rintro r1 v G1 H1 h1 k1 g1 rr
  have e1 := e.step k1 g1
  have s1 := r.step k1
  refine ⟨G0, H0, G1, env, _, _, e1, h1, ?_, hx os G1 H1 e1.keep e1.gok s1⟩
  rintro r2 v2 G2 H2 ⟨l, m, ks, ds, kk, d, rfl, hm, ek, el, qd⟩ k2 g2 rr2
  have e2 := e1.step k2 g2
  have s2 := s1.step k2
  have ev : v = .ref l := rep_adr rr
  subst ev
  obtain ⟨kvs, z4, rfl, z6⟩ := s2.at_ _ (List.mem_of_getElem? hm)
  obtain ⟨u, l1, l2⟩ := lkK_rep z6 el
  exact ⟨l, u, rfl, .inl ⟨kvs, kk, .inl z4, rr2.key ek, l1.symm⟩, hq _ os _ G2 H2 qd e2 s2 l2⟩
/-! ### __init__ of an object of the region -/
/-- self.f = e -/
def rFldV (C : Addr) (f : Str) (te : DE) : DR := fun J env os => te env (fun r => ∃ d a n dx ns ds, r = .val d ∧ env[0]? = some (.val (.adr a)) ∧ os[n]? = some (a, OO.ins C dx ns ds) ∧ (∀ g ∈ ns, g ≠ f) ∧ ns.length < 900 ∧ J.nx env (os.set n (a, .ins C dx (ns ++ [f]) (ds ++ [d])))) (J.ex os)
theorem rFldV_app (C : Addr) (f : Str) (te : DE) (J : REnds) (env : SE) (os : Reg) : rFldV C f te J env os = te env (fun r => ∃ d a n dx ns ds, r = .val d ∧ env[0]? = some (.val (.adr a)) ∧ os[n]? = some (a, OO.ins C dx ns ds) ∧ (∀ g ∈ ns, g ≠ f) ∧ ns.length < 900 ∧ J.nx env (os.set n (a, .ins C dx (ns ++ [f]) (ds ++ [d])))) (J.ex os) := rfl
theorem fld_write {K : PySem.W.Frag} {G0 G : Gm} {H0 : HB} {H : Hp} {σ : L2.St} {env : SE} {os : Reg} {a dx : Addr} {n : Nat} {ns : List Str} {ds : List D} {d : D} {v : V} (e : EnvOk K G0 H0 G H σ env) (r : RegOk K H0.hp G H os) (no : noOwnB env = true) (hn : os[n]? = some (a, OO.ins C dx ns ds)) (hf : ∀ g ∈ ns, g ≠ f) (rv : Rep K G H v d) :
    ∃ fs, H a = some (.ins C dx fs) ∧ fs.map (·.1) = ns ∧ EnvOk K G0 H0 G (upd H a (.ins C dx (putF f v fs))) σ env ∧ RegOk K H0.hp G (upd H a (.ins C dx (putF f v fs))) (os.set n (a, .ins C dx (ns ++ [f]) (ds ++ [d]))) := by
  obtain ⟨fs, z4, z5, z6⟩ := r.at_ _ (List.mem_of_getElem? hn)
  have hput : putF f v fs = fs ++ [(f, v)] := putF_new (by rw [z5]; exact hf)
  have hid' := r.hid _ (List.mem_of_getElem? hn)
  have w : Wr G a H (upd H a (.ins C dx (putF f v fs))) := ⟨hid', fun b n => upd_ne n, _, z4, .inr (.inl ⟨_, _, _, rfl⟩)⟩
  refine ⟨fs, z4, z5, e.wrO no (r.new _ (List.mem_of_getElem? hn)) w (.inr (.inl ⟨_, _, _, rfl⟩)), r.write hn w ⟨_, upd_same, by rw [hput, List.map_append, z5]; rfl, ?_⟩⟩
  have z : RepL K G (upd H a (.ins C dx (putF f v fs))) ((fs ++ [(f, v)]).map (·.2)) (ds ++ [d]) := by
    rw [List.map_append]
    exact RepL.wr w (z6.append (.cons rv .nil))
  rw [← hput] at z
  exact z
theorem prs_fldV {pos' : Pos} (c : Cls X.K C) (n : NoAttr X.K C f) (he : PD X E value te) (hN : X.N[0]? = some y := by rfl) (hv : Vis X.env.scope y := by first | exact Or.inl rfl | exact Or.inr (Or.inl rfl)) (hd : (y == ("__debug__" : Str)) = false := by decide) (hcd : (y == ("__classdict__" : Str)) = false := by decide)
    (hs : swapsWith value (some (.Attribute (.Name y p) f pos')) pos.line X.env = pure false := by rfl) : PRS X E (.Assign [.Attribute (.Name y p) f pos'] value pos) (rFldV C f te) := by
  refine PS.wk (ps_fld (pe_var (i := 0) hN hv hd hcd) (show PE X value (lift X.K E te) from he) hs) ?_
  rintro Z σ H ⟨G0, H0, G, env, os, J, e, r, no, h, z⟩
  refine ⟨G0, H0, G, env, _, _, e, h, ?_, z.ex os G H e.keep e.gok r⟩
  rintro r1 v G1 H1 ⟨d, a, nn, dx, ns, ds, rfl, hi, hm, hf, hl, q⟩ k1 g1 rr
  have e1 := e.step k1 g1
  have s1 := r.step k1
  obtain ⟨v0, hσ, rv0⟩ := e1.val 0 _ hi
  have ev0 : v0 = .ref a := rep_adr rv0
  subst ev0
  obtain ⟨fs, q1, q2, q3, q4⟩ := fld_write (v := v) (d := d) e1 s1 no hm hf rr
  exact ⟨.ref a, hσ, a, C, dx, fs, rfl, q1, c, n, by rw [show fs.length = ns.length by rw [← q2]; simp]; omega, z.nx env _ G1 σ _ q q3 q4 no⟩
/-- self.f = [] -/
def rFldL (C : Addr) (f : Str) : DR := fun J env os => ∃ a n dx ns ds, env[0]? = some (.val (.adr a)) ∧ os[n]? = some (a, OO.ins C dx ns ds) ∧ (∀ g ∈ ns, g ≠ f) ∧ ns.length < 900 ∧ ∀ b, J.nx env ((b, .lst []) :: os.set n (a, .ins C dx (ns ++ [f]) (ds ++ [.adr b])))
theorem prs_fldL {pos' pl : Pos} (c : Cls X.K C) (n : NoAttr X.K C f) (hN : X.N[0]? = some y := by rfl) (hv : Vis X.env.scope y := by first | exact Or.inl rfl | exact Or.inr (Or.inl rfl)) (hd : (y == ("__debug__" : Str)) = false := by decide) (hcd : (y == ("__classdict__" : Str)) = false := by decide)
    (hs : swapsWith (.List [] pl) (some (.Attribute (.Name y p) f pos')) pos.line X.env = pure false := by rfl) : PRS X E (.Assign [.Attribute (.Name y p) f pos'] (.List [] pl) pos) (rFldL C f) := by
  refine PS.wk (ps_fld (pe_var (i := 0) hN hv hd hcd) (pe_lst pa_nil) hs) ?_
  rintro Z σ H ⟨G0, H0, G, env, os, J, e, r, no, ⟨a, nn, dx, ns, ds, hi, hm, hf, hl, q⟩, z⟩
  refine ⟨Nat.zero_le _, fun b hb => ?_⟩
  obtain ⟨v0, hσ, rv0⟩ := e.val 0 _ hi
  have ev0 : v0 = .ref a := rep_adr rv0
  subst ev0
  obtain ⟨e1, s1⟩ := e.regO (oo := .lst []) r hb (.inl ⟨_, rfl⟩) ⟨[], upd_same, .nil⟩
  have hm1 : ((b, OO.lst []) :: os)[nn + 1]? = some (a, OO.ins C dx ns ds) := hm
  obtain ⟨fs, q1, q2, q3, q4⟩ := fld_write (v := .ref b) (d := .adr b) e1 s1 no hm1 hf .adr
  exact ⟨.ref a, hσ, a, C, dx, fs, rfl, q1, c, n, by rw [show fs.length = ns.length by rw [← q2]; simp]; omega, z.nx env _ _ σ _ (q b) q3 q4 no⟩
/-- self.f = {} -/
def rFldD (C : Addr) (f : Str) : DR := fun J env os => ∃ a n dx ns ds, env[0]? = some (.val (.adr a)) ∧ os[n]? = some (a, OO.ins C dx ns ds) ∧ (∀ g ∈ ns, g ≠ f) ∧ ns.length < 900 ∧ ∀ b, J.nx env ((b, .dic [] []) :: os.set n (a, .ins C dx (ns ++ [f]) (ds ++ [.adr b])))
theorem prs_fldD {pos' pl : Pos} (c : Cls X.K C) (n : NoAttr X.K C f) (hN : X.N[0]? = some y := by rfl) (hv : Vis X.env.scope y := by first | exact Or.inl rfl | exact Or.inr (Or.inl rfl)) (hd : (y == ("__debug__" : Str)) = false := by decide) (hcd : (y == ("__classdict__" : Str)) = false := by decide)
    (hs : swapsWith (.Dict [] [] pl) (some (.Attribute (.Name y p) f pos')) pos.line X.env = pure false := by rfl) : PRS X E (.Assign [.Attribute (.Name y p) f pos'] (.Dict [] [] pl) pos) (rFldD C f) := by
  refine PS.wk (ps_fld (pe_var (i := 0) hN hv hd hcd) pe_dnewK hs) ?_
  rintro Z σ H ⟨G0, H0, G, env, os, J, e, r, no, ⟨a, nn, dx, ns, ds, hi, hm, hf, hl, q⟩, z⟩
  intro b hb
  obtain ⟨v0, hσ, rv0⟩ := e.val 0 _ hi
  have ev0 : v0 = .ref a := rep_adr rv0
  subst ev0
  obtain ⟨e1, s1⟩ := e.regO (oo := .dic [] []) r hb (.inr (.inr ⟨_, rfl⟩)) ⟨[], upd_same, rfl, .nil⟩
  have hm1 : ((b, OO.dic [] []) :: os)[nn + 1]? = some (a, OO.ins C dx ns ds) := hm
  obtain ⟨fs, q1, q2, q3, q4⟩ := fld_write (v := .ref b) (d := .adr b) e1 s1 no hm1 hf .adr
  exact ⟨.ref a, hσ, a, C, dx, fs, rfl, q1, c, n, by rw [show fs.length = ns.length by rw [← q2]; simp]; omega, z.nx env _ _ σ _ (q b) q3 q4 no⟩
/-! ### the making -/
structure MakR (P : Program) (w : World) (K : PySem.W.Frag) (mg : Str → Option Value) (base : Heap) (k : Nat) (x : Str) (C : Addr) (F : FR) : Prop where
  g : mg x = some (.ref C)
  ex : ∃ f fd ps, FnG P w K mg base k f fd ps (spR K F) ∧ Mk K C f ∧ Binds K fd ps []
/-- y = C(..), an object that is not changed any more, its lists and dicts in the region -/
def rMake (C : Addr) (i : Nat) (F : FR) (sA : DA) : DR := fun J env os => sA env (fun rs => ∃ ds, rs = ds.map R.val ∧ ∀ a dx, F (.adr a :: ds) ((a, .ins C dx [] []) :: os) (fun d os' => d = .non ∧ ∃ rest dx' ns es, os' = rest ++ [(a, OO.ins C dx' ns es)] ∧ J.nx (env.set i (.val (.ins C ns es))) rest) J.ex) (J.ex os)
theorem rMake_app (C : Addr) (i : Nat) (F : FR) (sA : DA) (J : REnds) (env : SE) (os : Reg) : rMake C i F sA J env os = sA env (fun rs => ∃ ds, rs = ds.map R.val ∧ ∀ a dx, F (.adr a :: ds) ((a, .ins C dx [] []) :: os) (fun d os' => d = .non ∧ ∃ rest dx' ns es, os' = rest ++ [(a, OO.ins C dx' ns es)] ∧ J.nx (env.set i (.val (.ins C ns es))) rest) J.ex) (J.ex os) := rfl
theorem RegOk.perm {K : PySem.W.Frag} {H0 : Hp} {G : Gm} {H : Hp} {os os' : Reg} (r : RegOk K H0 G H os) (p : os.Perm os') : RegOk K H0 G H os' :=
  ⟨((p.map (·.1)).nodup_iff).mp r.nd, fun x h => r.hid x (p.mem_iff.mpr h), fun x h => r.new x (p.mem_iff.mpr h), fun x h => r.at_ x (p.mem_iff.mpr h)⟩
theorem unh_head {K : PySem.W.Frag} {G0 G : Gm} {H0 : Hp} {H : Hp} {os : Reg} {a : Addr} {oo : OO} (r : RegOk K H0 G H ((a, oo) :: os)) (k : Keep G0 G H0 H) (g : GOk G H) : Keep G0 (unh G a) H0 H ∧ GOk (unh G a) H ∧ RegOk K H0 (unh G a) H os ∧ GLe (unh G a) G := by
  have ha : G a = some .hid := r.hid _ List.mem_cons_self
  have h0 : H0 a = none := r.new _ List.mem_cons_self
  have np : Fix (G a) := by rw [ha]; simp
  have le := unh_le (G := G) np
  have ne : ∀ {b : Addr}, b ≠ a → unh G a b = G b := fun {b} n => by unfold unh; rw [if_neg n]
  have sm : ∀ {b g}, unh G a b = some g → G b = some g := fun {b g} h => by
    by_cases z : b = a
    · subst z; unfold unh at h; rw [if_pos rfl] at h; cases h
    · rw [ne z] at h; exact h
  have nd := r.nd
  rw [List.map_cons, List.nodup_cons] at nd
  have na : ∀ p ∈ os, p.1 ≠ a := fun p hp z => nd.1 (z ▸ List.mem_map.mpr ⟨p, hp, rfl⟩)
  refine ⟨⟨k.obj, k.pen, k.memo, fun b hb => by rw [ne (fun z => hb (by rw [z]; exact h0))]; exact k.gh b hb, k.tab⟩, ⟨fun b x h => g.lst b x (sm h), fun b h => g.pen b (sm h), fun b K J h => g.memo b K J (sm h)⟩, ⟨nd.2, fun p hp => by rw [ne (na p hp)]; exact r.hid p (List.mem_cons_of_mem _ hp), fun p hp => r.new p (List.mem_cons_of_mem _ hp), fun p hp => ?_⟩, le⟩
  have at1 := r.at_ p (List.mem_cons_of_mem _ hp)
  obtain ⟨b, oo⟩ := p
  cases oo with
  | lst ds => obtain ⟨vs, q1, q2⟩ := at1; exact ⟨vs, q1, RepL.le le q2⟩
  | ins C dx ns ds => obtain ⟨fs, q1, q2, q3⟩ := at1; exact ⟨fs, q1, q2, RepL.le le q3⟩
  | dic ks ds => obtain ⟨kvs, q1, q2, q3⟩ := at1; exact ⟨kvs, q1, q2, RepL.le le q3⟩
theorem prs_make {F : FR} (i : Nat) (M : MakR X.prog X.w X.K X.mg X.base k x C F) (B : BC X E j) (hk : k + 1 ≤ j) (ha : PDA X E (e :: es) sA) (hNd : X.N.Nodup) (hi : X.N[i]? = some y := by rfl) (hy : Loc X.env.scope y := by first | exact Or.inl rfl | exact Or.inr rfl)
    (hg : Gl X x := by rfl) (hdb : (x == ("__debug__" : Str)) = false := by decide) (he : starEach (e :: es) X.env = (false, eval e X.env) :: starEach es X.env := by rfl) (hpl : (backTo p3 (starEach es X.env)).any (·.1) = false := by rfl)
    (hs : swapsWith (.Call (.Name x p) (e :: es) [] p3) (some (.Name y p4)) pos.line X.env = pure false := by rfl) (hf : X.fn y = true ∨ X.env.scope.names.lookup y = some .local := by first | exact .inl rfl | exact .inr rfl) :
    PRS X E (.Assign [.Name y p4] (.Call (.Name x p) (e :: es) [] p3) pos) (rMake C i F sA) := by
  obtain ⟨f, fd, ps, FG, mk, hb⟩ := M.ex
  have raw : PE X (.Call (.Name x p) (e :: es) [] p3) (tMake C (spR X.K F) [] E (liftA X.K E sA)) := by
    refine ⟨fun pins s σ H Q I h => ?_⟩
    refine wpAny_Call_Name_kw (ld_glob I hg M.g ?_ hdb)
    refine PySem.W.callWith_K (h₀ := X.base) I.ok.mod.kin mk.kp (thn ((show PA X (e :: es) (liftA X.K E sA) from ha).run p3 pins s σ H _ I h) fun us s1 ⟨vs, H1, I1, r, q⟩ => ⟨I1.kIn, ?_⟩) he hpl
    refine run_makeG mk FG B hk hb I1 r ?_
    intro y dx h1 h2 h3
    have := q y dx h1 h2 h3
    rwa [List.append_nil] at this
  refine PS.wk (ps_set hNd hi hy raw hs hf) ?_
  rintro Z σ H ⟨G0, H0, G, env, os, J, ev, r, no, h, z⟩
  refine ⟨G0, H0, G, env, _, _, ev, h, ?_, z.ex os G H ev.keep ev.gok r⟩
  rintro rs vs G1 H1 ⟨ds, rfl, hF⟩ k1 g1 rl
  have e1 := ev.step k1 g1
  have s1 := r.step k1
  intro l dx hl hdx hne
  rw [List.append_nil]
  -- the object's dict
  have e2 := e1.step (Keep.laid (o := .own l) hdx) (g1.laid hdx)
  have s2 := s1.step (Keep.laid (o := .own l) hdx)
  have hl2 : upd H1 dx (.own l) l = none := by rw [upd_ne (Ne.symm hne)]; exact hl
  obtain ⟨e3, s3⟩ := e2.regO (oo := .ins C dx [] []) s2 hl2 (.inr (.inl ⟨C, dx, [], rfl⟩)) ⟨[], upd_same, rfl, .nil⟩
  have rl3 : RepL X.K (QD.hide G1 l) (upd (upd H1 dx (.own l)) l (.ins C dx [])) (.ref l :: vs) (.adr l :: ds) := .cons .adr (RepL.keep (Keep.hideO hl2) (RepL.keep (Keep.laid hdx) rl.vals))
  refine callR e3 s3 no rl3 (hF l dx) ?_ z.ex
  rintro d os' v G' H' ⟨rfl, rest, dx', ns, es', rfl, q⟩ e' r' rd
  cases rd
  replace r' := r'.perm List.perm_append_comm
  obtain ⟨kk, gg, rr, le⟩ := unh_head r' e'.keep e'.gok
  obtain ⟨fs, q1, q2, q3⟩ := r'.at_ _ List.mem_cons_self
  have e4 : EnvOk X.K G0 H0 (unh G' l) H' σ env := by
    refine ⟨e'.g0, kk, gg, e'.len, fun p hp => Rep.le le (e'.tmp p hp), fun i d h => ?_, fun _ _ h => absurd h (noOwn no), fun _ _ _ _ _ _ h => absurd h (noOwn no), DicOk.non (fun _ _ _ z => noDic no z) fun _ _ _ _ _ _ z => noSto no z⟩
    obtain ⟨v, a, b⟩ := e'.val i d h
    exact ⟨v, a, Rep.le le b⟩
  have rep : Rep X.K (unh G' l) H' (.ref l) (.ins C ns es') := .ins (by unfold unh; rw [if_pos rfl]) q1 q2 (RepL.le le q3)
  exact ⟨rfl, z.nx _ rest _ _ H' q (e4.setVal i rep) rr (noOwnB_set i no)⟩
end
end QD
/-! x = [e for ..], where e changes the region -/
namespace QD
open PySem PySem.Spec PyProof.Rows L2
theorem BC.pre {X : Cx} {E : XK} {k : Nat} (B : BC X E k) {s : Shared} {H : Hp} {scope : Scope} {ce : PySem.Env} {fp : List Addr} {e : Expr} {t : DRE} (h : BC (X.blk s H scope ce fp) E0 k → PRE (X.blk s H scope ce fp) E0 e t) : PRE (X.blk s H scope ce fp) E0 e t := h (B.blk s H scope ce fp)
def rLcL (dg : DG) (te : DRE) : List D → SE → Reg → (List D → Reg → Prop) → Prop
  | [], _, os, q => q [] os
  | d :: ds, env, os, q => ∃ env', dg d env = some env' ∧ noOwnB env' = true ∧ te env' os (fun r os' => ∃ d', r = .val d' ∧ rLcL dg te ds env os' (fun l o => q (d' :: l) o)) (fun _ => noX)
def rSetLc (i : Nat) (vs : List Nat) (ti : DI) (dg : DG) (te : DRE) : DR := fun J env os => ti env (fun ds v => v = true ∧ ds.length ≤ 16777216 ∧ rLcL dg te ds (wipeE env vs) os (fun l o => J.nx (env.set i (.val (.lst l))) o)) (J.ex os)
theorem rSetLc_app (i : Nat) (vs : List Nat) (ti : DI) (dg : DG) (te : DRE) (J : REnds) (env : SE) (os : Reg) : rSetLc i vs ti dg te J env os = ti env (fun ds v => v = true ∧ ds.length ≤ 16777216 ∧ rLcL dg te ds (wipeE env vs) os (fun l o => J.nx (env.set i (.val (.lst l))) o)) (J.ex os) := rfl
section
variable {X : Cx} {E : XK} {tg iter : Expr} {pos p : Pos} {ti : DI}
theorem lift_lcR {vs is : List Nat} {dg : DG} {g : TG} {te : DRE} {σ : L2.St} {H : Hp} {Q : VK} {G0 G : Gm} {H0 : HB} {env : SE} {os : Reg} {q : List D → Reg → Prop} {x0 : XP}
    (gg : ∀ (K : PySem.W.Frag) (G0 : Gm) (H0 : HB) (G : Gm) (H : Hp) (σ : L2.St) (env : SE) (v : V) (d : D) (env' : SE), X.K = K → EnvOk K G0 H0 G H σ env → Rep K G H v d → dg d env = some env' → ∀ Q : L2.St → Hp → Prop, (∀ vs, EnvOk K G0 H0 G H (setS is vs σ) env' → Q (setS is vs σ) H) → g v σ H Q)
    (his : ∀ i ∈ is, i ∈ vs) (e : EnvOk X.K G0 H0 G H σ env) (r : RegOk X.K H0.hp G H os) (no : noOwnB env = true)
    (h : ti env (fun ds v => v = true ∧ ds.length ≤ 16777216 ∧ rLcL dg te ds (wipeE env vs) os q) x0) (hx : XOk X.K E G H x0)
    (hq : ∀ ds os' a G' H', q ds os' → EnvOk X.K G0 H0 G' H' σ env → RegOk X.K H0.hp G' H' ((a, .lst ds) :: os') → Q (.ref a) H') : tLc (liftI X.K E ti) g (liftT X.K E0 dYes) (liftRE X.K E0 te) vs σ H Q := by
  refine ⟨G0, H0, G, env, _, x0, e, h, ?_, hx⟩
  rintro ds v rv G1 H1 Jt ⟨isv, hlen, hd⟩ k1 g1 rr wk l hl
  cases rv with
  | brw _ => cases isv
  | bin _ _ _ => cases isv
  | val d =>
  have e1 := (e.step k1 g1).tmpCons (show Rep X.K G1 H1 v d from rr)
  have r1 := r.step k1
  have nl : l ∉ os.map (·.1) := fun z => by
    obtain ⟨o, q1, _⟩ := r1.mutb z
    rw [hl] at q1; cases q1
  have h0l : H0.hp l = none := by
    cases y : H0.hp l with
    | none => rfl
    | some o => exact absurd hl (e1.keep.dom e1.g0 (by rw [y]; simp))
  have kl : Keep G1 (hide G1 l) H1 (upd H1 l (.lst [])) := Keep.hideO hl
  refine ⟨fun i m Hc => ∃ Gc acc accD osc, i ≤ ds.length ∧ m = ds.length - i ∧ EnvOk X.K G0 ⟨H0.hp, (v, d) :: H0.tmp⟩ Gc Hc σ env ∧ RegOk X.K H0.hp Gc Hc osc ∧ Gc l = some .hid ∧ Hc l = some (.lst acc) ∧ RepL X.K Gc Hc acc accD ∧ acc.length ≤ i ∧ l ∉ osc.map (·.1) ∧ rLcL dg te (ds.drop i) (wipeE env vs) osc (fun z o => q (accD ++ z) o),
    ⟨ds.length, hide G1 l, [], [], os, Nat.zero_le _, rfl, e1.step kl (g1.hideO hl (.inl ⟨_, rfl⟩)), r1.step kl, hide_same, upd_same, .nil, Nat.le_refl _, nl, by simpa using hd⟩, ?_⟩
  rintro i m Hc ⟨Gc, acc, accD, osc, hi, rfl, ec, rc, hh, hll, rl, la, nlc, hd'⟩
  obtain ⟨w1, w2⟩ := wk Gc Hc ec.gok (ec.tmp (v, d) List.mem_cons_self) i
  by_cases hlt : i < ds.length
  · obtain ⟨go, yl⟩ := w1 hlt
    refine .inr ⟨go, fun Hd => ∃ Gd acc' accD' osd, EnvOk X.K G0 ⟨H0.hp, (v, d) :: H0.tmp⟩ Gd Hd σ env ∧ RegOk X.K H0.hp Gd Hd osd ∧ Gd l = some .hid ∧ Hd l = some (.lst acc') ∧ RepL X.K Gd Hd acc' accD' ∧ acc'.length ≤ i + 1 ∧ l ∉ osd.map (·.1) ∧ rLcL dg te (ds.drop (i + 1)) (wipeE env vs) osd (fun z o => q (accD' ++ z) o),
      fun Hd ⟨Gd, acc', accD', osd, a1, a2, a3, a4, a5, a6, a7, a8⟩ => ⟨ds.length - (i + 1), by omega, Gd, acc', accD', osd, hlt, rfl, a1, a2, a3, a4, a5, a6, a7, a8⟩, fun y H2 hy => ?_⟩
    obtain ⟨dy, hdy, G2, k2, g2, ry⟩ := yl y H2 hy
    rw [List.drop_eq_getElem_cons hlt] at hd'
    rw [List.getElem?_eq_getElem hlt] at hdy
    cases hdy
    obtain ⟨env3, he3, no3, hb3⟩ := hd'
    have e2 := ec.step k2 g2
    have s2 := rc.step k2
    have hh2 : G2 l = some .hid := by rw [k2.gh l (by rw [hll]; simp)]; exact hh
    have hl2 : H2 l = some (.lst acc) := k2.obj l _ hll (by rw [hh]; simp) nofun
    have ew := (e2.rebaseR s2 no).wipe vs
    refine gg X.K _ _ G2 H2 _ _ y _ env3 rfl ew ry he3 _ fun vals e3 => ⟨wipe_setS his, ?_⟩
    refine ⟨_, _, G2, env3, fun b => b = true, noX, e3, (rfl : (true : Bool) = true), ?_, XOk.noX⟩
    rintro kk G3 H3 rfl k3 g3
    rw [if_pos rfl]
    refine ⟨_, _, G3, env3, osc, _, _, e3.step k3 g3, s2.re.step k3, no3, hb3, ?_, fun _ _ _ _ _ _ => XOk.noX⟩
    rintro r4 os4 y4 G4 H4 ⟨d4, rfl, q4⟩ e4 r4' rr4
    have k4 := e4.keep
    have eo := e2.debaseR s2 no k4 e4.gok
    have ro := RegOk.deb e2 s2 r4'
    have ob : offR H2 osc l = some (.lst acc) := by rw [offR_out nlc]; exact hl2
    have ug : unR G2 osc l = some .hid := by rw [unR_out nlc]; exact hh2
    have z2 : H4 l = some (.lst acc) := k4.obj l _ ob (by rw [ug]; simp) nofun
    have z1 : G4 l = some .hid := by rw [k4.gh l (by show offR H2 osc l ≠ none; rw [ob]; simp)]; exact ug
    have nl4 : l ∉ os4.map (·.1) := fun z => by
      have z9 : offR H2 osc l = none := r4'.newb z
      rw [ob] at z9; cases z9
    have rl4 : RepL X.K G4 H4 acc accD := RepL.keep k4 (RepL.offR s2 (RepL.keep k2 rl))
    have w : Wr G4 l H4 (upd H4 l (.lst (acc ++ [y4]))) := ⟨z1, fun b n => upd_ne n, _, z2, .inl ⟨_, rfl⟩⟩
    exact ⟨acc, z2, by rw [sizeLine_eq]; omega, G4, acc ++ [y4], accD ++ [d4], os4, eo.wrl no h0l w, ro.wrOut w nl4, z1, upd_same, RepL.wr w (rl4.append (.cons rr4 .nil)), by simp; omega, nl4, by simpa using q4⟩
  · refine .inl ⟨w2 (by omega), ?_⟩
    rw [List.drop_eq_nil_of_le (by omega)] at hd'
    have hd2 : q accD osc := by simpa [rLcL] using hd'
    refine hq accD osc l Gc Hc hd2 ec.tmpTail ⟨List.nodup_cons.mpr ⟨nlc, rc.nd⟩, fun p h => ?_, fun p h => ?_, fun p h => ?_⟩
    · rcases List.mem_cons.mp h with rfl | h
      · exact hh
      · exact rc.hid p h
    · rcases List.mem_cons.mp h with rfl | h
      · exact h0l
      · exact rc.new p h
    · rcases List.mem_cons.mp h with rfl | h
      · exact ⟨acc, hll, rl⟩
      · exact rc.at_ p h
theorem prs_setLc (i : Nat) {y : Str} {py spos : Pos} {elt : Expr} {scope : Scope} {own : List (Str × Nat)} {is : List Nat} {dg : DG} {te : DRE} (hc : X.calm = true) (hN : X.N.Nodup) (hi : PDI X E tg iter ti) (ok : BlkOk X.N X.env.scope scope own)
    (hg : ∃ g, (∀ (s : Shared) (H : Hp) (C : Addr) (cl : List (Str × Addr)) (fp : List Addr), PG (X.blk s H scope (compEnvC scope cl C X.env) fp) tg g) ∧ ∀ (K : PySem.W.Frag) (G0 : Gm) (H0 : HB) (G : Gm) (H : Hp) (σ : L2.St) (env : SE) (v : V) (d : D) (env' : SE), X.K = K → EnvOk K G0 H0 G H σ env → Rep K G H v d → dg d env = some env' → ∀ Q : L2.St → Hp → Prop, (∀ vs, EnvOk K G0 H0 G H (setS is vs σ) env' → Q (setS is vs σ) H) → g v σ H Q)
    (he : ∀ (s : Shared) (H : Hp) (C : Addr) (cl : List (Str × Addr)) (fp : List Addr), PRE (X.blk s H scope (compEnvC scope cl C X.env) fp) E0 elt te)
    (hy : X.N[i]? = some y := by rfl) (hyl : X.env.scope.names.lookup y = some .local := by rfl) (hsw : swapsWith (.ListComp elt [⟨tg, iter, [], 0⟩] scope pos) (some (.Name y py)) spos.line X.env = pure true := by first | exact sw_true rfl rfl rfl (by decide +kernel) | rfl)
    (his : ∀ i ∈ is, i ∈ own.map (·.2) := by decide) (hs : ∀ x, foldedSetIterable iter X.env x = pure x := by intro _; rfl) :
    PRS X E (.Assign [.Name y py] (.ListComp elt [⟨tg, iter, [], 0⟩] scope pos) spos) (rSetLc i (own.map (·.2)) ti dg te) := by
  obtain ⟨g, pg, gg⟩ := hg
  refine PS.wk (ps_setLc hc hN hy hyl hsw hi ok pg (fun s H C cl fp => show PTs (X.blk s H scope (compEnvC scope cl C X.env) fp) [] (liftT X.K E0 dYes) from ptsd_nil) (fun s H C cl fp => show PE (X.blk s H scope (compEnvC scope cl C X.env) fp) elt (liftRE X.K E0 te) from he s H C cl fp) hs) ?_
  rintro Z σ H ⟨G0, H0, G, env, os, J, e, r, no, h, z⟩
  refine lift_lcR gg his e r no h (z.ex os G H e.keep e.gok r) ?_
  rintro ds os' a G' H' q e' r'
  obtain ⟨kk, gok, rr, le⟩ := unh_head r' e'.keep e'.gok
  obtain ⟨acc, q1, q2⟩ := r'.at_ _ List.mem_cons_self
  have e4 : EnvOk X.K G0 H0 (unh G' a) H' σ env := by
    refine ⟨e'.g0, kk, gok, e'.len, fun p hp => Rep.le le (e'.tmp p hp), fun i d h => ?_, fun _ _ h => absurd h (noOwn no), fun _ _ _ _ _ _ h => absurd h (noOwn no), DicOk.non (fun _ _ _ z => noDic no z) fun _ _ _ _ _ _ z => noSto no z⟩
    obtain ⟨v, a, b⟩ := e'.val i d h
    exact ⟨v, a, Rep.le le b⟩
  have rep : Rep X.K (unh G' a) H' (.ref a) (.lst ds) := .lst (by unfold unh; rw [if_pos rfl]) q1 (RepL.le le q2)
  exact z.nx _ os' _ _ H' q (e4.setVal i rep) rr (noOwnB_set i no)
end
end QD
namespace QD
open PySem PySem.Spec PyProof.Rows L2
/-! ### every combinator where it is given all it takes -/
theorem dVar_app (i : Nat) (env : SE) (q : R → Prop) (u2_ : XP) : dVar i env q u2_ = (match env[i]? with
  | some (.val d) => q (.val d)
  | some (.own ds) => q (.brw ds)
  | some (.sto _ C _ fs ds) => q (.bin C (fs.map (·.1)) ds)
  | _ => False) := rfl
theorem dC_app (d : D) (u0_ : SE) (q : R → Prop) (u2_ : XP) : dC d u0_ q u2_ = (q (.val d)) := rfl
theorem dOp_app (f : D → D → Option D) (ta tb : DE) (env : SE) (q : R → Prop) (x : XP) : dOp f ta tb env q x = (ta env (fun r1 => tb env (fun r2 => ∃ d, f r1.d r2.d = some d ∧ q (.val d)) x) x) := rfl
theorem dTest_app (t : DE) (env : SE) (q : Bool → Prop) (x : XP) : dTest t env q x = (t env (fun r => ∃ b, r.d = .bl b ∧ q b) x) := rfl
theorem dChain_app (f f' : D → D → Option D) (ta tb tc : DE) (env : SE) (q : R → Prop) (x : XP) : dChain f f' ta tb tc env q x = (ta env (fun r1 => tb env (fun r2 => ∃ k, f r1.d r2.d = some (.bl k) ∧
  if k = true then tc env (fun r3 => ∃ d, f' r2.d r3.d = some d ∧ q (.val d)) x else q (.val (.bl false))) x) x) := rfl
theorem dAnd_app (ta tb : DE) (env : SE) (q : R → Prop) (x : XP) : dAnd ta tb env q x = (ta env (fun r => ∃ k, r.d = .bl k ∧ if k = true then tb env q x else q (.val (.bl false))) x) := rfl
theorem dOr_app (ta tb : DE) (env : SE) (q : R → Prop) (x : XP) : dOr ta tb env q x = (ta env (fun r => ∃ k, r.d = .bl k ∧ if k = true then q (.val (.bl true)) else tb env q x) x) := rfl
theorem dNot_app (ta : DE) (env : SE) (q : R → Prop) (x : XP) : dNot ta env q x = (ta env (fun r => ∃ k, r.d = .bl k ∧ q (.val (.bl (!k)))) x) := rfl
theorem dAndT_app (ta tb : DT) (env : SE) (q : Bool → Prop) (x : XP) : dAndT ta tb env q x = (ta env (fun k => if k = true then tb env q x else q false) x) := rfl
theorem dOrT_app (ta tb : DT) (env : SE) (q : Bool → Prop) (x : XP) : dOrT ta tb env q x = (ta env (fun k => if k = true then q true else tb env q x) x) := rfl
theorem dNotT_app (ta : DT) (env : SE) (q : Bool → Prop) (x : XP) : dNotT ta env q x = (ta env (fun k => q (!k)) x) := rfl
theorem dIf_app (t : DT) (ta tb : DE) (env : SE) (q : R → Prop) (x : XP) : dIf t ta tb env q x = (t env (fun k => if k = true then ta env q x else tb env q x) x) := rfl
theorem dNil_app (u0_ : SE) (q : List R → Prop) (u2_ : XP) : dNil  u0_ q u2_ = (q []) := rfl
theorem dCons_app (ta : DE) (tr : DA) (env : SE) (q : List R → Prop) (x : XP) : dCons ta tr env q x = (ta env (fun r => tr env (fun rs => q (r :: rs)) x) x) := rfl
theorem dTup_app (ta : DA) (env : SE) (q : R → Prop) (x : XP) : dTup ta env q x = (ta env (fun rs => ∃ ds, rs = ds.map R.val ∧ ds.length ≤ 16777216 ∧ q (.val (.tup ds))) x) := rfl
theorem dLst_app (ta : DA) (env : SE) (q : R → Prop) (x : XP) : dLst ta env q x = (ta env (fun rs => ∃ ds, rs = ds.map R.val ∧ ds.length ≤ 16777216 ∧ q (.val (.lst ds))) x) := rfl
theorem dCall_app (F : DF) (ta : DA) (env : SE) (q : R → Prop) (x : XP) : dCall F ta env q x = (ta env (fun rs => F (rs.map R.d) (fun d => (allVal rs = true ∨ noLst d = true) ∧ q (.val d)) x) x) := rfl
theorem dBlt_app (f : List D → Option D) (ta : DA) (env : SE) (q : R → Prop) (x : XP) : dBlt f ta env q x = (ta env (fun rs => ∃ d, f (rs.map R.d) = some d ∧ q (.val d)) x) := rfl
theorem dIsi_app (T : String) (ta : DE) (env : SE) (q : R → Prop) (x : XP) : dIsi T ta env q x = (ta env (fun r => ∃ b, isiD r.d T = some b ∧ q (.val (.bl b))) x) := rfl
theorem dNoPart_app (u0_ : SE) (q : Option Int → Prop) (u2_ : XP) : dNoPart  u0_ q u2_ = (q none) := rfl
theorem dPart_app (ta : DE) (env : SE) (q : Option Int → Prop) (x : XP) : dPart ta env q x = (ta env (fun r => ∃ i, r.d = .int i ∧ q (some i)) x) := rfl
theorem dSl_app (ta : DE) (tl th : DO) (env : SE) (q : R → Prop) (x : XP) : dSl ta tl th env q x = (ta env (fun r => tl env (fun lo => th env (fun hi => ∃ d, slD r.d lo hi = some d ∧ q (.val d)) x) x) x) := rfl
theorem dNext_app (J : DEnds) (env : SE) : dNext  J env = (J.nx env) := rfl
theorem dBreak_app (J : DEnds) (env : SE) : dBreak  J env = (J.bk env) := rfl
theorem dCont_app (J : DEnds) (env : SE) : dCont  J env = (J.ct env) := rfl
theorem dRet_app (te : DE) (J : DEnds) (env : SE) : dRet te J env = (te env (fun r => ∃ d, r = .val d ∧ J.rt d) J.ex) := rfl
theorem dRetOwn_app (i : Nat) (J : DEnds) (env : SE) : dRetOwn i J env = (∃ ds, env[i]? = some (.own ds) ∧ J.rt (.lst ds)) := rfl
theorem dRetN_app (J : DEnds) (env : SE) : dRetN  J env = (J.rt .non) := rfl
theorem dDrop_app (te : DE) (J : DEnds) (env : SE) : dDrop te J env = (te env (fun _ => J.nx env) J.ex) := rfl
theorem dFreeze_app (i : Nat) (t : DS) (J : DEnds) (env : SE) : dFreeze i t J env = (∃ ds, env[i]? = some (.own ds) ∧ t J (env.set i (.val (.lst ds)))) := rfl
theorem dSet_app (i : Nat) (te : DE) (J : DEnds) (env : SE) : dSet i te J env = (te env (fun r => ∃ d, r = .val d ∧ J.nx (env.set i (.val d))) J.ex) := rfl
theorem dFLst_app (ta : DA) (env : SE) (q : List D → Prop) (x : XP) : dFLst ta env q x = (ta env (fun rs => ∃ ds, rs = ds.map R.val ∧ ds.length ≤ 16777216 ∧ q ds) x) := rfl
theorem dOfF_app (t : DFr) (env : SE) (q : R → Prop) (x : XP) : dOfF t env q x = (t env (fun ds => q (.val (.lst ds))) x) := rfl
theorem dSetOwn_app (i : Nat) (t : DFr) (J : DEnds) (env : SE) : dSetOwn i t J env = (t env (fun ds => J.nx (env.set i (.own ds))) J.ex) := rfl
theorem dAppend_app (i : Nat) (te : DE) (J : DEnds) (env : SE) : dAppend i te J env = (∃ ds, env[i]? = some (.own ds) ∧ ds.length < 16777216 ∧ te env (fun r => ∃ d, r = .val d ∧ J.nx (env.set i (.own (ds ++ [d])))) J.ex) := rfl
theorem dInsert_app (i : Nat) (ta tb : DE) (J : DEnds) (env : SE) : dInsert i ta tb J env = (∃ ds, env[i]? = some (.own ds) ∧ ds.length < 16777216 ∧
  ta env (fun r => ∃ k, r.d = .int k ∧ 0 ≤ k ∧ k < 16777216 ∧ tb env (fun r2 => ∃ d, r2 = .val d ∧ J.nx (env.set i (.own (ds.take k.toNat ++ [d] ++ ds.drop k.toNat)))) J.ex) J.ex) := rfl
theorem dFNil_app (u0_ : SE) (q : List RF → Prop) (u2_ : XP) : dFNil  u0_ q u2_ = (q []) := rfl
theorem dFVal_app (ta : DE) (tr : DAF) (env : SE) (q : List RF → Prop) (x : XP) : dFVal ta tr env q x = (ta env (fun r => ∃ d, r = .val d ∧ tr env (fun rs => q (.val d :: rs)) x) x) := rfl
theorem dFOwn_app (ta : DFr) (tr : DAF) (env : SE) (q : List RF → Prop) (x : XP) : dFOwn ta tr env q x = (ta env (fun ds => tr env (fun rs => q (.own ds :: rs)) x) x) := rfl
theorem dPar_app (is : List Nat) (t : DAF) (J : DEnds) (env : SE) : dPar is t J env = (t env (fun rs => rs.length = is.length ∧ J.nx (setE is rs env)) J.ex) := rfl
theorem dUnpack_app (is : List Nat) (te : DE) (J : DEnds) (env : SE) : dUnpack is te J env = (te env (fun r => ∃ ds, r = .val (.tup ds) ∧ ds.length = is.length ∧ J.nx (setE is (ds.map RF.val) env)) J.ex) := rfl
theorem iSeq_app (te : DE) (env : SE) (q : List D → Bool → Prop) (x : XP) : iSeq te env q x = (te env (fun r => ∃ ds, r.d = .lst ds ∧ q ds r.isVal) x ∨ te env (fun r => ∃ ds, r.d = .tup ds ∧ q ds r.isVal) x) := rfl
theorem iRange1_app (ta : DE) (env : SE) (q : List D → Bool → Prop) (x : XP) : iRange1 ta env q x = (ta env (fun r => ∃ j, r.d = .int j ∧ -(2 ^ 62) ≤ j ∧ j < 2 ^ 62 ∧ q (rngD 0 j.toNat) true) x) := rfl
theorem iRange2_app (ta tb : DE) (env : SE) (q : List D → Bool → Prop) (x : XP) : iRange2 ta tb env q x = (ta env (fun r => ∃ i, r.d = .int i ∧ tb env (fun r2 => ∃ j, r2.d = .int j ∧ (-(2 ^ 62) ≤ i ∧ i < 2 ^ 62 ∧ -(2 ^ 62) ≤ j ∧ j < 2 ^ 62) ∧ q (rngD i (j - i).toNat) true) x) x) := rfl
theorem dFor_app (ti : DI) (dg : DG) (tb : DS) (J : DEnds) (env : SE) : dFor ti dg tb J env = (ti env (fun ds v => v = true ∧ dForL dg tb J ds env) J.ex) := rfl
theorem dYes_app (u0_ : SE) (q : Bool → Prop) (u2_ : XP) : dYes  u0_ q u2_ = (q true) := rfl
theorem dLc_app (vs : List Nat) (ti : DI) (dg : DG) (tt : DT) (te : DE) (env : SE) (q : List D → Prop) (x : XP) : dLc vs ti dg tt te env q x = (ti env (fun ds _ => ds.length ≤ 16777216 ∧ dLcL dg tt te ds (wipeE env vs) q) x) := rfl
theorem dNeg_app (ta : DE) (env : SE) (q : R → Prop) (x : XP) : dNeg ta env q x = (ta env (fun r => ∃ i, r.d = .int i ∧ q (.val (.int (-i)))) x) := rfl
theorem dSetLcV_app (i : Nat) (t : DFr) (J : DEnds) (env : SE) : dSetLcV i t J env = (t env (fun ds => J.nx (env.set i (.val (.lst ds)))) J.ex) := rfl
theorem dNever_app (u0_ : DEnds) (u1_ : SE) : dNever  u0_ u1_ = (False) := rfl
theorem iEnumD_app (te : DE) (env : SE) (q : List D → Bool → Prop) (x : XP) : iEnumD te env q x = (te env (fun r => ∃ ds, r.d = .lst ds ∧ q (enD ds) r.isVal) x ∨ te env (fun r => ∃ ds, r.d = .tup ds ∧ q (enD ds) r.isVal) x) := rfl
theorem dFld_app (C : Addr) (f : Str) (te : DE) (env : SE) (q : R → Prop) (x : XP) : dFld C f te env q x = (te env (fun r => ∃ ns ds d, r.d = .ins C ns ds ∧ lkD f ns ds = some d ∧ q (.val d)) x) := rfl
theorem dMeth0_app (F : DF) (te : DE) (env : SE) (q : R → Prop) (x : XP) : dMeth0 F te env q x = (te env (fun r => F [r.d] (fun d => r.isVal = true ∧ ∃ n : Int, d = .int n ∧ (0 ≤ n ∧ n < 2 ^ 63) ∧ q (.val d)) noX) x) := rfl
theorem dProp_app (F : DF) (te : DE) (env : SE) (q : R → Prop) (x : XP) : dProp F te env q x = (te env (fun r => F [r.d] (fun d => r.isVal = true ∧ q (.val d)) noX) x) := rfl
theorem dRaise_app (C : Addr) (J : DEnds) (u1_ : SE) : dRaise C J u1_ = (J.ex ⟨C, none⟩) := rfl
theorem dMake_app (C : Addr) (F : DF) (ta : DA) (env : SE) (q : R → Prop) (x : XP) : dMake C F ta env q x = (ta env (fun rs => ∃ ds, rs = ds.map R.val ∧ F ds (fun d => q (.val d)) x) x) := rfl
theorem dDc_app (vs : List Nat) (ti : DI) (dg : DG) (tk te : DE) (env : SE) (q : R → Prop) (x : XP) : dDc vs ti dg tk te env q x = (ti env (fun ds _ => ds.length ≤ 16777216 ∧ dDcL dg tk te ds (wipeE env vs) [] (fun ps => q (.val (.dct (ps.map (·.1)) (ps.map (·.2)))))) x) := rfl
theorem dDGet_app (ta tb : DE) (env : SE) (q : R → Prop) (x : XP) : dDGet ta tb env q x = (ta env (fun r => tb env (fun r2 => ∃ ks ds k d, r.d = .dct ks ds ∧ keyD r2.d = some k ∧ lkK k ks ds = some d ∧ q (.val d)) x) x) := rfl
theorem dLocked_app (i : Nat) (te : DE) (env : SE) (q : R → Prop) (x : XP) : dLocked i te env q x = (∃ ks ds, env[i]? = some (.val (.dct ks ds)) ∧ ∀ od kvs, kvs.map (·.1) = ks → te (env.set i (.val (.dcl od kvs))) (fun r => ∃ d, r = .val d ∧ noDl d = true ∧ q r) noX) := rfl
theorem iKeysD_app (te : DE) (env : SE) (q : List D → Bool → Prop) (x : XP) : iKeysD te env q x = (te env (fun r => ∃ od kvs, r = .val (.dcl od kvs) ∧ q (kvs.map fun p => dKey p.1) true) x) := rfl
theorem dPenGet_app (k : Nat) (te : DE) (env : SE) (q : R → Prop) (x : XP) : dPenGet k te env q x = (te env (fun r => r.d = .pen ∧ k < 3 ∧ ∀ i, penOk k i → q (.val (.int i))) x) := rfl
theorem dPenSet_app (i k : Nat) (te : DE) (J : DEnds) (env : SE) : dPenSet i k te J env = (te env (fun r => ∃ v, r.d = .int v ∧ env[i]? = some (.val .pen) ∧ penOk k v ∧ J.nx env) J.ex) := rfl
theorem dRetPen_app (t : DFr) (J : DEnds) (env : SE) : dRetPen t J env = (t env (fun ds => ∃ i j k, ds = [.int i, .int j, .int k] ∧ PenI i j k ∧ J.rt .pen) J.ex) := rfl
theorem dRev_app (te : DE) (env : SE) (q : R → Prop) (x : XP) : dRev te env q x = (te env (fun r => ∃ ds, r.d = .tup ds ∧ q (.val (.tup ds.reverse))) x) := rfl
theorem dJoin_app (sep : Str) (te : DE) (env : SE) (q : R → Prop) (x : XP) : dJoin sep te env q x = (te env (fun r => ∃ ds ys, seqOf r.d = some ds ∧ strsOf ds = some ys ∧ (ys.map (·.length)).sum + ys.length * sep.length ≤ 16777216 ∧ q (.val (.str (Txt.join sep ys)))) x) := rfl
theorem dDict0_app (u0_ : SE) (q : R → Prop) (u2_ : XP) : dDict0  u0_ q u2_ = (q (.val (.dct [] []))) := rfl
theorem dDict1_app (a b : Int) (u0_ : SE) (q : R → Prop) (u2_ : XP) : dDict1 a b u0_ q u2_ = (q (.val (.dct [.inl a] [.int b]))) := rfl
theorem dInC_app (F : DF) (neg : Bool) (ta tb : DE) (env : SE) (q : R → Prop) (x : XP) : dInC F neg ta tb env q x = (ta env (fun r1 => tb env (fun r2 => r1.isVal = true ∧ r2.isVal = true ∧ F [r2.d, r1.d] (fun d => ∃ c, d = .bl c ∧ q (.val (.bl (if neg then !c else c)))) noX) x) x) := rfl
theorem dBits_app (te : DE) (env : SE) (q : R → Prop) (x : XP) : dBits te env q x = (te env (fun r => ∃ i, r.d = .int i ∧ q (.val (.int (Builtin.Int.intBits i : Nat)))) x) := rfl
/-! ### statements, one at a time: what follows is a letter -/
theorem w_seq {t u : DS} {J : DEnds} {env : SE} (h : ∀ k : SE → Prop, (∀ e, u J e → k e) → t ⟨k, J.rt, J.bk, J.ct, J.ex⟩ env) : dSeq t u J env := h _ fun _ z => z
theorem w_if {c : DT} {t u : DS} {J : DEnds} {env : SE} (h : ∀ A B : Prop, (t J env → A) → (u J env → B) → c env (fun k => if k = true then A else B) J.ex) : dIfS c t u J env := h _ _ id id
/-! ### lists of values -/
theorem ex_nil' {P : List D → Prop} : (∃ ds : List D, ([] : List R) = ds.map R.val ∧ P ds) ↔ P [] :=
  ⟨fun ⟨ds, e, h⟩ => match ds, e, h with | [], _, h => h, fun h => ⟨[], rfl, h⟩⟩
theorem ex_cons' {a : D} {rs : List R} {P : List D → Prop} : (∃ ds : List D, R.val a :: rs = ds.map R.val ∧ P ds) ↔ ∃ ds : List D, rs = ds.map R.val ∧ P (a :: ds) := by
  constructor
  · rintro ⟨ds, e, h⟩
    cases ds with
    | nil => cases e
    | cons d ds => simp only [List.map_cons, List.cons.injEq, R.val.injEq] at e; obtain ⟨rfl, e⟩ := e; exact ⟨ds, e, h⟩
  · rintro ⟨ds, e, h⟩
    exact ⟨a :: ds, by rw [e]; rfl, h⟩
theorem ex_val {a : D} {P : D → Prop} : (∃ d, R.val a = R.val d ∧ P d) ↔ P a := ⟨fun ⟨d, e, h⟩ => by cases e; exact h, fun h => ⟨a, rfl, h⟩⟩
theorem ex_vald {α : Type} {a : α} {P : α → Prop} : (∃ d, some a = some d ∧ P d) ↔ P a := ⟨fun ⟨d, e, h⟩ => by cases e; exact h, fun h => ⟨a, rfl, h⟩⟩
theorem ex_bl {a : Bool} {P : Bool → Prop} : (∃ d, D.bl a = D.bl d ∧ P d) ↔ P a := ⟨fun ⟨d, e, h⟩ => by cases e; exact h, fun h => ⟨a, rfl, h⟩⟩
theorem ex_sbl {a : Bool} {P : Bool → Prop} : (∃ d, some (D.bl a) = some (D.bl d) ∧ P d) ↔ P a := ⟨fun ⟨d, e, h⟩ => by cases e; exact h, fun h => ⟨a, rfl, h⟩⟩
theorem ex_int {a : Int} {P : Int → Prop} : (∃ d, D.int a = D.int d ∧ P d) ↔ P a := ⟨fun ⟨d, e, h⟩ => by cases e; exact h, fun h => ⟨a, rfl, h⟩⟩
theorem ex_lst {a : List D} {P : List D → Prop} : (∃ d, D.lst a = D.lst d ∧ P d) ↔ P a := ⟨fun ⟨d, e, h⟩ => by cases e; exact h, fun h => ⟨a, rfl, h⟩⟩
theorem ex_tup {a : List D} {P : List D → Prop} : (∃ d, D.tup a = D.tup d ∧ P d) ↔ P a := ⟨fun ⟨d, e, h⟩ => by cases e; exact h, fun h => ⟨a, rfl, h⟩⟩
theorem no_lt {a : List D} {P : List D → Prop} : (∃ d, D.lst a = D.tup d ∧ P d) ↔ False := ⟨fun ⟨_, e, _⟩ => (nomatch e), False.elim⟩
theorem no_tl {a : List D} {P : List D → Prop} : (∃ d, D.tup a = D.lst d ∧ P d) ↔ False := ⟨fun ⟨_, e, _⟩ => (nomatch e), False.elim⟩
theorem ex_own {a : List D} {P : List D → Prop} : (∃ d, some (EV.own a) = some (EV.own d) ∧ P d) ↔ P a := ⟨fun ⟨d, e, h⟩ => by cases e; exact h, fun h => ⟨a, rfl, h⟩⟩
theorem ex_vtup {a : List D} {P : List D → Prop} : (∃ d, R.val (D.tup a) = R.val (D.tup d) ∧ P d) ↔ P a := ⟨fun ⟨d, e, h⟩ => by cases e; exact h, fun h => ⟨a, rfl, h⟩⟩
/-! ### loops -/
theorem for_inv {α : Type} (h : α → D) (I : List α → SE → Prop) {g : DG} {body : DS} {J : DEnds} : ∀ {l : List α} {env : SE}, I l env →
    (∀ a r env (k : SE → Prop), a ∈ l → I (a :: r) env → (∀ e, I r e → k e) → ∃ env', g (h a) env = some env' ∧ body ⟨k, J.rt, J.nx, k, J.ex⟩ env') → (∀ env, I [] env → J.nx env) → dForL g body J (l.map h) env
  | [], env, i, _, e => e env i
  | a :: r, env, i, st, e => by
    obtain ⟨env', e1, e2⟩ := st a r env (fun e => dForL g body J (r.map h) e) List.mem_cons_self i fun env1 i1 => for_inv h I i1 (fun b s env k m => st b s env k (List.mem_cons_of_mem _ m)) e
    exact ⟨env', e1, e2⟩
theorem for_invD (I : List D → SE → Prop) {g : DG} {body : DS} {J : DEnds} {l : List D} {env : SE} (i : I l env)
    (st : ∀ a r env (k : SE → Prop), a ∈ l → I (a :: r) env → (∀ e, I r e → k e) → ∃ env', g a env = some env' ∧ body ⟨k, J.rt, J.nx, k, J.ex⟩ env') (e : ∀ env, I [] env → J.nx env) : dForL g body J l env := by
  have := for_inv id I (g := g) (body := body) (J := J) i st e
  rwa [List.map_id] at this
/-- the same statement for every item, whatever the slots were that may change -/
theorem for_any {α : Type} (h : α → D) (I : SE → Prop) {g : DG} {body : DS} {J : DEnds} {l : List α} {env : SE} (i : I env)
    (st : ∀ a env (k : SE → Prop), a ∈ l → I env → (∀ e, I e → k e) → ∃ env', g (h a) env = some env' ∧ body ⟨k, J.rt, J.nx, k, J.ex⟩ env') (e : ∀ env, I env → J.nx env) : dForL g body J (l.map h) env :=
  for_inv h (fun _ => I) i (fun a _ env k m i hk => st a env k m i hk) e
theorem for_anyD (I : SE → Prop) {g : DG} {body : DS} {J : DEnds} {l : List D} {env : SE} (i : I env)
    (st : ∀ a env (k : SE → Prop), a ∈ l → I env → (∀ e, I e → k e) → ∃ env', g a env = some env' ∧ body ⟨k, J.rt, J.nx, k, J.ex⟩ env') (e : ∀ env, I env → J.nx env) : dForL g body J l env :=
  for_invD (fun _ => I) i (fun a _ env k m i hk => st a env k m i hk) e
/-! ### comprehensions -/
/-- every item tested and made without a draw -/
theorem lc_sel {α : Type} (h : α → D) (p : α → Bool) (f : α → D) {dg : DG} {tt : DT} {te : DE} {env : SE} : ∀ {l : List α} {q : List D → Prop},
    (∀ a ∈ l, ∃ env', dg (h a) env = some env' ∧ (∀ Q : Bool → Prop, Q (p a) → tt env' Q noX) ∧ (p a = true → ∀ Q : R → Prop, Q (.val (f a)) → te env' Q noX)) → q ((l.filter p).map f) → dLcL dg tt te (l.map h) env q
  | [], q, _, hq => hq
  | a :: l, q, ht, hq => by
    obtain ⟨env', e1, e2, e3⟩ := ht a List.mem_cons_self
    refine ⟨env', e1, e2 _ ?_⟩
    by_cases c : p a = true
    · rw [if_pos c]
      rw [List.filter_cons_of_pos c] at hq
      exact e3 c _ ⟨_, rfl, lc_sel h p f (fun b m => ht b (List.mem_cons_of_mem _ m)) hq⟩
    · rw [if_neg c]
      rw [List.filter_cons_of_neg c] at hq
      exact lc_sel h p f (fun b m => ht b (List.mem_cons_of_mem _ m)) hq
theorem lc_all {α : Type} (h : α → D) (f : α → D) {dg : DG} {te : DE} {env : SE} : ∀ {l : List α} {q : List D → Prop},
    (∀ a ∈ l, ∃ env', dg (h a) env = some env' ∧ (∀ Q : R → Prop, Q (.val (f a)) → te env' Q noX)) → q (l.map f) → dLcL dg dYes te (l.map h) env q
  | [], q, _, hq => hq
  | a :: l, q, ht, hq => by
    obtain ⟨env', e1, e3⟩ := ht a List.mem_cons_self
    exact ⟨env', e1, e3 _ ⟨_, rfl, lc_all h f (fun b m => ht b (List.mem_cons_of_mem _ m)) hq⟩⟩
theorem ex_false {α : Type} : (∃ _ : α, False) ↔ False := ⟨fun ⟨_, h⟩ => h, False.elim⟩
end QD
/-! texts over regions, walked -/
namespace QD
open PySem PySem.Spec PyProof.Rows L2
theorem r_seq {t u : DR} {J : REnds} {env : SE} {os : Reg} (h : ∀ k : SE → Reg → Prop, (∀ e o, u J e o → k e o) → t ⟨k, J.rt, J.bk, J.ct, J.ex⟩ env os) : rSeq t u J env os := h _ fun _ _ z => z
theorem r_of {t : DS} {J : REnds} {env : SE} {os : Reg} (h : ∀ k : SE → Prop, (∀ e, noOwnB e = true → J.nx e os → k e) → t ⟨k, fun d => J.rt d os, fun e => noOwnB e = true ∧ J.bk e os, fun e => noOwnB e = true ∧ J.ct e os, J.ex os⟩ env) : rOf t J env os := h _ fun _ a b => ⟨a, b⟩
theorem r_if {c : DT} {t u : DR} {J : REnds} {env : SE} {os : Reg} (h : ∀ A B : Prop, (t J env os → A) → (u J env os → B) → c env (fun k => if k = true then A else B) (J.ex os)) : rIfS c t u J env os := h _ _ id id
theorem r_for_inv {α : Type} (h : α → D) (I : List α → SE → Reg → Prop) {g : DG} {body : DR} {J : REnds} : ∀ {l : List α} {env : SE} {os : Reg}, I l env os →
    (∀ a r env os (k : SE → Reg → Prop), a ∈ l → I (a :: r) env os → (∀ e o, I r e o → k e o) → ∃ env', g (h a) env = some env' ∧ noOwnB env' = true ∧ body ⟨k, J.rt, J.nx, k, J.ex⟩ env' os) → (∀ env os, I [] env os → J.nx env os) → rForL g body J (l.map h) env os
  | [], env, os, i, _, e => e env os i
  | a :: r, env, os, i, st, e => by
    obtain ⟨env', e1, e2, e3⟩ := st a r env os (fun e o => rForL g body J (r.map h) e o) List.mem_cons_self i fun env1 os1 i1 => r_for_inv h I i1 (fun b s env os k m => st b s env os k (List.mem_cons_of_mem _ m)) e
    exact ⟨env', e1, e2, e3⟩
theorem rFor_app (ti : DI) (dg : DG) (tb : DR) (J : REnds) (env : SE) (os : Reg) : rFor ti dg tb J env os = ti env (fun ds v => v = true ∧ rForL dg tb J ds env os) (J.ex os) := rfl
theorem rNext_app (J : REnds) (env : SE) (os : Reg) : rNext J env os = J.nx env os := rfl
end QD
/-! texts over lent regions, walked -/
namespace QD
open PySem PySem.Spec PyProof.Rows L2
theorem rForF_app (te : DE) (m : Nat) (dg : DG) (tb : DR) (J : REnds) (env : SE) (os : Reg) : rForF te m dg tb J env os = te env (fun r => ∃ b es, r = .val (.adr b) ∧ os[m]? = some (b, .lst es) ∧ rForK (fun o => o[m]? = some (b, .lst es)) dg tb J es env os) (J.ex os) := rfl
theorem rFldL_app (C : Addr) (f : Str) (J : REnds) (env : SE) (os : Reg) : rFldL C f J env os = ∃ a n dx ns ds, env[0]? = some (.val (.adr a)) ∧ os[n]? = some (a, OO.ins C dx ns ds) ∧ (∀ g ∈ ns, g ≠ f) ∧ ns.length < 900 ∧ ∀ b, J.nx env ((b, .lst []) :: os.set n (a, .ins C dx (ns ++ [f]) (ds ++ [.adr b]))) := rfl
theorem rFldD_app (C : Addr) (f : Str) (J : REnds) (env : SE) (os : Reg) : rFldD C f J env os = ∃ a n dx ns ds, env[0]? = some (.val (.adr a)) ∧ os[n]? = some (a, OO.ins C dx ns ds) ∧ (∀ g ∈ ns, g ≠ f) ∧ ns.length < 900 ∧ ∀ b, J.nx env ((b, .dic [] []) :: os.set n (a, .ins C dx (ns ++ [f]) (ds ++ [.adr b]))) := rfl
theorem reOf_app (te : DE) (env : SE) (os : Reg) (q : R → Reg → Prop) (x : Reg → XP) : reOf te env os q x = te env (fun r => q r os) (x os) := rfl
/-- a list gone through that stays as it is -/
theorem r_fork_inv {α : Type} (h : α → D) (pr : Reg → Prop) (I : List α → SE → Prop) {g : DG} {body : DR} {J : REnds} {os : Reg} (hp : pr os) : ∀ {l : List α} {env : SE}, I l env →
    (∀ a r env (k : SE → Reg → Prop), a ∈ l → I (a :: r) env → (∀ e, I r e → k e os) → ∃ env', g (h a) env = some env' ∧ noOwnB env' = true ∧ body ⟨k, J.rt, J.nx, k, J.ex⟩ env' os) → (∀ env, I [] env → J.nx env os) → rForK pr g body J (l.map h) env os
  | [], env, i, _, e => e env i
  | a :: r, env, i, st, e => by
    obtain ⟨env', e1, e2, e3⟩ := st a r env (fun e o => pr o ∧ rForK pr g body J (r.map h) e o) List.mem_cons_self i fun env1 i1 => ⟨hp, r_fork_inv h pr I hp i1 (fun b s env k m => st b s env k (List.mem_cons_of_mem _ m)) e⟩
    exact ⟨env', e1, e2, e3⟩
theorem r_while_inv {c : DT} {body : DR} {J : REnds} (I : Nat → SE → Reg → Prop) : ∀ (n : Nat) {env : SE} {os : Reg}, I n env os →
    (∀ m env os, I m env os → ∀ k : SE → Reg → Prop, (∀ m', m' < m → ∀ e o, I m' e o → k e o) → c env (fun b => if b = true then body ⟨k, J.rt, J.nx, k, J.ex⟩ env os else J.nx env os) (J.ex os)) → rWhile c body J env os := by
  have aux : ∀ (n m : Nat) {env : SE} {os : Reg}, m < n → I m env os → (∀ m env os, I m env os → ∀ k : SE → Reg → Prop, (∀ m', m' < m → ∀ e o, I m' e o → k e o) → c env (fun b => if b = true then body ⟨k, J.rt, J.nx, k, J.ex⟩ env os else J.nx env os) (J.ex os)) → rWhileL c body J n env os := by
    intro n
    induction n with
    | zero => intro m env os h; omega
    | succ n ih =>
      intro m env os hm i st
      exact st m env os i (fun e o => rWhileL c body J n e o) fun m' h' e o i' => ih m' (by omega) i' st
  intro n env os i st
  exact ⟨n + 1, aux (n + 1) n (by omega) i st⟩
/-- a list made of calls that change the region -/
theorem r_lc_inv {α : Type} (h : α → D) (I : List α → List D → Reg → Prop) {g : DG} {te : DRE} {env : SE} : ∀ {l : List α} {os : Reg} {acc : List D} {q : List D → Reg → Prop}, I l acc os →
    (∀ a r acc os, a ∈ l → I (a :: r) acc os → ∃ env', g (h a) env = some env' ∧ noOwnB env' = true ∧ ∀ Q : R → Reg → Prop, (∀ d os', I r (acc ++ [d]) os' → Q (.val d) os') → te env' os Q (fun _ => noX)) → (∀ ds os, I [] (acc ++ ds) os → q ds os) → rLcL g te (l.map h) env os q
  | [], os, acc, q, i, _, e => e [] os (by simpa using i)
  | a :: r, os, acc, q, i, st, e => by
    obtain ⟨env', e1, e2, e3⟩ := st a r acc os List.mem_cons_self i
    refine ⟨env', e1, e2, e3 _ fun d os' i' => ⟨d, rfl, ?_⟩⟩
    exact r_lc_inv h I i' (fun b s acc os m => st b s acc os (List.mem_cons_of_mem _ m)) fun ds os2 i2 => e (d :: ds) os2 (by simpa using i2)
end QD
/-! a lambda is made, handed to a def, called there in a try -/
namespace QD
open PySem PySem.Spec PyProof.Rows L2
/-- the table at P may have grown, and code objects be new; all else is as it was -/
structure Grow (P : Addr) (H H1 : Hp) : Prop where
  old : ∀ b o, b ≠ P → H b = some o → H1 b = some o
  tab : LamX.TabS H1 P lamQ
  was : ∃ ps, H P = some (.tbl ps)
theorem Grow.keep {P : Addr} {G : Gm} {H H1 : Hp} (r : Grow P H H1) (g : GOk G H) : Keep G G H H1 := by
  obtain ⟨ps, hp⟩ := r.was
  have off : ∀ {b o}, H b = some o → (∀ z, o ≠ .tbl z) → b ≠ P := fun e n z => n ps (by rw [z, hp] at e; exact (Option.some.inj e).symm)
  refine ⟨fun b o e _ n => r.old b o (off e n) e, fun b _ ⟨i, j, k, e, q⟩ => ⟨i, j, k, r.old b _ (off e nofun) e, q⟩, fun b K J _ m => m.ext (fun a xs q => q.imp (fun z => r.old _ _ (off z fun _ w => by cases w) z) fun ⟨u, z⟩ => ⟨u, r.old _ _ (off z fun _ w => by cases w) z⟩) fun kvs z => r.old _ _ (off z fun _ w => by cases w) z, fun _ _ => rfl, fun b us e => ?_⟩
  by_cases z : b = P
  · subst z
    obtain ⟨us', h1, h2, h3⟩ := id r.tab
    exact ⟨us', h1, fun q t => ⟨t.1, by rw [t.1]; exact r.tab⟩⟩
  · refine ⟨us, r.old b _ z e, fun q ⟨t1, vs, t2, t3, t4⟩ => ⟨t1, vs, r.old b _ z t2, t3, fun pos cv y => ?_⟩⟩
    obtain ⟨c, c1, c2⟩ := t4 pos cv y
    exact ⟨c, c1, r.old c _ (off c2 LamX.codeO_ne) c2⟩
theorem Grow.gok {P : Addr} {G : Gm} {H H1 : Hp} (r : Grow P H H1) (g : GOk G H) : GOk G H1 := by
  obtain ⟨ps, hp⟩ := r.was
  have off : ∀ {b o}, H b = some o → (∀ z, o ≠ .tbl z) → b ≠ P := fun e n z => n ps (by rw [z, hp] at e; exact (Option.some.inj e).symm)
  refine ⟨fun b x e => ?_, fun b e => ?_, fun b K J e => ?_⟩
  · obtain ⟨o, q, m⟩ := g.lst b x e
    exact ⟨o, r.old b o (off q m.nt) q, m⟩
  · obtain ⟨i, j, k, q, z⟩ := g.pen b e
    exact ⟨i, j, k, r.old b _ (off q nofun) q, z⟩
  · exact (r.keep g).memo b K J e (g.memo b K J e)
section
variable {X : Cx} {pins : List (Addr × Obj)} {σ : L2.St} {H : Hp} {s : Shared}
/-- the function object of a lambda -/
abbrev lamObj (X : Cx) (ar : Arguments) (bd : Expr) (sc : Scope) (md : Value) (c' : Addr) (tv : Value) : Obj := PySem.W.kla_obj "<lambda>" (X.env.qual ++ "<lambda>") ar bd sc (cloFrom X.env.cells sc.names []) md c' tv
end
end QD
/-! a def that is handed the exception that is handled -/
namespace QD
open PySem PySem.Spec PyProof.Rows L2
/-! ### how often a truth value stands in a list, and where -/
section
variable {X : Cx}
end
section
variable {X : Cx} {E : XK} {o e a : Expr} {te : DE} {pos p p2 apos : Pos} {n : Nat}
def dCntT (te : DE) : DE := fun env q x => te env (fun r => ∃ bs : List Bool, r.d = .lst (bs.map .bl) ∧ q (.val (.int ((bs.countP id : Nat) : Int)))) x
def dIdxT (te : DE) : DE := fun env q x => te env (fun r => ∃ (bs : List Bool) (j : Nat), r.d = .lst (bs.map .bl) ∧ bs[j]? = some true ∧ (∀ m < j, bs[m]? = some false) ∧ q (.val (.int (j : Int)))) x
end
/-! ### what is asked of the exception -/
section
variable {X : Cx} {E : XK} {o e : Expr} {te : DE} {pos p p2 apos : Pos} {n : Nat} {a C : Addr} {oe : Obj} {d : Option Addr}
def dIsP (a : Addr) (d : Option Addr) (b : Bool) (te : DE) : DE := fun env q x => te env (fun r => (∃ ns ds, r = .val (.exo a d ns ds)) ∧ q (.val (.bl b))) x
/-- a field of it -/
def dXf (a : Addr) (d : Option Addr) (f : Str) (te : DE) : DE := fun env q x => te env (fun r => ∃ ns ds v, r = .val (.exo a d ns ds) ∧ (ns.zip ds).lookup f = some v ∧ q (.val v)) x
end
end QD
/-! the def that is handed the exception; the def that calls the lambda in a try; the call of both as one expression -/
namespace QD
open PySem PySem.Spec PyProof.Rows L2
/-- the context of a def that is handed p's exception, of the class C -/
structure BW (X : Cx) (k : Nat) (a C : Addr) (oe : Obj) (d : Option Addr) : Prop where
  nd : X.N.Nodup
  room : L2H.RoomH k X.A
  pin : (a, oe) ∈ X.pn
  cls : Zc (.ref C) d oe
  fld : ∃ vs, oe.data = .fields vs
theorem BW.u64 {X : Cx} {k : Nat} {a C : Addr} {oe : Obj} {d : Option Addr} (B : BW X k a C oe d) : X.A.units + 64 < cLine := by have := B.room.un; omega
theorem BW.u65 {X : Cx} {k : Nat} {a C : Addr} {oe : Obj} {d : Option Addr} (B : BW X k a C oe d) : X.A.units + 65 < cLine := by have := B.room.un; omega
abbrev WSp := Addr → Addr → Option Addr → Hp → VK → Prop
structure FnW (P : Program) (w : World) (K : PySem.W.Frag) (mg : Str → Option Value) (base : Heap) (k : Nat) (f : Addr) (fd : FuncData) (y : Str) (sp : WSp) : Prop where
  run : ∀ (A : Around) (callers : List PySem.Env) (s : Shared) (H : Hp) (Q : VK) (p : Addr × Obj) (C : Addr) (d : Option Addr), L2H.RoomH k A → L2H.PinOk callers H s p → Zc (.ref C) d p.2 → (∃ vs, p.2.data = .fields vs) →
    Env0 P w K mg base A callers s H → BindsTo s fd ⟨[.ref p.1], []⟩ ([y].zip [.ref p.1]) → sp p.1 C d H Q → codeAny (model P w) A (.call (.ref f) ⟨[.ref p.1], []⟩) (CR (L2.CX P w) callers P w H s Q E0) s
/-! ### over data -/
def xns (e : Exn) : List Str := match e.fs with
  | none => []
  | some fs => fs.map (·.1)
def xds (e : Exn) : List D := match e.fs with
  | none => []
  | some fs => fs.map (·.2)
/-- what the word for an exception is, and what its class answers -/
abbrev WRel := Exn → (Str → Bool) → D → Prop
def spW (K : PySem.W.Frag) (W : WRel) : WSp := fun a C d H Q => ∃ e bs w G, C = e.C ∧ W e bs w ∧ GOk G H ∧ Rep K G H (.ref a) (.exo a d (xns e) (xds e)) ∧ ∀ v G' H', Keep G G' H H' → GOk G' H' → Rep K G' H' v w → Q v H'
/-- what the def asks of a class -/
structure KnX (K : PySem.W.Frag) (mg : Str → Option Value) (bs : Str → Bool) (C : Addr) : Prop where
  ex : L2.ExcC K C
  own : ∀ n ∈ (["NoCourse", "NoItem", "NoSet", "NoState", "NoOrder", "NoAnswers", "NoDurations", "NoNames", "NoPlace", "NoDeed", "OtherCourse", "Clash", "TooMany", "BadText"] : List Str), ∃ D, mg n = some (.ref D) ∧ PySem.W.kitOne K (.ref C) (.ref D) = some (bs n)
  val : PySem.W.kitOne K (.ref C) (.type "ValueError") = some (bs "ValueError")
  few : PySem.W.kitAny K (.ref C) ((["LookupError", "TypeError", "ArithmeticError", "RuntimeError"] : List String).map Value.type) = some (bs "LookupError")
  xf : XfC K C
  fld : ∀ f ∈ (["item", "noes", "limit", "line"] : List Str), PySem.W.findIn K (.ref C) f = some none
structure TxE (mg : Str → Option Value) : Prop where
  ValueError : mg "ValueError" = none
  LookupError : mg "LookupError" = none
  TypeError : mg "TypeError" = none
  ArithmeticError : mg "ArithmeticError" = none
  RuntimeError : mg "RuntimeError" = none
/-! ### the call of such a def in the suite -/
structure CalW (P : Program) (w : World) (K : PySem.W.Frag) (mg : Str → Option Value) (base : Heap) (k : Nat) (x : Str) (W : WRel) : Prop where
  ex : ∃ f fd y, FnW P w K mg base k f fd y (spW K W) ∧ mg x = some (.ref f) ∧ PySem.W.keepIn K (.ref f) = true ∧ Binds K fd [y] []
end QD
/-! what a def says of a lambda's call: the value, or the word for the exception -/
namespace QD
open PySem PySem.Spec PyProof.Rows L2
/-- the def that calls what it gets in a try -/
def toldBody (a e x wd : Str) (j j2 : Nat) (p1 p2 p3 p4 p5 p6 p7 p8 p9 p10 p11 p12 : Pos) : List Stmt :=
  [.Try [.Return (some (.Tuple [.Constant (.str "told") j p1, .Call (.Name a p2) [] [] p3] j2 p4)) p5] [.ExceptHandler (some (.Name x p6)) (some e) [.Return (some (.Call (.Name wd p7) [.Name e p8] [] p9)) p10] p11] [] [] p12]
structure SaidG (P : Program) (w : World) (K : PySem.W.Frag) (mg : Str → Option Value) (base : Heap) (k : Nat) (W : WRel) : Prop where
  ex : ∃ (st : Stmt) (g : Addr) (fd : FuncData) (CS : Addr) (j j2 : Nat) (p1 p2 p3 p4 p5 p6 p7 p8 p9 p10 p11 p12 : Pos),
    Fun K "_law_said" "_law_said" st g fd ∧ FnScope ["_law_call", "_law_e"] ["_law_call"] (defScope st) ∧ (defScope st).names.lookup ("LearnError" : Str) = some .globalImplicit ∧ (defScope st).names.lookup ("_law_word" : Str) = some .globalImplicit ∧ (defScope st).names.lookup ("_law_e" : Str) = some .local ∧
    defBody st = toldBody "_law_call" "_law_e" "LearnError" "_law_word" j j2 p1 p2 p3 p4 p5 p6 p7 p8 p9 p10 p11 p12 ∧ mg "_law_said" = some (.ref g) ∧ PySem.W.keepIn K (.ref g) = true ∧ Binds K fd ["_law_call"] [] ∧
    mg "LearnError" = some (.ref CS) ∧ CalW P w K mg base k "_law_word" W ∧ ∀ e bs wd, W e bs wd → PySem.W.exmOne K (.ref e.C) (.ref CS) = some true
/-- the lambda of a context -/
structure LamC (X : Cx) (ar : Arguments) (sc : Scope) (P : Addr) : Prop where
  tb : ∃ c, LamX.TabB X.base X.mg c P ∧ X.env.code = .ref c
  eq : X.env.qual ++ "<lambda>" = lamQ
  nodef : defaultsOf ar X.env = ([], [])
  L : LamX.LamS X.env.scope sc
abbrev lamX (X : Cx) (E : XK) (A : Around) (callers : List PySem.Env) (s : Shared) (H : Hp) (sc : Scope) (f c' : Addr) : Cx := LamX.lamCx X A callers s H E sc f c'
def dSaid (i : Nat) (P : Addr) (W : WRel) (te : DE) : DE := fun env q x => env[i]? = some (.val (.tab P lamQ)) ∧ te env (fun r => ∃ d, r = .val d ∧ q (.val (.tup [.str "told", d]))) (fun e => ∃ bs w, W e bs w ∧ q (.val w))
section
variable {X : Cx} {E : XK} {j k : Nat} {P : Addr} {W : WRel} {ar : Arguments} {bd : Expr} {sc : Scope} {te : DE} {i : Nat} {p lp pos : Pos}
end
end QD
/-! a law that makes lambdas: its def, its row -/
namespace QD
open PyProof
open PySem PySem.Spec PyProof.Rows L2
/-! ### the row -/
section
variable {P : Program} {w : World} {K : PySem.W.Frag} {mg mb : Str → Option Value} {a T : Addr} {s : Shared} {H : Hp} {vs : List Value}
/-- the script's list and the table alone are tracked -/
structure TabOnly (K : PySem.W.Frag) (H : Hp) (a T : Addr) : Prop where
  at_ : H T = some (.tbl #[])
  frz : ∀ b, b ≠ T → H b = none ∨ ∃ o xs, H b = some (.frz o (.lst xs))
  one : ∀ b, H b ≠ none → b = a ∨ b = T
  out : H a ≠ none → K.lookup a = none
abbrev tab0 : Obj := { cls := .none, data := .fields #[] }
theorem TabOnly.free {b : Addr} {o : Obj} (S : TabOnly K H a T) (obj : s.heap.get? a = some { cls := .type "list", data := .seq vs.toArray }) (ht : s.heap.get? T = some tab0) (e : s.heap.get? b = some o) (d : (∃ es n, o.data = .dict es n) ∨ o.cls ≠ .type "list" ∧ o.cls ≠ .none) : H b = none := by
  cases q : H b with
  | none => rfl
  | some u =>
    rcases S.one b (by rw [q]; simp) with eb | eb
    · rw [eb, obj] at e
      cases e
      rcases d with ⟨es, n, d⟩ | ⟨d, _⟩
      · cases (show Data.seq vs.toArray _ = Data.dict es n from d)
      · exact absurd rfl d
    · rw [eb, ht] at e
      cases e
      rcases d with ⟨es, n, d⟩ | ⟨_, d⟩
      · cases (show Data.fields #[] = Data.dict es n from d)
      · exact absurd rfl d
end
/-! ### what is known of an exception's class -/
section
variable {X : Cx} {E : XK} {e : Expr} {te : DE} {pos p p2 : Pos} {k : Nat} {a C : Addr} {oe : Obj} {d : Option Addr} {bs : Str → Bool}
end
end QD
namespace QD
open PySem PySem.Spec PyProof.Rows L2
theorem dCntT_app (te : DE) (env : SE) (q : R → Prop) (x : XP) : dCntT te env q x = te env (fun r => ∃ bs : List Bool, r.d = .lst (bs.map .bl) ∧ q (.val (.int ((bs.countP id : Nat) : Int)))) x := rfl
theorem dIdxT_app (te : DE) (env : SE) (q : R → Prop) (x : XP) : dIdxT te env q x = te env (fun r => ∃ (bs : List Bool) (j : Nat), r.d = .lst (bs.map .bl) ∧ bs[j]? = some true ∧ (∀ m < j, bs[m]? = some false) ∧ q (.val (.int (j : Int)))) x := rfl
theorem dIsP_app (a : Addr) (d : Option Addr) (b : Bool) (te : DE) (env : SE) (q : R → Prop) (x : XP) : dIsP a d b te env q x = te env (fun r => (∃ ns ds, r = .val (.exo a d ns ds)) ∧ q (.val (.bl b))) x := rfl
theorem dXf_app (a : Addr) (d : Option Addr) (f : Str) (te : DE) (env : SE) (q : R → Prop) (x : XP) : dXf a d f te env q x = te env (fun r => ∃ ns ds v, r = .val (.exo a d ns ds) ∧ (ns.zip ds).lookup f = some v ∧ q (.val v)) x := rfl
theorem dSaid_app (i : Nat) (P : Addr) (W : WRel) (te : DE) (env : SE) (q : R → Prop) (x : XP) : dSaid i P W te env q x = (env[i]? = some (.val (.tab P lamQ)) ∧ te env (fun r => ∃ d, r = .val d ∧ q (.val (.tup [.str "told", d]))) (fun e => ∃ bs w, W e bs w ∧ q (.val w))) := rfl
end QD
namespace QD
open PySem PySem.Spec PyProof.Rows L2
section
variable {X : Cx} {E : XK} {a o e : Expr} {te ta : DE} {p p2 pos apos : Pos}
/-- list(range(n)) -/
def dLstRg (te : DE) : DE := fun env q x => te env (fun r => ∃ j : Int, r.d = .int j ∧ -(2 ^ 62) ≤ j ∧ j < 2 ^ 62 ∧ j.toNat ≤ 16777216 ∧ q (.val (.lst (rngD 0 j.toNat)))) x
end
theorem dLstRg_app (te : DE) (env : SE) (q : R → Prop) (x : XP) : dLstRg te env q x = te env (fun r => ∃ j : Int, r.d = .int j ∧ -(2 ^ 62) ≤ j ∧ j < 2 ^ 62 ∧ j.toNat ≤ 16777216 ∧ q (.val (.lst (rngD 0 j.toNat)))) x := rfl
/-! ### an own list: pop -/
theorem RepL.eraseIdx {K : PySem.W.Frag} {G : Gm} {H : Hp} : ∀ {vs : List V} {ds : List D} (k : Nat), RepL K G H vs ds → RepL K G H (vs.eraseIdx k) (ds.eraseIdx k)
  | _, _, _, .nil => .nil
  | _, _, 0, .cons _ r => r
  | _, _, k + 1, .cons a r => .cons a (RepL.eraseIdx k r)
section
variable {X : Cx} {E : XK} {a e : Expr} {ta te : DE} {pos p : Pos} {x y : Str}
def dFLstRg (te : DE) : DFr := fun env q x => te env (fun r => ∃ j : Int, r.d = .int j ∧ -(2 ^ 62) ≤ j ∧ j < 2 ^ 62 ∧ j.toNat ≤ 16777216 ∧ q (rngD 0 j.toNat)) x
def dSetPopAt (i j : Nat) (te : DE) : DS := fun J env => ∃ ds, env[j]? = some (.own ds) ∧ te env (fun r => ∃ (k : Int) (m : Nat) (d : D), r.d = .int k ∧ -(2 ^ 63) ≤ k ∧ k < 2 ^ 63 ∧ seqIndex? k ds.length = some m ∧ ds[m]? = some d ∧ J.nx ((env.set j (.own (ds.eraseIdx m))).set i (.val d))) J.ex
end
theorem dSetPopAt_app (i j : Nat) (te : DE) (J : DEnds) (env : SE) : dSetPopAt i j te J env = ∃ ds, env[j]? = some (.own ds) ∧ te env (fun r => ∃ (k : Int) (m : Nat) (d : D), r.d = .int k ∧ -(2 ^ 63) ≤ k ∧ k < 2 ^ 63 ∧ seqIndex? k ds.length = some m ∧ ds[m]? = some d ∧ J.nx ((env.set j (.own (ds.eraseIdx m))).set i (.val d))) J.ex := rfl
theorem dFLstRg_app (te : DE) (env : SE) (q : List D → Prop) (x : XP) : dFLstRg te env q x = te env (fun r => ∃ j : Int, r.d = .int j ∧ -(2 ^ 62) ≤ j ∧ j < 2 ^ 62 ∧ j.toNat ≤ 16777216 ∧ q (rngD 0 j.toNat)) x := rfl
end QD
/-! super().__init__("..") in an own exception's __init__; raise C(..) of such a class -/
namespace QD
open PySem PySem.Spec PyProof.Rows L2 NdefX
/-! ### facts -/
/-- the code object at cda names the program's main file -/
def fileB (P : Program) (K : PySem.W.Frag) (cda : Addr) : Bool := match K.lookup cda with
  | some ⟨_, _, .fields vs, _⟩ => (match (vs[2]? : Option Value) with | some (.str file _) => (P.main.file : Str) == file | _ => false)
  | _ => false
/-- the cell at cc holds the class at C -/
def cellB (K : PySem.W.Frag) (cc C : Addr) : Bool := match K.lookup cc with
  | some ⟨_, _, .cell (some (.ref D)), _⟩ => D == C
  | _ => false
/-- what the written part says of C.__init__, the def st whose code names its class's cell -/
structure SupI (P : Program) (K : PySem.W.Frag) (mg : Str → Option Value) (C f : Addr) (qual : Str) (st : Stmt) (fd : FuncData) (cc cda : Addr) : Prop where
  fn : ∃ oc od osl, K.lookup f = some ⟨oc, od, .func fd, osl⟩
  fd : ∃ name dV kV doc pm an ct, fd = PySem.W.ksFn name qual (defArgs st) (defBody st) (defScope st) dV kV doc pm an (.ref cda) ct cc
  code : PySem.W.codeIn K (.ref cda) qual = true
  file : fileB P K cda = true
  cell : cellB K cc C = true
  oex : OexC K C
  sup : PySem.W.ks_superIn K C C "__init__" = some (some (.builtin "ValueError.__init__"))
  val : PySem.W.subIn K (.ref C) (.type "ValueError") = some true
  own : PySem.W.mroIn K C (.ref C) = some true
  nos : mg "super" = none
  top : (P.main.scope.names.lookup ("super" : Str)).isSome = false
  op : PySem.W.nsIn K cStatics "thirdparty.any" = some none
section
variable {X : Cx} {pins : List (Addr × Obj)} {σ : L2.St} {H : Hp} {s : Shared} {a C u : Addr}
end
section
variable {CX : CXT} {P : Program} {w : World} {K : PySem.W.Frag} {mg : Str → Option Value} {base : Heap} {N : List Str} {qual txt y : Str} {st : Stmt} {fd : FuncData} {f cc cda C a : Addr} {A : Around} {outer : List PySem.Env} {s0 s : Shared} {H0 H : Hp} {E : XK} {σ : L2.St} {p0 p1 p2 p3 p4 p5 : Pos} {n : Nat} {ar : Arg}
end

/-! ### the def's promise -/
/-- the attributes gs hold what is given -/
def spSup (C : Addr) (gs : List Str) : Sp := fun vs H Q _ => ∃ (a : Addr) (us : List V), vs = .ref a :: us ∧ us.length = gs.length ∧ H a = some (exo a C none) ∧
  ∀ (d : Addr) (H' : Hp), H d = none → d ≠ a → H' a = some (exo a C (some d)) → H' d = some (exd d ((gs.zip us).reverse)) → (∀ b, b ≠ a → b ≠ d → H' b = H b) → Q .non H'
section
variable {CX : CXT} {P : Program} {w : World} {K : PySem.W.Frag} {mg : Str → Option Value} {base : Heap} {N ps : List Str} {qual txt y : Str} {st : Stmt} {fd : FuncData} {f cc cda C : Addr} {p0 p1 p2 p3 p4 p5 : Pos} {n k : Nat} {rest : List Stmt} {sp : Sp}
end

section
variable {CX : CXT} {P : Program} {w : World} {K : PySem.W.Frag} {mg : Str → Option Value} {base : Heap} {qual txt y g1 g2 : Str} {st : Stmt} {fd : FuncData} {f cc cda C : Addr} {p0 p1 p2 p3 p4 p5 q1 q2 q3 q4 q5 q6 q7 q8 : Pos} {n k : Nat}
end
/-! ### raise C(e, ..) -/
/-- raise C(..): the attributes gs, the last written first -/
def dRaiseF (C : Addr) (gs : List Str) (ta : DA) : DS := fun J env => ta env (fun rs => ∃ ds, rs = ds.map R.val ∧ ds.length = gs.length ∧ gs.length ≤ 1000 ∧ noLsts ds = true ∧ J.ex ⟨C, some (gs.zip ds).reverse⟩) J.ex
structure RaiF (P : Program) (w : World) (K : PySem.W.Frag) (mg : Str → Option Value) (base : Heap) (k : Nat) (x : Str) (C : Addr) (gs : List Str) : Prop where
  g : mg x = some (.ref C)
  ox : OexC K C
  ini : ∃ f fd ps, FnOk P w K mg base (L2.CX P w) k f fd ps (spSup C gs) ∧ PySem.W.findIn K (.ref C) "__init__" = some (some (.ref f)) ∧ PySem.W.typeIn K (.ref f) = some (.type "function") ∧ Binds K fd ps []
section
variable {X : Cx} {E : XK} {e : Expr} {es : List Expr} {sA : DA} {k j : Nat} {C : Addr} {x : Str} {p pos apos : Pos} {gs : List Str}
end
theorem dRaiseF_app (C : Addr) (gs : List PySem.Str) (ta : DA) (J : DEnds) (env : SE) : dRaiseF C gs ta J env = ta env (fun rs => ∃ ds, rs = ds.map R.val ∧ ds.length = gs.length ∧ gs.length ≤ 1000 ∧ noLsts ds = true ∧ J.ex ⟨C, some (gs.zip ds).reverse⟩) J.ex := rfl
end QD
/-! a starred tuple in a display -/
namespace QD
open PySem PySem.Spec PyProof.Rows L2 ClX StX
def dStarT (te : DE) (ta : DA) : DA := fun env q x => te env (fun r => ∃ ds, r.d = .tup ds ∧ ta env (fun rs => q (ds.map R.val ++ rs)) x) x
theorem dStarT_app (te : DE) (ta : DA) (env : SE) (q : List R → Prop) (x : XP) : dStarT te ta env q x = te env (fun r => ∃ ds, r.d = .tup ds ∧ ta env (fun rs => q (ds.map R.val ++ rs)) x) x := rfl
section
variable {X : Cx} {E : XK} {e : Expr} {te : DE} {p : Pos} {es : List Expr} {sA : DA}
theorem pda_starT (he : PD X E e te) (hr : PDA X E es sA) (hs : starEach (.Starred e p :: es) X.env = (true, eval e X.env) :: starEach es X.env := by rfl) : PDA X E (.Starred e p :: es) (dStarT te sA) := by
  have raw : PA X (.Starred e p :: es) (tStar X.K (lift X.K E te) (liftA X.K E sA)) := pa_star he hr hs
  refine ⟨fun pos pins s σ H Q I h => raw.run pos pins s σ H Q I ?_⟩
  obtain ⟨G0, H0, G, env, q, x, e0, h, hq, hx⟩ := h
  refine ⟨G0, H0, G, env, _, x, e0, h, ?_, hx⟩
  rintro r v G1 H1 ⟨ds, er, h1⟩ k1 g1 rr
  obtain ⟨a, xs, rfl, sq, rl⟩ := rr.tup er
  refine ⟨a, xs, rfl, .inl sq, G0, H0, G1, env, _, x, e0.step k1 g1, h1, ?_, hx.keep e0.gok k1⟩
  rintro rs vs G2 H2 q2 k2 g2 rl2
  exact hq _ _ G2 H2 q2 (k1.trans e0.gok k2) g2 (RRepL.app (RepL.keep k2 rl).rr rl2)
end
end QD
/-! texts made of parts; repr of an own object -/
namespace QD
open PySem PySem.Spec PyProof.Rows L2
def dJs : List DE → Str → DE
  | [], acc => fun _ q _ => q (.val (.str acc))
  | t :: ts, acc => fun env q x => t env (fun r => ∃ y : Str, r.d = .str y ∧ (acc ++ y).length ≤ 16777216 ∧ dJs ts (acc ++ y) env q x) x
inductive PDJ (X : Cx) (E : XK) : List Expr → List DE → Prop where
  | nil : PDJ X E [] []
  | cons {e : Expr} {t : DE} {es : List Expr} {ts : List DE} (h : PD X E e t) (r : PDJ X E es ts) : PDJ X E (e :: es) (t :: ts)
section
variable {X : Cx} {E : XK} {k j : Nat} {C : Addr} {a e : Expr} {te : DE} {pos p : Pos}
def dFmt (te : DE) : DE := fun env q x => te env (fun r => ∃ i : Int, r.d = .int i ∧ i.natAbs.log2 < 1920 ∧ q (.val (.str (toString i)))) x
/-- repr(o) of an own class -/
def dReprC (F : DF) (te : DE) : DE := fun env q x => te env (fun r => F [r.d] (fun d => r.isVal = true ∧ ∃ s : Str, d = .str s ∧ q (.val d)) noX) x
end
theorem dReprC_app (F : DF) (te : DE) (env : SE) (q : R → Prop) (x : XP) : dReprC F te env q x = te env (fun r => F [r.d] (fun d => r.isVal = true ∧ ∃ s : Str, d = .str s ∧ q (.val d)) noX) x := rfl
theorem dFmt_app (te : DE) (env : SE) (q : R → Prop) (x : XP) : dFmt te env q x = te env (fun r => ∃ i : Int, r.d = .int i ∧ i.natAbs.log2 < 1920 ∧ q (.val (.str (toString i)))) x := rfl
theorem dJs_nil (acc : Str) (env : SE) (q : R → Prop) (x : XP) : dJs [] acc env q x = q (.val (.str acc)) := rfl
theorem dJs_cons (t : DE) (ts : List DE) (acc : Str) (env : SE) (q : R → Prop) (x : XP) : dJs (t :: ts) acc env q x = t env (fun r => ∃ y : Str, r.d = .str y ∧ (acc ++ y).length ≤ 16777216 ∧ dJs ts (acc ++ y) env q x) x := rfl
end QD
/-! zip of two tuples -/
namespace QD
open PySem PySem.Spec PyProof.Rows L2
section
variable {X : Cx} {E : XK} {e e2 : Expr} {te tb : DE} {pos p tpos : Pos} {kk : Nat} {elts : List Expr}
def zipD (ds es : List D) : List D := List.zipWith (fun a b => .tup [a, b]) ds es
def iZipD (ta tb : DE) : DI := fun env q x => ta env (fun r => tb env (fun r2 => ∃ ds es, r.d = .tup ds ∧ r2.d = .tup es ∧ q (zipD ds es) true) x) x
theorem iZipD_app (ta tb : DE) (env : SE) (q : List D → Bool → Prop) (x : XP) : iZipD ta tb env q x = ta env (fun r => tb env (fun r2 => ∃ ds es, r.d = .tup ds ∧ r2.d = .tup es ∧ q (zipD ds es) true) x) x := rfl
end
end QD
/-! for f in [lambda: .., ..]: if _law_said(f) != ..: return .. -/
namespace QD
open PySem PySem.Spec PyProof.Rows L2
theorem Grow.trans {P : Addr} {H H1 H2 : Hp} (a : Grow P H H1) (b : Grow P H1 H2) : Grow P H H2 := ⟨fun c o n e => b.old c o n (a.old c o n e), b.tab, a.was⟩
section
variable {X : Cx} {pins : List (Addr × Obj)} {σ : L2.St} {H : Hp} {s : Shared}
/-- a lambda's function object, tracked -/
def LamO (X : Cx) (ar : Arguments) (bd : Expr) (sc : Scope) (c' f : Addr) : HO := .ext fun h => ∃ md tv : Value, h.get? f = some (lamObj X ar bd sc md c' tv)
theorem lamO_tbl {ar : Arguments} {bd : Expr} {sc : Scope} {c' f : Addr} (ps : Array Value) : LamO X ar bd sc c' f ≠ .tbl ps := fun z => by
  have z' : HO.ext _ = HO.tbl ps := z
  cases z'
/-- the lambda as it is derived -/
structure LamD (X : Cx) (k : Nat) (ar : Arguments) (bd : Expr) (sc : Scope) (te : DE) : Prop where
  nodef : defaultsOf ar X.env = ([], [])
  L : LamX.LamS X.env.scope sc
  bnd : ∀ md cv tv : Value, bindArgs (PySem.W.kla_fn "<lambda>" (X.env.qual ++ "<lambda>") ar bd sc (cloFrom X.env.cells sc.names []) md cv tv) ⟨[], []⟩ = pure []
  body : ∀ (E' : XK) (A : Around) (callers : List PySem.Env) (s : Shared) (H : Hp) (f c' : Addr), BC (lamX X E' A callers s H sc f c') E' k → PD (lamX X E' A callers s H sc f c') E' bd te
inductive Lams (X : Cx) (k : Nat) : List Expr → List (Arguments × Expr × Scope × DE) → Prop
  | nil : Lams X k [] []
  | cons {ar : Arguments} {bd : Expr} {sc : Scope} {te : DE} {lp : Pos} {es : List Expr} {ls : List (Arguments × Expr × Scope × DE)} : LamD X k ar bd sc te → Lams X k es ls → Lams X k (.Lambda ar bd sc lp :: es) ((ar, bd, sc, te) :: ls)
theorem Lams.get {X : Cx} {k : Nat} {es : List Expr} {ls : List (Arguments × Expr × Scope × DE)} (h : Lams X k es ls) {m : Nat} {ar : Arguments} {bd : Expr} {sc : Scope} {te : DE} (e : ls[m]? = some (ar, bd, sc, te)) : LamD X k ar bd sc te := by
  induction h generalizing m with
  | nil => simp at e
  | cons d _ ih =>
    cases m with
    | zero => cases e; exact d
    | succ m => exact ih e
/-- v is the function of the lambda -/
def LamAt (X : Cx) (H : Hp) (p : Arguments × Expr × Scope × DE) (v : V) : Prop := ∃ f c' : Addr, v = .ref f ∧ H f = some (LamO X p.1 p.2.1 p.2.2.1 c' f) ∧ H c' = some (LamX.CodeO c' (X.env.qual ++ "<lambda>"))
inductive LamsAt (X : Cx) (H : Hp) : List (Arguments × Expr × Scope × DE) → List V → Prop
  | nil : LamsAt X H [] []
  | cons {p : Arguments × Expr × Scope × DE} {v : V} {ls : List (Arguments × Expr × Scope × DE)} {vs : List V} : LamAt X H p v → LamsAt X H ls vs → LamsAt X H (p :: ls) (v :: vs)
theorem LamAt.keep {G G' : Gm} {H H' : Hp} {p : Arguments × Expr × Scope × DE} {v : V} (k : Keep G G' H H') (g : GOk G H) (h : LamAt X H p v) : LamAt X H' p v := by
  obtain ⟨f, c', e, a, b⟩ := h
  have np : ∀ {b : Addr} {o : HO}, H b = some o → (∀ vs, o ≠ .lst vs) → (∀ kvs, o ≠ .dK kvs) → Fix (G b) := fun h n n2 => ⟨fun z => by
    obtain ⟨_, _, _, q, _⟩ := g.pen _ z
    rw [h] at q
    exact n _ (Option.some.inj q), fun K J z => by
    obtain ⟨_, q, _⟩ := g.memo _ K J z
    rw [h] at q
    exact n2 _ (Option.some.inj q)⟩
  refine ⟨f, c', e, k.obj f _ a (np a (fun vs z => ?_) fun vs z => ?_) fun ps => lamO_tbl ps, k.obj c' _ b (np b (fun vs z => ?_) fun vs z => ?_) LamX.codeO_ne⟩
  · have z' : HO.ext _ = HO.lst vs := z
    cases z'
  · have z' : HO.ext _ = HO.dK vs := z
    cases z'
  · unfold LamX.CodeO at z
    cases z
  · unfold LamX.CodeO at z
    cases z
theorem LamsAt.length {H : Hp} {ls : List (Arguments × Expr × Scope × DE)} {vs : List V} (h : LamsAt X H ls vs) : vs.length = ls.length := by
  induction h with
  | nil => rfl
  | cons _ _ ih => rw [List.length_cons, List.length_cons, ih]
theorem LamsAt.get {H : Hp} {ls : List (Arguments × Expr × Scope × DE)} {vs : List V} (h : LamsAt X H ls vs) {j : Nat} {v : V} (e : vs[j]? = some v) : ∃ p, ls[j]? = some p ∧ LamAt X H p v := by
  induction h generalizing j with
  | nil => simp at e
  | cons a _ ih =>
    cases j with
    | zero => cases e; exact ⟨_, rfl, a⟩
    | succ j => exact ih e
/-- the call of _law_said, where the slot i holds the lambda's function -/
def dSaidV (W : WRel) (te : DE) : DE := fun env q x => te env (fun r => ∃ d, r = .val d ∧ q (.val (.tup [.str "told", d]))) (fun e => ∃ bs w, W e bs w ∧ q (.val w))
section
variable {E : XK} {j k : Nat} {P : Addr} {W : WRel}
/-- one after the other: what is told of each -/
def dLamL (W : WRel) (sb : DE) (tb : DS) : List DE → DS
  | [], J, env => J.nx env
  | te :: r, J, env => dSaidV W te env (fun r1 => sb env (fun r2 => ∃ b, neD r1.d r2.d = some (.bl b) ∧ if b = true then tb { nx := fun _ => False, rt := J.rt, bk := fun _ => False, ct := fun _ => False, ex := J.ex } env else dLamL W sb tb r J env) noX) noX
def dForLam (it i : Nat) (P : Addr) (W : WRel) (sb : DE) (tb : DS) (tes : List DE) : DS := fun J env => env[it]? = some (.val (.tab P lamQ)) ∧ i < env.length ∧ dLamL W sb tb tes J (env.set i .no)
end
end
theorem dForLam_app (it i : Nat) (P : Addr) (W : WRel) (sb : DE) (tb : DS) (tes : List DE) (J : DEnds) (env : SE) : dForLam it i P W sb tb tes J env = (env[it]? = some (.val (.tab P lamQ)) ∧ i < env.length ∧ dLamL W sb tb tes J (env.set i .no)) := rfl
theorem dLamL_nil (W : WRel) (sb : DE) (tb : DS) (J : DEnds) (env : SE) : dLamL W sb tb [] J env = J.nx env := rfl
theorem dLamL_cons (W : WRel) (sb : DE) (tb : DS) (te : DE) (r : List DE) (J : DEnds) (env : SE) : dLamL W sb tb (te :: r) J env =
  te env (fun r1 => ∃ d, r1 = .val d ∧ sb env (fun r2 => ∃ b, neD (D.tup [.str "told", d]) r2.d = some (.bl b) ∧ if b = true then tb { nx := fun _ => False, rt := J.rt, bk := fun _ => False, ct := fun _ => False, ex := J.ex } env else dLamL W sb tb r J env) noX)
    (fun e => ∃ bs w, W e bs w ∧ sb env (fun r2 => ∃ b, neD w r2.d = some (.bl b) ∧ if b = true then tb { nx := fun _ => False, rt := J.rt, bk := fun _ => False, ct := fun _ => False, ex := J.ex } env else dLamL W sb tb r J env) noX) := rfl
end QD
/-! (i, t) < (j, u): an int and a tuple of ints -/
namespace QD
open PySem PySem.Spec PyProof.Rows L2
section
variable {X : Cx}
end
end QD
/-! an own list as a stack: whether anything is in it, pop(), extend; lists joined to a new own one -/
namespace QD
open PySem PySem.Spec PyProof.Rows L2
section
variable {X : Cx} {E : XK} {a e : Expr} {ta te tb : DE} {pos p p2 p3 p4 : Pos} {x y : Str}
def dTruL (j : Nat) : DT := fun env q _ => ∃ ds, env[j]? = some (.own ds) ∧ q (!ds.isEmpty)
/-- names = own.pop() -/
def dUnpackPop (is : List Nat) (j : Nat) : DS := fun J env => ∃ ds es, env[j]? = some (.own (ds ++ [.tup es])) ∧ es.length = is.length ∧ J.nx (setE is (es.map RF.val) (env.set j (.own ds)))
/-- own.extend(list) -/
def dExtend (j : Nat) (te : DE) : DS := fun J env => ∃ ds, env[j]? = some (.own ds) ∧ te env (fun r => ∃ es, r = .val (.lst es) ∧ ds.length + es.length ≤ 16777216 ∧ J.nx (env.set j (.own (ds ++ es)))) J.ex
/-- list + list, as an own one -/
def dFAdd (ta tb : DE) : DFr := fun env q x => ta env (fun r1 => tb env (fun r2 => ∃ xs ys, r1.d = .lst xs ∧ r2.d = .lst ys ∧ xs.length + ys.length ≤ 16777216 ∧ q (xs ++ ys)) x) x
theorem dFAdd_app (ta tb : DE) (env : SE) (q : List D → Prop) (x : XP) : dFAdd ta tb env q x = ta env (fun r1 => tb env (fun r2 => ∃ xs ys, r1.d = .lst xs ∧ r2.d = .lst ys ∧ xs.length + ys.length ≤ 16777216 ∧ q (xs ++ ys)) x) x := rfl
theorem dExtend_app (j : Nat) (te : DE) (J : DEnds) (env : SE) : dExtend j te J env = ∃ ds, env[j]? = some (.own ds) ∧ te env (fun r => ∃ es, r = .val (.lst es) ∧ ds.length + es.length ≤ 16777216 ∧ J.nx (env.set j (.own (ds ++ es)))) J.ex := rfl
theorem dUnpackPop_app (is : List Nat) (j : Nat) (J : DEnds) (env : SE) : dUnpackPop is j J env = ∃ ds es, env[j]? = some (.own (ds ++ [.tup es])) ∧ es.length = is.length ∧ J.nx (setE is (es.map RF.val) (env.set j (.own ds))) := rfl
theorem dTruL_app (j : Nat) (env : SE) (q : Bool → Prop) (x : XP) : dTruL j env q x = ∃ ds, env[j]? = some (.own ds) ∧ q (!ds.isEmpty) := rfl
end
end QD
namespace QD
open PySem PySem.Spec PyProof.Rows L2
def t_is_integer  : DS := (dRet (dAnd (dIsi "int" (dVar 0)) (dNot (dIsi "bool" (dVar 0)))))
def t_is_item (F_is_integer : DF) : DS := (dRet (dAnd (dCall F_is_integer (dCons (dVar 0) dNil)) (dChain leI ltA (dC (.int 0)) (dVar 0) (dVar 1))))
def t_is_set (F_is_item : DF) : DS := (dSeq (dIfS (dNotT (dTest (dIsi "tuple" (dVar 0)))) (dRet (dC (.bl false))) dNext) (dSeq (dSet 2 (dC (.int 0))) (dSeq (dFor (iSeq (dVar 0)) (gN 3) (dSeq (dIfS (dOrT (dNotT (dTest (dCall F_is_item (dCons (dVar 3) (dCons (dVar 1) dNil))))) (dTest (dOp ltA (dVar 3) (dVar 2)))) (dRet (dC (.bl false))) dNext) (dSet 2 (dOp addA (dVar 3) (dC (.int 1)))))) (dRet (dC (.bl true))))))
def t_is_entry (F_is_set : DF) : DS := (dSeq (dIfS (dNotT (dTest (dIsi "tuple" (dVar 0)))) (dRet (dC (.bl false))) dNext) (dSeq (dFor (iSeq (dVar 0)) (gN 3) (dIfS (dOrT (dNotT (dTest (dCall F_is_set (dCons (dVar 3) (dCons (dVar 2) dNil))))) (dTest (dOp inD (dVar 1) (dVar 3)))) (dRet (dC (.bl false))) dNext)) (dRet (dC (.bl true)))))
def t_is_ways (F_is_entry : DF) : DS := (dSeq (dIfS (dOrT (dNotT (dTest (dIsi "tuple" (dVar 0)))) (dNotT (dTest (dChain leI leI (dC (.int 1)) (dBlt lenF (dCons (dVar 0) dNil)) (dVar 1))))) (dRet (dC (.bl false))) dNext) (dSeq (dFor (iEnumD (dVar 0)) (gTupN [2, 3]) (dIfS (dNotT (dTest (dCall F_is_entry (dCons (dVar 3) (dCons (dVar 2) (dCons (dBlt lenF (dCons (dVar 0) dNil)) dNil)))))) (dRet (dC (.bl false))) dNext)) (dRet (dC (.bl true)))))
def t_mask_of  : DS := (dSeq (dSet 1 (dC (.int 0))) (dSeq (dFor (iSeq (dVar 0)) (gN 2) (dSet 1 (dOp orD (dVar 1) (dOp shlD (dC (.int 1)) (dVar 2))))) (dRet (dVar 1))))
def t_lies_within  : DS := (dRet (dOp eqD (dOp andD (dVar 0) (dVar 1)) (dVar 0)))
def t_first_way (F_lies_within : DF) : DS := (dSeq (dFor (iSeq (dVar 0)) (gN 2) (dIfS (dTest (dCall F_lies_within (dCons (dVar 2) (dCons (dVar 1) dNil)))) (dRet (dVar 2)) dNext)) (dRet (dC .non)))
def t_has_way (F_first_way : DF) : DS := (dRet (dOp isNotA (dCall F_first_way (dCons (dVar 0) (dCons (dVar 1) dNil))) (dC .non)))
def t_rank_of (C : Addr) : DS := (dSeq (dSet 1 (dBlt lenF (dCons (dVar 0) dNil))) (dSeq (dFor (iSeq (dVar 0)) (gN 2) (dSet 1 (dOp addA (dOp mulA (dVar 1) (dC (.int 24))) (dVar 2)))) (dRet (dVar 1))))
def t_in_order (F_rank_of : DF) : DS := (dSeq (dSet 1 (dDc [2] (iSeq (dVar 0)) (gN 2) (dCall F_rank_of (dCons (dVar 2) dNil)) (dVar 2))) (dRet (dOfF (dLc [3] (iSeq (dBlt sortedF (dCons (dLocked 1 (dOfF (dLc [3] (iKeysD (dVar 1)) (gN 3) dYes (dBlt intF (dCons (dVar 3) dNil))))) dNil))) (gN 3) dYes (dDGet (dVar 1) (dVar 3))))))
def t_tidy (F_in_order : DF) (F_has_way : DF) (F_mask_of : DF) : DS := (dSeq (dSetOwn 1 (dFLst dNil)) (dSeq (dSetOwn 2 (dFLst dNil)) (dSeq (dFor (iSeq (dCall F_in_order (dCons (dVar 0) dNil))) (gN 3) (dIfS (dNotT (dTest (dCall F_has_way (dCons (dVar 2) (dCons (dCall F_mask_of (dCons (dVar 3) dNil)) dNil))))) (dSeq (dAppend 1 (dVar 3)) (dAppend 2 (dCall F_mask_of (dCons (dVar 3) dNil)))) dNext)) (dRet (dBlt tupF (dCons (dVar 1) dNil))))))
def t_masks_of (F_mask_of : DF) : DS := (dRet (dBlt tupF (dCons (dOfF (dLc [1] (iSeq (dVar 0)) (gN 1) dYes (dCall F_mask_of (dCons (dVar 1) dNil)))) dNil)))
def t_Course___init__ (C : Addr) (X_NoCourse : Addr) (F_is_ways : DF) (F_tidy : DF) (F_masks_of : DF) : DN := (dnIf (dNotT (dTest (dCall F_is_ways (dCons (dVar 1) (dCons (dC (.int 24)) dNil))))) (dRaise X_NoCourse) (dnSet (C := C) "_ways" (dBlt tupF (dCons (dOfF (dLc [2] (iSeq (dVar 1)) (gN 2) dYes (dCall F_tidy (dCons (dVar 2) dNil)))) dNil)) (dnSet (C := C) "book" (dBlt tupF (dCons (dOfF (dLc [2] (iSeq (dFld C "_ways" (dVar 0))) (gN 2) dYes (dCall F_masks_of (dCons (dVar 2) dNil)))) dNil)) dnNil)))
def t_Course___len__ (C : Addr) : DS := (dRet (dBlt lenF (dCons (dFld C "_ways" (dVar 0)) dNil)))
def t__law_cell_at  : DS := (dSeq (dIfS (dTest (dOp ltA (dVar 1) (dBlt lenF (dCons (dVar 0) dNil)))) (dRet (dOp ixD (dVar 0) (dVar 1))) dNext) (dRet (dC (.int 0))))
def t__law_next  : DS := (dSeq (dSet 0 (dOp modD (dOp addA (dVar 0) (dC (.int 7919))) (dC (.int 2147483647)))) (dRet (dOp modD (dOp addA (dOp addA (dOp mulA (dVar 0) (dVar 0)) (dOp mulA (dC (.int 48271)) (dVar 0))) (dC (.int 12345))) (dC (.int 2147483629)))))
def t__law_pen_of  : DS := (dSeq (dSet 1 (dBlt max2F (dCons (dBlt intF (dCons (dVar 0) dNil)) (dCons (dOp subD (dC (.int 0)) (dBlt intF (dCons (dVar 0) dNil))) dNil)))) (dRetPen (dFLst (dCons (dVar 1) (dCons (dBlt intF (dCons (dOp geI (dVar 1) (dOp powD (dC (.int 10)) (dC (.int 18)))) dNil)) (dCons (dOp modD (dVar 1) (dC (.int 1000003))) dNil))))))
def t__law_draw (F__law_next : DF) : DS := (dSeq (dIfS (dAndT (dTest (dOp eqD (dPenGet 1 (dVar 0)) (dC (.int 1)))) (dTest (dOp gtI (dPenGet 0 (dVar 0)) (dC (.int 0))))) (dSeq (dSet 2 (dOp modD (dPenGet 0 (dVar 0)) (dVar 1))) (dSeq (dPenSet 0 0 (dOp fdivD (dPenGet 0 (dVar 0)) (dVar 1))) (dRet (dVar 2)))) dNext) (dSeq (dPenSet 0 2 (dCall F__law_next (dCons (dOp addA (dCall F__law_next (dCons (dPenGet 2 (dVar 0)) dNil)) (dC (.int 7))) dNil))) (dRet (dOp modD (dOp fdivD (dPenGet 2 (dVar 0)) (dC (.int 64))) (dVar 1)))))
def t__law_way (F__law_draw : DF) : DS := (dSeq (dSetOwn 4 (dFLst dNil)) (dSeq (dFor (iRange1 (dCall F__law_draw (dCons (dVar 0) (dCons (dOp addA (dVar 3) (dC (.int 1))) dNil)))) (gN 5) (dSeq (dSet 6 (dCall F__law_draw (dCons (dVar 0) (dCons (dVar 1) dNil)))) (dIfS (dAndT (dTest (dOp neD (dVar 6) (dVar 2))) (dTest (dOp notInD (dVar 6) (dVar 4)))) (dAppend 4 (dVar 6)) dNext))) (dRet (dBlt tupF (dCons (dBlt sortedF (dCons (dOfF (dLc [6] (iSeq (dVar 4)) (gN 6) dYes (dBlt intF (dCons (dVar 6) dNil)))) dNil)) dNil)))))
def t__law_book (F__law_draw : DF) (F__law_way : DF) : DS := (dSeq (dPar [3, 4, 5] (dFVal (dOp addA (dC (.int 1)) (dCall F__law_draw (dCons (dVar 0) (dCons (dVar 1) dNil)))) (dFVal (dCall F__law_draw (dCons (dVar 0) (dCons (dC (.int 6)) dNil))) (dFOwn (dFLst dNil) dFNil)))) (dSeq (dFor (iRange1 (dVar 3)) (gN 2) (dSeq (dSetOwn 6 (dFLst dNil)) (dSeq (dFor (iRange1 (dOp addA (dC (.int 1)) (dCall F__law_draw (dCons (dVar 0) (dCons (dOp ixD (dLst (dCons (dC (.int 1)) (dCons (dC (.int 2)) (dCons (dC (.int 3)) (dCons (dC (.int 3)) (dCons (dC (.int 4)) (dCons (dC (.int 2)) dNil))))))) (dVar 4)) dNil))))) (gN 7) (dSeq (dSet 8 (dCall F__law_way (dCons (dVar 0) (dCons (dVar 3) (dCons (dVar 2) (dCons (dOp ixD (dLst (dCons (dC (.int 1)) (dCons (dC (.int 3)) (dCons (dC (.int 2)) (dCons (dC (.int 3)) (dCons (dC (.int 5)) (dCons (dC (.int 2)) dNil))))))) (dVar 4)) dNil)))))) (dSeq (dIfS (dTest (dOp inD (dVar 4) (dTup (dCons (dC (.int 0)) (dCons (dC (.int 1)) (dCons (dC (.int 5)) dNil)))))) (dSet 8 (dBlt tupF (dCons (dOfF (dLc [9] (iSeq (dVar 8)) (gN 9) (dTest (dOp ltA (dVar 9) (dVar 2))) (dVar 9))) dNil))) dNext) (dAppend 6 (dVar 8))))) (dSeq (dIfS (dAndT (dTest (dOp gtI (dVar 4) (dC (.int 1)))) (dTest (dOp eqD (dCall F__law_draw (dCons (dVar 0) (dCons (dC (.int 3)) dNil))) (dC (.int 0))))) (dAppend 6 (dTup dNil)) dNext) (dSeq (dIfS (dAndT (dTest (dOp inD (dVar 4) (dTup (dCons (dC (.int 2)) (dCons (dC (.int 4)) dNil))))) (dTest (dOp eqD (dCall F__law_draw (dCons (dVar 0) (dCons (dC (.int 5)) dNil))) (dC (.int 0))))) (dSetOwn 6 (dFLst dNil)) dNext) (dAppend 5 (dBlt tupF (dCons (dVar 6) dNil)))))))) (dRet (dBlt tupF (dCons (dVar 5) dNil)))))
def t__law_has  : DS := (dSeq (dFor (iSeq (dVar 0)) (gN 2) (dIfS (dTest (dBlt allF (dCons (dOfF (dLc [3] (iSeq (dVar 2)) (gN 3) dYes (dOp inD (dVar 3) (dVar 1)))) dNil))) (dRet (dC (.bl true))) dNext)) (dRet (dC (.bl false))))
def t__law_is  : DS := (dRet (dAnd (dOp eqD (dVar 0) (dVar 1)) (dOp eqD (dBlt reprF (dCons (dVar 0) dNil)) (dBlt reprF (dCons (dVar 1) dNil)))))
def t_items_of  : DS := (dSeq (dSetOwn 1 (dFLst dNil)) (dSeq (dFor (iRange1 (dBits (dVar 0))) (gN 2) (dIfS (dTest (dOp eqD (dOp andD (dOp shrD (dVar 0) (dVar 2)) (dC (.int 1))) (dC (.int 1)))) (dAppend 1 (dVar 2)) dNext)) (dRet (dBlt tupF (dCons (dVar 1) dNil)))))
def t_all_items  : DS := (dRet (dOp subD (dOp shlD (dC (.int 1)) (dVar 0)) (dC (.int 1))))
def t_can_follow (F_has_way : DF) : DS := (dSeq (dFor (iSeq (dVar 0)) (gN 3) (dIfS (dNotT (dTest (dCall F_has_way (dCons (dOp ixD (dVar 3) (dVar 1)) (dCons (dVar 2) dNil))))) (dRet (dC (.bl false))) dNext)) (dRet (dC (.bl true))))
def t_greatest_in (F_items_of : DF) (F_can_follow : DF) : DS := (dSeq (dSet 2 (dCall F_items_of (dCons (dVar 1) dNil))) (dSeq (dSet 3 (dC (.int 0))) (dSeq (dSet 4 (dC .non)) (dSeq (dWhile (dTest (dOp neD (dVar 3) (dVar 4))) (dSeq (dSet 4 (dVar 3)) (dFor (iSeq (dVar 2)) (gN 5) (dIfS (dAndT (dTest (dOp eqD (dOp andD (dOp shrD (dVar 3) (dVar 5)) (dC (.int 1))) (dC (.int 0)))) (dTest (dCall F_can_follow (dCons (dVar 0) (dCons (dVar 5) (dCons (dVar 3) dNil)))))) (dSet 3 (dOp orD (dVar 3) (dOp shlD (dC (.int 1)) (dVar 5)))) dNext)))) (dRet (dVar 3))))))
def t_is_state_mask (F_greatest_in : DF) : DS := (dRet (dOp eqD (dCall F_greatest_in (dCons (dTup (dCons (dVar 0) dNil)) (dCons (dVar 1) dNil))) (dVar 1)))
def t_Course___contains__ (C : Addr) (F_is_set : DF) (F_Course___len__ : DF) (F_is_state_mask : DF) (F_mask_of : DF) : DS := (dRet (dAnd (dCall F_is_set (dCons (dVar 1) (dCons (dMeth0 F_Course___len__ (dVar 0)) dNil))) (dCall F_is_state_mask (dCons (dFld C "book" (dVar 0)) (dCons (dCall F_mask_of (dCons (dVar 1) dNil)) dNil)))))
def t_greatest (C : Addr) (X_NoSet : Addr) (F_is_set : DF) (F_Course___len__ : DF) (F_all_items : DF) (F_mask_of : DF) (F_items_of : DF) (F_greatest_in : DF) : DS := (dSeq (dIfS (dNotT (dTest (dCall F_is_set (dCons (dVar 1) (dCons (dMeth0 F_Course___len__ (dVar 0)) dNil))))) (dRaise X_NoSet) dNext) (dSeq (dSet 2 (dOp xorD (dCall F_all_items (dCons (dMeth0 F_Course___len__ (dVar 0)) dNil)) (dCall F_mask_of (dCons (dVar 1) dNil)))) (dRet (dCall F_items_of (dCons (dCall F_greatest_in (dCons (dTup (dCons (dFld C "book" (dVar 0)) dNil)) (dCons (dVar 2) dNil))) dNil)))))
mutual
/-- a value as laws pass them: no script, no instance, no pen -/
def pl : D → Bool
  | .tup xs => pls xs
  | .lst xs => pls xs
  | .dct _ xs => pls xs
  | .scr _ => false
  | .dcl _ _ => false
  | .ins _ _ _ => false
  | .pen => false
  | .exo _ _ _ _ => false
  | .tab _ _ => false
  | .two _ _ _ _ => false
  | .memo _ => false
  | .adr _ => false
  | .wo _ _ _ _ _ _ => false
  | .tupN _ => false
  | _ => true
def pls : List D → Bool
  | [] => true
  | x :: xs => pl x && pls xs
end
def isIntD : D → Bool
  | .int _ => true
  | _ => false
def isTupD : D → Bool
  | .tup _ => true
  | _ => false
theorem isi_int {d : D} (h : pl d = true) : isiD d "int" = some (match d with | .int _ => true | .bl _ => true | _ => false) := by
  cases d <;> simp [pl] at h <;> simp only [isiD] <;> decide +kernel
theorem isi_bool {d : D} (h : pl d = true) : isiD d "bool" = some (match d with | .bl _ => true | _ => false) := by
  cases d <;> simp [pl] at h <;> simp only [isiD] <;> decide +kernel
theorem isi_tup {d : D} (h : pl d = true) : isiD d "tuple" = some (isTupD d) := by
  cases d <;> simp [pl] at h <;> simp only [isiD, isTupD] <;> decide +kernel
def F_is_integer : DF := fun ds q _ => ∃ d, ds = [d] ∧ pl d = true ∧ q (.bl (isIntD d))
theorem s_is_integer : ∀ ds q x, F_is_integer ds q x → ds.length = 1 ∧ t_is_integer { nx := fun _ => q .non, rt := q, ex := x } (startE 1 ds) := by
  rintro ds q x ⟨d, rfl, h, hq⟩
  refine ⟨rfl, ?_⟩
  simp only [t_is_integer, dRet, dAnd, dIsi, dVar, dNot, startE, List.map, List.length, Nat.sub_self, List.replicate, List.append_nil, List.getElem?_cons_zero, R.d]
  refine ⟨_, isi_int h, _, rfl, ?_⟩
  cases d <;> simp [pl] at h <;> simp only [if_true, if_false, Bool.false_eq_true] <;> first
    | exact ⟨_, rfl, hq⟩
    | exact ⟨_, isi_bool (by simpa [pl] using h), _, rfl, _, rfl, hq⟩

def isItem (n : Int) : D → Bool
  | .int i => decide (0 ≤ i) && decide (i < n)
  | _ => false
def F_is_item : DF := fun ds q _ => ∃ d n, ds = [d, .int n] ∧ pl d = true ∧ q (.bl (isItem n d))
theorem s_is_item : ∀ ds q x, F_is_item ds q x → ds.length = 2 ∧ t_is_item F_is_integer { nx := fun _ => q .non, rt := q, ex := x } (startE 2 ds) := by
  rintro ds q x ⟨d, n, rfl, h, hq⟩
  refine ⟨rfl, ?_⟩
  simp only [t_is_item, dRet, dAnd, dCall, dCons, dNil, dVar, dChain, dC, startE, List.map, List.length, Nat.sub_self, List.replicate, List.append_nil, List.getElem?_cons_zero, List.getElem?_cons_succ, R.d]
  refine ⟨d, rfl, h, .inl rfl, _, rfl, ?_⟩
  cases d <;> simp only [isIntD, if_true, if_false, Bool.false_eq_true] <;> try exact ⟨_, rfl, hq⟩
  rename_i i
  refine ⟨_, rfl, ?_⟩
  by_cases c : (0 : Int) ≤ i
  · simp only [c, decide_true, if_true]
    refine ⟨_, rfl, _, rfl, ?_⟩
    simpa [isItem, c] using hq
  · simp only [c, decide_false, if_false, Bool.false_eq_true]
    refine ⟨_, rfl, ?_⟩
    simpa [isItem, c] using hq
def isSetL (n : Int) : Int → List D → Bool
  | _, [] => true
  | least, .int i :: xs => if decide (0 ≤ i) && decide (i < n) && decide (least ≤ i) then isSetL n (i + 1) xs else false
  | _, _ => false
def isSet (n : Int) : D → Bool
  | .tup xs => isSetL n 0 xs
  | _ => false
def F_is_set : DF := fun ds q _ => ∃ d n, ds = [d, .int n] ∧ pl d = true ∧ q (.bl (isSet n d))
theorem l_is_set (n : Int) (v : D) (q : D → Prop) (x : XP) (J : DEnds) (hJ : J.rt = q) (hx : J.ex = x) : ∀ (xs : List D) (least : Int) (o : EV), pls xs = true → (isSetL n least xs = false → q (.bl false)) → (∀ env, isSetL n least xs = true → J.nx env) →
    dForL (gN 3) (dSeq (dIfS (dOrT (dNotT (dTest (dCall F_is_item (dCons (dVar 3) (dCons (dVar 1) dNil))))) (dTest (dOp ltA (dVar 3) (dVar 2)))) (dRet (dC (.bl false))) dNext) (dSet 2 (dOp addA (dVar 3) (dC (.int 1))))) J xs [.val v, .val (.int n), .val (.int least), o]
  | [], least, o, _, _, h2 => h2 _ rfl
  | d :: xs, least, o, hp, h1, h2 => by
    simp only [pls, Bool.and_eq_true] at hp
    refine ⟨_, rfl, ?_⟩
    simp only [dSeq, dIfS, dOrT, dNotT, dTest, dCall, dCons, dNil, dVar, dOp, dRet, dC, dNext, dSet, List.set_cons_zero, List.set_cons_succ, List.getElem?_cons_zero, List.getElem?_cons_succ, List.map, R.d]
    refine ⟨d, n, rfl, hp.1, .inl rfl, _, rfl, ?_⟩
    cases d with
    | int i =>
      by_cases c : (0 : Int) ≤ i ∧ i < n
      · simp only [isItem, c.1, c.2, decide_true, Bool.and_self, Bool.not_true, Bool.false_eq_true, if_false]
        refine ⟨_, rfl, _, rfl, ?_⟩
        by_cases c2 : i < least
        · simp only [c2, decide_true, if_true]
          refine ⟨_, rfl, ?_⟩
          rw [hJ]
          exact h1 (by simp [isSetL]; intro _ _ z; omega)
        · simp only [c2, decide_false, Bool.false_eq_true, if_false]
          refine ⟨_, rfl, _, rfl, ?_⟩
          have e : isSetL n least (.int i :: xs) = isSetL n (i + 1) xs := by
            simp [isSetL, c.1, c.2, show least ≤ i by omega]
          rw [e] at h1 h2
          exact l_is_set n v q x J hJ hx xs (i + 1) _ hp.2 h1 h2
      · have e : isItem n (.int i) = false := by simp only [isItem, Bool.and_eq_false_iff, decide_eq_false_iff_not]; omega
        simp only [e, Bool.not_false, if_true]
        refine ⟨_, rfl, ?_⟩
        rw [hJ]
        exact h1 (by simp [isSetL]; intro z1 z2; exact absurd ⟨z1, z2⟩ c)
    | _ =>
      simp only [isItem, Bool.not_false, if_true]
      refine ⟨_, rfl, ?_⟩
      rw [hJ]
      exact h1 rfl
theorem s_is_set : ∀ ds q x, F_is_set ds q x → ds.length = 2 ∧ t_is_set F_is_item { nx := fun _ => q .non, rt := q, ex := x } (startE 4 ds) := by
  rintro ds q x ⟨d, n, rfl, h, hq⟩
  refine ⟨rfl, ?_⟩
  simp only [t_is_set, dSeq, dIfS, dNotT, dTest, dIsi, dVar, dRet, dC, dNext, dSet, dFor, iSeq, startE, List.map, List.length, List.replicate, List.cons_append, List.nil_append, List.set_cons_zero, List.set_cons_succ, List.getElem?_cons_zero, List.getElem?_cons_succ, R.d]
  refine ⟨_, isi_tup h, _, rfl, ?_⟩
  cases d with
  | tup xs =>
    simp only [isTupD, Bool.not_true, Bool.false_eq_true, if_false]
    refine ⟨_, rfl, .inr ⟨xs, rfl, rfl, ?_⟩⟩
    refine l_is_set n _ q x _ rfl rfl xs 0 _ (by simpa [pl] using h) (fun e => ?_) (fun env e => ⟨_, rfl, ?_⟩)
    · have : isSet n (.tup xs) = false := e
      rw [← this]; exact hq
    · have : isSet n (.tup xs) = true := e
      rw [← this]; exact hq
  | _ => simp only [isTupD, Bool.not_false, if_true]; exact ⟨_, rfl, hq⟩
/-! ### rows of ints -/
def iD (ns : List Int) : List D := ns.map D.int
theorem toPys_ints : ∀ ns : List Int, toPys (iD ns) = some (ns.map PyData.int)
  | [] => rfl
  | n :: ns => by
    show (match toPy (.int n), toPys (iD ns) with | some p, some ps => some (p :: ps) | _, _ => none) = _
    rw [toPys_ints ns]
    rfl
theorem lay_ints : ∀ ns : List Int, PyData.canLayAll0 (ns.map PyData.int) = true
  | [] => rfl
  | n :: ns => by simp [PyData.canLayAll0, PyData.canLay0, lay_ints ns]
theorem eqv_ints (a b : Int) : PyData.eqv (.int a) (.int b) = decide (a = b) := by
  unfold PyData.eqv
  first | rfl | (by_cases h : a = b <;> simp [h])
theorem shaped_int (a : Int) : SeqAt.shaped (.int a) = true := by simp [SeqAt.shaped, PyData.canLay0, PyData.depth]
theorem any_ints (i : Int) (ns : List Int) : ((ns.map PyData.int).any fun y => PyData.eqv y (.int i)) = decide (i ∈ ns) := by
  rw [List.any_map]
  induction ns with
  | nil => rfl
  | cons n ns ih =>
    rw [List.any_cons, ih]
    show (PyData.eqv (.int n) (.int i) || decide (i ∈ ns)) = _
    rw [eqv_ints]
    by_cases h : n = i
    · simp [h]
    · have h' : ¬ i = n := fun z => h z.symm
      simp [h, h']
theorem inD_tup (i : Int) (ns : List Int) : inD (.int i) (.tup (iD ns)) = some (.bl (decide (i ∈ ns))) := by
  unfold inD inB
  simp only [toPy, toPys_ints, Option.map_some]
  rw [if_pos (by rw [shaped_int, lay_ints]; rfl), any_ints]
  rfl
theorem notInD_lst (i : Int) (ns : List Int) : notInD (.int i) (.lst (iD ns)) = some (.bl (!decide (i ∈ ns))) := by
  unfold notInD inB
  simp only [toPy, toPys_ints, Option.map_some]
  rw [if_pos (by rw [shaped_int, lay_ints]; rfl), any_ints]
  rfl
theorem eqD_int (i j : Int) : eqD (.int i) (.int j) = some (.bl (decide (i = j))) := by
  unfold eqD eqB
  simp only [toPy]
  rw [if_pos (by rw [shaped_int, shaped_int]; rfl), eqv_ints]
  rfl
theorem neD_int (i j : Int) : neD (.int i) (.int j) = some (.bl (!decide (i = j))) := by
  unfold neD eqB
  simp only [toPy]
  rw [if_pos (by rw [shaped_int, shaped_int]; rfl), eqv_ints]
  rfl
theorem set_ints {n : Int} : ∀ {xs : List D} {l : Int}, isSetL n l xs = true → ∃ ns : List Int, xs = iD ns
  | [], _, _ => ⟨[], rfl⟩
  | d :: xs, l, h => by
    cases d <;> simp only [isSetL] at h <;> try (cases h; done)
    rename_i i
    split at h
    · obtain ⟨ns, rfl⟩ := set_ints h
      exact ⟨i :: ns, rfl⟩
    · cases h
/-! ### is_entry, is_ways -/
def inWay (i : Int) : D → Bool
  | .tup xs => xs.any fun d => match d with
    | .int j => decide (j = i)
    | _ => false
  | _ => false
theorem inWay_ints (i : Int) (ns : List Int) : inWay i (.tup (iD ns)) = decide (i ∈ ns) := by
  show (List.any (iD ns) _) = _
  unfold iD
  rw [List.any_map]
  induction ns with
  | nil => rfl
  | cons n ns ih =>
    rw [List.any_cons, ih]
    by_cases h : n = i
    · simp [h]
    · have h' : ¬ i = n := fun z => h z.symm
      simp [h, h']
def isEntry (n i : Int) : D → Bool
  | .tup xs => xs.all fun w => isSet n w && !inWay i w
  | _ => false
def F_is_entry : DF := fun ds q _ => ∃ d i n, ds = [d, .int i, .int n] ∧ pl d = true ∧ q (.bl (isEntry n i d))
theorem l_is_entry (n i : Int) (v : D) (q : D → Prop) (J : DEnds) (hJ : J.rt = q) : ∀ (xs : List D) (o : EV), pls xs = true → ((xs.all fun w => isSet n w && !inWay i w) = false → q (.bl false)) → (∀ env, (xs.all fun w => isSet n w && !inWay i w) = true → J.nx env) →
    dForL (gN 3) (dIfS (dOrT (dNotT (dTest (dCall F_is_set (dCons (dVar 3) (dCons (dVar 2) dNil))))) (dTest (dOp inD (dVar 1) (dVar 3)))) (dRet (dC (.bl false))) dNext) J xs [.val v, .val (.int i), .val (.int n), o]
  | [], o, _, _, h2 => h2 _ rfl
  | d :: xs, o, hp, h1, h2 => by
    simp only [pls, Bool.and_eq_true] at hp
    refine ⟨_, rfl, ?_⟩
    simp only [dIfS, dOrT, dNotT, dTest, dCall, dCons, dNil, dVar, dOp, dRet, dC, dNext, List.set_cons_zero, List.set_cons_succ, List.getElem?_cons_zero, List.getElem?_cons_succ, List.map, R.d]
    refine ⟨d, n, rfl, hp.1, .inl rfl, _, rfl, ?_⟩
    cases hs : isSet n d with
    | false =>
      simp only [Bool.not_false, if_true]
      refine ⟨_, rfl, ?_⟩
      rw [hJ]
      exact h1 (by simp [hs])
    | true =>
      simp only [Bool.not_true, Bool.false_eq_true, if_false]
      cases d with
      | tup ys =>
        obtain ⟨ns, rfl⟩ := set_ints (show isSetL n 0 ys = true from hs)
        refine ⟨_, inD_tup i ns, _, rfl, ?_⟩
        by_cases c : i ∈ ns
        · simp only [c, decide_true, if_true]
          refine ⟨_, rfl, ?_⟩
          rw [hJ]
          refine h1 ?_
          rw [List.all_cons, hs, inWay_ints]
          simp [c]
        · simp only [c, decide_false, Bool.false_eq_true, if_false]
          have e : (List.all (.tup (iD ns) :: xs) fun w => isSet n w && !inWay i w) = (xs.all fun w => isSet n w && !inWay i w) := by
            rw [List.all_cons, hs, inWay_ints]
            simp [c]
          rw [e] at h1 h2
          exact l_is_entry n i v q J hJ xs _ hp.2 h1 h2
      | _ => cases hs
theorem s_is_entry : ∀ ds q x, F_is_entry ds q x → ds.length = 3 ∧ t_is_entry F_is_set { nx := fun _ => q .non, rt := q, ex := x } (startE 4 ds) := by
  rintro ds q x ⟨d, i, n, rfl, h, hq⟩
  refine ⟨rfl, ?_⟩
  simp only [t_is_entry, dSeq, dIfS, dNotT, dTest, dIsi, dVar, dRet, dC, dNext, dSet, dFor, iSeq, startE, List.map, List.length, List.replicate, List.cons_append, List.nil_append, List.set_cons_zero, List.set_cons_succ, List.getElem?_cons_zero, List.getElem?_cons_succ, R.d]
  refine ⟨_, isi_tup h, _, rfl, ?_⟩
  cases d with
  | tup xs =>
    simp only [isTupD, Bool.not_true, Bool.false_eq_true, if_false]
    refine .inr ⟨xs, rfl, rfl, ?_⟩
    refine l_is_entry n i _ q _ rfl xs _ (by simpa [pl] using h) (fun e => ?_) (fun env e => ⟨_, rfl, ?_⟩)
    · have : isEntry n i (.tup xs) = false := e
      rw [← this]; exact hq
    · have : isEntry n i (.tup xs) = true := e
      rw [← this]; exact hq
  | _ => simp only [isTupD, Bool.not_false, if_true]; exact ⟨_, rfl, hq⟩
def isWaysL (n : Int) : Nat → List D → Bool
  | _, [] => true
  | k, d :: xs => isEntry n k d && isWaysL n (k + 1) xs
def isWays (most : Int) : D → Bool
  | .tup xs => decide (1 ≤ (xs.length : Int)) && decide ((xs.length : Int) ≤ most) && isWaysL xs.length 0 xs
  | _ => false
def F_is_ways : DF := fun ds q _ => ∃ d m, ds = [d, .int m] ∧ pl d = true ∧ q (.bl (isWays m d))
/-- the pairs of an enumeration -/
def enFrom : Nat → List D → List D
  | _, [] => []
  | k, d :: ds => .tup [.int (k : Nat), d] :: enFrom (k + 1) ds
theorem enFrom_get : ∀ (ds : List D) (k i : Nat), (enFrom k ds)[i]? = (ds[i]?).map fun d => .tup [.int ((k + i : Nat) : Int), d]
  | [], _, _ => by simp [enFrom]
  | d :: ds, k, 0 => by simp [enFrom]
  | d :: ds, k, i + 1 => by
    have := enFrom_get ds (k + 1) i
    simp only [enFrom, List.getElem?_cons_succ]
    rw [this, show k + 1 + i = k + (i + 1) by omega]
theorem enD_from (ds : List D) : enD ds = enFrom 0 ds := by
  apply List.ext_getElem?
  intro i
  rw [enFrom_get]
  cases h : ds[i]? with
  | none =>
    have := List.getElem?_eq_none_iff.mp h
    rw [List.getElem?_eq_none (by rw [enD_len]; exact this)]
    rfl
  | some d => rw [enD_at h]; simp
theorem l_is_ways (ws : List D) (m : D) (q : D → Prop) (J : DEnds) (hJ : J.rt = q) : ∀ (xs : List D) (k : Nat) (o1 o2 : EV), pls xs = true → (isWaysL ws.length k xs = false → q (.bl false)) → (∀ env, isWaysL ws.length k xs = true → J.nx env) →
    dForL (gTupN [2, 3]) (dIfS (dNotT (dTest (dCall F_is_entry (dCons (dVar 3) (dCons (dVar 2) (dCons (dBlt lenF (dCons (dVar 0) dNil)) dNil)))))) (dRet (dC (.bl false))) dNext) J (enFrom k xs) [.val (.tup ws), .val m, o1, o2]
  | [], k, o1, o2, _, _, h2 => h2 _ rfl
  | d :: xs, k, o1, o2, hp, h1, h2 => by
    simp only [pls, Bool.and_eq_true] at hp
    refine ⟨[.val (.tup ws), .val m, .val (.int (k : Nat)), .val d], rfl, ?_⟩
    simp only [dIfS, dNotT, dTest, dCall, dCons, dNil, dVar, dBlt, dRet, dC, dNext, List.getElem?_cons_zero, List.getElem?_cons_succ, List.map, R.d]
    refine ⟨.int ws.length, rfl, d, k, ws.length, rfl, hp.1, .inl rfl, _, rfl, ?_⟩
    cases hs : isEntry ws.length k d with
    | false =>
      simp only [Bool.not_false, if_true]
      refine ⟨_, rfl, ?_⟩
      rw [hJ]
      exact h1 (by simp [isWaysL, hs])
    | true =>
      simp only [Bool.not_true, Bool.false_eq_true, if_false]
      have e : isWaysL ws.length k (d :: xs) = isWaysL ws.length (k + 1) xs := by simp [isWaysL, hs]
      rw [e] at h1 h2
      exact l_is_ways ws m q J hJ xs (k + 1) _ _ hp.2 h1 h2
theorem s_is_ways : ∀ ds q x, F_is_ways ds q x → ds.length = 2 ∧ t_is_ways F_is_entry { nx := fun _ => q .non, rt := q, ex := x } (startE 4 ds) := by
  rintro ds q x ⟨d, m, rfl, h, hq⟩
  refine ⟨rfl, ?_⟩
  simp only [t_is_ways, dSeq, dIfS, dOrT, dNotT, dTest, dIsi, dVar, dRet, dC, dNext, dSet, dFor, iEnumD, dChain, dBlt, dCons, dNil, startE, List.map, List.length, List.replicate, List.cons_append, List.nil_append, List.set_cons_zero, List.set_cons_succ, List.getElem?_cons_zero, List.getElem?_cons_succ, R.d]
  refine ⟨_, isi_tup h, _, rfl, ?_⟩
  cases d with
  | tup xs =>
    simp only [isTupD, Bool.not_true, Bool.false_eq_true, if_false]
    refine ⟨.int xs.length, rfl, _, rfl, ?_⟩
    by_cases c : (1 : Int) ≤ xs.length
    · by_cases c2 : (xs.length : Int) ≤ m
      · simp only [c, decide_true, if_true]
        refine ⟨_, rfl, _, rfl, ?_⟩
        simp only [c2, decide_true, Bool.not_true, Bool.false_eq_true, if_false]
        refine .inr ⟨xs, rfl, rfl, ?_⟩
        rw [enD_from]
        refine l_is_ways xs _ q _ rfl xs 0 _ _ (by simpa [pl] using h) (fun e => ?_) (fun env e => ⟨_, rfl, ?_⟩)
        · have : isWays m (.tup xs) = false := by simp only [isWays, e, Bool.and_false]
          rw [← this]; exact hq
        · have : isWays m (.tup xs) = true := by simp [isWays, e, c2]; omega
          rw [← this]; exact hq
      · simp only [c, decide_true, if_true]
        refine ⟨_, rfl, _, rfl, ?_⟩
        simp only [c2, decide_false, Bool.not_false, if_true]
        have : isWays m (.tup xs) = false := by simp [isWays, c2]
        rw [this] at hq
        exact ⟨_, rfl, hq⟩
    · simp only [c, decide_false, Bool.false_eq_true, if_false]
      refine ⟨_, rfl, ?_⟩
      simp only [Bool.not_false, if_true]
      have : isWays m (.tup xs) = false := by simp [isWays]; intro z; exfalso; omega
      rw [this] at hq
      exact ⟨_, rfl, hq⟩
  | _ => simp only [isTupD, Bool.not_false, if_true]; exact ⟨_, rfl, hq⟩
/-! ### masks -/
def nD (w : List Nat) : List D := w.map fun i => .int (i : Nat)
def wayD (w : List Nat) : D := .tup (nD w)
def maskF (m : Nat) (w : List Nat) : Nat := w.foldl (fun m i => m ||| 2 ^ i) m
def maskN (w : List Nat) : Nat := maskF 0 w
theorem maskF_bit (i : Nat) : ∀ (w : List Nat) (m : Nat), (maskF m w).testBit i = (m.testBit i || decide (i ∈ w))
  | [], m => by simp [maskF]
  | j :: w, m => by
    show (maskF (m ||| 2 ^ j) w).testBit i = _
    rw [maskF_bit i w, Nat.testBit_or, Nat.testBit_two_pow]
    by_cases h : j = i
    · subst h; simp
    · have h' : ¬ i = j := fun z => h z.symm
      simp [h, h', Bool.or_assoc]
theorem maskN_bit (w : List Nat) (i : Nat) : (maskN w).testBit i = decide (i ∈ w) := by
  unfold maskN
  rw [maskF_bit]
  simp
theorem and_eq_left {a b : Nat} : a &&& b = a ↔ ∀ i, a.testBit i = true → b.testBit i = true := by
  constructor
  · intro h i hi
    rw [← h, Nat.testBit_and, Bool.and_eq_true] at hi
    exact hi.2
  · intro h
    apply Nat.eq_of_testBit_eq
    intro i
    rw [Nat.testBit_and]
    cases e : a.testBit i with
    | false => rfl
    | true => rw [h i e]; rfl
theorem band (a b : Nat) : Builtin.bitAnd (a : Int) (b : Int) = ((a &&& b : Nat) : Int) := by
  unfold Builtin.bitAnd
  rw [decide_eq_true (Int.natCast_nonneg a), decide_eq_true (Int.natCast_nonneg b)]
  simp only [Int.toNat_natCast]
theorem bor (a b : Nat) : Builtin.bitOr (a : Int) (b : Int) = ((a ||| b : Nat) : Int) := by
  rw [bitOr_nn (Int.natCast_nonneg a) (Int.natCast_nonneg b)]
  simp only [Int.toNat_natCast]
theorem shl1 (i : Nat) (h : i ≤ 1000000) : shlD (.int 1) (.int (i : Nat)) = some (.int ((2 ^ i : Nat) : Int)) := by
  show (if (0 : Int) ≤ (i : Nat) ∧ ((i : Nat) : Int) ≤ 1000000 ∧ (1 : Int).natAbs < 2 ^ 64 then rInt (1 * 2 ^ ((i : Nat) : Int).toNat) else none) = _
  rw [if_pos ⟨by omega, by omega, by decide⟩, Int.toNat_natCast, Int.one_mul]
  simp
theorem orN (a b : Nat) : orD (.int (a : Nat)) (.int (b : Nat)) = some (.int ((a ||| b : Nat) : Int)) := by
  show rInt (Builtin.bitOr (a : Int) (b : Int)) = _
  rw [bor]
theorem andN (a b : Nat) : andD (.int (a : Nat)) (.int (b : Nat)) = some (.int ((a &&& b : Nat) : Int)) := by
  show rInt (Builtin.bitAnd (a : Int) (b : Int)) = _
  rw [band]
/-- a list taken as a tuple -/
def mkT : D → D
  | .lst xs => .tup xs
  | d => d
theorem mkT_way {ds : List D} {w : List Nat} (h : ds.map mkT = [wayD w]) : ds = [wayD w] ∨ ds = [.lst (nD w)] := by
  cases ds with
  | nil => cases h
  | cons d ds =>
    have hl := congrArg List.length h
    rw [List.length_map, List.length_cons, List.length_singleton] at hl
    have e : ds = [] := List.eq_nil_of_length_eq_zero (by omega)
    subst e
    have h : mkT d = wayD w := (List.cons.inj h).1
    cases d with
    | lst xs =>
      have h : D.tup xs = .tup (nD w) := h
      cases h
      exact .inr rfl
    | tup xs =>
      have h : D.tup xs = .tup (nD w) := h
      cases h
      exact .inl rfl
    | _ => exact absurd h (fun z => by cases z)
def F_mask_of : DF := fun ds q _ => ∃ w : List Nat, ds.map mkT = [wayD w] ∧ (∀ i ∈ w, i ≤ 1000000) ∧ q (.int (maskN w : Nat))
theorem l_mask_of (J : DEnds) (v : D) : ∀ (w : List Nat) (m : Nat) (o : EV), (∀ i ∈ w, i ≤ 1000000) → (∀ o, J.nx [.val v, .val (.int (maskF m w : Nat)), o]) →
    dForL (gN 2) (dSet 1 (dOp orD (dVar 1) (dOp shlD (dC (.int 1)) (dVar 2)))) J (nD w) [.val v, .val (.int (m : Nat)), o]
  | [], m, o, _, h => h o
  | i :: w, m, o, hw, h => by
    refine ⟨_, rfl, ?_⟩
    simp only [dSet, dOp, dVar, dC, List.set_cons_zero, List.set_cons_succ, List.getElem?_cons_zero, List.getElem?_cons_succ, R.d]
    refine ⟨_, shl1 i (hw i List.mem_cons_self), _, orN m (2 ^ i), _, rfl, ?_⟩
    exact l_mask_of J v w (m ||| 2 ^ i) _ (fun j hj => hw j (List.mem_cons_of_mem _ hj)) h
theorem s_mask_of : ∀ ds q x, F_mask_of ds q x → ds.length = 1 ∧ t_mask_of { nx := fun _ => q .non, rt := q, ex := x } (startE 3 ds) := by
  rintro ds q x ⟨w, e, hw, hq⟩
  rcases mkT_way e with rfl | rfl
  all_goals refine ⟨rfl, ?_⟩
  all_goals simp only [t_mask_of, dSeq, dSet, dC, dFor, iSeq, dRet, dVar, startE, List.map, List.length, List.replicate, List.cons_append, List.nil_append, List.set_cons_zero, List.set_cons_succ, List.getElem?_cons_zero, List.getElem?_cons_succ, R.d]
  · refine ⟨_, rfl, .inr ⟨nD w, rfl, rfl, ?_⟩⟩
    exact l_mask_of _ _ w 0 _ hw fun o => ⟨_, rfl, hq⟩
  · refine ⟨_, rfl, .inl ⟨nD w, rfl, rfl, ?_⟩⟩
    exact l_mask_of _ _ w 0 _ hw fun o => ⟨_, rfl, hq⟩
def F_lies_within : DF := fun ds q _ => ∃ a b : Nat, ds = [.int (a : Nat), .int (b : Nat)] ∧ q (.bl (decide (a &&& b = a)))
theorem s_lies_within : ∀ ds q x, F_lies_within ds q x → ds.length = 2 ∧ t_lies_within { nx := fun _ => q .non, rt := q, ex := x } (startE 2 ds) := by
  rintro ds q x ⟨a, b, rfl, hq⟩
  refine ⟨rfl, ?_⟩
  simp only [t_lies_within, dRet, dOp, dVar, startE, List.map, List.length, Nat.sub_self, List.replicate, List.append_nil, List.getElem?_cons_zero, List.getElem?_cons_succ, R.d]
  refine ⟨_, andN a b, _, eqD_int _ _, _, rfl, ?_⟩
  have e : decide (((a &&& b : Nat) : Int) = (a : Int)) = decide (a &&& b = a) := by
    by_cases h : a &&& b = a
    · simp [h]
    · have : ¬ ((a &&& b : Nat) : Int) = (a : Int) := fun z => h (by exact_mod_cast z)
      simp [h, this]
  rw [e]; exact hq
def subM (items a : Nat) : Bool := decide (a &&& items = a)
def fstD (ms : List Nat) (items : Nat) : D := match ms.find? (subM items) with
  | some a => .int (a : Nat)
  | none => .non
/-- masks as a tuple or a list -/
def MsD (d : D) (ms : List Nat) : Prop := d = .tup (nD ms) ∨ d = .lst (nD ms)
def F_first_way : DF := fun ds q _ => ∃ d ms, ∃ items : Nat, ds = [d, .int (items : Nat)] ∧ MsD d ms ∧ q (fstD ms items)
theorem l_first_way (J : DEnds) (v : D) (items : Nat) : ∀ (ms : List Nat) (o : EV), (∀ a, ms.find? (subM items) = some a → J.rt (.int (a : Nat))) → (ms.find? (subM items) = none → ∀ o, J.nx [.val v, .val (.int (items : Nat)), o]) →
    dForL (gN 2) (dIfS (dTest (dCall F_lies_within (dCons (dVar 2) (dCons (dVar 1) dNil)))) (dRet (dVar 2)) dNext) J (nD ms) [.val v, .val (.int (items : Nat)), o]
  | [], o, _, h => h rfl o
  | a :: ms, o, h1, h2 => by
    refine ⟨_, rfl, ?_⟩
    simp only [dIfS, dTest, dCall, dCons, dNil, dVar, dRet, dNext, List.set_cons_zero, List.set_cons_succ, List.getElem?_cons_zero, List.getElem?_cons_succ, List.map, R.d]
    refine ⟨a, items, rfl, .inl rfl, _, rfl, ?_⟩
    by_cases c : a &&& items = a
    · simp only [c, decide_true, if_true]
      exact ⟨_, rfl, h1 a (by simp [List.find?, subM, c])⟩
    · simp only [c, decide_false, Bool.false_eq_true, if_false]
      have e : (a :: ms).find? (subM items) = ms.find? (subM items) := by simp [List.find?, subM, c]
      rw [e] at h1 h2
      exact l_first_way J v items ms _ h1 h2
theorem s_first_way : ∀ ds q x, F_first_way ds q x → ds.length = 2 ∧ t_first_way F_lies_within { nx := fun _ => q .non, rt := q, ex := x } (startE 3 ds) := by
  rintro ds q x ⟨d, ms, items, rfl, hd, hq⟩
  refine ⟨rfl, ?_⟩
  simp only [t_first_way, dSeq, dFor, iSeq, dRet, dVar, dC, startE, List.map, List.length, List.replicate, List.cons_append, List.nil_append, List.getElem?_cons_zero, List.getElem?_cons_succ, R.d]
  have main : ∀ J : DEnds, J.rt = q → J.nx = (fun env => ∃ d, R.val D.non = .val d ∧ q d) → dForL (gN 2) (dIfS (dTest (dCall F_lies_within (dCons (dVar 2) (dCons (dVar 1) dNil)))) (dRet (dVar 2)) dNext) J (nD ms) [.val d, .val (.int (items : Nat)), .no] := by
    intro J hr hn
    refine l_first_way J d items ms _ (fun a h => ?_) (fun h o => ?_)
    · rw [hr]; simpa [fstD, h] using hq
    · rw [hn]; exact ⟨_, rfl, by simpa [fstD, h] using hq⟩
  rcases hd with rfl | rfl
  · exact .inr ⟨nD ms, rfl, rfl, main _ rfl rfl⟩
  · exact .inl ⟨nD ms, rfl, rfl, main _ rfl rfl⟩
def F_has_way : DF := fun ds q _ => ∃ d ms, ∃ items : Nat, ds = [d, .int (items : Nat)] ∧ MsD d ms ∧ q (.bl (ms.any (subM items)))
theorem s_has_way : ∀ ds q x, F_has_way ds q x → ds.length = 2 ∧ t_has_way F_first_way { nx := fun _ => q .non, rt := q, ex := x } (startE 2 ds) := by
  rintro ds q x ⟨d, ms, items, rfl, hd, hq⟩
  refine ⟨rfl, ?_⟩
  simp only [t_has_way, dRet, dOp, dCall, dCons, dNil, dVar, dC, startE, List.map, List.length, Nat.sub_self, List.replicate, List.append_nil, List.getElem?_cons_zero, List.getElem?_cons_succ, R.d]
  refine ⟨d, ms, items, rfl, hd, .inl rfl, .bl (ms.any (subM items)), ?_, _, rfl, hq⟩
  unfold fstD
  cases h : ms.find? (subM items) with
  | some a =>
    have : ms.any (subM items) = true := by
      rw [List.any_eq_true]
      exact ⟨a, List.mem_of_find?_eq_some h, List.find?_some h⟩
    rw [this]; rfl
  | none =>
    have : ms.any (subM items) = false := by
      rw [List.any_eq_false]
      exact List.find?_eq_none.mp h
    rw [this]; rfl
theorem mulI_small (i j : Int) (h : -18446744073709551616 < j ∧ j < 18446744073709551616) : mulI (.int i) (.int j) = some (.int (i * j)) := by
  have h' : -(2 ^ 64 : Int) < j ∧ j < (2 ^ 64 : Int) := by omega
  unfold mulI iiD
  exact if_pos (Or.inr h')
theorem mul24 (m : Nat) : mulA (.int (m : Nat)) (.int 24) = some (.int ((m * 24 : Nat) : Int)) := by
  have e : ((m * 24 : Nat) : Int) = (m : Int) * 24 := by omega
  rw [e]
  exact mulI_small _ 24 (by omega)
theorem addN (a b : Nat) : addA (.int (a : Nat)) (.int (b : Nat)) = some (.int ((a + b : Nat) : Int)) := rfl
def rankF (r : Nat) (w : List Nat) : Nat := w.foldl (fun r i => r * 24 + i) r
def rankN (w : List Nat) : Nat := rankF w.length w
def F_rank_of : DF := fun ds q _ => ∃ w : List Nat, ds = [wayD w] ∧ q (.int (rankN w : Nat))
theorem l_rank_of (J : DEnds) (v : D) : ∀ (w : List Nat) (m : Nat) (o : EV), (∀ o, J.nx [.val v, .val (.int (rankF m w : Nat)), o]) →
    dForL (gN 2) (dSet 1 (dOp addA (dOp mulA (dVar 1) (dC (.int 24))) (dVar 2))) J (nD w) [.val v, .val (.int (m : Nat)), o]
  | [], m, o, h => h o
  | i :: w, m, o, h => by
    refine ⟨_, rfl, ?_⟩
    simp only [dSet, dOp, dVar, dC, List.set_cons_zero, List.set_cons_succ, List.getElem?_cons_zero, List.getElem?_cons_succ, R.d]
    refine ⟨_, mul24 m, _, addN (m * 24) i, _, rfl, ?_⟩
    exact l_rank_of J v w (m * 24 + i) _ h
theorem s_rank_of (C : Addr) : ∀ ds q x, F_rank_of ds q x → ds.length = 1 ∧ t_rank_of C { nx := fun _ => q .non, rt := q, ex := x } (startE 3 ds) := by
  rintro ds q x ⟨w, rfl, hq⟩
  refine ⟨rfl, ?_⟩
  simp only [t_rank_of, dSeq, dSet, dC, dFor, iSeq, dRet, dVar, dBlt, dCons, dNil, startE, List.map, List.length, List.replicate, List.cons_append, List.nil_append, List.set_cons_zero, List.set_cons_succ, List.getElem?_cons_zero, List.getElem?_cons_succ, R.d]
  refine ⟨.int (w.length : Nat), by show some _ = _; simp [nD], _, rfl, .inr ⟨nD w, rfl, rfl, ?_⟩⟩
  exact l_rank_of _ _ w w.length _ fun o => ⟨_, rfl, hq⟩
/-! ### comprehensions -/
theorem lc_map {i : Nat} {te : DE} {f : D → D} {env : SE} : ∀ {ds : List D} {q : List D → Prop}, (∀ d ∈ ds, ∀ q : R → Prop, q (.val (f d)) → te (env.set i (.val d)) q noX) → q (ds.map f) → dLcL (gN i) dYes te ds env q
  | [], q, _, h => h
  | d :: ds, q, ht, h => ⟨_, rfl, ht d List.mem_cons_self _ ⟨_, rfl, lc_map (fun d' m => ht d' (List.mem_cons_of_mem _ m)) h⟩⟩
inductive All2 {α β : Type} (P : α → β → Prop) : List α → List β → Prop
  | nil : All2 P [] []
  | cons {a : α} {b : β} {l : List α} {m : List β} : P a b → All2 P l m → All2 P (a :: l) (b :: m)
/-! ### ranks tell ways apart -/
theorem rankF_inj : ∀ (w w' : List Nat) (r r' : Nat), w.length = w'.length → (∀ i ∈ w, i < 24) → (∀ i ∈ w', i < 24) → rankF r w = rankF r' w' → r = r' ∧ w = w'
  | [], [], r, r', _, _, _, h => ⟨h, rfl⟩
  | [], _ :: _, _, _, h, _, _, _ => by simp at h
  | _ :: _, [], _, _, h, _, _, _ => by simp at h
  | i :: w, j :: w', r, r', hl, h1, h2, h => by
    obtain ⟨e, ew⟩ := rankF_inj w w' (r * 24 + i) (r' * 24 + j) (by simpa using hl) (fun k hk => h1 k (List.mem_cons_of_mem _ hk)) (fun k hk => h2 k (List.mem_cons_of_mem _ hk)) h
    have hi := h1 i List.mem_cons_self
    have hj := h2 j List.mem_cons_self
    have : i = j := by omega
    exact ⟨by omega, by rw [this, ew]⟩
theorem rankF_bound : ∀ (w : List Nat) (r : Nat), (∀ i ∈ w, i < 24) → r * 24 ^ w.length ≤ rankF r w ∧ rankF r w < (r + 1) * 24 ^ w.length
  | [], r, _ => by
    show r * 24 ^ 0 ≤ r ∧ r < (r + 1) * 24 ^ 0
    simp
  | i :: w, r, h => by
    obtain ⟨h1, h2⟩ := rankF_bound w (r * 24 + i) fun k hk => h k (List.mem_cons_of_mem _ hk)
    have hi := h i List.mem_cons_self
    show r * 24 ^ (w.length + 1) ≤ rankF (r * 24 + i) w ∧ rankF (r * 24 + i) w < (r + 1) * 24 ^ (w.length + 1)
    have e : (24 : Nat) ^ (w.length + 1) = 24 * 24 ^ w.length := by rw [Nat.pow_succ, Nat.mul_comm]
    have a1 : r * (24 * 24 ^ w.length) ≤ (r * 24 + i) * 24 ^ w.length := by
      rw [← Nat.mul_assoc]
      exact Nat.mul_le_mul_right _ (by omega)
    have a2 : (r * 24 + i + 1) * 24 ^ w.length ≤ (r + 1) * (24 * 24 ^ w.length) := by
      rw [← Nat.mul_assoc]
      exact Nat.mul_le_mul_right _ (by omega)
    rw [e]
    omega
theorem rankN_inj {w w' : List Nat} (h1 : ∀ i ∈ w, i < 24) (h2 : ∀ i ∈ w', i < 24) (h : rankN w = rankN w') : w = w' := by
  have key : ∀ {a b : List Nat}, (∀ i ∈ a, i < 24) → (∀ i ∈ b, i < 24) → a.length < b.length → rankN a < rankN b := by
    intro a b ha hb hl
    have x := (rankF_bound a a.length ha).2
    have y := (rankF_bound b b.length hb).1
    have z : (24 : Nat) ^ a.length ≤ 24 ^ b.length := Nat.pow_le_pow_right (by omega) (by omega)
    have z2 : (a.length + 1) * 24 ^ a.length ≤ b.length * 24 ^ b.length := Nat.mul_le_mul (by omega) z
    exact Nat.lt_of_lt_of_le x (Nat.le_trans z2 y)
  have hl : w.length = w'.length := by
    rcases Nat.lt_trichotomy w.length w'.length with z | z | z
    · have := key h1 h2 z; omega
    · exact z
    · have := key h2 h1 z; omega
  exact (rankF_inj w w' _ _ hl h1 h2 h).2
/-! ### in_order -/
abbrev Way24 (w : List Nat) : Prop := ∀ i ∈ w, i < 24
def kp (w : List Nat) : Key × D := (.inl (rankN w : Nat), wayD w)
def addW (qs : List (List Nat)) (w : List Nat) : List (List Nat) := if qs.any (fun v => decide (rankN v = rankN w)) then qs else qs ++ [w]
theorem putD_way {qs : List (List Nat)} {w : List Nat} (hq : ∀ v ∈ qs, Way24 v) (hw : Way24 w) : putD (qs.map kp) (.inl (rankN w : Nat)) (wayD w) = (addW qs w).map kp := by
  unfold putD addW
  have e : ((qs.map kp).any fun p => decide (p.1 = (.inl (rankN w : Nat) : Key))) = qs.any (fun v => decide (rankN v = rankN w)) := by
    rw [List.any_map]
    congr 1
    funext v
    show decide ((kp v).1 = _) = _
    unfold kp
    by_cases h : rankN v = rankN w
    · simp [h]
    · have : ¬ ((.inl ((rankN v : Nat) : Int) : Key) = .inl ((rankN w : Nat) : Int)) := fun z => h (by
        have := Sum.inl.inj z
        omega)
      simp [h, this]
  rw [e]
  split
  · rw [List.map_map]
    apply List.map_congr_left
    intro v hv
    show (if (kp v).1 = _ then _ else _) = _
    by_cases h : rankN v = rankN w
    · have := rankN_inj (hq v hv) hw h
      subst this
      rw [if_pos (show (kp v).1 = .inl ((rankN v : Nat) : Int) from rfl)]
      rfl
    · rw [if_neg (show ¬ (kp v).1 = .inl ((rankN w : Nat) : Int) from fun z => h (by
        have := Sum.inl.inj z
        omega))]
  · rw [List.map_append]
    rfl
theorem addW_mem {qs : List (List Nat)} {w v : List Nat} (hq : ∀ v ∈ qs, Way24 v) (hw : Way24 w) : v ∈ addW qs w ↔ v ∈ qs ∨ v = w := by
  unfold addW
  split
  · rename_i h
    obtain ⟨u, hu, e⟩ := List.any_eq_true.mp h
    have : u = w := rankN_inj (hq u hu) hw (of_decide_eq_true e)
    subst this
    exact ⟨.inl, fun z => z.elim id fun z => by rw [z]; exact hu⟩
  · simp
theorem addW_len (qs : List (List Nat)) (w : List Nat) : (addW qs w).length ≤ qs.length + 1 := by
  unfold addW
  split <;> simp
theorem foldW {ws qs : List (List Nat)} (hq : ∀ v ∈ qs, Way24 v) (hw : ∀ v ∈ ws, Way24 v) : (∀ v, v ∈ ws.foldl addW qs ↔ v ∈ qs ∨ v ∈ ws) ∧ (ws.foldl addW qs).length ≤ qs.length + ws.length := by
  induction ws generalizing qs with
  | nil => simp
  | cons w ws ih =>
    have hq' : ∀ v ∈ addW qs w, Way24 v := fun v hv => ((addW_mem hq (hw w List.mem_cons_self)).mp hv).elim (hq v) fun z => by rw [z]; exact hw w List.mem_cons_self
    obtain ⟨i1, i2⟩ := ih hq' fun v hv => hw v (List.mem_cons_of_mem _ hv)
    refine ⟨fun v => ?_, ?_⟩
    · rw [List.foldl_cons, i1, addW_mem hq (hw w List.mem_cons_self), List.mem_cons]
      constructor
      · rintro ((h | h) | h)
        · exact .inl h
        · exact .inr (.inl h)
        · exact .inr (.inr h)
      · rintro (h | h | h)
        · exact .inl (.inl h)
        · exact .inl (.inr h)
        · exact .inr h
    · have := addW_len qs w
      rw [List.foldl_cons, List.length_cons]
      omega
theorem l_ranked (env : SE) (q : List (Key × D) → Prop) (he : ∀ d, (env.set 2 (.val d))[2]? = some (.val d)) : ∀ (ws qs : List (List Nat)), (∀ v ∈ qs, Way24 v) → (∀ v ∈ ws, Way24 v) → q ((ws.foldl addW qs).map kp) →
    dDcL (gN 2) (dCall F_rank_of (dCons (dVar 2) dNil)) (dVar 2) (ws.map wayD) env (qs.map kp) q
  | [], qs, _, _, h => h
  | w :: ws, qs, hq, hw, h => by
    refine ⟨_, rfl, ?_⟩
    simp only [dCall, dCons, dNil, dVar, he, List.map, R.d]
    refine ⟨w, rfl, .inl rfl, _, _, rfl, rfl, _, rfl, ?_⟩
    rw [putD_way hq (hw w List.mem_cons_self)]
    exact l_ranked env q he ws (addW qs w) (fun v hv => ((addW_mem hq (hw w List.mem_cons_self)).mp hv).elim (hq v) fun z => by rw [z]; exact hw w List.mem_cons_self) (fun v hv => hw v (List.mem_cons_of_mem _ hv)) h
def lookW (qs : List (List Nat)) (r : Int) : List Nat := (qs.find? fun w => decide ((rankN w : Int) = r)).getD []
theorem lk_way {r : Int} : ∀ {qs : List (List Nat)}, r ∈ qs.map (fun w => (rankN w : Int)) → lkK (.inl r) ((qs.map kp).map (·.1)) ((qs.map kp).map (·.2)) = some (wayD (lookW qs r))
  | [], h => by simp at h
  | w :: qs, h => by
    show (if (kp w).1 = .inl r then some (kp w).2 else lkK (.inl r) ((qs.map kp).map (·.1)) ((qs.map kp).map (·.2))) = _
    by_cases e : (rankN w : Int) = r
    · rw [if_pos (by unfold kp; rw [e])]
      unfold lookW
      rw [List.find?_cons_of_pos (by simpa using e)]
      rfl
    · rw [if_neg (show ¬ (kp w).1 = .inl r from fun z => e (Sum.inl.inj z))]
      have h' : r ∈ qs.map (fun w => (rankN w : Int)) := by
        rw [List.map_cons, List.mem_cons] at h
        exact h.elim (fun z => absurd z.symm e) id
      rw [lk_way h']
      unfold lookW
      rw [List.find?_cons_of_neg (by simpa using e)]
theorem lookW_mem {qs : List (List Nat)} {r : Int} (h : r ∈ qs.map (fun w => (rankN w : Int))) : lookW qs r ∈ qs ∧ (rankN (lookW qs r) : Int) = r := by
  obtain ⟨w, hw, e⟩ := List.mem_map.mp h
  unfold lookW
  cases q : qs.find? fun w => decide ((rankN w : Int) = r) with
  | none =>
    have := List.find?_eq_none.mp q w hw
    simp [e] at this
  | some v =>
    have z := List.find?_some q
    exact ⟨List.mem_of_find?_eq_some q, of_decide_eq_true z⟩
theorem intsOf_iD : ∀ ns : List Int, intsOf (iD ns) = some ns
  | [] => rfl
  | n :: ns => by
    show (intsOf (iD ns)).map (n :: ·) = _
    rw [intsOf_iD ns]
    rfl
theorem noDls_iD : ∀ ns : List Int, noDls (iD ns) = true
  | [] => rfl
  | n :: ns => by
    show (noDl (.int n) && noDls (iD ns)) = true
    rw [noDls_iD ns]
    rfl
def F_in_order : DF := fun ds q _ => ∃ ws : List (List Nat), ds = [.tup (ws.map wayD)] ∧ (∀ w ∈ ws, Way24 w) ∧ ws.length < 64 ∧ ∀ L : List (List Nat), (∀ w, w ∈ L ↔ w ∈ ws) → L.length ≤ ws.length → q (.lst (L.map wayD))
theorem s_in_order : ∀ ds q x, F_in_order ds q x → ds.length = 1 ∧ t_in_order F_rank_of { nx := fun _ => q .non, rt := q, ex := x } (startE 4 ds) := by
  rintro ds q x ⟨ws, rfl, hw, hl, hq⟩
  refine ⟨rfl, ?_⟩
  simp only [t_in_order, dSeq, dSet, dDc, iSeq, dVar, dRet, dOfF, dLc, startE, List.map, List.length, List.replicate, List.cons_append, List.nil_append, List.getElem?_cons_zero, List.getElem?_cons_succ, R.d]
  refine .inr ⟨_, rfl, by simp; omega, ?_⟩
  refine l_ranked _ _ (fun d => rfl) ws [] (by simp) hw ?_
  obtain ⟨m1, m2⟩ := foldW (ws := ws) (qs := []) (by simp) hw
  generalize ws.foldl addW [] = qs at m1 m2 ⊢
  refine ⟨_, rfl, ?_⟩
  left
  have hqs : ∀ v ∈ qs, Way24 v := fun v hv => hw v (((m1 v).mp hv).elim (fun z => by simp at z) id)
  have hlen : qs.length < 64 := by simp at m2; omega
  simp only [dBlt, dCons, dNil, dLocked, iKeysD, dVar, dLc, List.set_cons_zero, List.set_cons_succ, List.getElem?_cons_zero, List.getElem?_cons_succ]
  refine ⟨_, _, rfl, fun od kvs hk => ?_⟩
  refine ⟨od, kvs, rfl, ?_, ?_⟩
  · have := congrArg List.length hk
    simp at this
    simp
    omega
  have hkd : kvs.map (fun p => dKey p.1) = iD (qs.map fun w => (rankN w : Int)) := by
    have e1 : kvs.map (fun p => dKey p.1) = (kvs.map (·.1)).map dKey := by rw [List.map_map]; rfl
    rw [e1, hk]
    unfold iD
    rw [List.map_map, List.map_map, List.map_map]
    rfl
  rw [hkd]
  refine lc_map (f := id) (fun d hd q hq => ?_) ?_
  · obtain ⟨n, _, rfl⟩ := List.mem_map.mp hd
    exact ⟨_, rfl, hq⟩
  rw [List.map_id]
  refine ⟨_, rfl, by show noDls _ = true; exact noDls_iD _, ?_⟩
  refine ⟨.lst (iD (sortI (qs.map fun w => (rankN w : Int)))), ?_, _, rfl, ?_, ?_⟩
  · show sortedF [.lst (iD _)] = _
    unfold sortedF
    simp only [intsOf_iD]
    rw [if_pos (by simp; omega)]
    rfl
  · have := (sortI_perm (qs.map fun w => (rankN w : Int))).length_eq
    simp [iD] at this ⊢
    omega
  have hmem : ∀ r ∈ sortI (qs.map fun w => (rankN w : Int)), r ∈ qs.map fun w => (rankN w : Int) := fun r hr => (sortI_perm _).mem_iff.mp hr
  refine lc_map (f := fun d => match d with | .int r => wayD (lookW qs r) | _ => .non) (fun d hd q hq => ?_) ?_
  · obtain ⟨r, hr, rfl⟩ := List.mem_map.mp hd
    exact ⟨_, _, _, _, rfl, rfl, lk_way (hmem r hr), hq⟩
  refine ⟨_, rfl, ?_⟩
  have e2 : (iD (sortI (qs.map fun w => (rankN w : Int)))).map (fun d => match d with | .int r => wayD (lookW qs r) | _ => .non) = ((sortI (qs.map fun w => (rankN w : Int))).map (lookW qs)).map wayD := by
    unfold iD
    rw [List.map_map, List.map_map]
    rfl
  rw [e2]
  refine hq _ (fun w => ?_) ?_
  · have hw' : w ∈ qs ↔ w ∈ ws := by rw [m1 w]; simp
    rw [← hw', List.mem_map]
    constructor
    · rintro ⟨r, hr, rfl⟩
      exact (lookW_mem (hmem r hr)).1
    · intro h
      have hr : (rankN w : Int) ∈ qs.map fun w => (rankN w : Int) := List.mem_map.mpr ⟨w, h, rfl⟩
      refine ⟨rankN w, (sortI_perm _).mem_iff.mpr hr, ?_⟩
      obtain ⟨a, b⟩ := lookW_mem hr
      exact rankN_inj (hqs _ a) (hqs w h) (by omega)
  · rw [List.length_map, (sortI_perm _).length_eq, List.length_map]
    simp at m2
    exact m2
/-! ### tidy -/
/-- the way w holds the way k -/
def holds (w k : List Nat) : Bool := subM (maskN w) (maskN k)
theorem holds_iff {w k : List Nat} : holds w k = true ↔ ∀ i ∈ k, i ∈ w := by
  unfold holds subM
  rw [decide_eq_true_eq, and_eq_left]
  simp only [maskN_bit, decide_eq_true_eq]
structure Tidy (kept ws : List (List Nat)) : Prop where
  sub : ∀ k ∈ kept, k ∈ ws
  all : ∀ w ∈ ws, ∃ k ∈ kept, ∀ i ∈ k, i ∈ w
  len : kept.length ≤ ws.length
def tidyL : List (List Nat) → List (List Nat) → List (List Nat)
  | kept, [] => kept
  | kept, w :: ws => if kept.any (holds w) then tidyL kept ws else tidyL (kept ++ [w]) ws
theorem tidyL_ok : ∀ (ws kept : List (List Nat)), (∀ k ∈ kept, k ∈ tidyL kept ws) ∧ (∀ k ∈ tidyL kept ws, k ∈ kept ∨ k ∈ ws) ∧ (∀ w ∈ ws, ∃ k ∈ tidyL kept ws, ∀ i ∈ k, i ∈ w) ∧ (tidyL kept ws).length ≤ kept.length + ws.length
  | [], kept => ⟨fun k h => h, fun k h => .inl h, fun w h => by simp at h, by simp [tidyL]⟩
  | w :: ws, kept => by
    unfold tidyL
    by_cases c : kept.any (holds w) = true
    · rw [if_pos c]
      obtain ⟨h1, h2, h3, h4⟩ := tidyL_ok ws kept
      refine ⟨h1, fun k h => (h2 k h).imp id (List.mem_cons_of_mem _), fun v hv => ?_, by rw [List.length_cons]; omega⟩
      rcases List.mem_cons.mp hv with rfl | hv
      · obtain ⟨k, hk, e⟩ := List.any_eq_true.mp c
        exact ⟨k, h1 k hk, holds_iff.mp e⟩
      · exact h3 v hv
    · rw [if_neg c]
      obtain ⟨h1, h2, h3, h4⟩ := tidyL_ok ws (kept ++ [w])
      refine ⟨fun k h => h1 k (List.mem_append_left _ h), fun k h => ?_, fun v hv => ?_, by simp at h4 ⊢; omega⟩
      · rcases h2 k h with z | z
        · rcases List.mem_append.mp z with z | z
          · exact .inl z
          · exact .inr (by rw [List.mem_singleton.mp z]; exact List.mem_cons_self)
        · exact .inr (List.mem_cons_of_mem _ z)
      · rcases List.mem_cons.mp hv with rfl | hv
        · exact ⟨v, h1 v (List.mem_append_right _ List.mem_cons_self), fun i h => h⟩
        · exact h3 v hv
def F_tidy : DF := fun ds q _ => ∃ ws : List (List Nat), ds = [.tup (ws.map wayD)] ∧ (∀ w ∈ ws, Way24 w) ∧ ws.length < 64 ∧ ∀ kept, Tidy kept ws → q (.tup (kept.map wayD))
theorem l_tidy (J : DEnds) (v : D) : ∀ (ws kept : List (List Nat)) (o : EV), (∀ w ∈ ws, Way24 w) → kept.length + ws.length < 1000 → (∀ o, J.nx [.val v, .own ((tidyL kept ws).map wayD), .own ((tidyL kept ws).map fun w => .int (maskN w : Nat)), o]) →
    dForL (gN 3) (dIfS (dNotT (dTest (dCall F_has_way (dCons (dVar 2) (dCons (dCall F_mask_of (dCons (dVar 3) dNil)) dNil))))) (dSeq (dAppend 1 (dVar 3)) (dAppend 2 (dCall F_mask_of (dCons (dVar 3) dNil)))) dNext) J (ws.map wayD)
      [.val v, .own (kept.map wayD), .own (kept.map fun w => .int (maskN w : Nat)), o]
  | [], kept, o, _, _, h => h o
  | w :: ws, kept, o, hw, hl, h => by
    have hw1 : ∀ i ∈ w, i ≤ 1000000 := fun i hi => by have := hw w List.mem_cons_self i hi; omega
    refine ⟨_, rfl, ?_⟩
    simp only [dIfS, dNotT, dTest, dCall, dCons, dNil, dVar, dSeq, dAppend, dNext, List.set_cons_zero, List.set_cons_succ, List.getElem?_cons_zero, List.getElem?_cons_succ, List.map, R.d]
    refine ⟨w, rfl, hw1, .inl rfl, ?_⟩
    refine ⟨_, kept.map maskN, maskN w, rfl, .inr (by unfold nD; rw [List.map_map]; rfl), .inr rfl, _, rfl, ?_⟩
    have e : (kept.map maskN).any (subM (maskN w)) = kept.any (holds w) := by
      rw [List.any_map]
      rfl
    rw [e]
    by_cases c : kept.any (holds w) = true
    · rw [c]
      simp only [Bool.not_true, Bool.false_eq_true, if_false]
      have et : tidyL kept (w :: ws) = tidyL kept ws := by
        show (if kept.any (holds w) = true then _ else _) = _
        rw [if_pos c]
      rw [et] at h
      exact l_tidy J v ws kept _ (fun u hu => hw u (List.mem_cons_of_mem _ hu)) (by simp at hl ⊢; omega) h
    · have c' : kept.any (holds w) = false := by simpa using c
      rw [c']
      simp only [Bool.not_false, if_true]
      refine ⟨_, rfl, by simp at hl ⊢; omega, _, rfl, _, rfl, by simp at hl ⊢; omega, w, rfl, hw1, .inl rfl, _, rfl, ?_⟩
      have et : tidyL kept (w :: ws) = tidyL (kept ++ [w]) ws := by
        show (if kept.any (holds w) = true then _ else _) = _
        rw [if_neg c]
      rw [et] at h
      have := l_tidy J v ws (kept ++ [w]) (.val (wayD w)) (fun u hu => hw u (List.mem_cons_of_mem _ hu)) (by simp at hl ⊢; omega) h
      simpa using this
theorem s_tidy : ∀ ds q x, F_tidy ds q x → ds.length = 1 ∧ t_tidy F_in_order F_has_way F_mask_of { nx := fun _ => q .non, rt := q, ex := x } (startE 4 ds) := by
  rintro ds q x ⟨ws, rfl, hw, hl, hq⟩
  refine ⟨rfl, ?_⟩
  simp only [t_tidy, dSeq, dSetOwn, dFLst, dNil, dFor, iSeq, dCall, dCons, dVar, dRet, dBlt, startE, List.map, List.length, List.replicate, List.cons_append, List.nil_append, List.set_cons_zero, List.set_cons_succ, List.getElem?_cons_zero, List.getElem?_cons_succ, R.d]
  refine ⟨[], rfl, by decide, [], rfl, by decide, .inl ⟨ws, rfl, hw, hl, fun L hL hlen => ⟨.inl rfl, L.map wayD, rfl, rfl, ?_⟩⟩⟩
  have hL24 : ∀ w ∈ L, Way24 w := fun w h => hw w ((hL w).mp h)
  refine l_tidy _ _ L [] .no hL24 (by simp; omega) fun o => ?_
  simp only [List.set_cons_zero, List.set_cons_succ, List.getElem?_cons_zero, List.getElem?_cons_succ]
  obtain ⟨h1, h2, h3, h4⟩ := tidyL_ok L []
  refine ⟨_, rfl, _, rfl, hq _ ⟨fun k hk => ?_, fun w hw => h3 w ((hL w).mpr hw), ?_⟩⟩
  · exact ((h2 k hk).elim (fun z => by simp at z) fun z => (hL k).mp z)
  · simp at h4; omega
/-! ### masks_of -/
def F_masks_of : DF := fun ds q _ => ∃ ws : List (List Nat), ds = [.tup (ws.map wayD)] ∧ (∀ w ∈ ws, Way24 w) ∧ ws.length < 1000 ∧ q (.tup (nD (ws.map maskN)))
theorem s_masks_of : ∀ ds q x, F_masks_of ds q x → ds.length = 1 ∧ t_masks_of F_mask_of { nx := fun _ => q .non, rt := q, ex := x } (startE 2 ds) := by
  rintro ds q x ⟨ws, rfl, hw, hl, hq⟩
  refine ⟨rfl, ?_⟩
  simp only [t_masks_of, dRet, dBlt, dCons, dNil, dOfF, dLc, iSeq, dVar, startE, List.map, List.length, List.replicate, List.cons_append, List.nil_append, List.getElem?_cons_zero, List.getElem?_cons_succ, R.d]
  refine .inr ⟨_, rfl, by simp; omega, ?_⟩
  have main : ∀ (l : List (List Nat)) (env : SE) (q : List D → Prop), (∀ w ∈ l, Way24 w) → (∀ d, (env.set 1 (.val d))[1]? = some (.val d)) → q (nD (l.map maskN)) → dLcL (gN 1) dYes (dCall F_mask_of (dCons (dVar 1) dNil)) (l.map wayD) env q := by
    intro l
    induction l with
    | nil => intro env q _ _ h; exact h
    | cons w l ih =>
      intro env q hw he h
      refine ⟨_, rfl, ?_⟩
      simp only [dYes, if_true, dCall, dCons, dNil, dVar, he, List.map, R.d]
      exact ⟨w, rfl, fun i hi => by have := hw w List.mem_cons_self i hi; omega, .inl rfl, _, rfl, ih env _ (fun v hv => hw v (List.mem_cons_of_mem _ hv)) he h⟩
  refine main ws _ _ hw (fun d => rfl) ?_
  exact ⟨_, rfl, _, rfl, hq⟩
/-! ### the course -/
abbrev Entry := List (List Nat)
def entryD (e : Entry) : D := .tup (e.map wayD)
def bookD (b : List Entry) : D := .tup (b.map entryD)
def masksD (b : List Entry) : D := .tup (b.map fun e => .tup (nD (e.map maskN)))
def crsD (C : Addr) (b : List Entry) : D := .ins C ["_ways", "book"] [bookD b, masksD b]
structure WayOk (n : Nat) (w : List Nat) : Prop where
  asc : w.Pairwise (· < ·)
  lt : ∀ i ∈ w, i < n
structure BookOk (b : List Entry) : Prop where
  pos : 1 ≤ b.length
  le : b.length ≤ 24
  len : ∀ e ∈ b, e.length < 64
  way : ∀ e ∈ b, ∀ w ∈ e, WayOk b.length w
  own : ∀ (i : Nat) e, b[i]? = some e → ∀ w ∈ e, i ∉ w
theorem isSetL_way (n : Nat) : ∀ (w : List Nat) (l : Nat), w.Pairwise (· < ·) → (∀ i ∈ w, l ≤ i ∧ i < n) → isSetL n l (nD w) = true
  | [], l, _, _ => rfl
  | i :: w, l, hp, h => by
    obtain ⟨h1, h2⟩ := h i List.mem_cons_self
    obtain ⟨p1, p2⟩ := List.pairwise_cons.mp hp
    show (if (decide ((0 : Int) ≤ (i : Nat)) && decide (((i : Nat) : Int) < n) && decide ((l : Int) ≤ (i : Nat))) = true then isSetL n ((i : Nat) + 1) (nD w) else false) = true
    rw [if_pos (by simp; omega)]
    have := isSetL_way n w (i + 1) p2 fun j hj => ⟨p1 j hj, (h j (List.mem_cons_of_mem _ hj)).2⟩
    simpa using this
theorem nD_iD (w : List Nat) : nD w = iD (w.map fun (i : Nat) => (i : Int)) := by
  unfold nD iD
  rw [List.map_map]
  rfl
theorem isEntry_ok {n i : Nat} {e : Entry} (h : ∀ w ∈ e, WayOk n w) (h2 : ∀ w ∈ e, i ∉ w) : isEntry n i (entryD e) = true := by
  show (List.all (e.map wayD) _) = true
  rw [List.all_map, List.all_eq_true]
  intro w hw
  show (isSet n (wayD w) && !inWay i (wayD w)) = true
  have a : isSet n (wayD w) = true := isSetL_way n w 0 (h w hw).asc fun j hj => ⟨Nat.zero_le _, (h w hw).lt j hj⟩
  rw [a]
  have b : inWay i (wayD w) = false := by
    show inWay i (.tup (nD w)) = false
    rw [nD_iD, inWay_ints, decide_eq_false_iff_not]
    intro z
    obtain ⟨j, hj, ej⟩ := List.mem_map.mp z
    have : j = i := by omega
    exact h2 w hw (by rw [← this]; exact hj)
  rw [b]
  rfl
theorem isWaysL_ok {n : Nat} : ∀ (b : List Entry) (k : Nat), (∀ e ∈ b, ∀ w ∈ e, WayOk n w) → (∀ (i : Nat) e, b[i]? = some e → ∀ w ∈ e, k + i ∉ w) → isWaysL n k (b.map entryD) = true
  | [], _, _, _ => rfl
  | e :: b, k, h1, h2 => by
    show (isEntry n k (entryD e) && isWaysL n (k + 1) (b.map entryD)) = true
    rw [isEntry_ok (h1 e List.mem_cons_self) (fun w hw => by have z := h2 0 e rfl w hw; rwa [Nat.add_zero] at z), isWaysL_ok b (k + 1) (fun e' he => h1 e' (List.mem_cons_of_mem _ he)) fun i e' he => by
      have := h2 (i + 1) e' (by simpa using he)
      rw [show k + 1 + i = k + (i + 1) by omega]
      exact this]
    rfl
theorem isWays_ok {b : List Entry} (h : BookOk b) : isWays 24 (bookD b) = true := by
  have h1 := h.pos
  have h2 := h.le
  show (decide (1 ≤ ((b.map entryD).length : Int)) && decide (((b.map entryD).length : Int) ≤ 24) && isWaysL (b.map entryD).length 0 (b.map entryD)) = true
  rw [List.length_map, isWaysL_ok b 0 h.way fun i e he => by rw [Nat.zero_add]; exact h.own i e he]
  simp
  omega
theorem pls_nD : ∀ w : List Nat, pls (nD w) = true
  | [] => rfl
  | i :: w => by
    show (pl (.int i) && pls (nD w)) = true
    rw [pls_nD w]; rfl
theorem pls_ways : ∀ e : Entry, pls (e.map wayD) = true
  | [] => rfl
  | w :: e => by
    show (pl (wayD w) && pls (e.map wayD)) = true
    rw [pls_ways e, show pl (wayD w) = pls (nD w) from rfl, pls_nD]; rfl
theorem pls_book : ∀ b : List Entry, pls (b.map entryD) = true
  | [] => rfl
  | e :: b => by
    show (pl (entryD e) && pls (b.map entryD)) = true
    rw [pls_book b, show pl (entryD e) = pls (e.map wayD) from rfl, pls_ways]; rfl
theorem nl_nD : ∀ w : List Nat, noLsts (nD w) = true
  | [] => rfl
  | i :: w => by
    show (noLst (.int i) && noLsts (nD w)) = true
    rw [nl_nD w]; rfl
theorem nl_ways : ∀ e : Entry, noLsts (e.map wayD) = true
  | [] => rfl
  | w :: e => by
    show (noLst (wayD w) && noLsts (e.map wayD)) = true
    rw [nl_ways e, show noLst (wayD w) = noLsts (nD w) from rfl, nl_nD]; rfl
theorem nl_book : ∀ b : List Entry, noLsts (b.map entryD) = true
  | [] => rfl
  | e :: b => by
    show (noLst (entryD e) && noLsts (b.map entryD)) = true
    rw [nl_book b, show noLst (entryD e) = noLsts (e.map wayD) from rfl, nl_ways]; rfl
theorem nl_masks : ∀ b : List Entry, noLsts (b.map fun e => .tup (nD (e.map maskN))) = true
  | [] => rfl
  | e :: b => by
    show (noLst (.tup (nD (e.map maskN))) && noLsts (b.map fun e => .tup (nD (e.map maskN)))) = true
    rw [nl_masks b, show noLst (.tup (nD (e.map maskN))) = noLsts (nD (e.map maskN)) from rfl, nl_nD]; rfl
abbrev TidyB (kb b : List Entry) : Prop := All2 Tidy kb b
def F_Course___init__ (C : Addr) : DF := fun ds q _ => ∃ b, ds = [bookD b] ∧ BookOk b ∧ ∀ kb, TidyB kb b → q (crsD C kb)
theorem s_Course___init__ (C X : Addr) : ∀ ds q x, F_Course___init__ C ds q x → ds.length + 1 = 2 ∧ t_Course___init__ C X F_is_ways F_tidy F_masks_of ((.no : EV) :: startE 2 ds) [] [] (fun ns es => q (.ins C ns es)) x := by
  rintro ds q x ⟨b, rfl, hb, hq⟩
  refine ⟨rfl, ?_⟩
  have b24 : ∀ e ∈ b, ∀ w ∈ e, Way24 w := fun e he w hw i hi => by
    have := (hb.way e he w hw).lt i hi
    have := hb.le
    omega
  simp only [t_Course___init__, dnIf, dNotT, dTest, dCall, dCons, dNil, dVar, dC, dnSet, dnNil, startE, List.map, List.length, Nat.reduceSub, List.replicate, List.cons_append, List.nil_append, List.set_cons_zero, List.set_cons_succ, List.getElem?_cons_zero, List.getElem?_cons_succ, R.d, dBlt, dOfF, dLc, iSeq, dFld]
  refine ⟨bookD b, 24, rfl, pls_book b, .inl rfl, _, rfl, ?_⟩
  rw [isWays_ok hb]
  simp only [Bool.not_true, Bool.false_eq_true, if_false]
  refine ⟨by simp, by decide, .inr ⟨_, rfl, by have := hb.le; simp; omega, ?_⟩⟩
  have main : ∀ (l : List Entry) (env : SE) (q : List D → Prop), (∀ e ∈ l, (∀ w ∈ e, Way24 w) ∧ e.length < 64) → (∀ d, (env.set 2 (.val d))[2]? = some (.val d)) → (∀ kb, TidyB kb l → q (kb.map entryD)) → dLcL (gN 2) dYes (dCall F_tidy (dCons (dVar 2) dNil)) (l.map entryD) env q := by
    intro l
    induction l with
    | nil => intro env q _ _ h; exact h [] .nil
    | cons e l ih =>
      intro env q hw he h
      refine ⟨_, rfl, ?_⟩
      simp only [dYes, if_true, dCall, dCons, dNil, dVar, he, List.map, R.d]
      refine ⟨e, rfl, (hw e List.mem_cons_self).1, (hw e List.mem_cons_self).2, fun kept tk => ⟨.inl rfl, _, rfl, ih env _ (fun v hv => hw v (List.mem_cons_of_mem _ hv)) he fun kb hk => ?_⟩⟩
      exact h (kept :: kb) (.cons tk hk)
  refine main b _ _ (fun e he => ⟨b24 e he, hb.len e he⟩) (fun d => rfl) fun kb hk => ?_
  have kb24 : ∀ {kb l : List Entry}, TidyB kb l → (∀ e ∈ l, (∀ w ∈ e, Way24 w) ∧ e.length < 64) → (∀ e ∈ kb, (∀ w ∈ e, Way24 w) ∧ e.length < 64) ∧ kb.length = l.length := by
    intro kb l h
    induction h with
    | nil => intro _; exact ⟨fun e h => by simp at h, rfl⟩
    | @cons k e kb l h1 h2 ih =>
      intro hl
      obtain ⟨a1, a2⟩ := ih fun e he => hl e (List.mem_cons_of_mem _ he)
      refine ⟨fun e' he => ?_, by simp [a2]⟩
      rcases List.mem_cons.mp he with rfl | he
      · obtain ⟨z1, z2⟩ := hl e List.mem_cons_self
        exact ⟨fun w hw => z1 w (h1.sub w hw), by have := h1.len; omega⟩
      · exact a1 e' he
  obtain ⟨k1, k2⟩ := kb24 hk fun e he => ⟨b24 e he, hb.len e he⟩
  refine ⟨.tup (kb.map entryD), rfl, _, rfl, nl_book kb, ?_⟩
  refine ⟨fun g hg => by rw [List.mem_singleton.mp hg]; decide +kernel, by simp, .inr ⟨_, _, _, rfl, rfl, kb.map entryD, rfl, ?_, ?_⟩⟩
  · have := hb.le; simp; omega
  have main2 : ∀ (l : List Entry) (env : SE) (q : List D → Prop), (∀ e ∈ l, (∀ w ∈ e, Way24 w) ∧ e.length < 64) → (∀ d, (env.set 2 (.val d))[2]? = some (.val d)) → q (l.map fun e => .tup (nD (e.map maskN))) → dLcL (gN 2) dYes (dCall F_masks_of (dCons (dVar 2) dNil)) (l.map entryD) env q := by
    intro l
    induction l with
    | nil => intro env q _ _ h; exact h
    | cons e l ih =>
      intro env q hw he h
      refine ⟨_, rfl, ?_⟩
      simp only [dYes, if_true, dCall, dCons, dNil, dVar, he, List.map, R.d]
      exact ⟨e, rfl, (hw e List.mem_cons_self).1, by have := (hw e List.mem_cons_self).2; omega, .inl rfl, _, rfl, ih env _ (fun v hv => hw v (List.mem_cons_of_mem _ hv)) he h⟩
  refine main2 kb _ _ k1 (fun d => rfl) ?_
  exact ⟨_, rfl, _, rfl, nl_masks kb, hq kb hk⟩
def F_Course___len__ (C : Addr) : DF := fun ds q _ => ∃ kb : List Entry, ds = [crsD C kb] ∧ q (.int (kb.length : Nat))
theorem hC_len (C : Addr) : ∀ ds q x, F_Course___len__ C ds q x → ∃ ns vs, ds = [.ins C ns vs] := by
  rintro ds q x ⟨kb, rfl, _⟩
  exact ⟨_, _, rfl⟩
theorem lk_ways (a b : D) : lkD ("_ways" : Str) ["_ways", "book"] [a, b] = some a := by
  show (if (("_ways" : Str) == "_ways") = true then some a else _) = _
  rw [if_pos (by decide +kernel)]
theorem lk_book (a b : D) : lkD ("book" : Str) ["_ways", "book"] [a, b] = some b := by
  show (if (("book" : Str) == "_ways") = true then some a else if (("book" : Str) == "book") = true then some b else _) = _
  rw [if_neg (by decide +kernel), if_pos (by decide +kernel)]
theorem s_Course___len__ (C : Addr) : ∀ ds q x, F_Course___len__ C ds q x → ds.length = 1 ∧ t_Course___len__ C { nx := fun _ => q .non, rt := q, ex := x } (startE 1 ds) := by
  rintro ds q x ⟨kb, rfl, hq⟩
  refine ⟨rfl, ?_⟩
  simp only [t_Course___len__, dRet, dBlt, dCons, dNil, dFld, dVar, startE, List.map, List.length, Nat.sub_self, List.replicate, List.append_nil, List.getElem?_cons_zero, R.d]
  refine ⟨_, _, _, rfl, lk_ways _ _, .int (kb.length : Nat), ?_, _, rfl, hq⟩
  show some (D.int ((kb.map entryD).length : Nat)) = _
  rw [List.length_map]
theorem shrN (a i : Nat) : shrD (.int (a : Nat)) (.int (i : Nat)) = some (.int ((a / 2 ^ i : Nat) : Int)) := by
  show (if (0 : Int) ≤ (i : Nat) then rInt (((a : Nat) : Int) / 2 ^ ((i : Nat) : Int).toNat) else none) = _
  rw [if_pos (by omega), Int.toNat_natCast]
  simp
theorem bit_eq (a i : Nat) : decide (((a / 2 ^ i &&& 1 : Nat) : Int) = 1) = a.testBit i := by
  rw [Nat.testBit_eq_decide_div_mod_eq, Nat.and_one_is_mod]
  by_cases h : a / 2 ^ i % 2 = 1
  · simp [h]
  · have : ¬ ((a / 2 ^ i % 2 : Nat) : Int) = 1 := fun z => h (by omega)
    rw [decide_eq_false this, decide_eq_false h]
def ordL (kb : List Entry) : Nat → List D → Bool
  | _, [] => true
  | done, d :: xs => match d with
    | .int i => if decide (0 ≤ i) && decide (i < (kb.length : Nat)) && !done.testBit i.toNat && ((kb.getD i.toNat []).map maskN).any (subM done) then ordL kb (done ||| 2 ^ i.toNat) xs else false
    | _ => false
def isOrd (kb : List Entry) : D → Bool
  | .tup xs => ordL kb 0 xs
  | _ => false
/-! ### what a law draws -/
def F__law_cell_at : DF := fun ds q _ => ∃ ns : List Int, ds = [.scr (iD ns), .int 0] ∧ ∀ z : Int, q (.int z)
theorem s__law_cell_at : ∀ ds q x, F__law_cell_at ds q x → ds.length = 2 ∧ t__law_cell_at { nx := fun _ => q .non, rt := q, ex := x } (startE 2 ds) := by
  rintro ds q x ⟨ns, rfl, hq⟩
  refine ⟨rfl, ?_⟩
  simp only [t__law_cell_at, dSeq, dIfS, dTest, dOp, dBlt, dCons, dNil, dVar, dRet, dNext, dC, startE, List.map, List.length, Nat.sub_self, List.replicate, List.append_nil, List.getElem?_cons_zero, List.getElem?_cons_succ, R.d]
  refine ⟨.int (ns.length : Nat), ?_, .bl (decide ((0 : Int) < (ns.length : Nat))), rfl, _, rfl, ?_⟩
  · show some (D.int ((iD ns).length : Nat)) = _
    simp [iD]
  cases ns with
  | nil =>
    simp only [List.length_nil, Int.ofNat_eq_natCast, Int.natCast_zero, Int.lt_irrefl, decide_false, Bool.false_eq_true, if_false]
    exact ⟨_, rfl, hq 0⟩
  | cons n ns =>
    rw [decide_eq_true (by simp)]
    simp only [if_true]
    exact ⟨.int n, (show atI (iD (n :: ns)) ((0 : Nat) : Int) = _ from atI_nat rfl), _, rfl, hq n⟩
theorem modD_ok {i j : Int} (h : 0 < j) : modD (.int i) (.int j) = some (.int (i % j)) := by
  show (if 0 < j then rInt (i % j) else none) = _
  rw [if_pos h]
theorem fdivD_ok {i j : Int} (h : 0 < j) (h2 : j < 1073741824) : fdivD (.int i) (.int j) = some (.int (i / j)) := by
  show (if 0 < j ∧ j < 1073741824 then rInt (i / j) else none) = _
  rw [if_pos ⟨h, h2⟩]
theorem addI (i j : Int) : addA (.int i) (.int j) = some (.int (i + j)) := rfl
def F__law_next : DF := fun ds q _ => ∃ r : Int, ds = [.int r] ∧ 0 ≤ r ∧ r < 1099511627776 ∧ ∀ r' : Int, 0 ≤ r' → r' < 2147483647 → q (.int r')
theorem s__law_next : ∀ ds q x, F__law_next ds q x → ds.length = 1 ∧ t__law_next { nx := fun _ => q .non, rt := q, ex := x } (startE 1 ds) := by
  rintro ds q x ⟨r, rfl, h0, h1, hq⟩
  refine ⟨rfl, ?_⟩
  simp only [t__law_next, dSeq, dSet, dOp, dVar, dRet, dC, startE, List.map, List.length, Nat.sub_self, List.replicate, List.append_nil, List.getElem?_cons_zero, List.set_cons_zero, R.d]
  refine ⟨_, addI r 7919, _, modD_ok (by decide), _, rfl, ?_⟩
  have a0 := Int.emod_nonneg (r + 7919) (show (2147483647 : Int) ≠ 0 by decide)
  have a1 := Int.emod_lt_of_pos (r + 7919) (show (0 : Int) < 2147483647 by decide)
  generalize (r + 7919) % 2147483647 = s at a0 a1
  refine ⟨_, mulI_small s s (by omega), _, mulI_small 48271 s (by omega), _, addI _ _, _, addI _ _, _, modD_ok (by decide), _, rfl, hq _ ?_ ?_⟩
  · exact Int.emod_nonneg _ (by decide)
  · have := Int.emod_lt_of_pos (s * s + 48271 * s + 12345) (show (0 : Int) < 2147483629 by decide)
    omega
theorem powD_10_18 : powD (.int 10) (.int 18) = some (.int 1000000000000000000) := by
  show (if (0 : Int) ≤ 18 ∧ (18 : Int) ≤ 1000000 ∧ (10 : Int).natAbs < 2 ^ 64 then rInt (10 ^ (18 : Int).toNat) else none) = _
  rw [if_pos ⟨by decide, by decide, by decide⟩]
  rfl
def F__law_pen_of : DF := fun ds q _ => ∃ z : Int, ds = [.int z] ∧ q .pen
theorem s__law_pen_of : ∀ ds q x, F__law_pen_of ds q x → ds.length = 1 ∧ t__law_pen_of { nx := fun _ => q .non, rt := q, ex := x } (startE 2 ds) := by
  rintro ds q x ⟨z, rfl, hq⟩
  refine ⟨rfl, ?_⟩
  simp only [t__law_pen_of, dSeq, dSet, dOp, dBlt, dCons, dNil, dVar, dRetPen, dFLst, dC, startE, List.map, List.length, List.replicate, List.cons_append, List.nil_append, List.getElem?_cons_zero, List.getElem?_cons_succ, List.set_cons_zero, List.set_cons_succ, R.d]
  refine ⟨_, rfl, _, rfl, _, rfl, _, rfl, _, rfl, ?_⟩
  have h0 : 0 ≤ (if 0 - z > z then 0 - z else z) := by split <;> omega
  generalize (if 0 - z > z then 0 - z else z) = m at h0
  refine ⟨_, powD_10_18, _, rfl, .int (if decide ((1000000000000000000 : Int) ≤ m) = true then 1 else 0), rfl, _, modD_ok (by decide), [.int m, .int (if decide ((1000000000000000000 : Int) ≤ m) = true then 1 else 0), .int (m % 1000003)], rfl, by simp, _, _, _, rfl, ⟨h0, ?_, Int.emod_nonneg _ (by decide), ?_⟩, hq⟩
  · split
    · exact .inr rfl
    · exact .inl rfl
  · have := Int.emod_lt_of_pos m (show (0 : Int) < 1000003 by decide)
    omega
def F__law_draw : DF := fun ds q _ => ∃ m : Int, ds = [.pen, .int m] ∧ 1 ≤ m ∧ m < 1073741824 ∧ ∀ i : Int, 0 ≤ i → i < m → q (.int i)
theorem s__law_draw : ∀ ds q x, F__law_draw ds q x → ds.length = 2 ∧ t__law_draw F__law_next { nx := fun _ => q .non, rt := q, ex := x } (startE 3 ds) := by
  rintro ds q x ⟨m, rfl, h1, h2, hq⟩
  refine ⟨rfl, ?_⟩
  have last : ∀ (o : EV), t__law_draw F__law_next = t__law_draw F__law_next → (∀ i : Int, 0 ≤ i → i < 2147483647 → ∃ d, fdivD (.int i) (.int 64) = some d ∧ ∃ d2, modD d (.int m) = some d2 ∧ q d2) := fun _ _ i h0 h3 =>
    ⟨_, fdivD_ok (by decide) (by decide), _, modD_ok (by omega), hq _ (Int.emod_nonneg _ (by omega)) (Int.emod_lt_of_pos _ (by omega))⟩
  simp only [t__law_draw, dSeq, dIfS, dAndT, dTest, dOp, dPenGet, dPenSet, dCall, dCons, dNil, dVar, dRet, dSet, dNext, dC, startE, List.map, List.length, Nat.reduceSub, List.replicate, List.cons_append, List.nil_append, List.getElem?_cons_zero, List.getElem?_cons_succ, List.set_cons_zero, List.set_cons_succ, R.d]
  have tail : ∀ (o : EV), True ∧ 2 < 3 ∧ ∀ (i : Int), penOk 2 i → ∃ d, addA (.int 0) (.int 0) = some d := fun _ => ⟨trivial, by decide, fun _ _ => ⟨_, rfl⟩⟩
  have rest : (True ∧ 2 < 3 ∧ ∀ (i : Int), penOk 2 i → F__law_next [D.int i] (fun d => (allVal [R.val (D.int i)] = true ∨ noLst d = true) ∧ ∃ d_1, addA d (D.int 7) = some d_1 ∧ F__law_next [d_1] (fun d => (allVal [R.val d_1] = true ∨ noLst d = true) ∧ ∃ v, d = D.int v ∧ True ∧ penOk 2 v ∧ True ∧ 2 < 3 ∧ ∀ (i : Int), penOk 2 i → ∃ d, fdivD (D.int i) (D.int 64) = some d ∧ ∃ d_2, modD d (D.int m) = some d_2 ∧ ∃ d, R.val d_2 = R.val d ∧ q d) x) x) := by
    refine ⟨trivial, by decide, fun i hi => ⟨i, rfl, hi.1, by have := hi.2; omega, fun r h3 h4 => ⟨.inl rfl, _, addI r 7, r + 7, rfl, by omega, by omega, fun r2 h5 h6 => ⟨.inl rfl, r2, rfl, trivial, ⟨h5, h6⟩, trivial, by decide, fun j hj => ?_⟩⟩⟩⟩
    obtain ⟨d, e1, d2, e2, e3⟩ := last .no rfl j hj.1 hj.2
    exact ⟨d, e1, d2, e2, d2, rfl, e3⟩
  refine ⟨trivial, by decide, fun i hi => ⟨_, eqD_int i 1, _, rfl, ?_⟩⟩
  by_cases c : i = 1
  · rw [decide_eq_true c]
    simp only [if_true]
    refine ⟨trivial, by decide, fun j hj => ⟨_, rfl, _, rfl, ?_⟩⟩
    by_cases c2 : (0 : Int) < j
    · rw [decide_eq_true c2]
      simp only [if_true]
      refine ⟨trivial, by decide, fun k hk => ⟨_, modD_ok (by omega), _, rfl, trivial, by decide, fun l hl => ⟨_, fdivD_ok (by omega) (by omega), _, rfl, trivial, ?_, ?_⟩⟩⟩
      · exact Int.ediv_nonneg hl (by omega)
      · exact ⟨_, rfl, hq _ (Int.emod_nonneg _ (by omega)) (Int.emod_lt_of_pos _ (by omega))⟩
    · rw [decide_eq_false c2]
      simp only [Bool.false_eq_true, if_false]
      exact rest
  · rw [decide_eq_false c]
    simp only [Bool.false_eq_true, if_false]
    exact rest
def rg : Nat → Nat → List D
  | _, 0 => []
  | k, m + 1 => .int (k : Nat) :: rg (k + 1) m
theorem rg_get : ∀ (m k i : Nat), i < m → (rg k m)[i]? = some (.int ((k + i : Nat) : Int))
  | 0, _, _, h => by omega
  | m + 1, k, 0, _ => rfl
  | m + 1, k, i + 1, h => by
    show (rg (k + 1) m)[i]? = _
    rw [rg_get m (k + 1) i (by omega), show k + 1 + i = k + (i + 1) by omega]
theorem rg_len : ∀ (m k : Nat), (rg k m).length = m
  | 0, _ => rfl
  | m + 1, k => by simp [rg, rg_len m]
theorem rngD_rg (n : Nat) : rngD 0 n = rg 0 n := by
  apply List.ext_getElem?
  intro i
  by_cases h : i < n
  · rw [rngD_at h, rg_get n 0 i h]
    simp
  · rw [List.getElem?_eq_none (by rw [rngD_len]; omega), List.getElem?_eq_none (by rw [rg_len]; omega)]
theorem asc_of {ns : List Int} (h : ns.Pairwise (· ≤ ·)) (nd : ns.Nodup) : ns.Pairwise (· < ·) :=
  (h.and nd).imp fun ⟨a, b⟩ => by omega
theorem way_of {n : Nat} {ns : List Int} (h : ns.Pairwise (· < ·)) (r : ∀ i ∈ ns, 0 ≤ i ∧ i < n) : wayD (ns.map Int.toNat) = .tup (iD ns) ∧ WayOk n (ns.map Int.toNat) := by
  refine ⟨?_, ?_, ?_⟩
  · show D.tup (nD _) = _
    rw [nD_iD, List.map_map]
    congr 2
    rw [List.map_congr_left (g := id) fun i hi => by have := (r i hi).1; show ((i.toNat : Nat) : Int) = i; omega]
    simp
  · rw [List.pairwise_map]
    refine h.imp_of_mem fun {a b} ha hb hab => ?_
    have := r a ha
    have := r b hb
    omega
  · intro i hi
    obtain ⟨j, hj, rfl⟩ := List.mem_map.mp hi
    have := r j hj
    omega
def F__law_way : DF := fun ds q _ => ∃ (n it most : Nat), ds = [.pen, .int (n : Nat), .int (it : Nat), .int (most : Nat)] ∧ 1 ≤ n ∧ n < 1000 ∧ most ≤ 50 ∧ ∀ w, WayOk n w → it ∉ w → q (wayD w)
structure Fnd (n it : Nat) (ns : List Int) : Prop where
  nd : ns.Nodup
  rg : ∀ i ∈ ns, 0 ≤ i ∧ i < n
  ne : ∀ i ∈ ns, i ≠ it
theorem l_way (J : DEnds) (n it most : Nat) (h1 : 1 ≤ n) (h2 : n < 1000) : ∀ (l : List D) (ns : List Int) (o5 o6 : EV), Fnd n it ns → ns.length + l.length ≤ 60 →
    (∀ ns o5 o6, Fnd n it ns → ns.length ≤ 60 → J.nx [.val .pen, .val (.int (n : Nat)), .val (.int (it : Nat)), .val (.int (most : Nat)), .own (iD ns), o5, o6]) →
    dForL (gN 5) (dSeq (dSet 6 (dCall F__law_draw (dCons (dVar 0) (dCons (dVar 1) dNil)))) (dIfS (dAndT (dTest (dOp neD (dVar 6) (dVar 2))) (dTest (dOp notInD (dVar 6) (dVar 4)))) (dAppend 4 (dVar 6)) dNext)) J l
      [.val .pen, .val (.int (n : Nat)), .val (.int (it : Nat)), .val (.int (most : Nat)), .own (iD ns), o5, o6]
  | [], ns, o5, o6, f, hl, h => h ns o5 o6 f (by simpa using hl)
  | d :: l, ns, o5, o6, f, hl, h => by
    refine ⟨_, rfl, ?_⟩
    simp only [dSeq, dSet, dIfS, dAndT, dTest, dOp, dCall, dCons, dNil, dVar, dAppend, dNext, List.set_cons_zero, List.set_cons_succ, List.getElem?_cons_zero, List.getElem?_cons_succ, List.map, R.d]
    refine ⟨n, rfl, by omega, by omega, fun i hi0 hi1 => ⟨.inl rfl, _, rfl, _, neD_int i it, _, rfl, ?_⟩⟩
    have hl' : ns.length + l.length + 1 ≤ 60 := by simp at hl; omega
    by_cases c : i = it
    · rw [decide_eq_true c]
      simp only [Bool.not_true, Bool.false_eq_true, if_false]
      exact l_way J n it most h1 h2 l ns _ _ f (by omega) h
    · rw [decide_eq_false c]
      simp only [Bool.not_false, if_true]
      refine ⟨_, notInD_lst i ns, _, rfl, ?_⟩
      by_cases c2 : i ∈ ns
      · rw [decide_eq_true c2]
        simp only [Bool.not_true, Bool.false_eq_true, if_false]
        exact l_way J n it most h1 h2 l ns _ _ f (by omega) h
      · rw [decide_eq_false c2]
        simp only [Bool.not_false, if_true]
        refine ⟨_, rfl, by simp [iD]; omega, _, rfl, ?_⟩
        have e : iD ns ++ [D.int i] = iD (ns ++ [i]) := by simp [iD]
        rw [e]
        refine l_way J n it most h1 h2 l (ns ++ [i]) _ _ ⟨?_, fun j hj => ?_, fun j hj => ?_⟩ (by simp; omega) h
        · rw [List.nodup_append]
          exact ⟨f.nd, by simp, fun a ha b hb => by rw [List.mem_singleton.mp hb]; exact fun z => c2 (by rw [← z]; exact ha)⟩
        · rcases List.mem_append.mp hj with z | z
          · exact f.rg j z
          · rw [List.mem_singleton.mp z]; exact ⟨hi0, hi1⟩
        · rcases List.mem_append.mp hj with z | z
          · exact f.ne j z
          · rw [List.mem_singleton.mp z]; exact c
theorem s__law_way : ∀ ds q x, F__law_way ds q x → ds.length = 4 ∧ t__law_way F__law_draw { nx := fun _ => q .non, rt := q, ex := x } (startE 7 ds) := by
  rintro ds q x ⟨n, it, most, rfl, h1, h2, h3, hq⟩
  refine ⟨rfl, ?_⟩
  unfold t__law_way dSeq dSetOwn dFLst dNil
  simp only [dFor, iRange1, dCall, dCons, dNil, dVar, dOp, dC, startE, List.map, List.length, Nat.reduceSub, List.replicate, List.cons_append, List.nil_append, List.set_cons_zero, List.set_cons_succ, List.getElem?_cons_zero, List.getElem?_cons_succ, R.d]
  refine ⟨[], rfl, by decide, _, addI most 1, _, rfl, by omega, by omega, fun i hi0 hi1 => ⟨.inl rfl, i, rfl, by omega, by omega, trivial, ?_⟩⟩
  refine l_way _ n it most h1 h2 _ [] _ _ ⟨.nil, by simp, by simp⟩ (by rw [rngD_len]; simp; omega) fun ns o5 o6 f hl => ?_
  simp only [dRet, dBlt, dCons, dNil, dOfF, dLc, iSeq, dVar, List.getElem?_cons_zero, List.getElem?_cons_succ, R.d]
  refine .inl ⟨iD ns, rfl, by simp [iD]; omega, ?_⟩
  refine lc_map (f := id) (fun d hd q hq => ?_) ?_
  · obtain ⟨j, _, rfl⟩ := List.mem_map.mp hd
    exact ⟨_, rfl, hq⟩
  rw [List.map_id]
  have sp := sortI_perm ns
  have asc := asc_of (sortI_sorted ns) (sp.nodup_iff.mpr f.nd)
  obtain ⟨e1, e2⟩ := way_of asc fun i hi => f.rg i (sp.mem_iff.mp hi)
  refine ⟨.lst (iD (sortI ns)), ?_, .tup (iD (sortI ns)), rfl, _, rfl, ?_⟩
  · show sortedF [.lst (iD ns)] = _
    unfold sortedF
    simp only [intsOf_iD]
    rw [if_pos (by omega)]
    rfl
  rw [← e1]
  refine hq _ e2 fun z => ?_
  obtain ⟨j, hj, ej⟩ := List.mem_map.mp z
  have hj' := sp.mem_iff.mp hj
  have := f.rg j hj'
  exact f.ne j hj' (by omega)
theorem lc_filterN {i : Nat} {tt : DT} {te : DE} {p : Nat → Bool} {env : SE} : ∀ {w : List Nat} {q : List D → Prop}, (∀ k ∈ w, ∀ q : Bool → Prop, q (p k) → tt (env.set i (.val (.int (k : Nat)))) q noX) →
    (∀ k ∈ w, ∀ q : R → Prop, q (.val (.int (k : Nat))) → te (env.set i (.val (.int (k : Nat)))) q noX) → q (nD (w.filter p)) → dLcL (gN i) tt te (nD w) env q
  | [], q, _, _, h => h
  | k :: w, q, ht, he, h => by
    refine ⟨_, rfl, ht k List.mem_cons_self _ ?_⟩
    by_cases c : p k = true
    · rw [if_pos c]
      refine he k List.mem_cons_self _ ⟨_, rfl, lc_filterN (fun j hj => ht j (List.mem_cons_of_mem _ hj)) (fun j hj => he j (List.mem_cons_of_mem _ hj)) ?_⟩
      rw [List.filter_cons_of_pos c] at h
      exact h
    · rw [if_neg c]
      refine lc_filterN (fun j hj => ht j (List.mem_cons_of_mem _ hj)) (fun j hj => he j (List.mem_cons_of_mem _ hj)) ?_
      rw [List.filter_cons_of_neg c] at h
      exact h
theorem asc_len {n : Nat} : ∀ (w : List Nat) (l : Nat), w.Pairwise (· < ·) → (∀ i ∈ w, l ≤ i ∧ i < n) → w.length ≤ n - l
  | [], _, _, _ => Nat.zero_le _
  | i :: w, l, hp, h => by
    obtain ⟨p1, p2⟩ := List.pairwise_cons.mp hp
    have := asc_len w (i + 1) p2 fun j hj => ⟨p1 j hj, (h j (List.mem_cons_of_mem _ hj)).2⟩
    have := h i List.mem_cons_self
    rw [List.length_cons]
    omega
theorem ltN (a b : Nat) : ltA (.int (a : Nat)) (.int (b : Nat)) = some (.bl (decide (a < b))) := by
  show some (D.bl (decide (((a : Nat) : Int) < (b : Nat)))) = _
  congr 2
  by_cases h : a < b
  · rw [decide_eq_true h, decide_eq_true (by omega)]
  · rw [decide_eq_false h, decide_eq_false (by omega)]
theorem tab1 {s : Nat} (h : s < 6) : ∃ v : Nat, ixD (.lst [.int 1, .int 2, .int 3, .int 3, .int 4, .int 2]) (.int (s : Nat)) = some (.int (v : Nat)) ∧ 1 ≤ v ∧ v ≤ 5 := by
  have z : ∀ {d : D} , ([.int 1, .int 2, .int 3, .int 3, .int 4, .int 2] : List D)[s]? = some d → ixD (.lst [.int 1, .int 2, .int 3, .int 3, .int 4, .int 2]) (.int (s : Nat)) = some d := fun e => atI_nat e
  rcases (by omega : s = 0 ∨ s = 1 ∨ s = 2 ∨ s = 3 ∨ s = 4 ∨ s = 5) with rfl | rfl | rfl | rfl | rfl | rfl
  · exact ⟨1, z rfl, by decide, by decide⟩
  · exact ⟨2, z rfl, by decide, by decide⟩
  · exact ⟨3, z rfl, by decide, by decide⟩
  · exact ⟨3, z rfl, by decide, by decide⟩
  · exact ⟨4, z rfl, by decide, by decide⟩
  · exact ⟨2, z rfl, by decide, by decide⟩
theorem tab2 {s : Nat} (h : s < 6) : ∃ v : Nat, ixD (.lst [.int 1, .int 3, .int 2, .int 3, .int 5, .int 2]) (.int (s : Nat)) = some (.int (v : Nat)) ∧ 1 ≤ v ∧ v ≤ 5 := by
  have z : ∀ {d : D} , ([.int 1, .int 3, .int 2, .int 3, .int 5, .int 2] : List D)[s]? = some d → ixD (.lst [.int 1, .int 3, .int 2, .int 3, .int 5, .int 2]) (.int (s : Nat)) = some d := fun e => atI_nat e
  rcases (by omega : s = 0 ∨ s = 1 ∨ s = 2 ∨ s = 3 ∨ s = 4 ∨ s = 5) with rfl | rfl | rfl | rfl | rfl | rfl
  · exact ⟨1, z rfl, by decide, by decide⟩
  · exact ⟨3, z rfl, by decide, by decide⟩
  · exact ⟨2, z rfl, by decide, by decide⟩
  · exact ⟨3, z rfl, by decide, by decide⟩
  · exact ⟨5, z rfl, by decide, by decide⟩
  · exact ⟨2, z rfl, by decide, by decide⟩
structure EnOk (n it : Nat) (e : Entry) : Prop where
  way : ∀ w ∈ e, WayOk n w
  own : ∀ w ∈ e, it ∉ w
theorem EnOk.nil (n it : Nat) : EnOk n it [] := ⟨by simp, by simp⟩
theorem EnOk.add {n it : Nat} {e : Entry} {w : List Nat} (h : EnOk n it e) (h1 : WayOk n w) (h2 : it ∉ w) : EnOk n it (e ++ [w]) := by
  refine ⟨fun v hv => ?_, fun v hv => ?_⟩ <;> rcases List.mem_append.mp hv with z | z
  · exact h.way v z
  · rw [List.mem_singleton.mp z]; exact h1
  · exact h.own v z
  · rw [List.mem_singleton.mp z]; exact h2
abbrev bkBody (F__law_draw F__law_way : DF) : DS := (dSeq (dSet 8 (dCall F__law_way (dCons (dVar 0) (dCons (dVar 3) (dCons (dVar 2) (dCons (dOp ixD (dLst (dCons (dC (.int 1)) (dCons (dC (.int 3)) (dCons (dC (.int 2)) (dCons (dC (.int 3)) (dCons (dC (.int 5)) (dCons (dC (.int 2)) dNil))))))) (dVar 4)) dNil)))))) (dSeq (dIfS (dTest (dOp inD (dVar 4) (dTup (dCons (dC (.int 0)) (dCons (dC (.int 1)) (dCons (dC (.int 5)) dNil)))))) (dSet 8 (dBlt tupF (dCons (dOfF (dLc [9] (iSeq (dVar 8)) (gN 9) (dTest (dOp ltA (dVar 9) (dVar 2))) (dVar 9))) dNil))) dNext) (dAppend 6 (dVar 8))))
theorem l_bk_in (J : DEnds) (n it s : Nat) (m : D) (bo : EV) (h1 : 1 ≤ n) (h2 : n < 1000) (hs : s < 6) : ∀ (l : List D) (e : Entry) (o7 o8 o9 : EV), EnOk n it e → e.length + l.length ≤ 20 →
    (∀ e o7 o8 o9, EnOk n it e → e.length ≤ 20 → J.nx [.val .pen, .val m, .val (.int (it : Nat)), .val (.int (n : Nat)), .val (.int (s : Nat)), bo, .own (e.map wayD), o7, o8, o9]) →
    dForL (gN 7) (bkBody F__law_draw F__law_way) J l [.val .pen, .val m, .val (.int (it : Nat)), .val (.int (n : Nat)), .val (.int (s : Nat)), bo, .own (e.map wayD), o7, o8, o9]
  | [], e, o7, o8, o9, he, hl, h => h e o7 o8 o9 he (by simpa using hl)
  | d :: l, e, o7, o8, o9, he, hl, h => by
    have hl' : e.length + l.length + 1 ≤ 20 := by simp at hl; omega
    have app : ∀ (w : List Nat) (o9 : EV), WayOk n w → it ∉ w → ∃ ds, some (EV.own (e.map wayD)) = some (.own ds) ∧ ds.length < 16777216 ∧ ∃ d1, R.val (wayD w) = .val d1 ∧
        dForL (gN 7) (bkBody F__law_draw F__law_way) J l [.val .pen, .val m, .val (.int (it : Nat)), .val (.int (n : Nat)), .val (.int (s : Nat)), bo, .own (ds ++ [d1]), .val d, .val (wayD w), o9] := by
      intro w o9 hw hn
      refine ⟨_, rfl, by simp; omega, _, rfl, ?_⟩
      have := l_bk_in J n it s m bo h1 h2 hs l (e ++ [w]) (.val d) (.val (wayD w)) o9 (he.add hw hn) (by simp; omega) h
      simpa using this
    refine ⟨_, rfl, ?_⟩
    unfold bkBody
    simp only [dSeq, dSet, dIfS, dTest, dOp, dCall, dCons, dNil, dVar, dLst, dTup, dC, dAppend, dNext, dBlt, dOfF, dLc, iSeq, List.set_cons_zero, List.set_cons_succ, List.getElem?_cons_zero, List.getElem?_cons_succ, List.map, R.d]
    obtain ⟨v, ev, v1, v5⟩ := tab2 hs
    refine ⟨[.int 1, .int 3, .int 2, .int 3, .int 5, .int 2], rfl, by simp, _, ev, n, it, v, rfl, h1, h2, by omega, fun w hw hn => ⟨.inl rfl, _, rfl, [.int 0, .int 1, .int 5], rfl, by simp, _, inD_tup s [0, 1, 5], _, rfl, ?_⟩⟩
    by_cases c : (s : Int) ∈ ([0, 1, 5] : List Int)
    · rw [decide_eq_true c]
      simp only [if_true]
      refine .inr ⟨nD w, rfl, ?_, lc_filterN (p := fun k => decide (k < it)) (fun k hk q hq => ⟨_, ltN k it, _, rfl, hq⟩) (fun k hk q hq => hq) ?_⟩
      · have hb : w.length ≤ n := by have := asc_len (n := n) w 0 hw.asc fun i hi => ⟨Nat.zero_le _, hw.lt i hi⟩; omega
        simp [nD]; omega
      refine ⟨_, rfl, _, rfl, ?_⟩
      exact app (w.filter fun k => decide (k < it)) _ ⟨hw.asc.filter _, fun i hi => hw.lt i (List.mem_filter.mp hi).1⟩ fun z => hn (List.mem_filter.mp z).1
    · rw [decide_eq_false c]
      simp only [Bool.false_eq_true, if_false]
      exact app w _ hw hn
theorem dSeq_app (t u : DS) (J : DEnds) (env : SE) : dSeq t u J env = t { J with nx := u J } env := rfl
abbrev bkTurn (F__law_draw F__law_way : DF) : DS := (dSeq (dSetOwn 6 (dFLst dNil)) (dSeq (dFor (iRange1 (dOp addA (dC (.int 1)) (dCall F__law_draw (dCons (dVar 0) (dCons (dOp ixD (dLst (dCons (dC (.int 1)) (dCons (dC (.int 2)) (dCons (dC (.int 3)) (dCons (dC (.int 3)) (dCons (dC (.int 4)) (dCons (dC (.int 2)) dNil))))))) (dVar 4)) dNil))))) (gN 7) (bkBody F__law_draw F__law_way)) (dSeq (dIfS (dAndT (dTest (dOp gtI (dVar 4) (dC (.int 1)))) (dTest (dOp eqD (dCall F__law_draw (dCons (dVar 0) (dCons (dC (.int 3)) dNil))) (dC (.int 0))))) (dAppend 6 (dTup dNil)) dNext) (dSeq (dIfS (dAndT (dTest (dOp inD (dVar 4) (dTup (dCons (dC (.int 2)) (dCons (dC (.int 4)) dNil))))) (dTest (dOp eqD (dCall F__law_draw (dCons (dVar 0) (dCons (dC (.int 5)) dNil))) (dC (.int 0))))) (dSetOwn 6 (dFLst dNil)) dNext) (dAppend 5 (dBlt tupF (dCons (dVar 6) dNil)))))))
def EnsOk (n : Nat) (b : List Entry) : Prop := ∀ (i : Nat) e, b[i]? = some e → EnOk n i e ∧ e.length < 64
theorem EnsOk.add {n : Nat} {b : List Entry} {e : Entry} (h : EnsOk n b) (he : EnOk n b.length e) (hl : e.length < 64) : EnsOk n (b ++ [e]) := by
  intro i e' hi
  by_cases c : i < b.length
  · rw [List.getElem?_append_left c] at hi
    exact h i e' hi
  · have hlt := (List.getElem?_eq_some_iff.mp hi).1
    simp at hlt
    have : i = b.length := by omega
    subst this
    rw [List.getElem?_append_right (Nat.le_refl _)] at hi
    simp at hi
    subst hi
    exact ⟨he, hl⟩
theorem gtN (a b : Nat) : gtI (.int (a : Nat)) (.int (b : Nat)) = some (.bl (decide (b < a))) := by
  show some (D.bl (decide (((b : Nat) : Int) < (a : Nat)))) = _
  congr 2
  by_cases h : b < a
  · rw [decide_eq_true h, decide_eq_true (by omega)]
  · rw [decide_eq_false h, decide_eq_false (by omega)]
theorem l_bk_out (J : DEnds) (n s : Nat) (m : D) (h1 : 1 ≤ n) (h2 : n < 1000) (hs : s < 6) : ∀ (k : Nat) (b : List Entry) (o2 o6 o7 o8 o9 : EV), EnsOk n b → b.length + k = n →
    (∀ b o2 o6 o7 o8 o9, EnsOk n b → b.length = n → J.nx [.val .pen, .val m, o2, .val (.int (n : Nat)), .val (.int (s : Nat)), .own (b.map entryD), o6, o7, o8, o9]) →
    dForL (gN 2) (bkTurn F__law_draw F__law_way) J (rg b.length k) [.val .pen, .val m, o2, .val (.int (n : Nat)), .val (.int (s : Nat)), .own (b.map entryD), o6, o7, o8, o9]
  | 0, b, o2, o6, o7, o8, o9, hb, hl, h => h b o2 o6 o7 o8 o9 hb (by omega)
  | k + 1, b, o2, o6, o7, o8, o9, hb, hl, h => by
    refine ⟨_, rfl, ?_⟩
    -- the end of a turn
    have fin : ∀ (e : Entry) (o7 o8 o9 : EV), EnOk n b.length e → e.length ≤ 21 → ∃ ds, some (EV.own (b.map entryD)) = some (.own ds) ∧ ds.length < 16777216 ∧ ∃ d, tupF [.lst (e.map wayD)] = some d ∧ ∃ d1, R.val d = .val d1 ∧
        dForL (gN 2) (bkTurn F__law_draw F__law_way) J (rg (b.length + 1) k) [.val .pen, .val m, .val (.int (b.length : Nat)), .val (.int (n : Nat)), .val (.int (s : Nat)), .own (ds ++ [d1]), .own (e.map wayD), o7, o8, o9] := by
      intro e o7 o8 o9 he hl2
      refine ⟨_, rfl, by simp; omega, _, rfl, _, rfl, ?_⟩
      have := l_bk_out J n s m h1 h2 hs k (b ++ [e]) (.val (.int (b.length : Nat))) (.own (e.map wayD)) o7 o8 o9 (hb.add he (by omega)) (by simp; omega) h
      rw [List.length_append] at this
      simpa [entryD] using this
    -- from the third statement on
    have mid : ∀ (e : Entry) (o7 o8 o9 : EV), EnOk n b.length e → e.length ≤ 20 →
        dSeq (dIfS (dAndT (dTest (dOp gtI (dVar 4) (dC (.int 1)))) (dTest (dOp eqD (dCall F__law_draw (dCons (dVar 0) (dCons (dC (.int 3)) dNil))) (dC (.int 0))))) (dAppend 6 (dTup dNil)) dNext) (dSeq (dIfS (dAndT (dTest (dOp inD (dVar 4) (dTup (dCons (dC (.int 2)) (dCons (dC (.int 4)) dNil))))) (dTest (dOp eqD (dCall F__law_draw (dCons (dVar 0) (dCons (dC (.int 5)) dNil))) (dC (.int 0))))) (dSetOwn 6 (dFLst dNil)) dNext) (dAppend 5 (dBlt tupF (dCons (dVar 6) dNil))))
          { J with nx := fun env => dForL (gN 2) (bkTurn F__law_draw F__law_way) J (rg (b.length + 1) k) env, ct := fun env => dForL (gN 2) (bkTurn F__law_draw F__law_way) J (rg (b.length + 1) k) env, bk := J.nx }
          [.val .pen, .val m, .val (.int (b.length : Nat)), .val (.int (n : Nat)), .val (.int (s : Nat)), .own (b.map entryD), .own (e.map wayD), o7, o8, o9] := by
      intro e o7 o8 o9 he hl2
      have late : ∀ (e : Entry), EnOk n b.length e → e.length ≤ 21 → dSeq (dIfS (dAndT (dTest (dOp inD (dVar 4) (dTup (dCons (dC (.int 2)) (dCons (dC (.int 4)) dNil))))) (dTest (dOp eqD (dCall F__law_draw (dCons (dVar 0) (dCons (dC (.int 5)) dNil))) (dC (.int 0))))) (dSetOwn 6 (dFLst dNil)) dNext) (dAppend 5 (dBlt tupF (dCons (dVar 6) dNil)))
          { J with nx := fun env => dForL (gN 2) (bkTurn F__law_draw F__law_way) J (rg (b.length + 1) k) env, ct := fun env => dForL (gN 2) (bkTurn F__law_draw F__law_way) J (rg (b.length + 1) k) env, bk := J.nx }
          [.val .pen, .val m, .val (.int (b.length : Nat)), .val (.int (n : Nat)), .val (.int (s : Nat)), .own (b.map entryD), .own (e.map wayD), o7, o8, o9] := by
        intro e he hl2
        simp only [dSeq, dIfS, dAndT, dTest, dOp, dCall, dCons, dNil, dVar, dTup, dC, dAppend, dSetOwn, dFLst, dNext, dBlt, List.set_cons_zero, List.set_cons_succ, List.getElem?_cons_zero, List.getElem?_cons_succ, List.map, R.d]
        refine ⟨[.int 2, .int 4], rfl, by simp, _, inD_tup s [2, 4], _, rfl, ?_⟩
        by_cases c : (s : Int) ∈ ([2, 4] : List Int)
        · rw [decide_eq_true c]
          simp only [if_true]
          refine ⟨5, rfl, by decide, by decide, fun i _ _ => ⟨.inl rfl, _, eqD_int i 0, _, rfl, ?_⟩⟩
          by_cases c2 : i = 0
          · rw [decide_eq_true c2]
            simp only [if_true]
            exact ⟨[], rfl, by simp, fin [] o7 o8 o9 (EnOk.nil _ _) (by simp)⟩
          · rw [decide_eq_false c2]
            simp only [Bool.false_eq_true, if_false]
            exact fin e o7 o8 o9 he hl2
        · rw [decide_eq_false c]
          simp only [Bool.false_eq_true, if_false]
          exact fin e o7 o8 o9 he hl2
      unfold dSeq
      simp only [dIfS, dAndT, dTest, dOp, dCall, dCons, dNil, dVar, dTup, dC, dAppend, dNext, List.set_cons_zero, List.set_cons_succ, List.getElem?_cons_zero, List.getElem?_cons_succ, List.map, R.d]
      refine ⟨_, gtN s 1, _, rfl, ?_⟩
      by_cases c : 1 < s
      · rw [decide_eq_true c]
        simp only [if_true]
        refine ⟨3, rfl, by decide, by decide, fun i _ _ => ⟨.inl rfl, _, eqD_int i 0, _, rfl, ?_⟩⟩
        by_cases c2 : i = 0
        · rw [decide_eq_true c2]
          simp only [if_true]
          refine ⟨_, rfl, by simp; omega, [], rfl, by simp, _, rfl, ?_⟩
          have := late (e ++ [[]]) (he.add ⟨.nil, by simp⟩ (by simp)) (by simp; omega)
          have z : (e ++ [[]]).map wayD = e.map wayD ++ [.tup []] := by simp [wayD, nD]
          rw [z] at this
          exact this
        · rw [decide_eq_false c2]
          simp only [Bool.false_eq_true, if_false]
          exact late e he (by omega)
      · rw [decide_eq_false c]
        simp only [Bool.false_eq_true, if_false]
        exact late e he (by omega)
    change ∃ ds : List D, ([] : List R) = ds.map R.val ∧ ds.length ≤ 16777216 ∧ _
    refine ⟨[], rfl, by simp, ?_⟩
    dsimp only
    rw [dSeq_app]
    simp only [dFor, iRange1, dCall, dCons, dVar, dOp, dC, dLst, dNil, List.set_cons_zero, List.set_cons_succ, List.getElem?_cons_zero, List.getElem?_cons_succ, List.map, R.d]
    obtain ⟨v, ev, v1, v5⟩ := tab1 hs
    refine ⟨[.int 1, .int 2, .int 3, .int 3, .int 4, .int 2], rfl, by simp, _, ev, v, rfl, by omega, by omega, fun i hi0 hi1 => ⟨.inl rfl, _, addI 1 i, _, rfl, by omega, by omega, trivial, ?_⟩⟩
    refine l_bk_in _ n b.length s m _ h1 h2 hs _ [] _ _ _ (EnOk.nil _ _) (by rw [rngD_len]; simp; omega) fun e o7 o8 o9 he hl2 => ?_
    exact mid e o7 o8 o9 he hl2
def F__law_book : DF := fun ds q _ => ∃ most : Nat, ds = [.pen, .int (most : Nat)] ∧ 1 ≤ most ∧ most ≤ 24 ∧ ∀ b, BookOk b → b.length ≤ most → q (bookD b)
theorem book_ok {n : Nat} {b : List Entry} (h : EnsOk n b) (hl : b.length = n) (h1 : 1 ≤ n) (h2 : n ≤ 24) : BookOk b := by
  subst hl
  refine ⟨h1, h2, fun e he => ?_, fun e he w hw => ?_, fun i e hi w hw => (h i e hi).1.own w hw⟩
  · obtain ⟨i, hi⟩ := List.mem_iff_getElem?.mp he
    exact (h i e hi).2
  · obtain ⟨i, hi⟩ := List.mem_iff_getElem?.mp he
    exact (h i e hi).1.way w hw
theorem s__law_book : ∀ ds q x, F__law_book ds q x → ds.length = 2 ∧ t__law_book F__law_draw F__law_way { nx := fun _ => q .non, rt := q, ex := x } (startE 10 ds) := by
  rintro ds q x ⟨most, rfl, h1, h2, hq⟩
  refine ⟨rfl, ?_⟩
  change dPar [3, 4, 5] _ _ _
  simp only [dPar, dFVal, dFOwn, dFNil, dFLst, dCall, dCons, dNil, dVar, dOp, dC, startE, List.map, List.length, Nat.reduceSub, List.replicate, List.cons_append, List.nil_append, List.getElem?_cons_zero, List.getElem?_cons_succ, R.d]
  refine ⟨most, rfl, by omega, by omega, fun i hi0 hi1 => ⟨.inl rfl, _, addI 1 i, _, rfl, 6, rfl, by decide, by decide, fun j hj0 hj1 => ⟨.inl rfl, _, rfl, [], rfl, by simp, by simp, ?_⟩⟩⟩
  obtain ⟨n, hn⟩ : ∃ n : Nat, 1 + i = n := ⟨(1 + i).toNat, by omega⟩
  obtain ⟨s, rfl⟩ : ∃ s : Nat, j = s := ⟨j.toNat, by omega⟩
  rw [hn]
  rw [dSeq_app]
  simp only [dFor, iRange1, dVar, setE, RF.ev, List.set_cons_zero, List.set_cons_succ, List.getElem?_cons_zero, List.getElem?_cons_succ, R.d]
  refine ⟨_, rfl, by omega, by omega, trivial, ?_⟩
  rw [Int.toNat_natCast, rngD_rg]
  refine l_bk_out _ n s _ (by omega) (by omega) (by omega) n [] _ _ _ _ _ (fun i e h => by simp at h) (by simp) fun b o2 o6 o7 o8 o9 hb hl => ?_
  simp only [dRet, dBlt, dCons, dNil, dVar, List.getElem?_cons_zero, List.getElem?_cons_succ, List.map, R.d]
  exact ⟨_, rfl, _, rfl, hq b (book_ok hb hl (by omega) (by omega)) (by omega)⟩
theorem len_nD (row : List Nat) : (nD row).length = row.length := by simp [nD]
theorem ix_row {row : List Nat} {k i : Nat} (h : row[k]? = some i) : ixD (.tup (nD row)) (.int (k : Nat)) = some (.int (i : Nat)) := by
  show atI (nD row) ((k : Nat) : Int) = _
  exact atI_nat (by unfold nD; rw [List.getElem?_map, h]; rfl)
theorem ix_book {b : List Entry} {k : Nat} {e : Entry} (h : b[k]? = some e) : ixD (bookD b) (.int (k : Nat)) = some (entryD e) := by
  show atI (b.map entryD) ((k : Nat) : Int) = _
  exact atI_nat (by rw [List.getElem?_map, h]; rfl)
theorem in_row (i : Nat) (row : List Nat) : inD (.int (i : Nat)) (.tup (nD row)) = some (.bl (decide (i ∈ row))) := by
  rw [nD_iD, inD_tup]
  have : ((i : Int) ∈ row.map fun (i : Nat) => (i : Int)) ↔ i ∈ row := by
    rw [List.mem_map]
    constructor
    · rintro ⟨j, hj, e⟩
      have : j = i := by omega
      rw [← this]; exact hj
    · intro h
      exact ⟨i, h, rfl⟩
  rw [decide_eq_decide.mpr this]
theorem notIn_row (i : Nat) (row : List Nat) : notInD (.int (i : Nat)) (.tup (nD row)) = some (.bl (!decide (i ∈ row))) := by
  have h := in_row i row
  unfold inD at h
  unfold notInD
  cases e : inB (.int (i : Nat)) (.tup (nD row)) with
  | none => rw [e] at h; cases h
  | some c =>
    rw [e] at h
    have : c = decide (i ∈ row) := by
      have h' : some (D.bl c) = some (D.bl (decide (i ∈ row))) := h
      injection h' with h'
      injection h'
    rw [this]
    rfl
/-! ### _law_has, _law_is -/
def hasL (e : Entry) (row : List Nat) : Bool := e.any fun w => w.all fun i => decide (i ∈ row)
def F__law_has : DF := fun ds q _ => ∃ e row, ds = [entryD e, .tup (nD row)] ∧ (∀ w ∈ e, w.length ≤ 1000) ∧ q (.bl (hasL e row))
theorem blsOf_bl : ∀ bs : List Bool, blsOf (bs.map D.bl) = some bs
  | [] => rfl
  | b :: bs => by
    show (blsOf (bs.map D.bl)).map (b :: ·) = _
    rw [blsOf_bl bs]
    rfl
def F__law_is : DF := fun ds q _ => ∃ a b, ds = [.bl a, .bl b] ∧ q (.bl (a == b))
theorem eqD_bl (a b : Bool) : eqD (.bl a) (.bl b) = some (.bl (a == b)) := by
  unfold eqD eqB
  simp only [toPy]
  rw [if_pos (by simp [SeqAt.shaped, PyData.canLay0, PyData.depth])]
  simp [PyData.eqv]
theorem eqD_str {s : Str} (h : SeqAt.shaped (.str s) = true) : eqD (.str s) (.str s) = some (.bl true) := by
  unfold eqD eqB
  simp only [toPy]
  rw [if_pos (by rw [h]; rfl)]
  simp [PyData.eqv]
/-! ### orders by the law, orders by the masks -/
theorem All2.get {α β : Type} {P : α → β → Prop} : ∀ {l : List α} {m : List β} {i : Nat} {a : α} {b : β}, All2 P l m → l[i]? = some a → m[i]? = some b → P a b
  | _, _, _, _, _, .nil, h, _ => by simp at h
  | _, _, 0, _, _, .cons p _, h1, h2 => by simp at h1 h2; subst h1; subst h2; exact p
  | _, _, i + 1, _, _, .cons _ r, h1, h2 => All2.get (i := i) r (by simpa using h1) (by simpa using h2)
theorem All2.len {α β : Type} {P : α → β → Prop} : ∀ {l : List α} {m : List β}, All2 P l m → l.length = m.length
  | _, _, .nil => rfl
  | _, _, .cons _ r => by simp [All2.len r]
theorem maskN_snoc (pre : List Nat) (i : Nat) : maskN pre ||| 2 ^ i = maskN (pre ++ [i]) := by
  unfold maskN maskF
  rw [List.foldl_append]
  rfl
theorem has_masks {kept ws : Entry} (t : Tidy kept ws) (pre : List Nat) : (kept.map maskN).any (subM (maskN pre)) = hasL ws pre := by
  have a : ((kept.map maskN).any (subM (maskN pre)) = true) ↔ hasL ws pre = true := by
    rw [List.any_map]
    unfold hasL
    rw [List.any_eq_true, List.any_eq_true]
    constructor
    · rintro ⟨k, hk, h⟩
      refine ⟨k, t.sub k hk, ?_⟩
      rw [List.all_eq_true]
      intro i hi
      exact decide_eq_true ((holds_iff (w := pre) (k := k)).mp h i hi)
    · rintro ⟨w, hw, h⟩
      obtain ⟨k, hk, hs⟩ := t.all w hw
      refine ⟨k, hk, (holds_iff (w := pre) (k := k)).mpr fun i hi => ?_⟩
      rw [List.all_eq_true] at h
      exact of_decide_eq_true (h i (hs i hi))
  cases h1 : (kept.map maskN).any (subM (maskN pre)) <;> cases h2 : hasL ws pre <;> simp_all
/-! ### _law_order -/
theorem ways_short {b : List Entry} (h : BookOk b) : ∀ e ∈ b, ∀ w ∈ e, w.length ≤ 1000 := fun e he w hw => by
  have z := h.way e he w hw
  have := asc_len (n := b.length) w 0 z.asc fun i hi => ⟨Nat.zero_le _, z.lt i hi⟩
  have := h.le
  omega
/-! ### _law_odd -/
/-! ### _law_grown -/
theorem rngD_nD (n : Nat) : rngD 0 n = nD (List.range n) := by
  unfold rngD nD
  apply List.map_congr_left
  intro i _
  simp
/-! ### items_of, all_items -/
def bitsN (m : Nat) : List Nat := (List.range (Builtin.Int.intBits (m : Nat))).filter fun i => m.testBit i
theorem intBits_nat (m : Nat) : Builtin.Int.intBits (m : Nat) = if m = 0 then 0 else m.log2 + 1 := by
  unfold Builtin.Int.intBits
  by_cases h : m = 0
  · subst h; rfl
  · have h' : (((m : Nat) : Int) == 0) = false := by simpa using h
    rw [h', if_neg h]
    simp
theorem bitsN_mem {m i : Nat} : i ∈ bitsN m ↔ m.testBit i = true := by
  unfold bitsN
  rw [List.mem_filter, List.mem_range, intBits_nat]
  refine ⟨fun h => h.2, fun h => ⟨?_, h⟩⟩
  have hm : m ≠ 0 := fun z => by subst z; simp at h
  rw [if_neg hm]
  have h2 := Nat.ge_two_pow_of_testBit h
  have := (Nat.le_log2 hm (k := i)).mpr h2
  omega
theorem bitsN_asc (m : Nat) : (bitsN m).Pairwise (· < ·) := List.Pairwise.filter _ List.pairwise_lt_range
theorem bits_le {m : Nat} (h : m < 2 ^ 100) : Builtin.Int.intBits (m : Nat) ≤ 100 := by
  rw [intBits_nat]
  split
  · omega
  · rename_i z
    have := (Nat.log2_lt z (k := 100)).mpr h
    omega
def F_items_of : DF := fun ds q _ => ∃ m : Nat, ds = [.int (m : Nat)] ∧ m < 2 ^ 100 ∧ q (.tup (nD (bitsN m)))
theorem l_items (J : DEnds) (m : Nat) : ∀ (l acc : List Nat) (o2 : EV), acc.length + l.length ≤ 1000 → (∀ o2, J.nx [.val (.int (m : Nat)), .own (nD (acc ++ l.filter fun i => m.testBit i)), o2]) →
    dForL (gN 2) (dIfS (dTest (dOp eqD (dOp andD (dOp shrD (dVar 0) (dVar 2)) (dC (.int 1))) (dC (.int 1)))) (dAppend 1 (dVar 2)) dNext) J (nD l) [.val (.int (m : Nat)), .own (nD acc), o2]
  | [], acc, o2, _, h => by
    have z := h o2
    rw [List.filter_nil, List.append_nil] at z
    exact z
  | i :: l, acc, o2, hl, h => by
    refine ⟨_, rfl, ?_⟩
    simp only [dIfS, dTest, dOp, dVar, dC, dAppend, dNext, List.set_cons_zero, List.set_cons_succ, List.getElem?_cons_zero, List.getElem?_cons_succ, R.d]
    refine ⟨_, shrN m i, _, andN _ 1, _, eqD_int _ _, _, rfl, ?_⟩
    rw [bit_eq]
    have hl' : acc.length + l.length + 1 ≤ 1000 := by simp at hl; omega
    cases c : m.testBit i with
    | true =>
      simp only [if_true]
      refine ⟨_, rfl, by rw [len_nD]; omega, _, rfl, ?_⟩
      have e : nD acc ++ [D.int (i : Nat)] = nD (acc ++ [i]) := by simp [nD]
      rw [e]
      refine l_items J m l (acc ++ [i]) _ (by simp; omega) fun o2 => ?_
      have := h o2
      rw [List.filter_cons_of_pos (by simpa using c)] at this
      simpa using this
    | false =>
      simp only [Bool.false_eq_true, if_false]
      refine l_items J m l acc _ (by omega) fun o2 => ?_
      have := h o2
      rw [List.filter_cons_of_neg (by simp [c])] at this
      exact this
theorem s_items_of : ∀ ds q x, F_items_of ds q x → ds.length = 1 ∧ t_items_of { nx := fun _ => q .non, rt := q, ex := x } (startE 3 ds) := by
  rintro ds q x ⟨m, rfl, hm, hq⟩
  refine ⟨rfl, ?_⟩
  have hb := bits_le hm
  unfold t_items_of
  rw [dSeq_app]
  simp only [dSetOwn, dFLst, dNil, startE, List.map, List.length, Nat.reduceSub, List.replicate, List.cons_append, List.nil_append, List.set_cons_zero, List.set_cons_succ]
  refine ⟨[], rfl, by simp, ?_⟩
  rw [dSeq_app]
  simp only [dFor, iRange1, dBits, dVar, List.getElem?_cons_zero, List.getElem?_cons_succ, R.d]
  refine ⟨_, rfl, _, rfl, by omega, by omega, trivial, ?_⟩
  rw [Int.toNat_natCast, rngD_nD]
  refine l_items _ m _ [] _ (by simp; omega) fun o2 => ?_
  simp only [dRet, dBlt, dCons, dVar, List.getElem?_cons_zero, List.getElem?_cons_succ, List.map, R.d]
  exact ⟨_, rfl, _, rfl, hq⟩
def F_all_items : DF := fun ds q _ => ∃ n : Nat, ds = [.int (n : Nat)] ∧ n ≤ 1000 ∧ q (.int ((2 ^ n - 1 : Nat) : Int))
theorem s_all_items : ∀ ds q x, F_all_items ds q x → ds.length = 1 ∧ t_all_items { nx := fun _ => q .non, rt := q, ex := x } (startE 1 ds) := by
  rintro ds q x ⟨n, rfl, hn, hq⟩
  refine ⟨rfl, ?_⟩
  simp only [t_all_items, dRet, dOp, dVar, dC, startE, List.map, List.length, Nat.sub_self, List.replicate, List.append_nil, List.getElem?_cons_zero, R.d]
  refine ⟨_, shl1 n (by omega), .int ((2 ^ n - 1 : Nat) : Int), ?_, _, rfl, hq⟩
  show some (D.int (((2 ^ n : Nat) : Int) - 1)) = _
  have := Nat.two_pow_pos n
  congr 2
  omega
/-! ### can_follow -/
abbrev MBook := List (List Nat)
def mbD (m : MBook) : D := .tup (m.map fun e => .tup (nD e))
def canF (ms : List MBook) (i d : Nat) : Bool := ms.all fun m => (m.getD i []).any (subM d)
def F_can_follow : DF := fun ds q _ => ∃ ms, ∃ i d : Nat, ds = [.tup (ms.map mbD), .int (i : Nat), .int (d : Nat)] ∧ (∀ m ∈ ms, i < m.length) ∧ q (.bl (canF ms i d))
theorem ix_mb {m : MBook} {i : Nat} (h : i < m.length) : ixD (mbD m) (.int (i : Nat)) = some (.tup (nD (m.getD i []))) := by
  show atI (m.map fun e => D.tup (nD e)) ((i : Nat) : Int) = _
  refine atI_nat ?_
  rw [List.getElem?_map, List.getElem?_eq_getElem h, List.getD, List.getElem?_eq_getElem h]
  rfl
theorem l_can (J : DEnds) (v : D) (i d : Nat) : ∀ (ms : List MBook) (o : EV), (∀ m ∈ ms, i < m.length) → (canF ms i d = false → J.rt (.bl false)) → (canF ms i d = true → ∀ o, J.nx [.val v, .val (.int (i : Nat)), .val (.int (d : Nat)), o]) →
    dForL (gN 3) (dIfS (dNotT (dTest (dCall F_has_way (dCons (dOp ixD (dVar 3) (dVar 1)) (dCons (dVar 2) dNil))))) (dRet (dC (.bl false))) dNext) J (ms.map mbD) [.val v, .val (.int (i : Nat)), .val (.int (d : Nat)), o]
  | [], o, _, _, h => h rfl o
  | m :: ms, o, hi, h1, h2 => by
    refine ⟨_, rfl, ?_⟩
    simp only [dIfS, dNotT, dTest, dCall, dCons, dNil, dVar, dOp, dRet, dC, dNext, List.set_cons_zero, List.set_cons_succ, List.getElem?_cons_zero, List.getElem?_cons_succ, List.map, R.d]
    refine ⟨_, ix_mb (hi m List.mem_cons_self), _, _, d, rfl, .inl rfl, .inl rfl, _, rfl, ?_⟩
    have e : canF (m :: ms) i d = ((m.getD i []).any (subM d) && canF ms i d) := rfl
    cases c : (m.getD i []).any (subM d) with
    | false =>
      simp only [Bool.not_false, if_true]
      exact ⟨_, rfl, h1 (by rw [e, c]; rfl)⟩
    | true =>
      simp only [Bool.not_true, Bool.false_eq_true, if_false]
      rw [c] at e
      have e' : canF (m :: ms) i d = canF ms i d := e
      rw [e'] at h1 h2
      exact l_can J v i d ms _ (fun u hu => hi u (List.mem_cons_of_mem _ hu)) h1 h2
theorem s_can_follow : ∀ ds q x, F_can_follow ds q x → ds.length = 3 ∧ t_can_follow F_has_way { nx := fun _ => q .non, rt := q, ex := x } (startE 4 ds) := by
  rintro ds q x ⟨ms, i, d, rfl, hi, hq⟩
  refine ⟨rfl, ?_⟩
  unfold t_can_follow
  rw [dSeq_app]
  simp only [dFor, iSeq, dVar, startE, List.map, List.length, Nat.reduceSub, List.replicate, List.cons_append, List.nil_append, List.getElem?_cons_zero, List.getElem?_cons_succ, R.d]
  refine .inr ⟨ms.map mbD, rfl, by simp [R.isVal], ?_⟩
  refine l_can _ _ i d ms _ hi (fun h => ?_) fun h o => ?_
  · rw [h] at hq; exact hq
  · rw [h] at hq; exact ⟨_, rfl, hq⟩
/-! ### greatest_in -/
abbrev Sub (a b : Nat) : Prop := ∀ i, a.testBit i = true → b.testBit i = true
theorem Sub.le {a b : Nat} (h : Sub a b) : a ≤ b := by
  have e := and_eq_left.mpr h
  rw [← e]
  exact Nat.and_le_right
theorem subM_mono {d d' a : Nat} (h : Sub d d') (ha : subM d a = true) : subM d' a = true := by
  unfold subM at *
  rw [decide_eq_true_eq] at *
  exact and_eq_left.mpr fun i hi => h i (and_eq_left.mp ha i hi)
theorem canF_mono {ms : List MBook} {i d d' : Nat} (h : Sub d d') (hc : canF ms i d = true) : canF ms i d' = true := by
  unfold canF at *
  rw [List.all_eq_true] at *
  intro m hm
  obtain ⟨a, ha, hs⟩ := List.any_eq_true.mp (hc m hm)
  exact List.any_eq_true.mpr ⟨a, ha, subM_mono h hs⟩
structure Grt (ms : List MBook) (al r : Nat) : Prop where
  sub : Sub r al
  closed : ∀ i, al.testBit i = true → canF ms i r = true → r.testBit i = true
  least : ∀ s : Nat, (∀ i, al.testBit i = true → canF ms i s = true → s.testBit i = true) → Sub r s
def stepF (ms : List MBook) (d i : Nat) : Nat := if !d.testBit i && canF ms i d then d ||| 2 ^ i else d
def roundF (ms : List MBook) (l : List Nat) (d : Nat) : Nat := l.foldl (stepF ms) d
theorem or_bit (d i j : Nat) : (d ||| 2 ^ i).testBit j = (d.testBit j || decide (i = j)) := by
  rw [Nat.testBit_or, Nat.testBit_two_pow]
theorem step_up (ms : List MBook) (d i : Nat) : Sub d (stepF ms d i) := fun j hj => by
  unfold stepF
  split
  · rw [or_bit, hj]; rfl
  · exact hj
theorem pass_up (ms : List MBook) : ∀ (l : List Nat) (d : Nat), Sub d (roundF ms l d)
  | [], d => fun _ h => h
  | i :: l, d => fun j hj => pass_up ms l (stepF ms d i) j (step_up ms d i j hj)
/-- what stays through the rounds -/
structure GI (ms : List MBook) (al d : Nat) : Prop where
  sub : Sub d al
  least : ∀ s : Nat, (∀ i, al.testBit i = true → canF ms i s = true → s.testBit i = true) → Sub d s
theorem GI.step {ms : List MBook} {al d i : Nat} (h : GI ms al d) (hi : al.testBit i = true) : GI ms al (stepF ms d i) := by
  unfold stepF
  split
  · rename_i c
    rw [Bool.and_eq_true] at c
    refine ⟨fun j hj => ?_, fun s hs j hj => ?_⟩ <;> rw [or_bit, Bool.or_eq_true, decide_eq_true_eq] at hj <;> rcases hj with z | z
    · exact h.sub j z
    · rw [← z]; exact hi
    · exact h.least s hs j z
    · rw [← z]; exact hs i hi (canF_mono (h.least s hs) c.2)
  · exact h
theorem GI.pass {ms : List MBook} {al : Nat} : ∀ {l : List Nat} {d : Nat}, GI ms al d → (∀ i ∈ l, al.testBit i = true) → GI ms al (roundF ms l d)
  | [], _, h, _ => h
  | i :: l, d, h, hl => (h.step (hl i List.mem_cons_self)).pass fun j hj => hl j (List.mem_cons_of_mem _ hj)
theorem Sub.eq {a b : Nat} (h1 : Sub a b) (h2 : Sub b a) : a = b := Nat.le_antisymm h1.le h2.le
theorem pass_closed {ms : List MBook} : ∀ {l : List Nat} {d : Nat}, roundF ms l d = d → ∀ i ∈ l, canF ms i d = true → d.testBit i = true
  | [], _, _, _, h, _ => by simp at h
  | j :: l, d, he, i, hi, hc => by
    have e1 : stepF ms d j = d := Sub.eq (fun k hk => by
      have := pass_up ms l (stepF ms d j) k hk
      have he' : roundF ms l (stepF ms d j) = d := he
      rw [he'] at this
      exact this) (step_up ms d j)
    rcases List.mem_cons.mp hi with z | z
    · subst z
      unfold stepF at e1
      cases c : d.testBit i with
      | true => rfl
      | false =>
        rw [c, hc] at e1
        have e2 : d ||| 2 ^ i = d := e1
        have := congrArg (·.testBit i) e2
        simp only [or_bit, c] at this
        simp at this
    · have he' : roundF ms l d = d := by
        have : roundF ms l (stepF ms d j) = d := he
        rwa [e1] at this
      exact pass_closed he' i z hc
theorem neD_non (i : Int) : neD (.int i) .non = some (.bl true) := by
  unfold neD eqB
  simp only [toPy]
  rw [if_pos (by simp [SeqAt.shaped, PyData.canLay0, PyData.depth])]
  simp [PyData.eqv]
def F_greatest_in : DF := fun ds q _ => ∃ ms, ∃ al : Nat, ds = [.tup (ms.map mbD), .int (al : Nat)] ∧ al < 2 ^ 100 ∧ (∀ m ∈ ms, ∀ i, al.testBit i = true → i < m.length) ∧ ∀ r : Nat, Grt ms al r → q (.int (r : Nat))
theorem l_pass (J : DEnds) (ms : List MBook) (a it b : EV) : ∀ (l : List Nat) (d : Nat) (o : EV), (∀ m ∈ ms, ∀ i ∈ l, i < m.length) → (∀ i ∈ l, i ≤ 1000000) → (∀ o, J.nx [.val (.tup (ms.map mbD)), a, it, .val (.int (roundF ms l d : Nat)), b, o]) →
    dForL (gN 5) (dIfS (dAndT (dTest (dOp eqD (dOp andD (dOp shrD (dVar 3) (dVar 5)) (dC (.int 1))) (dC (.int 0)))) (dTest (dCall F_can_follow (dCons (dVar 0) (dCons (dVar 5) (dCons (dVar 3) dNil)))))) (dSet 3 (dOp orD (dVar 3) (dOp shlD (dC (.int 1)) (dVar 5)))) dNext) J (nD l)
      [.val (.tup (ms.map mbD)), a, it, .val (.int (d : Nat)), b, o]
  | [], d, o, _, _, h => h o
  | i :: l, d, o, h1, h2, h => by
    refine ⟨_, rfl, ?_⟩
    simp only [dIfS, dAndT, dTest, dCall, dCons, dNil, dVar, dOp, dC, dSet, dNext, List.set_cons_zero, List.set_cons_succ, List.getElem?_cons_zero, List.getElem?_cons_succ, List.map, R.d]
    refine ⟨_, shrN d i, _, andN _ 1, _, eqD_int _ _, _, rfl, ?_⟩
    have e0 : decide (((d / 2 ^ i &&& 1 : Nat) : Int) = 0) = !d.testBit i := by
      have := bit_eq d i
      have hz : (d / 2 ^ i &&& 1) = 0 ∨ (d / 2 ^ i &&& 1) = 1 := by rw [Nat.and_one_is_mod]; omega
      rcases hz with z | z
      · rw [z] at this ⊢; rw [← this]; rfl
      · rw [z] at this ⊢; rw [← this]; rfl
    rw [e0]
    have next : ∀ d' o, d' = stepF ms d i → dForL (gN 5) (dIfS (dAndT (dTest (dOp eqD (dOp andD (dOp shrD (dVar 3) (dVar 5)) (dC (.int 1))) (dC (.int 0)))) (dTest (dCall F_can_follow (dCons (dVar 0) (dCons (dVar 5) (dCons (dVar 3) dNil)))))) (dSet 3 (dOp orD (dVar 3) (dOp shlD (dC (.int 1)) (dVar 5)))) dNext) J (nD l)
        [.val (.tup (ms.map mbD)), a, it, .val (.int (d' : Nat)), b, o] := fun d' o e => by
      subst e
      exact l_pass J ms a it b l (stepF ms d i) o (fun m hm j hj => h1 m hm j (List.mem_cons_of_mem _ hj)) (fun j hj => h2 j (List.mem_cons_of_mem _ hj)) h
    cases c : d.testBit i with
    | true =>
      simp only [Bool.not_true, Bool.false_eq_true, if_false]
      exact next d _ (by unfold stepF; rw [c]; rfl)
    | false =>
      simp only [Bool.not_false, if_true]
      refine ⟨ms, i, d, rfl, fun m hm => h1 m hm i List.mem_cons_self, .inl rfl, _, rfl, ?_⟩
      cases c2 : canF ms i d with
      | false =>
        simp only [Bool.false_eq_true, if_false]
        exact next d _ (by unfold stepF; rw [c, c2]; rfl)
      | true =>
        simp only [if_true]
        refine ⟨_, shl1 i (h2 i List.mem_cons_self), _, orN d (2 ^ i), _, rfl, ?_⟩
        exact next (d ||| 2 ^ i) _ (by unfold stepF; rw [c, c2]; rfl)
theorem GI.zero (ms : List MBook) (al : Nat) : GI ms al 0 := ⟨fun _ h => by simp at h, fun _ _ _ h => by simp at h⟩
abbrev gTest : DT := dTest (dOp neD (dVar 3) (dVar 4))
abbrev gTurn : DS := (dSeq (dSet 4 (dVar 3)) (dFor (iSeq (dVar 2)) (gN 5) (dIfS (dAndT (dTest (dOp eqD (dOp andD (dOp shrD (dVar 3) (dVar 5)) (dC (.int 1))) (dC (.int 0)))) (dTest (dCall F_can_follow (dCons (dVar 0) (dCons (dVar 5) (dCons (dVar 3) dNil)))))) (dSet 3 (dOp orD (dVar 3) (dOp shlD (dC (.int 1)) (dVar 5)))) dNext)))
theorem l_while (J : DEnds) (ms : List MBook) (al : Nat) (hal : al < 2 ^ 100) (hms : ∀ m ∈ ms, ∀ i, al.testBit i = true → i < m.length) : ∀ (n d : Nat) (bv : D) (o : EV), GI ms al d →
    (bv = .non ∨ ∃ p : Nat, bv = .int (p : Nat) ∧ d = roundF ms (bitsN al) p) → 1 ≤ n → (bv ≠ .int (d : Nat) → al - d + 2 ≤ n) →
    (∀ r : Nat, Grt ms al r → ∀ bv o, J.nx [.val (.tup (ms.map mbD)), .val (.int (al : Nat)), .val (.tup (nD (bitsN al))), .val (.int (r : Nat)), bv, o]) →
    dWhileL gTest gTurn J n [.val (.tup (ms.map mbD)), .val (.int (al : Nat)), .val (.tup (nD (bitsN al))), .val (.int (d : Nat)), .val bv, o]
  | 0, _, _, _, _, _, h, _, _ => by omega
  | n + 1, d, bv, o, gi, hb, _, hf, h => by
    have bit100 : ∀ i ∈ bitsN al, i ≤ 1000000 := fun i hi => by
      have h1 := Nat.ge_two_pow_of_testBit (bitsN_mem.mp hi)
      have h2 : i < 100 := by
        rcases Nat.lt_or_ge i 100 with z | z
        · exact z
        · have := Nat.pow_le_pow_right (n := 2) (by omega) z
          omega
      omega
    have go : bv ≠ .int (d : Nat) → gTurn { J with nx := fun e => dWhileL gTest gTurn J n e, ct := fun e => dWhileL gTest gTurn J n e, bk := J.nx }
        [.val (.tup (ms.map mbD)), .val (.int (al : Nat)), .val (.tup (nD (bitsN al))), .val (.int (d : Nat)), .val bv, o] := fun hne => by
      have hn := hf hne
      rw [gTurn, dSeq_app]
      simp only [dSet, dVar, List.set_cons_zero, List.set_cons_succ, List.getElem?_cons_zero, List.getElem?_cons_succ, R.d]
      refine ⟨_, rfl, ?_⟩
      simp only [dFor, iSeq, dVar, List.getElem?_cons_zero, List.getElem?_cons_succ, R.d]
      refine .inr ⟨nD (bitsN al), rfl, by simp [R.isVal], ?_⟩
      refine l_pass _ ms _ _ _ (bitsN al) d _ (fun m hm i hi => hms m hm i (bitsN_mem.mp hi)) bit100 fun o2 => ?_
      have gi' := gi.pass (l := bitsN al) fun i hi => bitsN_mem.mp hi
      refine l_while J ms al hal hms n (roundF ms (bitsN al) d) (.int (d : Nat)) o2 gi' (.inr ⟨d, rfl, rfl⟩) (by omega) (fun hne2 => ?_) h
      have l1 := (pass_up ms (bitsN al) d).le
      have l2 := gi'.sub.le
      have l3 : d ≠ roundF ms (bitsN al) d := fun z => hne2 (by rw [← z])
      omega
    show gTest _ _ _
    simp only [gTest, dTest, dOp, dVar, List.getElem?_cons_zero, List.getElem?_cons_succ, R.d]
    rcases hb with rfl | ⟨p, rfl, hp⟩
    · refine ⟨_, neD_non _, _, rfl, ?_⟩
      simp only [if_true]
      exact go (by simp)
    · refine ⟨_, neD_int _ _, _, rfl, ?_⟩
      by_cases e : d = p
      · subst e
        simp only [decide_true, Bool.not_true, Bool.false_eq_true, if_false]
        exact h d ⟨gi.sub, fun i hi hc => pass_closed hp.symm i (bitsN_mem.mpr hi) hc, gi.least⟩ _ _
      · have e2 : decide (((d : Nat) : Int) = ((p : Nat) : Int)) = false := by rw [decide_eq_false_iff_not]; omega
        rw [e2]
        simp only [Bool.not_false, if_true]
        exact go fun z => e (by injection z with z; omega)
theorem s_greatest_in : ∀ ds q x, F_greatest_in ds q x → ds.length = 2 ∧ t_greatest_in F_items_of F_can_follow { nx := fun _ => q .non, rt := q, ex := x } (startE 6 ds) := by
  rintro ds q x ⟨ms, al, rfl, hal, hms, hq⟩
  refine ⟨rfl, ?_⟩
  unfold t_greatest_in
  rw [dSeq_app]
  simp only [dSet, dCall, dCons, dNil, dVar, startE, List.map, List.length, Nat.reduceSub, List.replicate, List.cons_append, List.nil_append, List.set_cons_zero, List.set_cons_succ, List.getElem?_cons_zero, List.getElem?_cons_succ, R.d]
  refine ⟨al, rfl, hal, .inl rfl, _, rfl, ?_⟩
  rw [dSeq_app]
  simp only [dSet, dC, List.set_cons_zero, List.set_cons_succ, R.d]
  refine ⟨_, rfl, ?_⟩
  rw [dSeq_app]
  simp only [dSet, dC, List.set_cons_zero, List.set_cons_succ, R.d]
  refine ⟨_, rfl, ?_⟩
  rw [dSeq_app]
  refine ⟨al + 2, ?_⟩
  refine l_while _ ms al hal hms (al + 2) 0 .non _ (GI.zero ms al) (.inl rfl) (by omega) (fun _ => by omega) fun r hr bv o => ?_
  simp only [dRet, dVar, List.getElem?_cons_zero, List.getElem?_cons_succ, R.d]
  exact ⟨_, rfl, hq r hr⟩
/-- the masks of a course -/
def mskB (kb : List Entry) : MBook := kb.map fun e => e.map maskN
theorem masksD_eq (kb : List Entry) : masksD kb = mbD (mskB kb) := by
  unfold masksD mbD mskB
  rw [List.map_map]
  rfl
theorem mskB_len (kb : List Entry) : (mskB kb).length = kb.length := by unfold mskB; rw [List.length_map]
theorem Grt.uniq {ms : List MBook} {al r s : Nat} (h : Grt ms al r) (g : Grt ms al s) : r = s := Sub.eq (h.least s g.closed) (g.least r h.closed)
theorem small_mask {m n : Nat} (hn : n ≤ 24) (h : ∀ i, m.testBit i = true → i < n) : m < 2 ^ 24 := by
  refine Nat.lt_pow_two_of_testBit m fun i hi => ?_
  cases c : m.testBit i with
  | false => rfl
  | true => have := h i c; omega
/-- the state m is one -/
def F_is_state_mask : DF := fun ds q _ => ∃ (kb : List Entry) (m : Nat), ds = [masksD kb, .int (m : Nat)] ∧ kb.length ≤ 24 ∧ (∀ i, m.testBit i = true → i < kb.length) ∧ ∀ b : Bool, (b = true ↔ Grt [mskB kb] m m) → q (.bl b)
theorem s_is_state_mask : ∀ ds q x, F_is_state_mask ds q x → ds.length = 2 ∧ t_is_state_mask F_greatest_in { nx := fun _ => q .non, rt := q, ex := x } (startE 2 ds) := by
  rintro ds q x ⟨kb, m, rfl, hk, hm, hq⟩
  refine ⟨rfl, ?_⟩
  simp only [t_is_state_mask, dRet, dOp, dCall, dTup, dCons, dNil, dVar, startE, List.map, List.length, Nat.sub_self, List.replicate, List.append_nil, List.getElem?_cons_zero, List.getElem?_cons_succ, R.d]
  have h24 := small_mask hk hm
  refine ⟨[masksD kb], rfl, by simp, [mskB kb], m, by rw [masksD_eq]; rfl, by omega, fun u hu i hi => ?_, fun r hr => ⟨.inr rfl, _, eqD_int _ _, _, rfl, hq _ ?_⟩⟩
  · rw [List.mem_singleton] at hu
    rw [hu, mskB_len]
    exact hm i hi
  · rw [decide_eq_true_eq]
    constructor
    · intro e
      have e' : r = m := by omega
      rwa [e'] at hr
    · intro g
      have := hr.uniq g
      omega
theorem isSetL_inv2 (n : Nat) : ∀ (is : List Int) (l : Nat), isSetL (n : Nat) (l : Nat) (iD is) = true → ∃ w : List Nat, iD is = nD w ∧ w.Pairwise (· < ·) ∧ ∀ i ∈ w, l ≤ i ∧ i < n
  | [], _, _ => ⟨[], rfl, List.Pairwise.nil, by simp⟩
  | i :: is, l, h => by
    have e : isSetL (n : Nat) (l : Nat) (iD (i :: is)) = if decide (0 ≤ i) && decide (i < (n : Nat)) && decide (((l : Nat) : Int) ≤ i) then isSetL (n : Nat) (i + 1) (iD is) else false := by
      show isSetL (n : Nat) (l : Nat) (.int i :: iD is) = _
      rw [isSetL]
    rw [e] at h
    split at h
    · rename_i c
      simp only [Bool.and_eq_true, decide_eq_true_eq] at c
      obtain ⟨⟨c1, c2⟩, c3⟩ := c
      obtain ⟨k, rfl⟩ := Int.eq_ofNat_of_zero_le c1
      obtain ⟨w, e, pw, hw⟩ := isSetL_inv2 n is (k + 1) (by simpa using h)
      refine ⟨k :: w, ?_, List.pairwise_cons.mpr ⟨fun j hj => by have := hw j hj; omega, pw⟩, fun j hj => ?_⟩
      · show D.int _ :: iD is = D.int _ :: nD w
        rw [e]
      · rcases List.mem_cons.mp hj with z | z
        · subst z; omega
        · have := hw j z; omega
    · simp at h
theorem isSetL_inv (xs : List D) (n l : Nat) (h : isSetL (n : Nat) (l : Nat) xs = true) : ∃ w : List Nat, xs = nD w ∧ w.Pairwise (· < ·) ∧ ∀ i ∈ w, l ≤ i ∧ i < n := by
  obtain ⟨is, rfl⟩ := set_ints h
  exact isSetL_inv2 n is l h
theorem isSet_inv {v : D} {n : Nat} (h : isSet (n : Nat) v = true) : ∃ w : List Nat, v = wayD w ∧ w.Pairwise (· < ·) ∧ ∀ i ∈ w, i < n := by
  cases v with
  | tup xs =>
    obtain ⟨w, e, pw, hw⟩ := isSetL_inv xs n 0 h
    exact ⟨w, by rw [e]; rfl, pw, fun i hi => (hw i hi).2⟩
  | _ => simp [isSet] at h
theorem bits_of {w : List Nat} {n : Nat} (hw : ∀ i ∈ w, i < n) : ∀ i, (maskN w).testBit i = true → i < n := fun i hi => by
  rw [maskN_bit, decide_eq_true_eq] at hi
  exact hw i hi
theorem bitsN_mask {w : List Nat} (pw : w.Pairwise (· < ·)) : bitsN (maskN w) = w := by
  refine List.Perm.eq_of_pairwise (le := (· < ·)) (fun a b _ _ h1 h2 => by omega) (bitsN_asc _) pw ?_
  refine (List.perm_ext_iff_of_nodup ?_ ?_).mpr fun i => ?_
  · exact (bitsN_asc _).imp fun h => Nat.ne_of_lt h
  · exact pw.imp fun h => Nat.ne_of_lt h
  · rw [bitsN_mem, maskN_bit, decide_eq_true_eq]
/-- v in the course -/
def F_Course___contains__ (C : Addr) : DF := fun ds q _ => ∃ kb v, ds = [crsD C kb, v] ∧ kb.length ≤ 24 ∧ pl v = true ∧ (isSet (kb.length : Nat) v = false → q (.bl false)) ∧
  ∀ w : List Nat, v = wayD w → w.Pairwise (· < ·) → (∀ i ∈ w, i < kb.length) → ∀ b : Bool, (b = true ↔ Grt [mskB kb] (maskN w) (maskN w)) → q (.bl b)
theorem s_Course___contains__ (C : Addr) : ∀ ds q x, F_Course___contains__ C ds q x → ds.length = 2 ∧ t_Course___contains__ C F_is_set (F_Course___len__ C) F_is_state_mask F_mask_of { nx := fun _ => q .non, rt := q, ex := x } (startE 2 ds) := by
  rintro ds q x ⟨kb, v, rfl, hk, hp, h0, h1⟩
  refine ⟨rfl, ?_⟩
  simp only [t_Course___contains__, dRet, dAnd, dCall, dMeth0, dFld, dCons, dNil, dVar, startE, List.map, List.length, Nat.sub_self, List.replicate, List.append_nil, List.getElem?_cons_zero, List.getElem?_cons_succ, R.d]
  refine ⟨kb, rfl, rfl, _, rfl, ⟨by omega, by omega⟩, v, _, rfl, hp, .inr rfl, _, rfl, ?_⟩
  cases c : isSet (kb.length : Nat) v with
  | false =>
    simp only [Bool.false_eq_true, if_false]
    exact ⟨_, rfl, h0 c⟩
  | true =>
    simp only [if_true]
    obtain ⟨w, rfl, pw, hw⟩ := isSet_inv c
    refine ⟨_, _, _, rfl, lk_book _ _, w, rfl, fun i hi => by have := hw i hi; omega, .inr rfl, kb, maskN w, rfl, hk, bits_of hw, fun b hb => ⟨.inr rfl, _, rfl, h1 w rfl pw hw b hb⟩⟩
theorem xor_add_and : ∀ (n a b : Nat), a ≤ n → (a ^^^ b) + (a &&& b) = a ||| b
  | 0, a, b, h => by
    have : a = 0 := by omega
    subst this
    simp
  | n + 1, a, b, h => by
    have ih := xor_add_and n (a / 2) (b / 2) (by omega)
    rw [← Nat.xor_div_two, ← Nat.and_div_two, ← Nat.or_div_two] at ih
    have x1 := @Nat.xor_mod_two_eq_one a b
    have x2 := @Nat.and_mod_two_eq_one a b
    have x3 := @Nat.or_mod_two_eq_one a b
    omega
theorem bxor (a b : Nat) : Builtin.bitXor (a : Int) (b : Int) = ((a ^^^ b : Nat) : Int) := by
  unfold Builtin.bitXor
  rw [bor, band]
  have := xor_add_and a a b (Nat.le_refl _)
  omega
theorem xorN (a b : Nat) : xorD (.int (a : Nat)) (.int (b : Nat)) = some (.int ((a ^^^ b : Nat) : Int)) := by
  show rInt (Builtin.bitXor (a : Int) (b : Int)) = _
  rw [bxor]
/-- the items of a course of n that w lacks -/
def restM (n : Nat) (w : List Nat) : Nat := (2 ^ n - 1) ^^^ maskN w
theorem restM_bit {n : Nat} {w : List Nat} (hw : ∀ i ∈ w, i < n) (i : Nat) : (restM n w).testBit i = true ↔ i < n ∧ i ∉ w := by
  unfold restM
  rw [Nat.testBit_xor, Nat.testBit_two_pow_sub_one, maskN_bit]
  by_cases a : i < n <;> by_cases b : i ∈ w
  · simp [a, b]
  · simp [a, b]
  · exact absurd (hw i b) a
  · simp [a, b]
/-- the greatest state that avoids v -/
def F_greatest (C X_NoSet : Addr) : DF := fun ds q x => ∃ kb v, ds = [crsD C kb, v] ∧ kb.length ≤ 24 ∧ pl v = true ∧ (isSet (kb.length : Nat) v = false → x ⟨X_NoSet, none⟩) ∧
  ∀ w : List Nat, v = wayD w → w.Pairwise (· < ·) → (∀ i ∈ w, i < kb.length) → ∀ r : Nat, Grt [mskB kb] (restM kb.length w) r → q (wayD (bitsN r))
theorem s_greatest (C X_NoSet : Addr) : ∀ ds q x, F_greatest C X_NoSet ds q x → ds.length = 2 ∧ t_greatest C X_NoSet F_is_set (F_Course___len__ C) F_all_items F_mask_of F_items_of F_greatest_in { nx := fun _ => q .non, rt := q, ex := x } (startE 3 ds) := by
  rintro ds q x ⟨kb, v, rfl, hk, hp, h0, h1⟩
  refine ⟨rfl, ?_⟩
  unfold t_greatest
  rw [dSeq_app]
  simp only [dIfS, dNotT, dTest, dCall, dMeth0, dCons, dNil, dVar, dRaise, dNext, startE, List.map, List.length, Nat.reduceSub, List.replicate, List.cons_append, List.nil_append, List.getElem?_cons_zero, List.getElem?_cons_succ, R.d]
  refine ⟨kb, rfl, rfl, _, rfl, ⟨by omega, by omega⟩, v, _, rfl, hp, .inr rfl, _, rfl, ?_⟩
  cases c : isSet (kb.length : Nat) v with
  | false =>
    simp only [Bool.not_false, if_true]
    exact h0 c
  | true =>
    simp only [Bool.not_true, Bool.false_eq_true, if_false]
    obtain ⟨w, rfl, pw, hw⟩ := isSet_inv c
    rw [dSeq_app]
    simp only [dSet, dOp, dCall, dMeth0, dCons, dNil, dVar, List.map, List.set_cons_zero, List.set_cons_succ, List.getElem?_cons_zero, List.getElem?_cons_succ, R.d]
    refine ⟨kb, rfl, rfl, _, rfl, ⟨by omega, by omega⟩, kb.length, rfl, by omega, .inr rfl, w, rfl, fun i hi => by have := hw i hi; omega, .inr rfl, _, xorN _ _, _, rfl, ?_⟩
    simp only [dRet, dCall, dFld, dTup, dCons, dNil, dVar, List.map, List.set_cons_zero, List.set_cons_succ, List.getElem?_cons_zero, List.getElem?_cons_succ, R.d]
    have hb := restM_bit hw
    refine ⟨_, _, _, rfl, lk_book _ _, [masksD kb], rfl, by simp, [mskB kb], restM kb.length w, by rw [masksD_eq]; rfl, ?_, fun u hu i hi => ?_, fun r hr => ⟨.inr rfl, r, rfl, ?_, .inl rfl, _, rfl, h1 w rfl pw hw r hr⟩⟩
    · have := small_mask hk fun i hi => ((hb i).mp hi).1
      omega
    · rw [List.mem_singleton] at hu
      rw [hu, mskB_len]
      exact ((hb i).mp hi).1
    · have := small_mask hk fun i hi => ((hb i).mp (hr.sub i hi)).1
      omega
/-! ### the states that law k12 grows -/
def putN (n : Nat) (w : List Nat) (k : Nat) : List Nat := (List.range n).filter fun i => decide (i ∈ w) || decide (i = k)
inductive StP (b : List Entry) : List Nat → Prop
  | nil : StP b []
  | put {w : List Nat} {k : Nat} (h : StP b w) (hk : k < b.length) (hw : hasL (b.getD k []) w = true) : StP b (putN b.length w k)
theorem putN_mem {n k i : Nat} {w : List Nat} : i ∈ putN n w k ↔ i < n ∧ (i ∈ w ∨ i = k) := by
  unfold putN
  rw [List.mem_filter, List.mem_range, Bool.or_eq_true, decide_eq_true_eq, decide_eq_true_eq]
theorem putN_asc (n : Nat) (w : List Nat) (k : Nat) : (putN n w k).Pairwise (· < ·) := List.Pairwise.filter _ List.pairwise_lt_range
theorem StP.asc {b : List Entry} {w : List Nat} (h : StP b w) : w.Pairwise (· < ·) := by
  cases h with
  | nil => exact List.Pairwise.nil
  | put _ _ _ => exact putN_asc _ _ _
theorem StP.lt {b : List Entry} {w : List Nat} (h : StP b w) : ∀ i ∈ w, i < b.length := by
  cases h with
  | nil => simp
  | put _ _ _ => exact fun i hi => (putN_mem.mp hi).1
/-! ### states as masks -/
theorem Grt.mk_state {ms : List MBook} {r : Nat} (h : ∀ s : Nat, (∀ i, r.testBit i = true → canF ms i s = true → s.testBit i = true) → Sub r s) : Grt ms r r :=
  ⟨fun _ h => h, fun _ h _ => h, h⟩
theorem st_nil (ms : List MBook) : Grt ms 0 0 := .mk_state fun s _ i hi => by simp at hi
theorem st_put {ms : List MBook} {a k : Nat} (ha : Grt ms a a) (hk : canF ms k a = true) : Grt ms (a ||| 2 ^ k) (a ||| 2 ^ k) := .mk_state fun s hs i hi => by
  have hsub : Sub a s := ha.least s fun j hj => hs j (by rw [or_bit, hj]; rfl)
  rw [or_bit, Bool.or_eq_true, decide_eq_true_eq] at hi
  rcases hi with z | z
  · exact hsub i z
  · subst z
    exact hs k (by rw [or_bit]; simp) (canF_mono hsub hk)
theorem st_greatest {ms : List MBook} {al r : Nat} (h : Grt ms al r) : Grt ms r r := .mk_state fun s hs => by
  have hc : ∀ i, al.testBit i = true → canF ms i (s &&& r) = true → (s &&& r).testBit i = true := fun i hi hcn => by
    have l1 : Sub (s &&& r) r := fun j hj => by rw [Nat.testBit_and, Bool.and_eq_true] at hj; exact hj.2
    have l2 : Sub (s &&& r) s := fun j hj => by rw [Nat.testBit_and, Bool.and_eq_true] at hj; exact hj.1
    have r1 := h.closed i hi (canF_mono l1 hcn)
    rw [Nat.testBit_and, r1, hs i r1 (canF_mono l2 hcn)]
    rfl
  intro i hi
  have := h.least (s &&& r) hc i hi
  rw [Nat.testBit_and, Bool.and_eq_true] at this
  exact this.1
theorem st_within {ms : List MBook} {al r a : Nat} (h : Grt ms al r) (ha : Grt ms a a) (hs : Sub a al) : Sub a r := ha.least r fun i hi hc => h.closed i (hs i hi) hc
theorem mask_bitsN (r : Nat) : maskN (bitsN r) = r := by
  apply Nat.eq_of_testBit_eq
  intro i
  rw [maskN_bit]
  cases c : r.testBit i with
  | true => exact decide_eq_true (bitsN_mem.mpr c)
  | false => exact decide_eq_false fun z => by rw [bitsN_mem.mp z] at c; cases c
/-! ### the texts of rows -/
theorem sok_app (a b : Str) : PyData.strOk (a ++ b) = (PyData.strOk a && PyData.strOk b) := by
  unfold PyData.strOk
  rw [show (a ++ b).cps = a.cps ++ b.cps from rfl, Array.all_append]
theorem sok_string (s : String) : PyData.strOk (Str.ofString s) = true := by
  unfold PyData.strOk
  rw [Str.ofString_eq_toList]
  rw [← Array.all_toList]
  simp only [List.all_map, List.all_eq_true]
  intro c _
  have := c.valid
  show decide (c.toNat < 0x110000) = true
  have h : c.toNat < 0x110000 := by
    rcases c.valid with h | h
    · have : c.toNat < 0xd800 := h
      omega
    · exact h.2
  exact decide_eq_true h
theorem sok_join (sep : Str) (hs : PyData.strOk sep = true) : ∀ ts : List Str, (∀ t ∈ ts, PyData.strOk t = true) → PyData.strOk (Str.join sep ts) = true
  | [], _ => by
    show PyData.strOk Str.empty = true
    decide +kernel
  | [t], h => h t List.mem_cons_self
  | t :: u :: ts, h => by
    show PyData.strOk (t ++ sep ++ Str.join sep (u :: ts)) = true
    rw [sok_app, sok_app, h t List.mem_cons_self, hs, sok_join sep hs (u :: ts) fun v hv => h v (List.mem_cons_of_mem _ hv)]
    rfl
/-- ints of moderate size, None -/
def Atom : D → Prop
  | .int i => i.natAbs.log2 < 1920
  | .non => True
  | _ => False
theorem atoms_py : ∀ {xs : List D}, (∀ d ∈ xs, Atom d) → ∃ ps, toPys xs = some ps ∧ ps.length = xs.length ∧ PyData.showableAll ps = true ∧ PyData.canLayAll0 ps = true ∧ PyData.depthAll ps = 0 ∧ PyData.leavesShortAll 1921 ps = true ∧ PyData.bulkAll ps = xs.length ∧ ∀ t ∈ PyData.shownAll ps, PyData.strOk t = true
  | [], _ => ⟨[], rfl, rfl, rfl, rfl, rfl, rfl, rfl, by simp [PyData.shownAll]⟩
  | d :: xs, h => by
    obtain ⟨ps, h1, h2, h3, h4, h5, h6, h7, h8⟩ := atoms_py fun e he => h e (List.mem_cons_of_mem _ he)
    have ha := h d List.mem_cons_self
    cases d with
    | int i =>
      refine ⟨.int i :: ps, by simp [toPys, toPy, h1], by simp [h2], ?_, ?_, ?_, ?_, ?_, ?_⟩
      · simp only [PyData.showableAll, PyData.showable, h3, Bool.and_true]
        exact decide_eq_true ha
      · simp [PyData.canLayAll0, PyData.canLay0, h4]
      · simp [PyData.depthAll, PyData.depth, h5]
      · simp only [PyData.leavesShortAll, PyData.leavesShort, h6, Bool.and_true]
        exact decide_eq_true (int_text_len_1921 ha)
      · simp only [PyData.bulkAll, PyData.bulk, h7, List.length_cons]
        omega
      · intro t ht
        simp only [PyData.shownAll, List.mem_cons] at ht
        rcases ht with rfl | ht
        · exact sok_string _
        · exact h8 t ht
    | non =>
      refine ⟨.none :: ps, by simp [toPys, toPy, h1], by simp [h2], ?_, ?_, ?_, ?_, ?_, ?_⟩
      · simp [PyData.showableAll, PyData.showable, h3]
      · simp [PyData.canLayAll0, PyData.canLay0, h4]
      · simp [PyData.depthAll, PyData.depth, h5]
      · simp [PyData.leavesShortAll, PyData.leavesShort, h6]
      · simp only [PyData.bulkAll, PyData.bulk, h7, List.length_cons]
        omega
      · intro t ht
        simp only [PyData.shownAll, List.mem_cons] at ht
        rcases ht with rfl | ht
        · exact sok_string _
        · exact h8 t ht
    | _ => exact ha.elim
def ReprOk (d : D) : Prop := ∃ s, reprF [d] = some (.str s) ∧ PyData.strOk s = true
theorem repr_atoms {xs : List D} (h : ∀ d ∈ xs, Atom d) (hl : xs.length ≤ 1000) : ReprOk (.tup xs) := by
  obtain ⟨ps, h1, h2, h3, h4, h5, h6, h7, h8⟩ := atoms_py h
  have hp : toPy (.tup xs) = some (.tuple ps) := by simp [toPy, h1]
  refine ⟨PyData.shown (.tuple ps), ?_, ?_⟩
  · unfold reprF
    simp only [hp]
    have hb := PyData.shown_le_bulk 1921 (by decide) (.tuple ps) (by simpa [PyData.leavesShort] using h6)
    have e : PyData.bulk (.tuple ps) = xs.length := by simpa [PyData.bulk] using h7
    rw [e] at hb
    rw [if_pos ?_]
    have a1 : PyData.showable (.tuple ps) = true := by simpa [PyData.showable] using h3
    have a2 : SeqAt.shaped (.tuple ps) = true := by simp [SeqAt.shaped, PyData.canLay0, PyData.depth, h4, h5]
    rw [a1, a2, decide_eq_true (by omega)]
    rfl
  · show PyData.strOk (("(" : Str) ++ Str.join ", " (PyData.shownAll ps) ++ (if (PyData.shownAll ps).length == 1 then ",)" else ")" : String)) = true
    rw [sok_app, sok_app, sok_join _ (sok_string _) _ h8, sok_string, sok_string]
    rfl
structure RowOk (b : List Entry) (r : List Nat) : Prop where
  lt : ∀ i ∈ r, i < b.length
  len : r.length ≤ 100
structure ValOk (kb : List Entry) (v : D) : Prop where
  pl : pl v = true
  no : isOrd kb v = false
  re : isTupD v = true → ReprOk v
theorem atom_nat {i : Nat} (h : i < 1000000) : Atom (.int (i : Nat)) := by
  show ((i : Nat) : Int).natAbs.log2 < 1920
  rw [Int.natAbs_natCast]
  by_cases z : i = 0
  · subst z; decide
  · have := (Nat.log2_lt z (k := 20)).mpr (by omega)
    omega
def F_law : DF := fun ds q _ => ∃ ns : List Int, ds = [.scr (iD ns)] ∧ ns.length ≤ 63 ∧ q (.bl true)
theorem catL {xs ys : List D} (h : xs.length + ys.length ≤ 16777216) : addA (.lst xs) (.lst ys) = some (.lst (xs ++ ys)) := by
  show (none : Option D).or (if xs.length + ys.length ≤ 16777216 then some (D.lst (xs ++ ys)) else none) = _
  rw [if_pos h]
  rfl
theorem cut_ints (ns : List Int) (lo hi : Option Int) : (∀ d ∈ cutD (iD ns) lo hi, ∃ z, d = .int z) ∧ (cutD (iD ns) lo hi).length ≤ ns.length := by
  unfold cutD
  refine ⟨fun d hd => ?_, ?_⟩
  · have h := List.mem_of_mem_drop (List.mem_of_mem_take hd)
    obtain ⟨z, _, rfl⟩ := List.mem_map.mp h
    exact ⟨z, rfl⟩
  · rw [List.length_take, List.length_drop]
    simp only [iD, List.length_map]
    omega
theorem can_has {kb b : List Entry} (t : TidyB kb b) {i : Nat} (hi : i < b.length) (pre : List Nat) : canF [mskB kb] i (maskN pre) = hasL (b.getD i []) pre := by
  have hl := t.len
  have hk : i < kb.length := by omega
  have ek : (mskB kb).getD i [] = kb[i].map maskN := by
    unfold mskB
    rw [List.getD, List.getElem?_map, List.getElem?_eq_getElem hk]
    rfl
  have eb : b.getD i [] = b[i] := by rw [List.getD, List.getElem?_eq_getElem hi]; rfl
  have tt : Tidy kb[i] b[i] := t.get (List.getElem?_eq_getElem hk) (List.getElem?_eq_getElem hi)
  show (((mskB kb).getD i []).any (subM (maskN pre)) && true) = _
  rw [Bool.and_true, ek, eb, has_masks tt]
theorem mask_put {n k : Nat} {w : List Nat} (hw : ∀ i ∈ w, i < n) (hk : k < n) : maskN (putN n w k) = maskN w ||| 2 ^ k := by
  apply Nat.eq_of_testBit_eq
  intro i
  rw [or_bit, maskN_bit, maskN_bit]
  by_cases h1 : i ∈ w
  · rw [decide_eq_true (putN_mem.mpr ⟨hw i h1, .inl h1⟩), decide_eq_true h1]; rfl
  · by_cases h2 : k = i
    · rw [decide_eq_true (putN_mem.mpr ⟨by omega, .inr h2.symm⟩), decide_eq_true h2, Bool.or_true]
    · rw [decide_eq_false h1, decide_eq_false h2, decide_eq_false]
      · rfl
      · intro z
        rcases (putN_mem.mp z).2 with y | y
        · exact h1 y
        · exact h2 y.symm
theorem StP.state {kb b : List Entry} (t : TidyB kb b) {w : List Nat} (h : StP b w) : Grt [mskB kb] (maskN w) (maskN w) := by
  induction h with
  | nil => exact st_nil _
  | put hw hk hh ih =>
    rw [mask_put hw.lt hk]
    exact st_put ih (by rw [can_has t hk]; exact hh)
theorem lc_subN {i : Nat} {tt : DT} {te : DE} {p : Nat → Prop} {env : SE} : ∀ {w : List Nat} {q : List D → Prop}, (∀ k ∈ w, ∀ q : Bool → Prop, (∀ c : Bool, (c = true → p k) → q c) → tt (env.set i (.val (.int (k : Nat)))) q noX) →
    (∀ k ∈ w, ∀ q : R → Prop, q (.val (.int (k : Nat))) → te (env.set i (.val (.int (k : Nat)))) q noX) → (∀ v : List Nat, v.Sublist w → (∀ j ∈ v, p j) → q (nD v)) → dLcL (gN i) tt te (nD w) env q
  | [], q, _, _, h => h [] (List.Sublist.refl _) (by simp)
  | k :: w, q, ht, he, h => by
    refine ⟨_, rfl, ht k List.mem_cons_self _ fun c hc => ?_⟩
    cases c with
    | true =>
      simp only [if_true]
      refine he k List.mem_cons_self _ ⟨_, rfl, lc_subN (fun j hj => ht j (List.mem_cons_of_mem _ hj)) (fun j hj => he j (List.mem_cons_of_mem _ hj)) fun v hv hp => h (k :: v) (hv.cons_cons k) fun j hj => ?_⟩
      rcases List.mem_cons.mp hj with z | z
      · rw [z]; exact hc rfl
      · exact hp j z
    | false =>
      simp only [Bool.false_eq_true, if_false]
      exact lc_subN (fun j hj => ht j (List.mem_cons_of_mem _ hj)) (fun j hj => he j (List.mem_cons_of_mem _ hj)) fun v hv hp => h v (hv.cons k) hp
section
variable (C X : Addr)
end
abbrev KE (s z b kb : EV) (ws a n c o8 o9 o10 o11 o12 : EV) : SE := [s, z, b, kb, ws, a, n, c, o8, o9, o10, o11, o12]
theorem inn (k : Nat) (w : List Nat) : inD (.int (k : Nat)) (wayD w) = some (.bl (decide (k ∈ w))) := in_row k w
theorem notInn (k : Nat) (w : List Nat) : notInD (.int (k : Nat)) (wayD w) = some (.bl (!decide (k ∈ w))) := notIn_row k w
theorem pl_way (w : List Nat) : pl (wayD w) = true := by
  show pls (nD w) = true
  unfold nD
  induction w with
  | nil => rfl
  | cons i w ih => simp [pls, pl, ih]
theorem wayD_inj {u v : List Nat} (h : wayD u = wayD v) : u = v := by
  have e3 : nD u = nD v := by injection h
  have this := congrArg (List.map fun d : D => match d with | .int i => i.toNat | _ => 0) e3
  unfold nD at this
  rw [List.map_map, List.map_map] at this
  have f : ((fun d : D => match d with | .int i => i.toNat | _ => 0) ∘ fun (i : Nat) => D.int (i : Nat)) = id := by funext i; rfl
  rw [f, List.map_id, List.map_id] at this
  exact this
/-! ### plain trees: None, ints, texts, tuples and lists of them -/
mutual
def pt : D → Nat → Bool
  | .non, _ => true
  | .int _, _ => true
  | .str x, _ => PyData.strOk x
  | .tup xs, n => match n with
    | 0 => false
    | n + 1 => pts xs n
  | .lst xs, n => match n with
    | 0 => false
    | n + 1 => pts xs n
  | _, _ => false
def pts : List D → Nat → Bool
  | [], _ => true
  | x :: xs, n => pt x n && pts xs n
end
mutual
theorem pt_py : ∀ (d : D) (n : Nat), pt d n = true → ∃ p, toPy d = some p ∧ PyData.canLay0 p = true ∧ p.depth ≤ n
  | d, n, h => by
    cases d with
    | non => exact ⟨.none, rfl, rfl, by simp [PyData.depth]⟩
    | int i => exact ⟨.int i, rfl, rfl, by simp [PyData.depth]⟩
    | str x => exact ⟨.str x, rfl, by simpa [PyData.canLay0, pt] using h, by simp [PyData.depth]⟩
    | tup xs =>
      cases n with
      | zero => simp [pt] at h
      | succ n =>
        obtain ⟨ps, e, l, d⟩ := pts_py xs n (by simpa [pt] using h)
        exact ⟨.tuple ps, by simp [toPy, e], by simpa [PyData.canLay0] using l, by simp [PyData.depth]; omega⟩
    | lst xs =>
      cases n with
      | zero => simp [pt] at h
      | succ n =>
        obtain ⟨ps, e, l, d⟩ := pts_py xs n (by simpa [pt] using h)
        exact ⟨.list ps, by simp [toPy, e], by simpa [PyData.canLay0] using l, by simp [PyData.depth]; omega⟩
    | _ => simp [pt] at h
theorem pts_py : ∀ (ds : List D) (n : Nat), pts ds n = true → ∃ ps, toPys ds = some ps ∧ PyData.canLayAll0 ps = true ∧ PyData.depthAll ps ≤ n
  | [], n, _ => ⟨[], rfl, rfl, by simp [PyData.depthAll]⟩
  | x :: xs, n, h => by
    simp only [pts, Bool.and_eq_true] at h
    obtain ⟨p, e1, l1, d1⟩ := pt_py x n h.1
    obtain ⟨ps, e2, l2, d2⟩ := pts_py xs n h.2
    exact ⟨p :: ps, by simp [toPys, e1, e2], by simp [PyData.canLayAll0, l1, l2], by simp [PyData.depthAll]; omega⟩
end
mutual
theorem eqv_pt : ∀ (a b : D) (n m : Nat) (p q : PyData), pt a n = true → pt b m = true → toPy a = some p → toPy b = some q → (PyData.eqv p q = true ↔ a = b)
  | a, b, n, m, p, q, ha, hb, ea, eb => by
    cases a with
    | non =>
      cases ea
      cases b <;> simp_all [pt, toPy] <;> (try (subst eb; simp [PyData.eqv])) <;> (try (obtain ⟨_, _, rfl⟩ := eb; simp [PyData.eqv]))
    | int i =>
      cases ea
      cases b <;> simp_all [pt, toPy] <;> (try (subst eb; simp [PyData.eqv])) <;> (try (obtain ⟨_, _, rfl⟩ := eb; simp [PyData.eqv]))
    | str i =>
      cases ea
      cases b <;> simp_all [pt, toPy] <;> (try (subst eb; simp [PyData.eqv])) <;> (try (obtain ⟨_, _, rfl⟩ := eb; simp [PyData.eqv]))
    | tup xs =>
      simp only [toPy, Option.map_eq_some_iff] at ea
      obtain ⟨ps, e1, rfl⟩ := ea
      cases n with
      | zero => simp [pt] at ha
      | succ n =>
        cases b with
        | tup ys =>
          cases m with
          | zero => simp [pt] at hb
          | succ m =>
            simp only [toPy, Option.map_eq_some_iff] at eb
            obtain ⟨qs, e2, rfl⟩ := eb
            simpa [PyData.eqv] using eqvs_pt xs ys n m ps qs (by simpa [pt] using ha) (by simpa [pt] using hb) e1 e2
        | _ => simp_all [pt, toPy] <;> (try (subst eb; simp [PyData.eqv])) <;> (try (obtain ⟨_, _, rfl⟩ := eb; simp [PyData.eqv]))
    | lst xs =>
      simp only [toPy, Option.map_eq_some_iff] at ea
      obtain ⟨ps, e1, rfl⟩ := ea
      cases n with
      | zero => simp [pt] at ha
      | succ n =>
        cases b with
        | lst ys =>
          cases m with
          | zero => simp [pt] at hb
          | succ m =>
            simp only [toPy, Option.map_eq_some_iff] at eb
            obtain ⟨qs, e2, rfl⟩ := eb
            simpa [PyData.eqv] using eqvs_pt xs ys n m ps qs (by simpa [pt] using ha) (by simpa [pt] using hb) e1 e2
        | _ => simp_all [pt, toPy] <;> (try (subst eb; simp [PyData.eqv])) <;> (try (obtain ⟨_, _, rfl⟩ := eb; simp [PyData.eqv]))
    | _ => simp [pt] at ha
theorem eqvs_pt : ∀ (a b : List D) (n m : Nat) (p q : List PyData), pts a n = true → pts b m = true → toPys a = some p → toPys b = some q → (PyData.eqvAll p q = true ↔ a = b)
  | [], [], _, _, _, _, _, _, ea, eb => by
    simp only [toPys, Option.some.injEq] at ea eb
    subst ea; subst eb; simp [PyData.eqvAll]
  | [], y :: ys, _, _, _, _, _, _, ea, eb => by
    simp only [toPys, Option.some.injEq] at ea
    obtain ⟨_, _, _, _, rfl⟩ := toPys_cons eb
    subst ea; simp [PyData.eqvAll]
  | x :: xs, [], _, _, _, _, _, _, ea, eb => by
    simp only [toPys, Option.some.injEq] at eb
    obtain ⟨_, _, _, _, rfl⟩ := toPys_cons ea
    subst eb; simp [PyData.eqvAll]
  | x :: xs, y :: ys, n, m, p, q, ha, hb, ea, eb => by
    simp only [pts, Bool.and_eq_true] at ha hb
    obtain ⟨p1, p2, e1, e2, rfl⟩ := toPys_cons ea
    obtain ⟨q1, q2, e3, e4, rfl⟩ := toPys_cons eb
    simp only [PyData.eqvAll, Bool.and_eq_true, List.cons.injEq]
    rw [eqv_pt x y n m p1 q1 ha.1 hb.1 e1 e3, eqvs_pt xs ys n m p2 q2 ha.2 hb.2 e2 e4]
end
theorem eqB_pt {a b : D} (ha : pt a 64 = true) (hb : pt b 64 = true) : ∃ c : Bool, eqB a b = some c ∧ (c = true ↔ a = b) := by
  obtain ⟨p, e1, l1, d1⟩ := pt_py a 64 ha
  obtain ⟨q, e2, l2, d2⟩ := pt_py b 64 hb
  refine ⟨PyData.eqv p q, ?_, eqv_pt a b 64 64 p q ha hb e1 e2⟩
  unfold eqB
  rw [e1, e2]
  simp [SeqAt.shaped, l1, l2, d1, d2]
theorem eqD_same {a : D} (ha : pt a 64 = true) : eqD a a = some (.bl true) := by
  obtain ⟨c, e, h⟩ := eqB_pt ha ha
  unfold eqD
  rw [e, h.mpr rfl]; rfl
theorem eqD_not {a b : D} (ha : pt a 64 = true) (hb : pt b 64 = true) (n : a ≠ b) : eqD a b = some (.bl false) := by
  obtain ⟨c, e, h⟩ := eqB_pt ha hb
  unfold eqD
  rw [e]
  cases c with
  | true => exact absurd (h.mp rfl) n
  | false => rfl
theorem neD_same {a : D} (ha : pt a 64 = true) : neD a a = some (.bl false) := by
  obtain ⟨c, e, h⟩ := eqB_pt ha ha
  unfold neD
  rw [e, h.mpr rfl]; rfl
theorem neD_not {a b : D} (ha : pt a 64 = true) (hb : pt b 64 = true) (n : a ≠ b) : neD a b = some (.bl true) := by
  obtain ⟨c, e, h⟩ := eqB_pt ha hb
  unfold neD
  rw [e]
  cases c with
  | true => exact absurd (h.mp rfl) n
  | false => rfl
theorem inB_pt {x : D} (hx : pt x 64 = true) : ∀ {ys : List D} {n : Nat}, pts ys n = true → ∃ c : Bool, (inB x (.tup ys) = some c ∧ inB x (.lst ys) = some c) ∧ (c = true ↔ x ∈ ys) := by
  intro ys n hy
  obtain ⟨p, e1, l1, d1⟩ := pt_py x 64 hx
  obtain ⟨qs, e2, l2, d2⟩ := pts_py ys n hy
  refine ⟨qs.any fun y => PyData.eqv y p, ⟨?_, ?_⟩, ?_⟩
  · unfold inB
    simp [toPy, e1, e2, SeqAt.shaped, l1, l2, d1]
  · unfold inB
    simp [toPy, e1, e2, SeqAt.shaped, l1, l2, d1]
  · clear l2 d2
    induction ys generalizing qs with
    | nil => simp only [toPys, Option.some.injEq] at e2; subst e2; simp
    | cons y ys ih =>
      obtain ⟨q1, q2, e3, e4, rfl⟩ := toPys_cons e2
      simp only [pts, Bool.and_eq_true] at hy
      rw [List.any_cons, Bool.or_eq_true, ih hy.2 q2 e4, eqv_pt y x n 64 q1 p hy.1 hx e3 e1, List.mem_cons]
      constructor
      · rintro (h | h)
        · exact .inl h.symm
        · exact .inr h
      · rintro (h | h)
        · exact .inl h.symm
        · exact .inr h
theorem pts_nD (w : List Nat) (n : Nat) : pts (nD w) n = true := by
  unfold nD
  induction w with
  | nil => rfl
  | cons i w ih => simp [pts, pt, ih]
theorem pt_way (w : List Nat) (n : Nat) : pt (wayD w) (n + 1) = true := by
  show pts (nD w) n = true
  exact pts_nD w n
theorem eqD_way (u v : List Nat) : eqD (wayD u) (wayD v) = some (.bl (decide (u = v))) := by
  by_cases h : u = v
  · rw [h, eqD_same (pt_way v 63)]; simp
  · rw [eqD_not (pt_way u 63) (pt_way v 63) fun e => h (wayD_inj e)]; simp [h]
theorem neD_way (u v : List Nat) : neD (wayD u) (wayD v) = some (.bl (!decide (u = v))) := by
  by_cases h : u = v
  · rw [h, neD_same (pt_way v 63)]; simp
  · rw [neD_not (pt_way u 63) (pt_way v 63) fun e => h (wayD_inj e)]; simp [h]
theorem eqD_nonway (u : List Nat) : eqD .non (wayD u) = some (.bl false) := eqD_not rfl (pt_way u 63) (by intro h; cases h)
theorem eqD_waynon (u : List Nat) : eqD (wayD u) .non = some (.bl false) := eqD_not (pt_way u 63) rfl (by intro h; cases h)
theorem nD_inj {u v : List Nat} (h : nD u = nD v) : u = v := wayD_inj (congrArg D.tup h)
theorem pt_lnD (w : List Nat) (n : Nat) : pt (.lst (nD w)) (n + 1) = true := by
  show pts (nD w) n = true
  exact pts_nD w n
theorem eqD_lst (u v : List Nat) : eqD (.lst (nD u)) (.lst (nD v)) = some (.bl (decide (u = v))) := by
  by_cases h : u = v
  · rw [h, eqD_same (pt_lnD v 63)]; simp
  · rw [eqD_not (pt_lnD u 63) (pt_lnD v 63) fun e => h (nD_inj (D.lst.inj e))]; simp [h]
theorem neD_lst (u v : List Nat) : neD (.lst (nD u)) (.lst (nD v)) = some (.bl (!decide (u = v))) := by
  by_cases h : u = v
  · rw [h, neD_same (pt_lnD v 63)]; simp
  · rw [neD_not (pt_lnD u 63) (pt_lnD v 63) fun e => h (nD_inj (D.lst.inj e))]; simp [h]
/-! ### operations on the data that occur, as equations -/
theorem len_way (w : List Nat) : lenF [wayD w] = some (.int (w.length : Nat)) := by
  show some (D.int ((nD w).length : Nat)) = _
  rw [len_nD]
theorem len_book (b : List Entry) : lenF [bookD b] = some (.int (b.length : Nat)) := by
  show some (D.int ((b.map entryD).length : Nat)) = _
  rw [List.length_map]
theorem len_masks (b : List Entry) : lenF [masksD b] = some (.int (b.length : Nat)) := by
  show some (D.int ((b.map _).length : Nat)) = _
  rw [List.length_map]
theorem len_entry (e : Entry) : lenF [entryD e] = some (.int (e.length : Nat)) := by
  show some (D.int ((e.map wayD).length : Nat)) = _
  rw [List.length_map]
theorem len_lst (l : List D) : lenF [.lst l] = some (.int (l.length : Nat)) := rfl
theorem len_tup (l : List D) : lenF [.tup l] = some (.int (l.length : Nat)) := rfl
theorem tup_lst (l : List D) : tupF [.lst l] = some (.tup l) := rfl
theorem tup_tup (l : List D) : tupF [.tup l] = some (.tup l) := rfl
theorem tup_way (w : List Nat) : tupF [wayD w] = some (wayD w) := rfl
theorem lst_way (w : List Nat) : lstF [wayD w] = some (.lst (nD w)) := rfl
theorem lst_lst (l : List D) : lstF [.lst l] = some (.lst l) := rfl
theorem int_int (i : Int) : intF [.int i] = some (.int i) := rfl
theorem way_nD (w : List Nat) : D.tup (nD w) = wayD w := rfl
theorem all_bl (bs : List Bool) : allF [.lst (bs.map D.bl)] = some (.bl (bs.all id)) := by show (blsOf _).map _ = _; rw [blsOf_bl]; rfl
theorem any_bl (bs : List Bool) : anyF [.lst (bs.map D.bl)] = some (.bl (bs.any id)) := by show (blsOf _).map _ = _; rw [blsOf_bl]; rfl
theorem inlst (k : Nat) (w : List Nat) : inD (.int (k : Nat)) (.lst (nD w)) = some (.bl (decide (k ∈ w))) := by
  obtain ⟨c, ⟨_, e⟩, h⟩ := inB_pt (x := .int (k : Nat)) rfl (pts_nD w 0)
  unfold inD; rw [e]
  have : (D.int (k : Nat) ∈ nD w) ↔ k ∈ w := by
    unfold nD
    simp only [List.mem_map, D.int.injEq]
    exact ⟨fun ⟨a, ha, e⟩ => by rw [← show a = k by omega]; exact ha, fun h => ⟨k, h, rfl⟩⟩
  rw [this] at h
  cases c <;> simp_all
theorem notinlst (k : Nat) (w : List Nat) : notInD (.int (k : Nat)) (.lst (nD w)) = some (.bl (!decide (k ∈ w))) := by
  obtain ⟨c, ⟨_, e⟩, h⟩ := inB_pt (x := .int (k : Nat)) rfl (pts_nD w 0)
  unfold notInD; rw [e]
  have : (D.int (k : Nat) ∈ nD w) ↔ k ∈ w := by
    unfold nD
    simp only [List.mem_map, D.int.injEq]
    exact ⟨fun ⟨a, ha, e⟩ => by rw [← show a = k by omega]; exact ha, fun h => ⟨k, h, rfl⟩⟩
  rw [this] at h
  cases c <;> simp_all
theorem isN_way (w : List Nat) : isA (wayD w) .non = some (.bl false) := rfl
theorem isNot_way (w : List Nat) : isNotA (wayD w) .non = some (.bl true) := rfl
theorem isN_non : isA .non .non = some (.bl true) := rfl
theorem isNot_non : isNotA .non .non = some (.bl false) := rfl
theorem isN_int (i : Int) : isA (.int i) .non = some (.bl false) := rfl
theorem isNot_int (i : Int) : isNotA (.int i) .non = some (.bl true) := rfl
theorem ex_way_lst {w : List Nat} {P : List D → Prop} : (∃ ds, wayD w = D.lst ds ∧ P ds) ↔ False := ⟨fun ⟨_, e, _⟩ => (nomatch e), False.elim⟩
theorem ex_way_tup {w : List Nat} {P : List D → Prop} : (∃ ds, wayD w = D.tup ds ∧ P ds) ↔ P (nD w) := ⟨fun ⟨_, e, h⟩ => by cases e; exact h, fun h => ⟨_, rfl, h⟩⟩
theorem ex_book_lst {w : List Entry} {P : List D → Prop} : (∃ ds, bookD w = D.lst ds ∧ P ds) ↔ False := ⟨fun ⟨_, e, _⟩ => (nomatch e), False.elim⟩
theorem ex_book_tup {w : List Entry} {P : List D → Prop} : (∃ ds, bookD w = D.tup ds ∧ P ds) ↔ P (w.map entryD) := ⟨fun ⟨_, e, h⟩ => by cases e; exact h, fun h => ⟨_, rfl, h⟩⟩
theorem ex_entry_lst {w : Entry} {P : List D → Prop} : (∃ ds, entryD w = D.lst ds ∧ P ds) ↔ False := ⟨fun ⟨_, e, _⟩ => (nomatch e), False.elim⟩
theorem ex_entry_tup {w : Entry} {P : List D → Prop} : (∃ ds, entryD w = D.tup ds ∧ P ds) ↔ P (w.map wayD) := ⟨fun ⟨_, e, h⟩ => by cases e; exact h, fun h => ⟨_, rfl, h⟩⟩
theorem subNle {a b : Nat} (h : b ≤ a) : subD (.int (a : Nat)) (.int (b : Nat)) = some (.int ((a - b : Nat) : Int)) := by
  show some (D.int ((a : Int) - (b : Int))) = _
  rw [show ((a - b : Nat) : Int) = (a : Int) - (b : Int) by omega]
/-! ### the attributes of a course -/
theorem ex_fld_book {C : Addr} {kb : List Entry} {P : D → Prop} : (∃ ns ds d, crsD C kb = .ins C ns ds ∧ lkD ("book" : Str) ns ds = some d ∧ P d) ↔ P (masksD kb) :=
  ⟨fun ⟨_, _, _, e, h, p⟩ => by cases e; rw [lk_book] at h; cases h; exact p, fun h => ⟨_, _, _, rfl, lk_book _ _, h⟩⟩
theorem ex_fld_ways {C : Addr} {kb : List Entry} {P : D → Prop} : (∃ ns ds d, crsD C kb = .ins C ns ds ∧ lkD ("_ways" : Str) ns ds = some d ∧ P d) ↔ P (bookD kb) :=
  ⟨fun ⟨_, _, _, e, h, p⟩ => by cases e; rw [lk_ways] at h; cases h; exact p, fun h => ⟨_, _, _, rfl, lk_ways _ _, h⟩⟩
/-! ### injections -/
theorem inj_map {α β : Type} {f : α → β} (hf : ∀ x y, f x = f y → x = y) : ∀ {u v : List α}, u.map f = v.map f → u = v
  | [], [], _ => rfl
  | [], _ :: _, h => by simp at h
  | _ :: _, [], h => by simp at h
  | x :: u, y :: v, h => by
    simp only [List.map_cons, List.cons.injEq] at h
    rw [hf x y h.1, inj_map hf h.2]
theorem entryD_inj {a b : Entry} (h : entryD a = entryD b) : a = b := inj_map (fun _ _ => wayD_inj) (D.tup.inj h)
theorem bookD_inj {a b : List Entry} (h : bookD a = bookD b) : a = b := inj_map (fun _ _ => entryD_inj) (D.tup.inj h)
theorem crsD_inj {C : Addr} {a b : List Entry} (h : crsD C a = crsD C b) : a = b := by
  injection h with _ _ h
  injection h with h _
  exact bookD_inj h
theorem natInt_inj {a b : Nat} (h : D.int (a : Nat) = D.int (b : Nat)) : a = b := by injection h with h; omega
/-! ### calls, as equations -/
theorem len_ap (C : Addr) {kb : List Entry} {q : D → Prop} {x : XP} : F_Course___len__ C [crsD C kb] q x ↔ q (.int (kb.length : Nat)) :=
  ⟨fun ⟨kb', e, h⟩ => by cases crsD_inj (List.cons.inj e).1; exact h, fun h => ⟨kb, rfl, h⟩⟩
theorem mask_of_ap {w : List Nat} {q : D → Prop} {x : XP} : F_mask_of [wayD w] q x ↔ (∀ i ∈ w, i ≤ 1000000) ∧ q (.int (maskN w : Nat)) :=
  ⟨fun ⟨w', e, h⟩ => by cases wayD_inj (List.cons.inj (show [wayD w] = [wayD w'] from e)).1; exact h, fun h => ⟨w, rfl, h⟩⟩
theorem items_of_ap {m : Nat} {q : D → Prop} {x : XP} : F_items_of [.int (m : Nat)] q x ↔ m < 2 ^ 100 ∧ q (wayD (bitsN m)) :=
  ⟨fun ⟨m', e, h⟩ => by cases natInt_inj (List.cons.inj e).1; exact h, fun h => ⟨m, rfl, h⟩⟩
theorem all_items_ap {n : Nat} {q : D → Prop} {x : XP} : F_all_items [.int (n : Nat)] q x ↔ n ≤ 1000 ∧ q (.int ((2 ^ n - 1 : Nat) : Int)) :=
  ⟨fun ⟨m', e, h⟩ => by cases natInt_inj (List.cons.inj e).1; exact h, fun h => ⟨n, rfl, h⟩⟩
theorem lies_within_ap {a b : Nat} {q : D → Prop} {x : XP} : F_lies_within [.int (a : Nat), .int (b : Nat)] q x ↔ q (.bl (decide (a &&& b = a))) :=
  ⟨fun ⟨a', b', e, h⟩ => by
    simp only [List.cons.injEq, and_true] at e
    cases natInt_inj e.1; cases natInt_inj e.2; exact h, fun h => ⟨a, b, rfl, h⟩⟩
theorem is_set_ap {d : D} {n : Int} {q : D → Prop} {x : XP} : F_is_set [d, .int n] q x ↔ pl d = true ∧ q (.bl (isSet n d)) :=
  ⟨fun ⟨d', n', e, h⟩ => by simp only [List.cons.injEq, and_true, D.int.injEq] at e; obtain ⟨rfl, rfl⟩ := e; exact h, fun h => ⟨d, n, rfl, h⟩⟩
theorem is_item_ap {d : D} {n : Int} {q : D → Prop} {x : XP} : F_is_item [d, .int n] q x ↔ pl d = true ∧ q (.bl (isItem n d)) :=
  ⟨fun ⟨d', n', e, h⟩ => by simp only [List.cons.injEq, and_true, D.int.injEq] at e; obtain ⟨rfl, rfl⟩ := e; exact h, fun h => ⟨d, n, rfl, h⟩⟩
theorem draw_ap {m : Int} {q : D → Prop} {x : XP} : F__law_draw [.pen, .int m] q x ↔ 1 ≤ m ∧ m < 1073741824 ∧ ∀ i : Nat, (i : Int) < m → q (.int (i : Nat)) :=
  ⟨fun ⟨m', e, h⟩ => by
    simp only [List.cons.injEq, and_true, true_and, D.int.injEq] at e
    subst e
    exact ⟨h.1, h.2.1, fun i hi => h.2.2 i (by omega) hi⟩, fun h => ⟨m, rfl, h.1, h.2.1, fun i h0 h1 => by
    obtain ⟨k, rfl⟩ := Int.eq_ofNat_of_zero_le h0
    exact h.2.2 k h1⟩⟩
theorem add1N (a : Nat) : addA (.int (a : Nat)) (.int 1) = some (.int ((a + 1 : Nat) : Int)) := rfl
theorem sub1N {a : Nat} (h : 1 ≤ a) : subD (.int (a : Nat)) (.int 1) = some (.int ((a - 1 : Nat) : Int)) := subNle h
theorem pen_ap {z : Int} {q : D → Prop} {x : XP} : F__law_pen_of [.int z] q x ↔ q .pen :=
  ⟨fun ⟨m', e, h⟩ => h, fun h => ⟨z, rfl, h⟩⟩
theorem book_ap {m : Nat} {q : D → Prop} {x : XP} : F__law_book [.pen, .int (m : Nat)] q x ↔ 1 ≤ m ∧ m ≤ 24 ∧ ∀ b, BookOk b → b.length ≤ m → q (bookD b) :=
  ⟨fun ⟨m', e, h⟩ => by
    simp only [List.cons.injEq, and_true, true_and] at e
    cases natInt_inj e; exact h, fun h => ⟨m, rfl, h⟩⟩
theorem init_ap {C : Addr} {b : List Entry} {q : D → Prop} {x : XP} : F_Course___init__ C [bookD b] q x ↔ BookOk b ∧ ∀ kb, TidyB kb b → q (crsD C kb) :=
  ⟨fun ⟨m', e, h⟩ => by cases bookD_inj (List.cons.inj e).1; exact h, fun h => ⟨b, rfl, h⟩⟩
/-! ### comprehensions over ways -/
theorem lc_N {w : List Nat} {dg : DG} {tt : DT} {te : DE} {env : SE} {q : List D → Prop} (p : Nat → Bool) (f : Nat → D)
    (h : ∀ a ∈ w, ∃ env', dg (.int (a : Nat)) env = some env' ∧ (∀ Q : Bool → Prop, Q (p a) → tt env' Q noX) ∧ (p a = true → ∀ Q : R → Prop, Q (.val (f a)) → te env' Q noX)) (hq : q ((w.filter p).map f)) : dLcL dg tt te (nD w) env q :=
  lc_sel (fun i : Nat => D.int i) p f h hq
theorem lc_sN {w : List Nat} {i : Nat} {tt : DT} {te : DE} {env : SE} {q : List D → Prop} (p : Nat → Bool)
    (h : ∀ a ∈ w, (∀ Q : Bool → Prop, Q (p a) → tt (env.set i (.val (.int (a : Nat)))) Q noX) ∧ (p a = true → ∀ Q : R → Prop, Q (.val (.int (a : Nat))) → te (env.set i (.val (.int (a : Nat)))) Q noX)) (hq : q (nD (w.filter p))) : dLcL (gN i) tt te (nD w) env q :=
  lc_N p _ (fun a m => ⟨_, rfl, (h a m).1, (h a m).2⟩) hq
theorem lc_bN {w : List Nat} {i : Nat} {te : DE} {env : SE} {q : List D → Prop} (p : Nat → Bool)
    (h : ∀ a ∈ w, ∀ Q : R → Prop, Q (.val (.bl (p a))) → te (env.set i (.val (.int (a : Nat)))) Q noX) (hq : q ((w.map p).map D.bl)) : dLcL (gN i) dYes te (nD w) env q := by
  refine lc_all (fun i : Nat => D.int i) (fun a => .bl (p a)) (fun a m => ⟨_, rfl, h a m⟩) ?_
  rw [List.map_map] at hq
  exact hq
theorem nD_snoc (L : List Nat) (i : Nat) : nD L ++ [D.int (i : Nat)] = nD (L ++ [i]) := by simp [nD]
theorem and1N (a : Nat) : andD (.int (a : Nat)) (.int 1) = some (.int ((a &&& 1 : Nat) : Int)) := andN a 1
theorem bitP1 (a i : Nat) : (((a / 2 ^ i &&& 1 : Nat) : Int) = 1) = (a.testBit i = true) := by
  have := bit_eq a i
  rw [← this, decide_eq_true_eq]
theorem bitP0 (a i : Nat) : (((a / 2 ^ i &&& 1 : Nat) : Int) = 0) = (a.testBit i = false) := by
  have h := bitP1 a i
  have h2 : (a / 2 ^ i &&& 1) < 2 := by rw [Nat.and_one_is_mod]; omega
  generalize (a / 2 ^ i &&& 1) = z at h h2
  cases c : a.testBit i with
  | true =>
    rw [c] at h
    have h3 : (z : Int) = 1 := by rw [h]
    rw [h3]; simp
  | false =>
    rw [c] at h
    have h3 : ¬ (z : Int) = 1 := by rw [h]; simp
    have h4 : (z : Int) = 0 := by omega
    rw [h4]; simp
theorem has_way_ap {ms : List Nat} {m : Nat} {q : D → Prop} {x : XP} : F_has_way [wayD ms, .int (m : Nat)] q x ↔ q (.bl (ms.any (subM m))) := by
  constructor
  · rintro ⟨d, ms', m', e, hd, h⟩
    simp only [List.cons.injEq, and_true] at e
    obtain ⟨e1, e2⟩ := e
    cases natInt_inj e2
    rcases hd with z | z
    · rw [z] at e1; cases wayD_inj e1; exact h
    · rw [z] at e1; cases e1
  · exact fun h => ⟨_, _, _, rfl, .inl rfl, h⟩
theorem first_way_ap {ms : List Nat} {m : Nat} {q : D → Prop} {x : XP} : F_first_way [wayD ms, .int (m : Nat)] q x ↔ q (fstD ms m) := by
  constructor
  · rintro ⟨d, ms', m', e, hd, h⟩
    simp only [List.cons.injEq, and_true] at e
    obtain ⟨e1, e2⟩ := e
    cases natInt_inj e2
    rcases hd with z | z
    · rw [z] at e1; cases wayD_inj e1; exact h
    · rw [z] at e1; cases e1
  · exact fun h => ⟨_, _, _, rfl, .inl rfl, h⟩
local macro_rules | `(tactic| walk_at "v1") => `(tactic| try simp only [dVar_app, dC_app, dOp_app, dTest_app, dChain_app, dAnd_app, dOr_app, dNot_app, dAndT_app, dOrT_app, dNotT_app, dIf_app, dNil_app, dCons_app, dTup_app, dLst_app, dCall_app, dBlt_app, dIsi_app, dNoPart_app, dPart_app, dSl_app, dNext_app, dBreak_app, dCont_app, dRet_app, dRetOwn_app, dRetN_app, dDrop_app, dFreeze_app, dSet_app, dFLst_app, dOfF_app, dSetOwn_app, dAppend_app, dInsert_app, dFNil_app, dFVal_app, dFOwn_app, dPar_app, dUnpack_app, iSeq_app, iRange1_app, iRange2_app, dFor_app, dYes_app, dLc_app, dNeg_app, dSetLcV_app, dNever_app, iEnumD_app, dFld_app, dMeth0_app, dProp_app, dRaise_app, dMake_app, dDc_app, dDGet_app, dLocked_app, iKeysD_app, dPenGet_app, dPenSet_app, dRetPen_app, dRev_app, dJoin_app, dDict0_app, dDict1_app, dInC_app, dBits_app, ex_false, nD_snoc, and1N, bitP1, bitP0, has_way_ap, first_way_ap, eqD_int, neD_int, addN, add1N, orN, andN, xorN, ltN, gtN, shrN, inn, notInn, inlst, notinlst, eqD_way, neD_way, eqD_nonway, eqD_waynon, eqD_lst, neD_lst, eqD_bl, isN_way, isNot_way, isN_non, isNot_non, isN_int, isNot_int, len_way, len_book, len_masks, len_entry, len_lst, len_tup, tup_lst, tup_tup, tup_way, lst_way, lst_lst, int_int, way_nD, all_bl, any_bl, rngD_nD, rngD_len, len_nD, Int.toNat_natCast, ex_nil', ex_cons', ex_val, ex_vald, ex_bl, ex_sbl, ex_int, ex_lst, ex_tup, ex_own, ex_vtup, no_lt, no_tl, ex_way_lst, ex_way_tup, ex_book_lst, ex_book_tup, ex_entry_lst, ex_entry_tup, ex_fld_book, ex_fld_ways, len_ap, mask_of_ap, items_of_ap, all_items_ap, lies_within_ap, is_set_ap, is_item_ap, draw_ap, pen_ap, book_ap, init_ap, beq_self_eq_true, reduceCtorEq, if_false, Nat.zero_le, allVal, wipeE, setE, RF.ev, R.d, R.isVal, noLst, startE, List.map_cons, List.map_nil, List.set_cons_zero, List.set_cons_succ, List.getElem?_cons_zero, List.getElem?_cons_succ, List.length_cons, List.length_nil, List.replicate, List.cons_append, List.nil_append, List.append_nil, List.length_map, List.length_range, Nat.reduceSub, Nat.reduceAdd, Bool.not_true, Bool.not_false, Bool.not_not, Bool.false_eq_true, if_true, if_false, decide_eq_true_eq, eq_self, true_and, and_true, true_or, or_true, false_or, or_false, false_and, and_false, Bool.not_eq_true', decide_eq_false_iff_not, ite_not, exists_eq_left, exists_eq_left'])
/-- w is a state of the course with the tidy ways kb -/
structure StW (kb : List Entry) (w : List Nat) : Prop where
  asc : w.Pairwise (· < ·)
  lt : ∀ i ∈ w, i < kb.length
  grt : Grt [mskB kb] (maskN w) (maskN w)
theorem StW.of_greatest {kb : List Entry} {w : List Nat} {r : Nat} (hw : ∀ i ∈ w, i < kb.length) (h : Grt [mskB kb] (restM kb.length w) r) : StW kb (bitsN r) :=
  ⟨bitsN_asc _, fun i hi => ((restM_bit hw i).mp (h.sub i (bitsN_mem.mp hi))).1, by rw [mask_bitsN]; exact st_greatest h⟩
theorem isSet_of {n : Nat} {w : List Nat} (h1 : w.Pairwise (· < ·)) (h2 : ∀ i ∈ w, i < n) : isSet (n : Nat) (wayD w) = true := isSetL_way n _ 0 h1 fun i hi => ⟨Nat.zero_le _, h2 i hi⟩
theorem contains_ap {C : Addr} {kb : List Entry} {v : D} {q : D → Prop} {x : XP} (hk : kb.length ≤ 24) (hp : pl v = true) (h : ∀ b : Bool, (b = true ↔ ∃ w, v = wayD w ∧ StW kb w) → q (.bl b)) : F_Course___contains__ C [crsD C kb, v] q x := by
  refine ⟨kb, v, rfl, hk, hp, fun e => h false ?_, fun w e h1 h2 b hb => h b ?_⟩
  · constructor
    · intro z; cases z
    · rintro ⟨w, rfl, hs⟩
      rw [isSet_of hs.asc hs.lt] at e; cases e
  · rw [hb]
    constructor
    · exact fun g => ⟨w, e, h1, h2, g⟩
    · rintro ⟨u, e2, hs⟩
      rw [e] at e2; cases wayD_inj e2; exact hs.grt
theorem contains_way {C : Addr} {kb : List Entry} {w : List Nat} {q : D → Prop} {x : XP} (hk : kb.length ≤ 24) (h : ∀ b : Bool, (b = true ↔ StW kb w) → q (.bl b)) : F_Course___contains__ C [crsD C kb, wayD w] q x :=
  contains_ap hk (pl_way w) fun b hb => h b (hb.trans ⟨fun ⟨u, e, s⟩ => by cases wayD_inj e; exact s, fun s => ⟨w, rfl, s⟩⟩)
theorem contains_st {C : Addr} {kb : List Entry} {w : List Nat} {q : D → Prop} {x : XP} (hk : kb.length ≤ 24) (hs : StW kb w) (h : q (.bl true)) : F_Course___contains__ C [crsD C kb, wayD w] q x :=
  contains_way hk fun b hb => by cases b with | true => exact h | false => exact absurd (hb.mpr hs) (by simp)
theorem greatest_ap {C X : Addr} {kb : List Entry} {w : List Nat} {q : D → Prop} {x : XP} (hk : kb.length ≤ 24) (h1 : w.Pairwise (· < ·)) (h2 : ∀ i ∈ w, i < kb.length) (h : ∀ r : Nat, Grt [mskB kb] (restM kb.length w) r → q (wayD (bitsN r))) : F_greatest C X [crsD C kb, wayD w] q x :=
  ⟨kb, wayD w, rfl, hk, pl_way w, fun e => (by rw [isSet_of h1 h2] at e; cases e), fun u e _ _ r hr => by rw [← wayD_inj e] at hr; exact h r hr⟩
/-! ### ready -/
/-! ### state_of -/
/-! ### lasts -/
theorem mask_less {w : List Nat} {i : Nat} (hi : i ∈ w) : maskN w ^^^ 2 ^ i = maskN (w.filter fun j => !decide (j = i)) := by
  apply Nat.eq_of_testBit_eq
  intro j
  rw [Nat.testBit_xor, maskN_bit, maskN_bit, Nat.testBit_two_pow]
  by_cases c : i = j
  · subst c; simp [hi]
  · have : ¬ j = i := fun z => c z.symm
    by_cases d : j ∈ w <;> simp [c, d, this]
theorem asc_short {n : Nat} {w : List Nat} (h1 : w.Pairwise (· < ·)) (h2 : ∀ i ∈ w, i < n) : w.length ≤ n := by
  have := asc_len (n := n) w 0 h1 fun i hi => ⟨Nat.zero_le _, h2 i hi⟩
  omega
/-! ### the first order of a state -/
structure FO (ms : List MBook) (st : Nat) (L : List Nat) : Prop where
  mem : ∀ i, i ∈ L ↔ st.testBit i = true
  nd : L.Nodup
  step : ∀ p i s, L = p ++ i :: s → canF ms i (maskN p) = true ∧ ∀ j, st.testBit j = true → j ∉ p → canF ms j (maskN p) = true → i ≤ j
theorem bit_lt {st i n : Nat} (h : st < 2 ^ n) (hi : st.testBit i = true) : i < n := by
  by_cases c : i < n
  · exact c
  · have h2 := Nat.ge_two_pow_of_testBit hi
    have := Nat.pow_le_pow_right (n := 2) (by omega) (Nat.le_of_not_lt c)
    omega
theorem grows {ms : List MBook} {st d : Nat} (h : Grt ms st st) (hs : Sub d st) (hn : d ≠ st) : ∃ i, st.testBit i = true ∧ d.testBit i = false ∧ canF ms i d = true := by
  apply Classical.byContradiction
  intro c
  refine hn (hs.eq (h.least d fun i hi hc => ?_))
  cases z : d.testBit i with
  | true => rfl
  | false => exact absurd ⟨i, hi, z, hc⟩ c
structure FI (ms : List MBook) (st : Nat) (L : List Nat) : Prop where
  sub : ∀ i ∈ L, st.testBit i = true
  nd : L.Nodup
  step : ∀ p i s, L = p ++ i :: s → canF ms i (maskN p) = true ∧ ∀ j, st.testBit j = true → j ∉ p → canF ms j (maskN p) = true → i ≤ j
theorem nodup_le : ∀ (n : Nat) (L : List Nat), L.Nodup → (∀ i ∈ L, i < n) → L.length ≤ n
  | 0, L, _, h => by cases L with | nil => simp | cons a _ => exact absurd (h a List.mem_cons_self) (by omega)
  | n + 1, L, nd, h => by
    have e := nodup_le n (L.erase n) (nd.erase n) fun i hi => by
      have := (nd.mem_erase_iff).mp hi
      have := h i this.2
      omega
    have := List.length_erase (a := n) (l := L)
    split at this <;> omega
theorem FI.len {ms : List MBook} {st : Nat} {L : List Nat} (h : FI ms st L) (h24 : st < 2 ^ 24) : L.length ≤ 24 :=
  nodup_le 24 L h.nd fun i hi => bit_lt h24 (h.sub i hi)
theorem FI.add {ms : List MBook} {st : Nat} {L : List Nat} {i : Nat} (h : FI ms st L) (h1 : st.testBit i = true) (h2 : i ∉ L) (h3 : canF ms i (maskN L) = true) (h4 : ∀ j, st.testBit j = true → j ∉ L → canF ms j (maskN L) = true → i ≤ j) : FI ms st (L ++ [i]) := by
  refine ⟨fun j hj => ?_, ?_, fun p j s e => ?_⟩
  · rcases List.mem_append.mp hj with z | z
    · exact h.sub j z
    · rw [List.mem_singleton.mp z]; exact h1
  · rw [List.nodup_append]
    exact ⟨h.nd, by simp, fun a ha b hb => by rw [List.mem_singleton.mp hb]; exact fun z => h2 (by rw [← z]; exact ha)⟩
  · rcases List.eq_nil_or_concat s with z | ⟨s', y, z⟩
    · subst z
      have e' : L ++ [i] = p ++ [j] := e
      obtain ⟨e1, e2⟩ := List.append_inj' e' rfl
      simp only [List.cons.injEq, and_true] at e2
      subst e1; subst e2
      exact ⟨h3, h4⟩
    · subst z
      rw [List.concat_eq_append] at e
      have e' : L ++ [i] = (p ++ j :: s') ++ [y] := by rw [e]; simp
      exact h.step p j s' (List.append_inj' e' rfl).1
/-! ### order_of -/
/-! ### helpers of the laws -/
theorem sorted_nD {w : List Nat} (hl : w.length < 64) : ∃ u : List Nat, u.Perm w ∧ u.Pairwise (· ≤ ·) ∧ sortedF [.lst (nD w)] = some (.lst (nD u)) := by
  have sp := sortI_perm (w.map fun (i : Nat) => (i : Int))
  have so := sortI_sorted (w.map fun (i : Nat) => (i : Int))
  have e : (sortI (w.map fun (i : Nat) => (i : Int))) = ((sortI (w.map fun (i : Nat) => (i : Int))).map Int.toNat).map fun (i : Nat) => (i : Int) := by
    rw [List.map_map]
    have : ∀ l : List Int, (∀ i ∈ l, 0 ≤ i) → l = l.map ((fun (i : Nat) => (i : Int)) ∘ Int.toNat) := fun l => by
      induction l with
      | nil => simp
      | cons a l ih =>
        intro h
        rw [List.map_cons, ← ih fun i hi => h i (List.mem_cons_of_mem _ hi)]
        have := h a List.mem_cons_self
        congr 1
        show a = ((a.toNat : Nat) : Int)
        omega
    refine this _ fun i hi => ?_
    obtain ⟨j, _, rfl⟩ := List.mem_map.mp (sp.mem_iff.mp hi)
    omega
  refine ⟨(sortI (w.map fun (i : Nat) => (i : Int))).map Int.toNat, ?_, ?_, ?_⟩
  · have := sp.map Int.toNat
    rw [List.map_map] at this
    have h2 : (Int.toNat ∘ fun (i : Nat) => (i : Int)) = id := by funext i; simp
    rwa [h2, List.map_id] at this
  · rw [List.pairwise_map]
    exact so.imp fun h => by omega
  · rw [nD_iD, nD_iD]
    unfold sortedF
    simp only [intsOf_iD]
    rw [if_pos (by simpa using hl), ← e]
    rfl
theorem asc_nodup {u : List Nat} (h : u.Pairwise (· ≤ ·)) (nd : u.Nodup) : u.Pairwise (· < ·) := (h.and nd).imp fun ⟨a, b⟩ => by omega
def F_row : DF := fun ds q _ => ∃ n : Nat, ds = [.pen, .int (n : Nat)] ∧ n ≤ 1000 ∧ ∀ w : List Nat, w.Pairwise (· < ·) → (∀ i ∈ w, i < n) → q (wayD w)
theorem row_ap {n : Nat} {q : D → Prop} {x : XP} : F_row [.pen, .int (n : Nat)] q x ↔ n ≤ 1000 ∧ ∀ w : List Nat, w.Pairwise (· < ·) → (∀ i ∈ w, i < n) → q (wayD w) :=
  ⟨fun ⟨n', e, h⟩ => by simp only [List.cons.injEq, and_true, true_and] at e; cases natInt_inj e; exact h, fun h => ⟨n, rfl, h⟩⟩
def F_few : DF := fun ds q _ => ∃ n m : Nat, ds = [.pen, .int (n : Nat), .int (m : Nat)] ∧ 1 ≤ n ∧ n ≤ 1000 ∧ m ≤ 50 ∧ ∀ w : List Nat, w.Pairwise (· < ·) → (∀ i ∈ w, i < n) → w.length ≤ m → q (wayD w)
theorem few_ap {n m : Nat} {q : D → Prop} {x : XP} (h1 : 1 ≤ n) (h2 : n ≤ 1000) (h3 : m ≤ 50) (h : ∀ w : List Nat, w.Pairwise (· < ·) → (∀ i ∈ w, i < n) → w.length ≤ m → q (wayD w)) : F_few [.pen, .int (n : Nat), .int (m : Nat)] q x := ⟨n, m, rfl, h1, h2, h3, h⟩
def t__law_few (F__law_draw : DF) : DS := (dSeq (dSetOwn 3 (dFLst dNil)) (dSeq (dFor (iRange1 (dCall F__law_draw (dCons (dVar 0) (dCons (dOp addA (dVar 2) (dC (.int 1))) dNil)))) (gN 4) (dSeq (dSet 5 (dCall F__law_draw (dCons (dVar 0) (dCons (dVar 1) dNil)))) (dIfS (dTest (dOp notInD (dVar 5) (dVar 3))) (dAppend 3 (dVar 5)) dNext))) (dRet (dBlt tupF (dCons (dBlt sortedF (dCons (dOfF (dLc [5] (iSeq (dVar 3)) (gN 5) dYes (dBlt intF (dCons (dVar 5) dNil)))) dNil)) dNil)))))
theorem nD_map (w : List Nat) : w.map (fun i : Nat => D.int (i : Nat)) = nD w := rfl
theorem s__law_few : ∀ ds q x, F_few ds q x → ds.length = 3 ∧ t__law_few F__law_draw { nx := fun _ => q .non, rt := q, ex := x } (startE 6 ds) := by
  rintro ds q x ⟨n, m, rfl, h1, h2, h3, hq⟩
  refine ⟨rfl, ?_⟩
  unfold t__law_few
  refine w_seq fun k hk => ?_
  walk_at "v1"
  refine hk _ (w_seq fun k hk => ?_)
  walk_at "v1"
  refine ⟨by omega, by omega, fun t ht => ⟨by omega, by omega, ?_⟩⟩
  refine for_inv (fun i : Nat => D.int (i : Nat)) (fun l env => ∃ o4 o5, ∃ w : List Nat, env = [.val .pen, .val (.int (n : Nat)), .val (.int (m : Nat)), .own (nD w), o4, o5] ∧ w.Nodup ∧ (∀ i ∈ w, i < n) ∧ w.length + l.length ≤ m) ⟨_, _, [], rfl, .nil, by simp, by simp; omega⟩ ?_ ?_
  · rintro a r env k2 ha ⟨o4, o5, w, rfl, w1, w2, w3⟩ hk2
    refine ⟨_, rfl, w_seq fun k3 hk3 => ?_⟩
    walk_at "v1"
    refine ⟨by omega, by omega, fun i hi => hk3 _ (w_if fun A B hA hB => ?_)⟩
    walk_at "v1"
    rw [List.length_cons] at w3
    split
    · rename_i c
      refine hB ?_
      walk_at "v1"
      exact hk2 _ ⟨_, _, w, rfl, w1, w2, by omega⟩
    · rename_i c
      refine hA ?_
      walk_at "v1"
      refine ⟨by omega, hk2 _ ⟨_, _, w ++ [i], rfl, ?_, fun j hj => ?_, by rw [List.length_append, List.length_singleton]; omega⟩⟩
      · rw [List.nodup_append]
        exact ⟨w1, by simp, fun a ha b hb => by rw [List.mem_singleton.mp hb]; exact fun z => c (by rw [← z]; exact ha)⟩
      · rcases List.mem_append.mp hj with z | z
        · exact w2 j z
        · rw [List.mem_singleton.mp z]; omega
  · rintro env ⟨o4, o5, w, rfl, w1, w2, w3⟩
    refine hk _ ?_
    rw [List.length_nil] at w3
    walk_at "v1"
    refine ⟨by omega, lc_all (fun i : Nat => D.int (i : Nat)) (fun i : Nat => D.int (i : Nat)) (fun i hi => ⟨_, rfl, fun Q h => ?_⟩) ?_⟩
    · walk_at "v1"
      exact h
    · obtain ⟨u, hp, hs, e⟩ := sorted_nD (w := w) (by omega)
      rw [nD_map, e]
      walk_at "v1"
      have hu := asc_nodup hs (hp.nodup_iff.mpr w1)
      exact hq u hu (fun i hi => w2 i (hp.mem_iff.mp hi)) (by rw [hp.length_eq]; omega)
/-! ### _law_is over plain trees -/
theorem reprOk_way {w : List Nat} (hl : w.length ≤ 1000) (h : ∀ i ∈ w, i < 1000000) : ReprOk (wayD w) := by
  refine repr_atoms (fun d hd => ?_) (by rw [len_nD]; exact hl)
  obtain ⟨i, hi, rfl⟩ := List.mem_map.mp hd
  exact atom_nat (h i hi)

/-! ### the head of a law: each cell of a script -/
theorem law_any {K : Int} {body : DS} {ns : List Int} {q : D → Prop} {x : XP} {N : Nat} (I : SE → Prop) (hl : ns.length ≤ 63) (hq : q (.bl true)) (h0 : I (startE (N + 1) [.scr (iD ns)]))
    (h : ∀ (J : DEnds) (z : Int) env, I env → (∀ e, I e → J.nx e) → body J (env.set 1 (.val (.int z)))) :
    dSeq (dFor (iSeq (dOp addA (dLst (dCons (dCall F__law_cell_at (dCons (dVar 0) (dCons (dC (.int 0)) dNil))) dNil)) (dSl (dVar 0) (dPart (dC (.int 1))) (dPart (dC (.int K)))))) (gN 1) body) (dRet (dC (.bl true))) { nx := fun _ => q .non, rt := q, ex := x } (startE (N + 1) [.scr (iD ns)]) := by
  refine w_seq fun k hk => ?_
  have h00 : (startE (N + 1) [D.scr (iD ns)])[0]? = some (.val (.scr (iD ns))) := by simp [startE]
  simp only [dFor_app, iSeq_app, dOp_app, dLst_app, dCons_app, dCall_app, dVar_app, dC_app, dNil_app, dSl_app, dPart_app, h00, List.map_cons, List.map_nil, R.d, allVal]
  refine .inl ⟨ns, rfl, fun z => ⟨.inr rfl, [.int z], rfl, by simp, 1, rfl, K, rfl, .lst (cutD (iD ns) (some 1) (some K)), rfl, _, catL ?_, _, rfl, rfl, ?_⟩⟩
  · have := (cut_ints ns (some 1) (some K)).2
    simp
    omega
  refine for_anyD I h0 (fun a env k2 ha hi hk2 => ?_) fun env hi => hk _ ?_
  · have : ∃ z, a = D.int z := by
      rcases List.mem_append.mp ha with z1 | z1
      · exact ⟨z, List.mem_singleton.mp z1⟩
      · exact (cut_ints ns (some 1) (some K)).1 a z1
    obtain ⟨z, rfl⟩ := this
    exact ⟨_, rfl, h _ z env hi hk2⟩
  · walk_at "v1"
    exact hq

/-! ### law k15 -/
theorem eqD_lst_nil (u : List Nat) : eqD (.lst (nD u)) (.lst []) = some (.bl (decide (u = []))) := eqD_lst u []
theorem neD_lst_nil (u : List Nat) : neD (.lst (nD u)) (.lst []) = some (.bl (!decide (u = []))) := neD_lst u []
theorem StW.put {kb : List Entry} {w : List Nat} {i : Nat} (h : StW kb w) (hi : i < kb.length) (hc : canF [mskB kb] i (maskN w) = true) : StW kb (putN kb.length w i) :=
  ⟨putN_asc _ _ _, fun j hj => (putN_mem.mp hj).1, by rw [mask_put h.lt hi]; exact st_put h.grt hc⟩
theorem StW.grows {kb : List Entry} {u v : List Nat} (hv : StW kb v) (hs : ∀ i ∈ u, i ∈ v) (hn : ∃ i ∈ v, i ∉ u) : ∃ i ∈ v, i ∉ u ∧ canF [mskB kb] i (maskN u) = true := by
  have s : Sub (maskN u) (maskN v) := fun j hj => by rw [maskN_bit, decide_eq_true_eq] at hj ⊢; exact hs j hj
  obtain ⟨k, k1, k2⟩ := hn
  obtain ⟨i, a1, a2, a3⟩ := QD.grows hv.grt s fun e => by
    have : (maskN u).testBit k = (maskN v).testBit k := by rw [e]
    rw [maskN_bit, maskN_bit, decide_eq_true k1, decide_eq_false k2] at this
    cases this
  rw [maskN_bit, decide_eq_true_eq] at a1
  rw [maskN_bit, decide_eq_false_iff_not] at a2
  exact ⟨i, a1, a2, a3⟩
theorem asc_ext {u v : List Nat} (hu : u.Pairwise (· < ·)) (hv : v.Pairwise (· < ·)) (h : ∀ i, i ∈ u ↔ i ∈ v) : u = v := by
  refine List.Perm.eq_of_pairwise (le := (· < ·)) (fun a b _ _ h1 h2 => by omega) hu hv ?_
  exact (List.perm_ext_iff_of_nodup (hu.imp fun h => Nat.ne_of_lt h) (hv.imp fun h => Nat.ne_of_lt h)).mpr h
theorem mem_bits_greatest {kb : List Entry} {w : List Nat} {r i : Nat} (hw : ∀ i ∈ w, i < kb.length) (h : Grt [mskB kb] (restM kb.length w) r) (hi : i ∈ bitsN r) : i < kb.length ∧ i ∉ w := (restM_bit hw i).mp (h.sub i (bitsN_mem.mp hi))
/-- the greatest state holds every state that avoids the items -/
theorem greatest_holds {kb : List Entry} {w u : List Nat} {r : Nat} (hw : ∀ i ∈ w, i < kb.length) (h : Grt [mskB kb] (restM kb.length w) r) (hu : StW kb u) (hd : ∀ i ∈ u, i ∉ w) : ∀ i ∈ u, i ∈ bitsN r := fun i hi => by
  refine bitsN_mem.mpr (st_within h hu.grt (fun j hj => ?_) i (by rw [maskN_bit, decide_eq_true_eq]; exact hi))
  rw [maskN_bit, decide_eq_true_eq] at hj
  exact (restM_bit hw j).mpr ⟨hu.lt j hj, hd j hj⟩
theorem putN_len {n i : Nat} {v : List Nat} (ha : v.Pairwise (· < ·)) (hl : ∀ j ∈ v, j < n) (hi : i < n) (hn : i ∉ v) : (putN n v i).length = v.length + 1 := by
  have e : (putN n v i).Perm (i :: v) := (List.perm_ext_iff_of_nodup ((putN_asc n v i).imp fun h => Nat.ne_of_lt h) (List.nodup_cons.mpr ⟨hn, ha.imp fun h => Nat.ne_of_lt h⟩)).mpr fun j => by
    rw [putN_mem, List.mem_cons]
    constructor
    · rintro ⟨_, z | z⟩
      · exact .inr z
      · exact .inl z
    · rintro (z | z)
      · subst z; exact ⟨hi, .inr rfl⟩
      · exact ⟨hl j z, .inl z⟩
  rw [e.length_eq, List.length_cons]
theorem natCast_eq (a b : Nat) : ((a : Int) = (b : Int)) = (a = b) := by
  apply propext; constructor
  · intro h; omega
  · rintro rfl; rfl
theorem tup_nil : D.tup [] = wayD [] := rfl
theorem isi_way (w : List Nat) : isiD (wayD w) "tuple" = some true := isi_tup (pl_way w)
/-- a loop over range(n), by the turn's number -/
theorem for_range {g : DG} {body : DS} {J : DEnds} {n : Nat} (I : Nat → SE → Prop) {env : SE} (h0 : I 0 env)
    (st : ∀ i, i < n → ∀ env (k : SE → Prop), I i env → (∀ e, I (i + 1) e → k e) → ∃ env', g (.int (i : Nat)) env = some env' ∧ body ⟨k, J.rt, J.nx, k, J.ex⟩ env') (e : ∀ env, I n env → J.nx env) : dForL g body J (nD (List.range n)) env := by
  refine for_inv (fun i : Nat => D.int (i : Nat)) (fun l env => ∃ i, i + l.length = n ∧ l = List.range' i l.length ∧ I i env) ⟨0, by simp, by rw [List.length_range, List.range_eq_range'], h0⟩ ?_ ?_
  · rintro a r env k _ ⟨i, h1, h2, h3⟩ hk
    rw [List.length_cons] at h1 h2
    rw [List.range'_succ] at h2
    obtain ⟨e1, e2⟩ := List.cons.inj h2
    subst e1
    exact st a (by omega) env k h3 fun e he => hk e ⟨a + 1, by omega, e2, he⟩
  · rintro env ⟨i, h1, _, h3⟩
    rw [List.length_nil] at h1
    exact e env (by rw [← h1]; exact h3)
/-! ### orders -/
theorem FO.prefix {ms : List MBook} {st : Nat} {L : List Nat} (h : FO ms st L) : ∀ (n : Nat) (p s : List Nat), p.length = n → L = p ++ s → Grt ms (maskN p) (maskN p)
  | 0, p, s, hn, _ => by
    rw [List.length_eq_zero_iff.mp hn]
    exact st_nil _
  | n + 1, p, s, hn, e => by
    rcases List.eq_nil_or_concat p with z | ⟨q, i, z⟩
    · subst z; simp at hn
    · rw [List.concat_eq_append] at z
      subst z
      rw [← maskN_snoc]
      exact st_put (FO.prefix h n q (i :: s) (by simpa using hn) (by rw [e]; simp)) (h.step q i s (by rw [e]; simp)).1
theorem mask_same {u v : List Nat} (h : ∀ i, i ∈ u ↔ i ∈ v) : maskN u = maskN v := by
  apply Nat.eq_of_testBit_eq
  intro i
  rw [maskN_bit, maskN_bit]
  exact decide_eq_decide.mpr (h i)

local macro_rules | `(tactic| walk_at "v2") => `(tactic| try simp only [dVar_app, dC_app, dOp_app, dTest_app, dChain_app, dAnd_app, dOr_app, dNot_app, dAndT_app, dOrT_app, dNotT_app, dIf_app, dNil_app, dCons_app, dTup_app, dLst_app, dCall_app, dBlt_app, dIsi_app, dNoPart_app, dPart_app, dSl_app, dNext_app, dBreak_app, dCont_app, dRet_app, dRetOwn_app, dRetN_app, dDrop_app, dFreeze_app, dSet_app, dFLst_app, dOfF_app, dSetOwn_app, dAppend_app, dInsert_app, dFNil_app, dFVal_app, dFOwn_app, dPar_app, dUnpack_app, iSeq_app, iRange1_app, iRange2_app, dFor_app, dYes_app, dLc_app, dNeg_app, dSetLcV_app, dNever_app, iEnumD_app, dFld_app, dMeth0_app, dProp_app, dRaise_app, dMake_app, dDc_app, dDGet_app, dLocked_app, iKeysD_app, dPenGet_app, dPenSet_app, dRetPen_app, dRev_app, dJoin_app, dDict0_app, dDict1_app, dInC_app, dBits_app, ex_false, nD_snoc, and1N, bitP1, bitP0, has_way_ap, first_way_ap, eqD_int, neD_int, addN, add1N, orN, andN, xorN, ltN, gtN, shrN, inn, notInn, inlst, notinlst, eqD_way, neD_way, eqD_nonway, eqD_waynon, eqD_lst, neD_lst, eqD_bl, isN_way, isNot_way, isN_non, isNot_non, isN_int, isNot_int, len_way, len_book, len_masks, len_entry, len_lst, len_tup, tup_lst, tup_tup, tup_way, lst_way, lst_lst, int_int, way_nD, all_bl, any_bl, rngD_nD, rngD_len, len_nD, Int.toNat_natCast, ex_nil', ex_cons', ex_val, ex_vald, ex_bl, ex_sbl, ex_int, ex_lst, ex_tup, ex_own, ex_vtup, no_lt, no_tl, ex_way_lst, ex_way_tup, ex_book_lst, ex_book_tup, ex_entry_lst, ex_entry_tup, ex_fld_book, ex_fld_ways, len_ap, mask_of_ap, items_of_ap, all_items_ap, lies_within_ap, is_set_ap, is_item_ap, draw_ap, pen_ap, book_ap, init_ap, beq_self_eq_true, reduceCtorEq, if_false, Nat.zero_le, allVal, wipeE, setE, RF.ev, R.d, R.isVal, noLst, startE, List.map_cons, List.map_nil, List.set_cons_zero, List.set_cons_succ, List.getElem?_cons_zero, List.getElem?_cons_succ, List.length_cons, List.length_nil, List.replicate, List.cons_append, List.nil_append, List.append_nil, List.length_map, List.length_range, Nat.reduceSub, Nat.reduceAdd, Bool.not_true, Bool.not_false, Bool.not_not, Bool.false_eq_true, if_true, if_false, decide_eq_true_eq, eq_self, true_and, and_true, true_or, or_true, false_or, or_false, false_and, and_false, Bool.not_eq_true', decide_eq_false_iff_not, ite_not, exists_eq_left, exists_eq_left', eqD_lst_nil, neD_lst_nil, row_ap, natCast_eq, tup_nil, isi_way])
/-- every state with the item has an item of w -/
def Gate (kb : List Entry) (w : List Nat) (i : Nat) : Prop := ∀ u, StW kb u → i ∈ u → ∃ j ∈ u, j ∈ w
noncomputable def gateB (kb : List Entry) (w : List Nat) (i : Nat) : Bool := @decide (Gate kb w i) (Classical.propDecidable _)
theorem gateB_iff {kb : List Entry} {w : List Nat} {i : Nat} : gateB kb w i = true ↔ Gate kb w i := by unfold gateB; exact @decide_eq_true_iff _ (Classical.propDecidable _)
theorem gateB_not {kb : List Entry} {w : List Nat} {i : Nat} : gateB kb w i = false ↔ ¬ Gate kb w i := by rw [← gateB_iff, Bool.not_eq_true]
theorem gate_greatest {kb : List Entry} {w : List Nat} {i r : Nat} (hw : ∀ i ∈ w, i < kb.length) (hr : Grt [mskB kb] (restM kb.length w) r) : Gate kb w i ↔ i ∉ bitsN r := by
  constructor
  · intro h hi
    obtain ⟨j, j1, j2⟩ := h _ (StW.of_greatest hw hr) hi
    exact (mem_bits_greatest hw hr j1).2 j2
  · intro h u hu hi
    apply Classical.byContradiction
    intro n
    exact h (greatest_holds hw hr hu (fun j hj c => n ⟨j, hj, c⟩) i hi)
theorem gateB_greatest {kb : List Entry} {w : List Nat} {i r : Nat} (hw : ∀ i ∈ w, i < kb.length) (hr : Grt [mskB kb] (restM kb.length w) r) : gateB kb w i = !r.testBit i := by
  have h := gate_greatest (i := i) hw hr
  rw [bitsN_mem] at h
  cases c : r.testBit i with
  | true => rw [c] at h; exact gateB_not.mpr fun z => h.mp z rfl
  | false => rw [c] at h; exact gateB_iff.mpr (h.mpr (by simp))
/-! ### check_gate -/
theorem isItem_nat {n i : Nat} (h : i < n) : isItem (n : Nat) (.int (i : Nat)) = true := by
  unfold isItem
  simp only [Bool.and_eq_true, decide_eq_true_eq]
  omega
/-! ### shuts_out, is_gate -/
def F_shuts_out : DF := fun ds q _ => ∃ (kb : List Entry) (g i : Nat), ds = [masksD kb, .int (g : Nat), .int (i : Nat)] ∧ kb.length ≤ 24 ∧ (∀ j, g.testBit j = true → j < kb.length) ∧ ∀ r, Grt [mskB kb] ((2 ^ kb.length - 1) ^^^ g) r → q (.bl (!r.testBit i))
def t_shuts_out (F_greatest_in : DF) (F_all_items : DF) : DS := (dRet (dOp eqD (dOp andD (dOp shrD (dCall F_greatest_in (dCons (dTup (dCons (dVar 0) dNil)) (dCons (dOp xorD (dCall F_all_items (dCons (dBlt lenF (dCons (dVar 0) dNil)) dNil)) (dVar 1)) dNil))) (dVar 2)) (dC (.int 1))) (dC (.int 0))))
theorem rest_bits {n g i : Nat} (hg : ∀ j, g.testBit j = true → j < n) : ((2 ^ n - 1) ^^^ g).testBit i = true ↔ i < n ∧ g.testBit i = false := by
  rw [Nat.testBit_xor, Nat.testBit_two_pow_sub_one]
  by_cases a : i < n
  · cases b : g.testBit i <;> simp [a]
  · cases b : g.testBit i
    · simp [a]
    · exact absurd (hg i b) a
theorem s_shuts_out : ∀ ds q x, F_shuts_out ds q x → ds.length = 3 ∧ t_shuts_out F_greatest_in F_all_items { nx := fun _ => q .non, rt := q, ex := x } (startE 3 ds) := by
  rintro ds q x ⟨kb, g, i, rfl, hk, hg, hq⟩
  refine ⟨rfl, ?_⟩
  unfold t_shuts_out
  walk_at "v2"
  have hb := fun j => rest_bits (n := kb.length) (g := g) (i := j) hg
  refine ⟨by decide, by omega, [mskB kb], _, by rw [masksD_eq]; rfl, ?_, fun m hm i hi => ?_, fun r hr => ?_⟩
  · have := small_mask hk fun j hj => ((hb j).mp hj).1
    omega
  · rw [List.mem_singleton] at hm
    rw [hm, mskB_len]
    exact ((hb i).mp hi).1
  · walk_at "v2"
    have := hq r hr
    cases c : r.testBit i <;> simpa [c] using this
theorem shuts_out_ap {kb : List Entry} {g i : Nat} {q : D → Prop} {x : XP} (hk : kb.length ≤ 24) (hg : ∀ j, g.testBit j = true → j < kb.length) (h : ∀ r, Grt [mskB kb] ((2 ^ kb.length - 1) ^^^ g) r → q (.bl (!r.testBit i))) : F_shuts_out [masksD kb, .int (g : Nat), .int (i : Nat)] q x := ⟨kb, g, i, rfl, hk, hg, h⟩
theorem shuts_out_way {kb : List Entry} {w : List Nat} {i : Nat} {q : D → Prop} {x : XP} (hk : kb.length ≤ 24) (h2 : ∀ i ∈ w, i < kb.length) (h : q (.bl (gateB kb w i))) : F_shuts_out [masksD kb, .int (maskN w : Nat), .int (i : Nat)] q x :=
  shuts_out_ap hk (bits_of h2) fun r hr => by rw [gateB_greatest h2 hr] at h; exact h
/-! ### more operations -/
theorem pts_entry (e : Entry) (n : Nat) : pts (e.map wayD) (n + 1) = true := by
  induction e with
  | nil => rfl
  | cons w e ih => rw [List.map_cons, pts, pt_way, ih]; rfl
theorem mem_entry {w : List Nat} {e : Entry} : wayD w ∈ e.map wayD ↔ w ∈ e := by
  rw [List.mem_map]
  exact ⟨fun ⟨u, h, k⟩ => by rw [← wayD_inj k]; exact h, fun h => ⟨w, h, rfl⟩⟩
theorem in_entry (w : List Nat) (e : Entry) : inD (wayD w) (entryD e) = some (.bl (decide (w ∈ e))) := by
  obtain ⟨c, ⟨z, _⟩, h⟩ := inB_pt (pt_way w 63) (pts_entry e 0)
  unfold inD entryD
  rw [z]
  rw [mem_entry] at h
  cases c <;> simp_all
theorem notin_entry (w : List Nat) (e : Entry) : notInD (wayD w) (entryD e) = some (.bl (!decide (w ∈ e))) := by
  obtain ⟨c, ⟨z, _⟩, h⟩ := inB_pt (pt_way w 63) (pts_entry e 0)
  unfold notInD entryD
  rw [z]
  rw [mem_entry] at h
  cases c <;> simp_all

local macro_rules | `(tactic| walk_at "v3") => `(tactic| try simp only [dVar_app, dC_app, dOp_app, dTest_app, dChain_app, dAnd_app, dOr_app, dNot_app, dAndT_app, dOrT_app, dNotT_app, dIf_app, dNil_app, dCons_app, dTup_app, dLst_app, dCall_app, dBlt_app, dIsi_app, dNoPart_app, dPart_app, dSl_app, dNext_app, dBreak_app, dCont_app, dRet_app, dRetOwn_app, dRetN_app, dDrop_app, dFreeze_app, dSet_app, dFLst_app, dOfF_app, dSetOwn_app, dAppend_app, dInsert_app, dFNil_app, dFVal_app, dFOwn_app, dPar_app, dUnpack_app, iSeq_app, iRange1_app, iRange2_app, dFor_app, dYes_app, dLc_app, dNeg_app, dSetLcV_app, dNever_app, iEnumD_app, dFld_app, dMeth0_app, dProp_app, dRaise_app, dMake_app, dDc_app, dDGet_app, dLocked_app, iKeysD_app, dPenGet_app, dPenSet_app, dRetPen_app, dRev_app, dJoin_app, dDict0_app, dDict1_app, dInC_app, dBits_app, ex_false, nD_snoc, and1N, bitP1, bitP0, has_way_ap, first_way_ap, eqD_int, neD_int, addN, add1N, orN, andN, xorN, ltN, gtN, shrN, inn, notInn, inlst, notinlst, eqD_way, neD_way, eqD_nonway, eqD_waynon, eqD_lst, neD_lst, eqD_bl, isN_way, isNot_way, isN_non, isNot_non, isN_int, isNot_int, len_way, len_book, len_masks, len_entry, len_lst, len_tup, tup_lst, tup_tup, tup_way, lst_way, lst_lst, int_int, way_nD, all_bl, any_bl, rngD_nD, rngD_len, len_nD, Int.toNat_natCast, ex_nil', ex_cons', ex_val, ex_vald, ex_bl, ex_sbl, ex_int, ex_lst, ex_tup, ex_own, ex_vtup, no_lt, no_tl, ex_way_lst, ex_way_tup, ex_book_lst, ex_book_tup, ex_entry_lst, ex_entry_tup, ex_fld_book, ex_fld_ways, len_ap, mask_of_ap, items_of_ap, all_items_ap, lies_within_ap, is_set_ap, is_item_ap, draw_ap, pen_ap, book_ap, init_ap, beq_self_eq_true, reduceCtorEq, if_false, Nat.zero_le, allVal, wipeE, setE, RF.ev, R.d, R.isVal, noLst, startE, List.map_cons, List.map_nil, List.set_cons_zero, List.set_cons_succ, List.getElem?_cons_zero, List.getElem?_cons_succ, List.length_cons, List.length_nil, List.replicate, List.cons_append, List.nil_append, List.append_nil, List.length_map, List.length_range, Nat.reduceSub, Nat.reduceAdd, Bool.not_true, Bool.not_false, Bool.not_not, Bool.false_eq_true, if_true, if_false, decide_eq_true_eq, eq_self, true_and, and_true, true_or, or_true, false_or, or_false, false_and, and_false, Bool.not_eq_true', decide_eq_false_iff_not, ite_not, exists_eq_left, exists_eq_left', eqD_lst_nil, neD_lst_nil, row_ap, natCast_eq, tup_nil, isi_way, in_entry, notin_entry])
/-! ### all states, by growing them -/
theorem mem_ways {w : List Nat} {L : List (List Nat)} : wayD w ∈ L.map wayD ↔ w ∈ L := mem_entry
theorem in_ways (w : List Nat) (L : List (List Nat)) : inD (wayD w) (.lst (L.map wayD)) = some (.bl (decide (w ∈ L))) := by
  obtain ⟨c, ⟨_, z⟩, h⟩ := inB_pt (pt_way w 63) (pts_entry L 0)
  unfold inD
  rw [z]
  rw [mem_ways] at h
  cases c <;> simp_all
theorem notin_ways (w : List Nat) (L : List (List Nat)) : notInD (wayD w) (.lst (L.map wayD)) = some (.bl (!decide (w ∈ L))) := by
  obtain ⟨c, ⟨_, z⟩, h⟩ := inB_pt (pt_way w 63) (pts_entry L 0)
  unfold notInD
  rw [z]
  rw [mem_ways] at h
  cases c <;> simp_all
theorem asc_card {u w : List Nat} (h : ∀ i ∈ u, i ∈ w) (nd : u.Nodup) : u.length ≤ w.length := by
  induction u generalizing w with
  | nil => simp
  | cons a u ih =>
    have hm := h a List.mem_cons_self
    have nd' := List.nodup_cons.mp nd
    have := ih (w := w.erase a) (fun i hi => (List.mem_erase_of_ne (fun z => nd'.1 (by rw [← z]; exact hi))).mpr (h i (List.mem_cons_of_mem _ hi))) nd'.2
    have e := List.length_erase_of_mem hm
    have := List.length_pos_of_mem hm
    rw [List.length_cons]
    omega
/-- states of every size lead to a state -/
theorem StP.chain {kb b : List Entry} (t : TidyB kb b) {w : List Nat} (h : StW kb w) : ∀ m, m ≤ w.length → ∃ u, StP b u ∧ (∀ i ∈ u, i ∈ w) ∧ u.length = m
  | 0, _ => ⟨[], .nil, by simp, rfl⟩
  | m + 1, hm => by
    obtain ⟨u, h1, h2, h3⟩ := StP.chain t h m (by omega)
    have hkl := t.len
    have hn : ∃ i ∈ w, i ∉ u := by
      apply Classical.byContradiction
      intro c
      have e : w = u := asc_ext h.asc h1.asc fun i => ⟨fun hi => by
        apply Classical.byContradiction
        intro d
        exact c ⟨i, hi, d⟩, h2 i⟩
      rw [e] at hm; omega
    obtain ⟨i, a1, a2, a3⟩ := h.grows h2 hn
    have hi := h.lt i a1
    refine ⟨putN b.length u i, .put h1 (by omega) ?_, fun j hj => ?_, ?_⟩
    · rw [← can_has t (by omega)]; exact a3
    · rcases (putN_mem.mp hj).2 with z | z
      · exact h2 j z
      · rw [z]; exact a1
    · rw [putN_len h1.asc h1.lt (by omega) a2, h3]
theorem asc_sub_len {u w : List Nat} (hu : u.Pairwise (· < ·)) (hw : w.Pairwise (· < ·)) (h : ∀ i ∈ u, i ∈ w) (hl : w.length ≤ u.length) : u = w := by
  refine asc_ext hu hw fun i => ⟨h i, fun hi => ?_⟩
  apply Classical.byContradiction
  intro c
  have : (i :: u).length ≤ w.length := by
    refine asc_card (fun j hj => ?_) (List.nodup_cons.mpr ⟨c, hu.imp fun h => Nat.ne_of_lt h⟩)
    rcases List.mem_cons.mp hj with z | z
    · rw [z]; exact hi
    · exact h j z
  rw [List.length_cons] at this
  omega
theorem StP.iff {kb b : List Entry} (t : TidyB kb b) {w : List Nat} : StP b w ↔ StW kb w := by
  have hkl := t.len
  constructor
  · exact fun h => ⟨h.asc, fun i hi => by have := h.lt i hi; omega, h.state t⟩
  · intro h
    obtain ⟨u, h1, h2, h3⟩ := StP.chain t h w.length (Nat.le_refl _)
    rw [← asc_sub_len h1.asc h.asc h2 (by omega)]
    exact h1
theorem has_ap {e : Entry} {row : List Nat} {q : D → Prop} {x : XP} : F__law_has [entryD e, wayD row] q x ↔ (∀ w ∈ e, w.length ≤ 1000) ∧ q (.bl (hasL e row)) := by
  constructor
  · rintro ⟨e', row', h, h2⟩
    simp only [List.cons.injEq, and_true] at h
    cases entryD_inj h.1
    cases wayD_inj h.2
    exact h2
  · exact fun h => ⟨e, row, rfl, h⟩
theorem tidy_self : ∀ b : List Entry, TidyB b b
  | [] => .nil
  | e :: b => .cons ⟨fun _ h => h, fun w h => ⟨w, h, fun _ i => i⟩, Nat.le_refl _⟩ (tidy_self b)
theorem ways_snoc (L : List (List Nat)) (w : List Nat) : L.map wayD ++ [wayD w] = (L ++ [w]).map wayD := by rw [List.map_append]; rfl

local macro_rules | `(tactic| walk_at "v4") => `(tactic| try simp only [dVar_app, dC_app, dOp_app, dTest_app, dChain_app, dAnd_app, dOr_app, dNot_app, dAndT_app, dOrT_app, dNotT_app, dIf_app, dNil_app, dCons_app, dTup_app, dLst_app, dCall_app, dBlt_app, dIsi_app, dNoPart_app, dPart_app, dSl_app, dNext_app, dBreak_app, dCont_app, dRet_app, dRetOwn_app, dRetN_app, dDrop_app, dFreeze_app, dSet_app, dFLst_app, dOfF_app, dSetOwn_app, dAppend_app, dInsert_app, dFNil_app, dFVal_app, dFOwn_app, dPar_app, dUnpack_app, iSeq_app, iRange1_app, iRange2_app, dFor_app, dYes_app, dLc_app, dNeg_app, dSetLcV_app, dNever_app, iEnumD_app, dFld_app, dMeth0_app, dProp_app, dRaise_app, dMake_app, dDc_app, dDGet_app, dLocked_app, iKeysD_app, dPenGet_app, dPenSet_app, dRetPen_app, dRev_app, dJoin_app, dDict0_app, dDict1_app, dInC_app, dBits_app, ex_false, nD_snoc, and1N, bitP1, bitP0, has_way_ap, first_way_ap, eqD_int, neD_int, addN, add1N, orN, andN, xorN, ltN, gtN, shrN, inn, notInn, inlst, notinlst, eqD_way, neD_way, eqD_nonway, eqD_waynon, eqD_lst, neD_lst, eqD_bl, isN_way, isNot_way, isN_non, isNot_non, isN_int, isNot_int, len_way, len_book, len_masks, len_entry, len_lst, len_tup, tup_lst, tup_tup, tup_way, lst_way, lst_lst, int_int, way_nD, all_bl, any_bl, rngD_nD, rngD_len, len_nD, Int.toNat_natCast, ex_nil', ex_cons', ex_val, ex_vald, ex_bl, ex_sbl, ex_int, ex_lst, ex_tup, ex_own, ex_vtup, no_lt, no_tl, ex_way_lst, ex_way_tup, ex_book_lst, ex_book_tup, ex_entry_lst, ex_entry_tup, ex_fld_book, ex_fld_ways, len_ap, mask_of_ap, items_of_ap, all_items_ap, lies_within_ap, is_set_ap, is_item_ap, draw_ap, pen_ap, book_ap, init_ap, beq_self_eq_true, reduceCtorEq, if_false, Nat.zero_le, allVal, wipeE, setE, RF.ev, R.d, R.isVal, noLst, startE, List.map_cons, List.map_nil, List.set_cons_zero, List.set_cons_succ, List.getElem?_cons_zero, List.getElem?_cons_succ, List.length_cons, List.length_nil, List.replicate, List.cons_append, List.nil_append, List.append_nil, List.length_map, List.length_range, Nat.reduceSub, Nat.reduceAdd, Bool.not_true, Bool.not_false, Bool.not_not, Bool.false_eq_true, if_true, if_false, decide_eq_true_eq, eq_self, true_and, and_true, true_or, or_true, false_or, or_false, false_and, and_false, Bool.not_eq_true', decide_eq_false_iff_not, ite_not, exists_eq_left, exists_eq_left', eqD_lst_nil, neD_lst_nil, row_ap, natCast_eq, tup_nil, isi_way, in_entry, notin_entry, in_ways, notin_ways, has_ap, ways_snoc])
structure Lev (b : List Entry) (t : Nat) (L : List (List Nat)) : Prop where
  nd : L.Nodup
  mem : ∀ w, w ∈ L ↔ StP b w ∧ w.length = t
structure Fou (b : List Entry) (t : Nat) (L : List (List Nat)) : Prop where
  nd : L.Nodup
  mem : ∀ w, w ∈ L ↔ StP b w ∧ w.length ≤ t
  up : L.Pairwise fun u v => u.length ≤ v.length
structure Grn (b : List Entry) (t : Nat) (P : List (List Nat)) (u : List Nat) (j : Nat) (G : List (List Nat)) : Prop where
  nd : G.Nodup
  ok : ∀ w ∈ G, StP b w ∧ w.length = t + 1
  old : ∀ v ∈ P, ∀ i, i < b.length → i ∉ v → hasL (b.getD i []) v = true → putN b.length v i ∈ G
  now : ∀ i, i < j → i ∉ u → hasL (b.getD i []) u = true → putN b.length u i ∈ G
/-! ### k04: sets, odd values -/
theorem law_is_ap {a b : Bool} {q : D → Prop} {x : XP} : F__law_is [.bl a, .bl b] q x ↔ q (.bl (a == b)) :=
  ⟨fun ⟨a', b', e, h⟩ => by simp only [List.cons.injEq, and_true, D.bl.injEq] at e; obtain ⟨rfl, rfl⟩ := e; exact h, fun h => ⟨a, b, rfl, h⟩⟩
theorem gt1N (a : Nat) : gtI (.int (a : Nat)) (.int 1) = some (.bl (decide (1 < a))) := gtN a 1
theorem rev_nD (w : List Nat) : (nD w).reverse = nD w.reverse := by unfold nD; rw [List.map_reverse]
local macro_rules | `(tactic| walk_at "v5") => `(tactic| try simp only [dVar_app, dC_app, dOp_app, dTest_app, dChain_app, dAnd_app, dOr_app, dNot_app, dAndT_app, dOrT_app, dNotT_app, dIf_app, dNil_app, dCons_app, dTup_app, dLst_app, dCall_app, dBlt_app, dIsi_app, dNoPart_app, dPart_app, dSl_app, dNext_app, dBreak_app, dCont_app, dRet_app, dRetOwn_app, dRetN_app, dDrop_app, dFreeze_app, dSet_app, dFLst_app, dOfF_app, dSetOwn_app, dAppend_app, dInsert_app, dFNil_app, dFVal_app, dFOwn_app, dPar_app, dUnpack_app, iSeq_app, iRange1_app, iRange2_app, dFor_app, dYes_app, dLc_app, dNeg_app, dSetLcV_app, dNever_app, iEnumD_app, dFld_app, dMeth0_app, dProp_app, dRaise_app, dMake_app, dDc_app, dDGet_app, dLocked_app, iKeysD_app, dPenGet_app, dPenSet_app, dRetPen_app, dRev_app, dJoin_app, dDict0_app, dDict1_app, dInC_app, dBits_app, ex_false, nD_snoc, and1N, bitP1, bitP0, has_way_ap, first_way_ap, eqD_int, neD_int, addN, add1N, orN, andN, xorN, ltN, gtN, shrN, inn, notInn, inlst, notinlst, eqD_way, neD_way, eqD_nonway, eqD_waynon, eqD_lst, neD_lst, eqD_bl, isN_way, isNot_way, isN_non, isNot_non, isN_int, isNot_int, len_way, len_book, len_masks, len_entry, len_lst, len_tup, tup_lst, tup_tup, tup_way, lst_way, lst_lst, int_int, way_nD, all_bl, any_bl, rngD_nD, rngD_len, len_nD, Int.toNat_natCast, ex_nil', ex_cons', ex_val, ex_vald, ex_bl, ex_sbl, ex_int, ex_lst, ex_tup, ex_own, ex_vtup, no_lt, no_tl, ex_way_lst, ex_way_tup, ex_book_lst, ex_book_tup, ex_entry_lst, ex_entry_tup, ex_fld_book, ex_fld_ways, len_ap, mask_of_ap, items_of_ap, all_items_ap, lies_within_ap, is_set_ap, is_item_ap, draw_ap, pen_ap, book_ap, init_ap, beq_self_eq_true, reduceCtorEq, if_false, Nat.zero_le, allVal, wipeE, setE, RF.ev, R.d, R.isVal, noLst, startE, List.map_cons, List.map_nil, List.set_cons_zero, List.set_cons_succ, List.getElem?_cons_zero, List.getElem?_cons_succ, List.length_cons, List.length_nil, List.replicate, List.cons_append, List.nil_append, List.append_nil, List.length_map, List.length_range, Nat.reduceSub, Nat.reduceAdd, Bool.not_true, Bool.not_false, Bool.not_not, Bool.false_eq_true, if_true, if_false, decide_eq_true_eq, eq_self, true_and, and_true, true_or, or_true, false_or, or_false, false_and, and_false, Bool.not_eq_true', decide_eq_false_iff_not, ite_not, exists_eq_left, exists_eq_left', eqD_lst_nil, neD_lst_nil, row_ap, natCast_eq, tup_nil, isi_way, in_entry, notin_entry, in_ways, notin_ways, has_ap, ways_snoc, law_is_ap, gt1N, neg_int, rev_nD])
local macro_rules | `(tactic| walk_at "v6") => `(tactic| try simp only [dVar_app, dC_app, dOp_app, dTest_app, dChain_app, dAnd_app, dOr_app, dNot_app, dAndT_app, dOrT_app, dNotT_app, dIf_app, dNil_app, dCons_app, dTup_app, dLst_app, dCall_app, dBlt_app, dIsi_app, dNoPart_app, dPart_app, dSl_app, dNext_app, dBreak_app, dCont_app, dRet_app, dRetOwn_app, dRetN_app, dDrop_app, dFreeze_app, dSet_app, dFLst_app, dOfF_app, dSetOwn_app, dAppend_app, dInsert_app, dFNil_app, dFVal_app, dFOwn_app, dPar_app, dUnpack_app, iSeq_app, iRange1_app, iRange2_app, dFor_app, dYes_app, dLc_app, dNeg_app, dSetLcV_app, dNever_app, iEnumD_app, dFld_app, dMeth0_app, dProp_app, dRaise_app, dMake_app, dDc_app, dDGet_app, dLocked_app, iKeysD_app, dPenGet_app, dPenSet_app, dRetPen_app, dRev_app, dJoin_app, dDict0_app, dDict1_app, dInC_app, dBits_app, ex_false, nD_snoc, and1N, bitP1, bitP0, has_way_ap, first_way_ap, eqD_int, neD_int, addN, add1N, orN, andN, xorN, ltN, gtN, shrN, inn, notInn, inlst, notinlst, eqD_way, neD_way, eqD_nonway, eqD_waynon, eqD_lst, neD_lst, eqD_bl, isN_way, isNot_way, isN_non, isNot_non, isN_int, isNot_int, len_way, len_book, len_masks, len_entry, len_lst, len_tup, tup_lst, tup_tup, tup_way, lst_way, lst_lst, int_int, way_nD, all_bl, any_bl, rngD_nD, rngD_len, len_nD, Int.toNat_natCast, ex_nil', ex_cons', ex_val, ex_vald, ex_bl, ex_sbl, ex_int, ex_lst, ex_tup, ex_own, ex_vtup, no_lt, no_tl, ex_way_lst, ex_way_tup, ex_book_lst, ex_book_tup, ex_entry_lst, ex_entry_tup, ex_fld_book, ex_fld_ways, len_ap, mask_of_ap, items_of_ap, all_items_ap, lies_within_ap, is_set_ap, is_item_ap, draw_ap, pen_ap, book_ap, init_ap, beq_self_eq_true, reduceCtorEq, if_false, Nat.zero_le, allVal, wipeE, setE, RF.ev, R.d, R.isVal, noLst, startE, List.map_cons, List.map_nil, List.set_cons_zero, List.set_cons_succ, List.getElem?_cons_zero, List.getElem?_cons_succ, List.length_cons, List.length_nil, List.replicate, List.cons_append, List.nil_append, List.append_nil, List.length_map, List.length_range, Nat.reduceSub, Nat.reduceAdd, Bool.not_true, Bool.not_false, Bool.not_not, Bool.false_eq_true, if_true, if_false, decide_eq_true_eq, eq_self, true_and, and_true, true_or, or_true, false_or, or_false, false_and, and_false, Bool.not_eq_true', decide_eq_false_iff_not, ite_not, exists_eq_left, exists_eq_left', eqD_lst_nil, neD_lst_nil, row_ap, natCast_eq, tup_nil, isi_way, in_entry, notin_entry, in_ways, notin_ways, ways_snoc])
/-! ### has a way within, of a list or of a tuple -/
def F_has2 : DF := fun ds q _ => ∃ e row v, ds = [entryD e, v] ∧ (v = wayD row ∨ v = .lst (nD row)) ∧ (∀ w ∈ e, w.length ≤ 1000) ∧ q (.bl (hasL e row))
theorem has2_way {e : Entry} {row : List Nat} {q : D → Prop} {x : XP} (h1 : ∀ w ∈ e, w.length ≤ 1000) (h : q (.bl (hasL e row))) : F_has2 [entryD e, wayD row] q x := ⟨e, row, _, rfl, .inl rfl, h1, h⟩
theorem has2_lst {e : Entry} {row : List Nat} {q : D → Prop} {x : XP} (h1 : ∀ w ∈ e, w.length ≤ 1000) (h : q (.bl (hasL e row))) : F_has2 [entryD e, .lst (nD row)] q x := ⟨e, row, _, rfl, .inr rfl, h1, h⟩
theorem s__law_has2 : ∀ ds q x, F_has2 ds q x → ds.length = 2 ∧ t__law_has { nx := fun _ => q .non, rt := q, ex := x } (startE 4 ds) := by
  rintro ds q x ⟨e, row, v, rfl, hv, hl, hq⟩
  refine ⟨rfl, ?_⟩
  have hin : ∀ i : Nat, inD (.int (i : Nat)) v = some (.bl (decide (i ∈ row))) := fun i => by
    rcases hv with rfl | rfl
    · exact inn i row
    · exact inlst i row
  unfold t__law_has
  refine w_seq fun k hk => ?_
  walk_at "v6"
  refine for_inv wayD (fun l env => (∃ o2 o3, env = [.val (entryD e), .val v, o2, o3]) ∧ hasL e row = hasL l row ∧ ∀ w ∈ l, w ∈ e) ⟨⟨_, _, rfl⟩, rfl, fun _ h => h⟩ ?_ ?_
  · rintro w l env k2 hw ⟨⟨o2, o3, rfl⟩, hh, hm⟩ hk2
    refine ⟨_, rfl, w_if fun A B hA hB => ?_⟩
    walk_at "v6"
    refine ⟨by have := hl w (hm w List.mem_cons_self); omega, ?_⟩
    refine lc_bN (fun i => decide (i ∈ row)) (fun i hi Q hQ => ?_) ?_
    · walk_at "v6"
      exact ⟨_, hin i, hQ⟩
    · walk_at "v6"
      have ec : hasL (w :: l) row = (w.all (fun i => decide (i ∈ row)) || hasL l row) := by simp [hasL]
      have em : (List.map (fun i => decide (i ∈ row)) w).all id = w.all fun i => decide (i ∈ row) := by rw [List.all_map]; rfl
      rw [em]
      cases c : w.all fun i => decide (i ∈ row) with
      | true =>
        rw [if_pos rfl]
        refine hA ?_
        walk_at "v6"
        rw [c, Bool.true_or] at ec
        rw [hh.trans ec] at hq
        exact hq
      | false =>
        rw [if_neg Bool.false_ne_true]
        refine hB ?_
        walk_at "v6"
        rw [c, Bool.false_or] at ec
        exact hk2 _ ⟨⟨_, _, rfl⟩, hh.trans ec, fun u hu => hm u (List.mem_cons_of_mem _ hu)⟩
  · rintro env ⟨⟨o2, o3, rfl⟩, hh, _⟩
    refine hk _ ?_
    walk_at "v6"
    have : hasL e row = false := hh
    rw [this] at hq
    exact hq

theorem getD_get {b : List Entry} {i : Nat} (h : i < b.length) : b[i]? = some (b.getD i []) := by rw [List.getD, List.getElem?_eq_getElem h]; rfl
theorem catLL {u v : List Nat} (h : u.length + v.length ≤ 10000) : addA (.lst (nD u)) (.lst (nD v)) = some (.lst (nD (u ++ v))) := by
  rw [show nD (u ++ v) = nD u ++ nD v from List.map_append ..]
  exact catL (by rw [len_nD, len_nD]; omega)
theorem mem_maskN {w : List Nat} {i : Nat} : (maskN w).testBit i = true ↔ i ∈ w := by rw [maskN_bit, decide_eq_true_eq]
/-! ### all that can be learned, round by round -/
structure TopI (b : List Entry) (av : List Nat) (t : Nat) (kn : List Nat) : Prop where
  nd : kn.Nodup
  lt : ∀ i ∈ kn, i < b.length
  off : ∀ i ∈ kn, i ∉ av
  low : ∀ s : Nat, (∀ i, (restM b.length av).testBit i = true → canF [mskB b] i s = true → s.testBit i = true) → ∀ i ∈ kn, s.testBit i = true
  far : t ≤ kn.length ∨ ∀ i, i < b.length → i ∉ av → hasL (b.getD i []) kn = true → i ∈ kn
theorem TopI.zero (b : List Entry) (av : List Nat) : TopI b av 0 [] := ⟨.nil, by simp, by simp, by simp, .inl (Nat.zero_le _)⟩
def freshN (b : List Entry) (av kn : List Nat) : List Nat := (List.range b.length).filter fun i => !decide (i ∈ kn ++ av) && hasL (b.getD i []) kn
theorem fresh_mem {b : List Entry} {av kn : List Nat} {i : Nat} : i ∈ freshN b av kn ↔ i < b.length ∧ i ∉ kn ∧ i ∉ av ∧ hasL (b.getD i []) kn = true := by
  unfold freshN
  rw [List.mem_filter, List.mem_range, Bool.and_eq_true, Bool.not_eq_true', decide_eq_false_iff_not, List.mem_append]
  constructor
  · rintro ⟨h1, h2, h3⟩
    exact ⟨h1, fun z => h2 (.inl z), fun z => h2 (.inr z), h3⟩
  · rintro ⟨h1, h2, h3, h4⟩
    exact ⟨h1, fun z => z.elim h2 h3, h4⟩
theorem TopI.next {b : List Entry} {av : List Nat} {t : Nat} {kn : List Nat} (h : TopI b av t kn) (hav : ∀ i ∈ av, i < b.length) : TopI b av (t + 1) (kn ++ freshN b av kn) := by
  refine ⟨?_, fun i hi => ?_, fun i hi => ?_, fun s hs i hi => ?_, ?_⟩
  · rw [List.nodup_append]
    refine ⟨h.nd, List.nodup_range.sublist List.filter_sublist, fun x hx y hy e => ?_⟩
    subst e
    exact (fresh_mem.mp hy).2.1 hx
  · rcases List.mem_append.mp hi with z | z
    · exact h.lt i z
    · exact (fresh_mem.mp z).1
  · rcases List.mem_append.mp hi with z | z
    · exact h.off i z
    · exact (fresh_mem.mp z).2.2.1
  · rcases List.mem_append.mp hi with z | z
    · exact h.low s hs i z
    · obtain ⟨h1, h2, h3, h4⟩ := fresh_mem.mp z
      refine hs i ((restM_bit hav i).mpr ⟨h1, h3⟩) (canF_mono (d := maskN kn) (fun j hj => h.low s hs j (mem_maskN.mp hj)) ?_)
      rw [can_has (tidy_self b) h1]
      exact h4
  · by_cases c : freshN b av kn = []
    · refine .inr fun i h1 h2 h3 => ?_
      rw [c, List.append_nil] at h3 ⊢
      apply Classical.byContradiction
      intro z
      have := fresh_mem.mpr ⟨h1, z, h2, h3⟩
      rw [c] at this
      cases this
    · have : 0 < (freshN b av kn).length := List.length_pos_iff.mpr c
      rcases h.far with z | z
      · exact .inl (by rw [List.length_append]; omega)
      · obtain ⟨i, hi⟩ := List.exists_mem_of_ne_nil _ c
        obtain ⟨h1, h2, h3, h4⟩ := fresh_mem.mp hi
        exact absurd (z i h1 h3 h4) h2
theorem TopI.end_ {b : List Entry} {av kn : List Nat} (h : TopI b av b.length kn) (hav : ∀ i ∈ av, i < b.length) : Grt [mskB b] (restM b.length av) (maskN kn) := by
  refine ⟨fun i hi => ?_, fun i hi hc => ?_, fun s hs i hi => h.low s hs i (mem_maskN.mp hi)⟩
  · have := mem_maskN.mp hi
    exact (restM_bit hav i).mpr ⟨h.lt i this, h.off i this⟩
  · obtain ⟨h1, h2⟩ := (restM_bit hav i).mp hi
    rw [can_has (tidy_self b) h1] at hc
    refine mem_maskN.mpr ?_
    rcases h.far with z | z
    · apply Classical.byContradiction
      intro c
      have := nodup_le b.length (i :: kn) (List.nodup_cons.mpr ⟨c, h.nd⟩) fun j hj => by
        rcases List.mem_cons.mp hj with y | y
        · omega
        · exact h.lt j y
      simp at this
      omega
    · exact z i h1 h2 hc
def t__law_top (F__law_has : DF) : DS := (dSeq (dSet 2 (dLst dNil)) (dSeq (dFor (iRange1 (dBlt lenF (dCons (dVar 0) dNil))) (gN 3) (dSet 2 (dOp addA (dVar 2) (dOfF (dLc [4] (iRange1 (dBlt lenF (dCons (dVar 0) dNil))) (gN 4) (dAndT (dTest (dOp notInD (dVar 4) (dOp addA (dVar 2) (dBlt lstF (dCons (dVar 1) dNil))))) (dTest (dCall F__law_has (dCons (dOp ixD (dVar 0) (dVar 4)) (dCons (dVar 2) dNil))))) (dVar 4)))))) (dRet (dBlt tupF (dCons (dOfF (dLc [4] (iRange1 (dBlt lenF (dCons (dVar 0) dNil))) (gN 4) (dTest (dOp inD (dVar 4) (dVar 2))) (dVar 4))) dNil)))))

def F_top : DF := fun ds q _ => ∃ b av, ds = [bookD b, wayD av] ∧ BookOk b ∧ (∀ i ∈ av, i < b.length) ∧ av.length ≤ 1000 ∧ ∀ r, Grt [mskB b] (restM b.length av) r → q (wayD (bitsN r))
theorem s__law_top : ∀ ds q x, F_top ds q x → ds.length = 2 ∧ t__law_top F_has2 { nx := fun _ => q .non, rt := q, ex := x } (startE 5 ds) := by
  rintro ds q x ⟨b, av, rfl, hb, hav, hal, hq⟩
  refine ⟨rfl, ?_⟩
  have hle := hb.le
  unfold t__law_top
  refine w_seq fun k hk => ?_
  walk_at "v6"
  refine hk _ (w_seq fun k hk => ?_)
  walk_at "v6"
  refine ⟨by omega, by omega, for_range (fun i env => ∃ kn o3 o4, env = [.val (bookD b), .val (wayD av), .val (.lst (nD kn)), o3, o4] ∧ TopI b av i kn) ⟨[], _, _, rfl, .zero b av⟩ ?_ ?_⟩
  · rintro t ht env k2 ⟨kn, o3, o4, rfl, hT⟩ hk2
    refine ⟨_, rfl, ?_⟩
    have hkl := nodup_le _ _ hT.nd hT.lt
    walk_at "v6"
    refine ⟨by omega, by omega, by omega, ?_⟩
    refine lc_sN (fun i => !decide (i ∈ kn ++ av) && hasL (b.getD i []) kn) (fun i hi => ⟨fun Q hQ => ?_, fun _ Q hQ => ?_⟩) ?_
    · have hib : i < b.length := List.mem_range.mp hi
      walk_at "v6"
      refine ⟨_, catLL (by omega), _, notinlst _ _, _, rfl, ?_⟩
      by_cases c : i ∈ kn ++ av
      · rw [decide_eq_true c] at hQ ⊢
        exact hQ
      · rw [decide_eq_false c] at hQ ⊢
        rw [Bool.not_false, if_pos rfl]
        refine ⟨_, ix_book (getD_get hib), has2_lst (ways_short hb _ (List.mem_of_getElem? (getD_get hib))) ⟨_, rfl, hQ⟩⟩
    · walk_at "v6"
      exact hQ
    · walk_at "v6"
      refine ⟨_, catLL ?_, hk2 _ ⟨_, _, _, rfl, hT.next hav⟩⟩
      have := (hT.next hav).lt
      have := nodup_le _ _ (hT.next hav).nd this
      unfold freshN at this
      rw [List.length_append] at this
      omega
  · rintro env ⟨kn, o3, o4, rfl, hT⟩
    refine hk _ ?_
    walk_at "v6"
    refine ⟨by omega, by omega, by omega, lc_sN (fun i => decide (i ∈ kn)) (fun i hi => ⟨fun Q hQ => ?_, fun _ Q hQ => ?_⟩) ?_⟩
    · walk_at "v6"
      exact hQ
    · walk_at "v6"
      exact hQ
    · have e : (List.range b.length).filter (fun i => decide (i ∈ kn)) = bitsN (maskN kn) := by
        refine asc_ext (List.Pairwise.filter _ List.pairwise_lt_range) (bitsN_asc _) fun i => ?_
        rw [List.mem_filter, List.mem_range, decide_eq_true_eq, bitsN_mem, mem_maskN]
        exact ⟨fun z => z.2, fun z => ⟨hT.lt i z, z⟩⟩
      rw [e]
      exact hq _ (hT.end_ hav)

local macro_rules | `(tactic| walk_at "v7") => `(tactic| try simp only [dVar_app, dC_app, dOp_app, dTest_app, dChain_app, dAnd_app, dOr_app, dNot_app, dAndT_app, dOrT_app, dNotT_app, dIf_app, dNil_app, dCons_app, dTup_app, dLst_app, dCall_app, dBlt_app, dIsi_app, dNoPart_app, dPart_app, dSl_app, dNext_app, dBreak_app, dCont_app, dRet_app, dRetOwn_app, dRetN_app, dDrop_app, dFreeze_app, dSet_app, dFLst_app, dOfF_app, dSetOwn_app, dAppend_app, dInsert_app, dFNil_app, dFVal_app, dFOwn_app, dPar_app, dUnpack_app, iSeq_app, iRange1_app, iRange2_app, dFor_app, dYes_app, dLc_app, dNeg_app, dSetLcV_app, dNever_app, iEnumD_app, dFld_app, dMeth0_app, dProp_app, dRaise_app, dMake_app, dDc_app, dDGet_app, dLocked_app, iKeysD_app, dPenGet_app, dPenSet_app, dRetPen_app, dRev_app, dJoin_app, dDict0_app, dDict1_app, dInC_app, dBits_app, ex_false, nD_snoc, and1N, bitP1, bitP0, has_way_ap, first_way_ap, eqD_int, neD_int, addN, add1N, orN, andN, xorN, ltN, gtN, shrN, inn, notInn, inlst, notinlst, eqD_way, neD_way, eqD_nonway, eqD_waynon, eqD_lst, neD_lst, eqD_bl, isN_way, isNot_way, isN_non, isNot_non, isN_int, isNot_int, len_way, len_book, len_masks, len_entry, len_lst, len_tup, tup_lst, tup_tup, tup_way, lst_way, lst_lst, int_int, way_nD, all_bl, any_bl, rngD_nD, rngD_len, len_nD, Int.toNat_natCast, ex_nil', ex_cons', ex_val, ex_vald, ex_bl, ex_sbl, ex_int, ex_lst, ex_tup, ex_own, ex_vtup, no_lt, no_tl, ex_way_lst, ex_way_tup, ex_book_lst, ex_book_tup, ex_entry_lst, ex_entry_tup, ex_fld_book, ex_fld_ways, len_ap, mask_of_ap, items_of_ap, all_items_ap, lies_within_ap, is_set_ap, is_item_ap, draw_ap, pen_ap, book_ap, init_ap, beq_self_eq_true, reduceCtorEq, if_false, Nat.zero_le, allVal, wipeE, setE, RF.ev, R.d, R.isVal, noLst, startE, List.map_cons, List.map_nil, List.set_cons_zero, List.set_cons_succ, List.getElem?_cons_zero, List.getElem?_cons_succ, List.length_cons, List.length_nil, List.replicate, List.cons_append, List.nil_append, List.append_nil, List.length_map, List.length_range, Nat.reduceSub, Nat.reduceAdd, Bool.not_true, Bool.not_false, Bool.not_not, Bool.false_eq_true, if_true, if_false, decide_eq_true_eq, eq_self, true_and, and_true, true_or, or_true, false_or, or_false, false_and, and_false, Bool.not_eq_true', decide_eq_false_iff_not, ite_not, exists_eq_left, exists_eq_left', dIsP_app, dCntT_app, dIdxT_app, dXf_app, dSaid_app])
/-! ### the text of any small value -/
mutual
def rok : D → Nat → Bool
  | .non, _ => true
  | .bl _, _ => true
  | .int i, _ => decide (i.natAbs.log2 < 1920)
  | .str x, _ => PyData.strOk x && PyData.strOk (PyData.shown (.str x)) && PyData.leavesShort 1921 (.str x)
  | .tup _, 0 => false
  | .tup xs, n + 1 => roks xs n
  | .lst _, 0 => false
  | .lst xs, n + 1 => roks xs n
  | _, _ => false
def roks : List D → Nat → Bool
  | [], _ => true
  | x :: xs, n => rok x n && roks xs n
end
mutual
def bk : D → Nat
  | .str x => x.cps.size
  | .tup xs => bks xs
  | .lst xs => bks xs
  | _ => 0
def bks : List D → Nat
  | [] => 0
  | x :: xs => bk x + 1 + bks xs
end
structure RokP (d : D) (n : Nat) (p : PyData) : Prop where
  py : toPy d = some p
  sh : PyData.showable p = true
  cl : PyData.canLay0 p = true
  dp : p.depth ≤ n
  ls : PyData.leavesShort 1921 p = true
  bu : PyData.bulk p = bk d
  ok : PyData.strOk (PyData.shown p) = true
structure RoksP (ds : List D) (n : Nat) (ps : List PyData) : Prop where
  py : toPys ds = some ps
  sh : PyData.showableAll ps = true
  cl : PyData.canLayAll0 ps = true
  dp : PyData.depthAll ps ≤ n
  ls : PyData.leavesShortAll 1921 ps = true
  bu : PyData.bulkAll ps = bks ds
  ok : ∀ t ∈ PyData.shownAll ps, PyData.strOk t = true
theorem RoksP.tup {ds : List D} {n : Nat} {ps : List PyData} (h : RoksP ds n ps) : RokP (.tup ds) (n + 1) (.tuple ps) := by
  refine ⟨by simp [toPy, h.py], by simpa [PyData.showable] using h.sh, by simpa [PyData.canLay0] using h.cl, ?_, by simpa [PyData.leavesShort] using h.ls, by simpa [PyData.bulk, bk] using h.bu, ?_⟩
  · have := h.dp
    simp only [PyData.depth]
    omega
  · show PyData.strOk (("(" : Str) ++ Str.join ", " (PyData.shownAll ps) ++ (if (PyData.shownAll ps).length == 1 then ",)" else ")" : String)) = true
    rw [sok_app, sok_app, sok_join _ (sok_string _) _ h.ok, sok_string, sok_string]
    rfl
theorem sok_from : ∀ (ts : List Str) (k : Nat) (acc : Str), PyData.strOk acc = true → (∀ t ∈ ts, PyData.strOk t = true) → PyData.strOk (textFrom k acc ts) = true
  | [], _, _, h, _ => h
  | t :: ts, k, acc, h, ht => by
    refine sok_from ts (k + 1) _ ?_ fun u hu => ht u (List.mem_cons_of_mem _ hu)
    rw [sok_app, sok_app, h, sok_string, ht t List.mem_cons_self]
    rfl
theorem RoksP.lst {ds : List D} {n : Nat} {ps : List PyData} (h : RoksP ds n ps) : RokP (.lst ds) (n + 1) (.list ps) := by
  refine ⟨by simp [toPy, h.py], by simpa [PyData.showable] using h.sh, by simpa [PyData.canLay0] using h.cl, ?_, by simpa [PyData.leavesShort] using h.ls, by simpa [PyData.bulk, bk] using h.bu, ?_⟩
  · have := h.dp
    simp only [PyData.depth]
    omega
  · show PyData.strOk (listText (PyData.shownAll ps)) = true
    unfold listText
    rw [sok_app, sok_from _ _ _ (sok_string _) h.ok, sok_string]
    rfl
mutual
theorem rok_py : ∀ (d : D) (n : Nat), rok d n = true → ∃ p, RokP d n p
  | .non, n, _ => ⟨.none, rfl, rfl, rfl, by simp [PyData.depth], rfl, rfl, sok_string _⟩
  | .bl b, n, _ => ⟨.bool b, rfl, rfl, rfl, by simp [PyData.depth], rfl, rfl, by cases b <;> exact sok_string _⟩
  | .int i, n, h => ⟨.int i, rfl, by simpa [PyData.showable, rok] using h, rfl, by simp [PyData.depth], by
      simp only [PyData.leavesShort]
      exact decide_eq_true (int_text_len_1921 (by simpa [rok] using h)), rfl, sok_string _⟩
  | .str x, n, h => by
    simp only [rok, Bool.and_eq_true] at h
    exact ⟨.str x, rfl, rfl, by simpa [PyData.canLay0] using h.1.1, by simp [PyData.depth], h.2, rfl, h.1.2⟩
  | .tup xs, n + 1, h => by
    obtain ⟨ps, hp⟩ := roks_py xs n h
    exact ⟨_, hp.tup⟩
  | .lst xs, n + 1, h => by
    obtain ⟨ps, hp⟩ := roks_py xs n h
    exact ⟨_, hp.lst⟩
  | .tup xs, 0, h => by simp [rok] at h
  | .lst xs, 0, h => by simp [rok] at h
  | .scr _, n, h => by simp [rok] at h
  | .dct _ _, n, h => by simp [rok] at h
  | .dcl _ _, n, h => by simp [rok] at h
  | .ins _ _ _, n, h => by simp [rok] at h
  | .pen, n, h => by simp [rok] at h
  | .exo _ _ _ _, n, h => by simp [rok] at h
  | .tab _ _, n, h => by simp [rok] at h
  | .two _ _ _ _, n, h => by simp [rok] at h
theorem roks_py : ∀ (ds : List D) (n : Nat), roks ds n = true → ∃ ps, RoksP ds n ps
  | [], n, _ => ⟨[], rfl, rfl, rfl, by simp [PyData.depthAll], rfl, rfl, by simp [PyData.shownAll]⟩
  | d :: ds, n, h => by
    simp only [roks, Bool.and_eq_true] at h
    obtain ⟨p, a⟩ := rok_py d n h.1
    obtain ⟨ps, b⟩ := roks_py ds n h.2
    refine ⟨p :: ps, by simp [toPys, a.py, b.py], by simp [PyData.showableAll, a.sh, b.sh], by simp [PyData.canLayAll0, a.cl, b.cl], ?_, by simp [PyData.leavesShortAll, a.ls, b.ls], by simp [PyData.bulkAll, bks, a.bu, b.bu], fun t ht => ?_⟩
    · have h1 := a.dp
      have h2 := b.dp
      simp only [PyData.depthAll]
      omega
    · rcases List.mem_cons.mp (show t ∈ PyData.shown p :: PyData.shownAll ps from ht) with z | z
      · rw [z]; exact a.ok
      · exact b.ok t z
end
theorem rok_ok {d : D} (h : rok d 64 = true) (hb : bk d ≤ 5000) : ReprOk d := by
  obtain ⟨p, a⟩ := rok_py d 64 h
  refine ⟨PyData.shown p, ?_, a.ok⟩
  unfold reprF
  simp only [a.py]
  have hs := PyData.shown_le_bulk 1921 (by decide) p a.ls
  rw [a.bu] at hs
  have a2 : SeqAt.shaped p = true := by simp [SeqAt.shaped, a.cl, a.dp]
  rw [if_pos]
  rw [a.sh, a2, decide_eq_true (by omega)]
  rfl
local macro_rules | `(tactic| walk_at "v8") => `(tactic| try simp only [dVar_app, dC_app, dOp_app, dTest_app, dChain_app, dAnd_app, dOr_app, dNot_app, dAndT_app, dOrT_app, dNotT_app, dIf_app, dNil_app, dCons_app, dTup_app, dLst_app, dCall_app, dBlt_app, dIsi_app, dNoPart_app, dPart_app, dSl_app, dNext_app, dBreak_app, dCont_app, dRet_app, dRetOwn_app, dRetN_app, dDrop_app, dFreeze_app, dSet_app, dFLst_app, dOfF_app, dSetOwn_app, dAppend_app, dInsert_app, dFNil_app, dFVal_app, dFOwn_app, dPar_app, dUnpack_app, iSeq_app, iRange1_app, iRange2_app, dFor_app, dYes_app, dLc_app, dNeg_app, dSetLcV_app, dNever_app, iEnumD_app, dFld_app, dMeth0_app, dProp_app, dRaise_app, dMake_app, dDc_app, dDGet_app, dLocked_app, iKeysD_app, dPenGet_app, dPenSet_app, dRetPen_app, dRev_app, dJoin_app, dDict0_app, dDict1_app, dInC_app, dBits_app, ex_false, nD_snoc, and1N, bitP1, bitP0, has_way_ap, first_way_ap, eqD_int, neD_int, addN, add1N, orN, andN, xorN, ltN, gtN, shrN, inn, notInn, inlst, notinlst, eqD_way, neD_way, eqD_nonway, eqD_waynon, eqD_lst, neD_lst, eqD_bl, isN_way, isNot_way, isN_non, isNot_non, isN_int, isNot_int, len_way, len_book, len_masks, len_entry, len_lst, len_tup, tup_lst, tup_tup, tup_way, lst_way, lst_lst, int_int, way_nD, all_bl, any_bl, rngD_nD, rngD_len, len_nD, Int.toNat_natCast, ex_nil', ex_cons', ex_val, ex_vald, ex_bl, ex_sbl, ex_int, ex_lst, ex_tup, ex_own, ex_vtup, no_lt, no_tl, ex_way_lst, ex_way_tup, ex_book_lst, ex_book_tup, ex_entry_lst, ex_entry_tup, ex_fld_book, ex_fld_ways, len_ap, mask_of_ap, items_of_ap, all_items_ap, lies_within_ap, is_set_ap, is_item_ap, draw_ap, pen_ap, book_ap, init_ap, beq_self_eq_true, reduceCtorEq, if_false, Nat.zero_le, allVal, wipeE, setE, RF.ev, R.d, R.isVal, noLst, startE, List.map_cons, List.map_nil, List.set_cons_zero, List.set_cons_succ, List.getElem?_cons_zero, List.getElem?_cons_succ, List.length_cons, List.length_nil, List.replicate, List.cons_append, List.nil_append, List.append_nil, List.length_map, List.length_range, Nat.reduceSub, Nat.reduceAdd, Bool.not_true, Bool.not_false, Bool.not_not, Bool.false_eq_true, if_true, if_false, decide_eq_true_eq, eq_self, true_and, and_true, true_or, or_true, false_or, or_false, false_and, and_false, Bool.not_eq_true', decide_eq_false_iff_not, ite_not, exists_eq_left, exists_eq_left', eqD_lst_nil, neD_lst_nil, row_ap, natCast_eq, tup_nil, isi_way, in_entry, notin_entry, in_ways, notin_ways, ways_snoc, dSaid_app])
/-! ### the first order, by the law's own helper -/
theorem FO.uniq {ms : List MBook} {st : Nat} {L L' : List Nat} (h : FO ms st L) (h' : FO ms st L') : L = L' := by
  have key : ∀ (s s' p : List Nat), L = p ++ s → L' = p ++ s' → s = s' := by
    intro s
    induction s with
    | nil =>
      intro s' p e e'
      cases s' with
      | nil => rfl
      | cons j t =>
        have hj : j ∈ L := (h.mem j).mpr ((h'.mem j).mp (by rw [e']; simp))
        rw [e, List.append_nil] at hj
        have nd := h'.nd
        rw [e', List.nodup_append] at nd
        exact absurd rfl (nd.2.2 j hj j List.mem_cons_self)
    | cons i s ih =>
      intro s' p e e'
      cases s' with
      | nil =>
        have hi : i ∈ L' := (h'.mem i).mpr ((h.mem i).mp (by rw [e]; simp))
        rw [e', List.append_nil] at hi
        have nd := h.nd
        rw [e, List.nodup_append] at nd
        exact absurd rfl (nd.2.2 i hi i List.mem_cons_self)
      | cons j t =>
        have out : ∀ {M : List Nat} {a : Nat} {u : List Nat}, M.Nodup → M = p ++ a :: u → a ∉ p := fun nd em z => by
          rw [em, List.nodup_append] at nd
          exact absurd rfl (nd.2.2 _ z _ List.mem_cons_self)
        obtain ⟨c1, c2⟩ := h.step p i s e
        obtain ⟨d1, d2⟩ := h'.step p j t e'
        have a1 := c2 j ((h'.mem j).mp (by rw [e']; simp)) (out h'.nd e') d1
        have a2 := d2 i ((h.mem i).mp (by rw [e]; simp)) (out h.nd e) c1
        have : i = j := by omega
        subst this
        rw [ih t (p ++ [i]) (by rw [e]; simp) (by rw [e']; simp)]
  exact key L L' [] rfl rfl
theorem can_same {kb b : List Entry} (t : TidyB kb b) {i : Nat} (hi : i < b.length) (p : List Nat) : canF [mskB kb] i (maskN p) = canF [mskB b] i (maskN p) := by rw [can_has t hi, can_has (tidy_self b) hi]
theorem StW.same {kb b : List Entry} (t : TidyB kb b) {w : List Nat} : StW kb w ↔ StW b w := (StP.iff t).symm.trans (StP.iff (tidy_self b))
theorem FI.all {b : List Entry} {w L : List Nat} (hw : w.Pairwise (· < ·)) (h : FI [mskB b] (maskN w) L) (hl : L.length = w.length) : FO [mskB b] (maskN w) L := by
  refine ⟨fun i => ⟨fun z => h.sub i z, fun z => ?_⟩, h.nd, h.step⟩
  rw [mem_maskN] at z
  apply Classical.byContradiction
  intro c
  have := asc_card (u := i :: L) (w := w) (fun j hj => by
    rcases List.mem_cons.mp hj with y | y
    · subst y; exact z
    · exact mem_maskN.mp (h.sub j y)) (List.nodup_cons.mpr ⟨c, h.nd⟩)
  simp at this
  omega
theorem FO.state {b : List Entry} {w L : List Nat} (hw : w.Pairwise (· < ·)) (hl : ∀ i ∈ w, i < b.length) (h : FO [mskB b] (maskN w) L) : StW b w := by
  have e : maskN w = maskN L := mask_same fun i => by rw [h.mem, mem_maskN]
  have g := h.prefix L.length L [] rfl (by simp)
  rw [← e] at g
  exact ⟨hw, hl, g⟩
/-! ### law k05 -/
local macro_rules | `(tactic| walk_at "v9") => `(tactic| try simp only [dVar_app, dC_app, dOp_app, dTest_app, dChain_app, dAnd_app, dOr_app, dNot_app, dAndT_app, dOrT_app, dNotT_app, dIf_app, dNil_app, dCons_app, dTup_app, dLst_app, dCall_app, dBlt_app, dIsi_app, dNoPart_app, dPart_app, dSl_app, dNext_app, dBreak_app, dCont_app, dRet_app, dRetOwn_app, dRetN_app, dDrop_app, dFreeze_app, dSet_app, dFLst_app, dOfF_app, dSetOwn_app, dAppend_app, dInsert_app, dFNil_app, dFVal_app, dFOwn_app, dPar_app, dUnpack_app, iSeq_app, iRange1_app, iRange2_app, dFor_app, dYes_app, dLc_app, dNeg_app, dSetLcV_app, dNever_app, iEnumD_app, dFld_app, dMeth0_app, dProp_app, dRaise_app, dMake_app, dDc_app, dDGet_app, dLocked_app, iKeysD_app, dPenGet_app, dPenSet_app, dRetPen_app, dRev_app, dJoin_app, dDict0_app, dDict1_app, dInC_app, dBits_app, ex_false, nD_snoc, and1N, bitP1, bitP0, has_way_ap, first_way_ap, eqD_int, neD_int, addN, add1N, orN, andN, xorN, ltN, gtN, shrN, inn, notInn, inlst, notinlst, eqD_way, neD_way, eqD_nonway, eqD_waynon, eqD_lst, neD_lst, eqD_bl, isN_way, isNot_way, isN_non, isNot_non, isN_int, isNot_int, len_way, len_book, len_masks, len_entry, len_lst, len_tup, tup_lst, tup_tup, tup_way, lst_way, lst_lst, int_int, way_nD, all_bl, any_bl, rngD_nD, rngD_len, len_nD, Int.toNat_natCast, ex_nil', ex_cons', ex_val, ex_vald, ex_bl, ex_sbl, ex_int, ex_lst, ex_tup, ex_own, ex_vtup, no_lt, no_tl, ex_way_lst, ex_way_tup, ex_book_lst, ex_book_tup, ex_entry_lst, ex_entry_tup, ex_fld_book, ex_fld_ways, len_ap, mask_of_ap, items_of_ap, all_items_ap, lies_within_ap, is_set_ap, is_item_ap, draw_ap, pen_ap, book_ap, init_ap, beq_self_eq_true, reduceCtorEq, if_false, Nat.zero_le, allVal, wipeE, setE, RF.ev, R.d, R.isVal, noLst, startE, List.map_cons, List.map_nil, List.set_cons_zero, List.set_cons_succ, List.getElem?_cons_zero, List.getElem?_cons_succ, List.length_cons, List.length_nil, List.replicate, List.cons_append, List.nil_append, List.append_nil, List.length_map, List.length_range, Nat.reduceSub, Nat.reduceAdd, Bool.not_true, Bool.not_false, Bool.not_not, Bool.false_eq_true, if_true, if_false, decide_eq_true_eq, eq_self, true_and, and_true, true_or, or_true, false_or, or_false, false_and, and_false, Bool.not_eq_true', decide_eq_false_iff_not, ite_not, exists_eq_left, exists_eq_left', eqD_lst_nil, neD_lst_nil, row_ap, natCast_eq, tup_nil, isi_way, in_entry, notin_entry, in_ways, notin_ways, ways_snoc, dSaid_app, neD_int])
local macro_rules | `(tactic| walk_at "v10") => `(tactic| try simp only [dVar_app, dC_app, dOp_app, dTest_app, dChain_app, dAnd_app, dOr_app, dNot_app, dAndT_app, dOrT_app, dNotT_app, dIf_app, dNil_app, dCons_app, dTup_app, dLst_app, dCall_app, dBlt_app, dIsi_app, dNoPart_app, dPart_app, dSl_app, dNext_app, dBreak_app, dCont_app, dRet_app, dRetOwn_app, dRetN_app, dDrop_app, dFreeze_app, dSet_app, dFLst_app, dOfF_app, dSetOwn_app, dAppend_app, dInsert_app, dFNil_app, dFVal_app, dFOwn_app, dPar_app, dUnpack_app, iSeq_app, iRange1_app, iRange2_app, dFor_app, dYes_app, dLc_app, dNeg_app, dSetLcV_app, dNever_app, iEnumD_app, dFld_app, dMeth0_app, dProp_app, dRaise_app, dMake_app, dDc_app, dDGet_app, dLocked_app, iKeysD_app, dPenGet_app, dPenSet_app, dRetPen_app, dRev_app, dJoin_app, dDict0_app, dDict1_app, dInC_app, dBits_app, ex_false, nD_snoc, and1N, bitP1, bitP0, has_way_ap, first_way_ap, eqD_int, neD_int, addN, add1N, orN, andN, xorN, ltN, gtN, shrN, inn, notInn, inlst, notinlst, eqD_way, neD_way, eqD_nonway, eqD_waynon, eqD_lst, neD_lst, eqD_bl, isN_way, isNot_way, isN_non, isNot_non, isN_int, isNot_int, len_way, len_book, len_masks, len_entry, len_lst, len_tup, tup_lst, tup_tup, tup_way, lst_way, lst_lst, int_int, way_nD, all_bl, any_bl, rngD_nD, rngD_len, len_nD, Int.toNat_natCast, ex_nil', ex_cons', ex_val, ex_vald, ex_bl, ex_sbl, ex_int, ex_lst, ex_tup, ex_own, ex_vtup, no_lt, no_tl, ex_way_lst, ex_way_tup, ex_book_lst, ex_book_tup, ex_entry_lst, ex_entry_tup, ex_fld_book, ex_fld_ways, len_ap, mask_of_ap, items_of_ap, all_items_ap, lies_within_ap, is_set_ap, is_item_ap, draw_ap, pen_ap, book_ap, init_ap, beq_self_eq_true, reduceCtorEq, if_false, Nat.zero_le, allVal, wipeE, setE, RF.ev, R.d, R.isVal, noLst, startE, List.map_cons, List.map_nil, List.set_cons_zero, List.set_cons_succ, List.getElem?_cons_zero, List.getElem?_cons_succ, List.length_cons, List.length_nil, List.replicate, List.cons_append, List.nil_append, List.append_nil, List.length_map, List.length_range, Nat.reduceSub, Nat.reduceAdd, Bool.not_true, Bool.not_false, Bool.not_not, Bool.false_eq_true, if_true, if_false, decide_eq_true_eq, eq_self, true_and, and_true, true_or, or_true, false_or, or_false, false_and, and_false, Bool.not_eq_true', decide_eq_false_iff_not, ite_not, exists_eq_left, exists_eq_left', eqD_lst_nil, neD_lst_nil, row_ap, natCast_eq, tup_nil, isi_way, in_entry, notin_entry, in_ways, notin_ways, ways_snoc, dSaid_app, neD_int, dTupRg_app, dIndex_app])
theorem canF_same {kb b : List Entry} (t : TidyB kb b) {i : Nat} (hi : i < b.length) (s : Nat) : canF [mskB kb] i s = canF [mskB b] i s := by
  rw [← mask_bitsN s]
  exact can_same t hi _
theorem Grt.same {kb b : List Entry} (t : TidyB kb b) {al r : Nat} (hal : ∀ i, al.testBit i = true → i < b.length) (h : Grt [mskB kb] al r) : Grt [mskB b] al r :=
  ⟨h.sub, fun i hi hc => h.closed i hi (by rw [canF_same t (hal i hi)]; exact hc), fun s hs => h.least s fun i hi hc => hs i hi (by rw [← canF_same t (hal i hi)]; exact hc)⟩
theorem restM_lt {n : Nat} {w : List Nat} (hw : ∀ i ∈ w, i < n) : ∀ i, (restM n w).testBit i = true → i < n := fun i hi => ((restM_bit hw i).mp hi).1
local macro_rules | `(tactic| walk_at "v11") => `(tactic| try simp only [dVar_app, dC_app, dOp_app, dTest_app, dChain_app, dAnd_app, dOr_app, dNot_app, dAndT_app, dOrT_app, dNotT_app, dIf_app, dNil_app, dCons_app, dTup_app, dLst_app, dCall_app, dBlt_app, dIsi_app, dNoPart_app, dPart_app, dSl_app, dNext_app, dBreak_app, dCont_app, dRet_app, dRetOwn_app, dRetN_app, dDrop_app, dFreeze_app, dSet_app, dFLst_app, dOfF_app, dSetOwn_app, dAppend_app, dInsert_app, dFNil_app, dFVal_app, dFOwn_app, dPar_app, dUnpack_app, iSeq_app, iRange1_app, iRange2_app, dFor_app, dYes_app, dLc_app, dNeg_app, dSetLcV_app, dNever_app, iEnumD_app, dFld_app, dMeth0_app, dProp_app, dRaise_app, dMake_app, dDc_app, dDGet_app, dLocked_app, iKeysD_app, dPenGet_app, dPenSet_app, dRetPen_app, dRev_app, dJoin_app, dDict0_app, dDict1_app, dInC_app, dBits_app, ex_false, nD_snoc, and1N, bitP1, bitP0, has_way_ap, first_way_ap, eqD_int, neD_int, addN, add1N, orN, andN, xorN, ltN, gtN, shrN, inn, notInn, inlst, notinlst, eqD_way, neD_way, eqD_nonway, eqD_waynon, eqD_lst, neD_lst, eqD_bl, isN_way, isNot_way, isN_non, isNot_non, isN_int, isNot_int, len_way, len_book, len_masks, len_entry, len_lst, len_tup, tup_lst, tup_tup, tup_way, lst_way, lst_lst, int_int, way_nD, all_bl, any_bl, rngD_nD, rngD_len, len_nD, Int.toNat_natCast, ex_nil', ex_cons', ex_val, ex_vald, ex_bl, ex_sbl, ex_int, ex_lst, ex_tup, ex_own, ex_vtup, no_lt, no_tl, ex_way_lst, ex_way_tup, ex_book_lst, ex_book_tup, ex_entry_lst, ex_entry_tup, ex_fld_book, ex_fld_ways, len_ap, mask_of_ap, items_of_ap, all_items_ap, lies_within_ap, is_set_ap, is_item_ap, draw_ap, pen_ap, book_ap, init_ap, beq_self_eq_true, reduceCtorEq, if_false, Nat.zero_le, allVal, wipeE, setE, RF.ev, R.d, R.isVal, noLst, startE, List.map_cons, List.map_nil, List.set_cons_zero, List.set_cons_succ, List.getElem?_cons_zero, List.getElem?_cons_succ, List.length_cons, List.length_nil, List.replicate, List.cons_append, List.nil_append, List.append_nil, List.length_map, List.length_range, Nat.reduceSub, Nat.reduceAdd, Bool.not_true, Bool.not_false, Bool.not_not, Bool.false_eq_true, if_true, if_false, decide_eq_true_eq, eq_self, true_and, and_true, true_or, or_true, false_or, or_false, false_and, and_false, Bool.not_eq_true', decide_eq_false_iff_not, ite_not, exists_eq_left, exists_eq_left', eqD_lst_nil, neD_lst_nil, row_ap, natCast_eq, tup_nil, isi_way, in_entry, notin_entry, in_ways, notin_ways, ways_snoc, neD_int, dTupRg_app, dIndex_app, dRevL_app, iRevRg_app])
/-! ### plans -/
theorem TidyB.at {kb b : List Entry} (t : TidyB kb b) : ∀ {i : Nat} {e : Entry}, kb[i]? = some e → ∃ w, b[i]? = some w ∧ Tidy e w := by
  induction t with
  | nil => intro i e h; simp at h
  | cons a _ ih =>
    intro i e h
    cases i with
    | zero => simp at h; subst h; exact ⟨_, by simp, a⟩
    | succ i => simpa using ih (by simpa using h)
theorem TidyB.ok {kb b : List Entry} (t : TidyB kb b) (hb : BookOk b) : BookOk kb := by
  have hl := t.len
  refine ⟨by have := hb.pos; omega, by have := hb.le; omega, fun e he => ?_, fun e he w hw => ?_, fun i e he w hw => ?_⟩
  · obtain ⟨i, hi⟩ := List.mem_iff_getElem?.mp he
    obtain ⟨u, hu, tu⟩ := TidyB.at t hi
    have := hb.len u (List.mem_of_getElem? hu)
    have := tu.len
    omega
  · obtain ⟨i, hi⟩ := List.mem_iff_getElem?.mp he
    obtain ⟨u, hu, tu⟩ := TidyB.at t hi
    rw [hl]
    exact hb.way u (List.mem_of_getElem? hu) w (tu.sub w hw)
  · obtain ⟨u, hu, tu⟩ := TidyB.at t he
    exact hb.own i u hu w (tu.sub w hw)
/-- the first order of all that can be learned -/
def TopO (kb : List Entry) (o : List Nat) : Prop := ∃ r, Grt [mskB kb] (restM kb.length []) r ∧ FO [mskB kb] r o
theorem TopO.len {kb : List Entry} {o : List Nat} (h : TopO kb o) : o.Nodup ∧ (∀ i ∈ o, i < kb.length) ∧ o.length ≤ kb.length := by
  obtain ⟨r, h1, h2⟩ := h
  have hl : ∀ i ∈ o, i < kb.length := fun i hi => ((restM_bit (by simp) i).mp (h1.sub i ((h2.mem i).mp hi))).1
  exact ⟨h2.nd, hl, nodup_le _ _ h2.nd hl⟩
/-! ### after -/
theorem enD_book (kb : List Entry) : enD (kb.map entryD) = (List.range kb.length).map fun i => .tup [.int (i : Nat), entryD (kb.getD i [])] := by
  unfold enD
  rw [List.length_map]
  refine List.map_congr_left fun i hi => ?_
  have := List.mem_range.mp hi
  rw [List.getD, List.getElem?_map, getD_get this]
  rfl
/-! ### orders of what is left -/
theorem TopO.uniq {kb : List Entry} {o o' : List Nat} (h : TopO kb o) (h' : TopO kb o') : o = o' := by
  obtain ⟨r, h1, h2⟩ := h
  obtain ⟨r', h1', h2'⟩ := h'
  have e : r = r' := h1.uniq h1'
  subst e
  exact h2.uniq h2'
def t__law_closed (F__law_has : DF) : DS := (dSeq (dIfS (dOrT (dNotT (dTest (dIsi "tuple" (dVar 2)))) (dTest (dOp neD (dVar 2) (dBlt tupF (dCons (dOfF (dLc [4] (iRange1 (dBlt lenF (dCons (dVar 0) dNil))) (gN 4) (dTest (dOp inD (dVar 4) (dVar 2))) (dVar 4))) dNil))))) (dRet (dC (.bl false))) dNext) (dSeq (dIfS (dOrT (dTest (dOp neD (dBlt reprF (dCons (dVar 2) dNil)) (dBlt reprF (dCons (dBlt tupF (dCons (dOfF (dLc [4] (iRange1 (dBlt lenF (dCons (dVar 0) dNil))) (gN 4) (dTest (dOp inD (dVar 4) (dVar 2))) (dVar 4))) dNil)) dNil)))) (dTest (dBlt anyF (dCons (dOfF (dLc [4] (iSeq (dVar 2)) (gN 4) dYes (dOp inD (dVar 4) (dVar 1)))) dNil)))) (dRet (dC (.bl false))) dNext) (dSeq (dFor (iRange1 (dBlt lenF (dCons (dVar 0) dNil))) (gN 3) (dIfS (dAndT (dTest (dOp notInD (dVar 3) (dVar 2))) (dAndT (dTest (dOp notInD (dVar 3) (dVar 1))) (dTest (dCall F__law_has (dCons (dOp ixD (dVar 0) (dVar 3)) (dCons (dVar 2) dNil)))))) (dRet (dC (.bl false))) dNext)) (dRet (dC (.bl true))))))
/-! ### what an item needs of an order -/
/-! ### the steps are an order that ends with the item -/
/-! ### way_to -/
theorem FO.lt {kb : List Entry} {w o : List Nat} {r : Nat} (hw : ∀ i ∈ w, i < kb.length) (hr : Grt [mskB kb] (restM kb.length w) r) (h : FO [mskB kb] r o) : ∀ i ∈ o, i < kb.length ∧ i ∉ w := fun i hi => (restM_bit hw i).mp (hr.sub i ((h.mem i).mp hi))
/-! ### verdict -/
/-! ### a closed set -/
def closB (b : List Entry) (av w : List Nat) : Bool := !(w.any fun i => decide (i ∈ av)) && (List.range b.length).all fun i => decide (i ∈ w) || (decide (i ∈ av) || !hasL (b.getD i []) w)
def F_closed : DF := fun ds q _ => ∃ b av w, ds = [bookD b, wayD av, wayD w] ∧ BookOk b ∧ w.Pairwise (· < ·) ∧ (∀ i ∈ w, i < b.length) ∧ q (.bl (closB b av w))
theorem neD_str {s : Str} (h : PyData.strOk s = true) : neD (.str s) (.str s) = some (.bl false) := by
  have e := eqD_str (s := s) (by simp [SeqAt.shaped, PyData.canLay0, PyData.depth, h])
  unfold eqD at e
  unfold neD
  obtain ⟨c, h1, h2⟩ := Option.map_eq_some_iff.mp e
  rw [h1]
  cases h2
  rfl
theorem range_in {n : Nat} {w : List Nat} (h1 : w.Pairwise (· < ·)) (h2 : ∀ i ∈ w, i < n) : (List.range n).filter (fun i => decide (i ∈ w)) = w := by
  refine asc_ext (List.Pairwise.filter _ List.pairwise_lt_range) h1 fun i => ?_
  rw [List.mem_filter, List.mem_range, decide_eq_true_eq]
  exact ⟨fun z => z.2, fun z => ⟨h2 i z, z⟩⟩
theorem closed_ap {b : List Entry} {av w : List Nat} {q : D → Prop} {x : XP} (hb : BookOk b) (h1 : w.Pairwise (· < ·)) (h2 : ∀ i ∈ w, i < b.length) (h : q (.bl (closB b av w))) : F_closed [bookD b, wayD av, wayD w] q x := ⟨b, av, w, rfl, hb, h1, h2, h⟩
/-- a greatest state is closed -/
theorem closB_greatest {kb b : List Entry} (t : TidyB kb b) {av : List Nat} {r : Nat} (hav : ∀ i ∈ av, i < kb.length) (hr : Grt [mskB kb] (restM kb.length av) r) : closB b av (bitsN r) = true := by
  have hkl := t.len
  unfold closB
  rw [Bool.and_eq_true, Bool.not_eq_true', List.any_eq_false, List.all_eq_true]
  refine ⟨fun i hi => ?_, fun i hi => ?_⟩
  · have := (mem_bits_greatest hav hr hi).2
    simpa using this
  · have hi' := List.mem_range.mp hi
    by_cases c1 : i ∈ bitsN r
    · rw [decide_eq_true c1]; rfl
    · by_cases c2 : i ∈ av
      · rw [decide_eq_true c2, Bool.true_or, Bool.or_true]
      · rw [decide_eq_false c1, decide_eq_false c2, Bool.false_or, Bool.false_or, Bool.not_eq_true']
        cases c3 : hasL (b.getD i []) (bitsN r) with
        | false => rfl
        | true =>
          rw [← can_has t hi', mask_bitsN] at c3
          exact absurd (bitsN_mem.mpr (hr.closed i ((restM_bit hav i).mpr ⟨by omega, c2⟩) c3)) c1
/-! ### rows that are orders -/
local macro_rules | `(tactic| walk_at "v12") => `(tactic| try simp only [dVar_app, dC_app, dOp_app, dTest_app, dChain_app, dAnd_app, dOr_app, dNot_app, dAndT_app, dOrT_app, dNotT_app, dIf_app, dNil_app, dCons_app, dTup_app, dLst_app, dCall_app, dBlt_app, dIsi_app, dNoPart_app, dPart_app, dSl_app, dNext_app, dBreak_app, dCont_app, dRet_app, dRetOwn_app, dRetN_app, dDrop_app, dFreeze_app, dSet_app, dFLst_app, dOfF_app, dSetOwn_app, dAppend_app, dInsert_app, dFNil_app, dFVal_app, dFOwn_app, dPar_app, dUnpack_app, iSeq_app, iRange1_app, iRange2_app, dFor_app, dYes_app, dLc_app, dNeg_app, dSetLcV_app, dNever_app, iEnumD_app, dFld_app, dMeth0_app, dProp_app, dRaise_app, dMake_app, dDc_app, dDGet_app, dLocked_app, iKeysD_app, dPenGet_app, dPenSet_app, dRetPen_app, dRev_app, dJoin_app, dDict0_app, dDict1_app, dInC_app, dBits_app, ex_false, nD_snoc, and1N, bitP1, bitP0, has_way_ap, first_way_ap, eqD_int, neD_int, addN, add1N, orN, andN, xorN, ltN, gtN, shrN, inn, notInn, inlst, notinlst, eqD_way, neD_way, eqD_nonway, eqD_waynon, eqD_lst, neD_lst, eqD_bl, isN_way, isNot_way, isN_non, isNot_non, isN_int, isNot_int, len_way, len_book, len_masks, len_entry, len_lst, len_tup, tup_lst, tup_tup, tup_way, lst_way, lst_lst, int_int, way_nD, all_bl, any_bl, rngD_nD, rngD_len, len_nD, Int.toNat_natCast, ex_nil', ex_cons', ex_val, ex_vald, ex_bl, ex_sbl, ex_int, ex_lst, ex_tup, ex_own, ex_vtup, no_lt, no_tl, ex_way_lst, ex_way_tup, ex_book_lst, ex_book_tup, ex_entry_lst, ex_entry_tup, ex_fld_book, ex_fld_ways, len_ap, mask_of_ap, items_of_ap, all_items_ap, lies_within_ap, is_set_ap, is_item_ap, draw_ap, pen_ap, book_ap, init_ap, beq_self_eq_true, reduceCtorEq, if_false, Nat.zero_le, allVal, wipeE, setE, RF.ev, R.d, R.isVal, noLst, startE, List.map_cons, List.map_nil, List.set_cons_zero, List.set_cons_succ, List.getElem?_cons_zero, List.getElem?_cons_succ, List.length_cons, List.length_nil, List.replicate, List.cons_append, List.nil_append, List.append_nil, List.length_map, List.length_range, Nat.reduceSub, Nat.reduceAdd, Bool.not_true, Bool.not_false, Bool.not_not, Bool.false_eq_true, if_true, if_false, decide_eq_true_eq, eq_self, true_and, and_true, true_or, or_true, false_or, or_false, false_and, and_false, Bool.not_eq_true', decide_eq_false_iff_not, ite_not, exists_eq_left, exists_eq_left', eqD_lst_nil, neD_lst_nil, row_ap, natCast_eq, tup_nil, isi_way, in_entry, notin_entry, in_ways, notin_ways, ways_snoc, neD_int, dTupRg_app, dIndex_app, dRevL_app, iRevRg_app, dCmpC_app, dBinC_app, dIsC_app, isC_ins])
/-! ### common orders that one book alone lets grow -/
/-! ### whether every state of one course is a state of the other one -/
/-! ### the signs -/
/-! ### states grow item by item -/
/-! ### the states of a course for a learner who is in a state -/
/-! ### without -/
/-! ### greatest states of the changed courses -/
local macro_rules | `(tactic| walk_at "v13") => `(tactic| try simp only [dVar_app, dC_app, dOp_app, dTest_app, dChain_app, dAnd_app, dOr_app, dNot_app, dAndT_app, dOrT_app, dNotT_app, dIf_app, dNil_app, dCons_app, dTup_app, dLst_app, dCall_app, dBlt_app, dIsi_app, dNoPart_app, dPart_app, dSl_app, dNext_app, dBreak_app, dCont_app, dRet_app, dRetOwn_app, dRetN_app, dDrop_app, dFreeze_app, dSet_app, dFLst_app, dOfF_app, dSetOwn_app, dAppend_app, dInsert_app, dFNil_app, dFVal_app, dFOwn_app, dPar_app, dUnpack_app, iSeq_app, iRange1_app, iRange2_app, dFor_app, dYes_app, dLc_app, dNeg_app, dSetLcV_app, dNever_app, iEnumD_app, dFld_app, dMeth0_app, dProp_app, dRaise_app, dMake_app, dDc_app, dDGet_app, dLocked_app, iKeysD_app, dPenGet_app, dPenSet_app, dRetPen_app, dRev_app, dJoin_app, dDict0_app, dDict1_app, dInC_app, dBits_app, ex_false, nD_snoc, and1N, bitP1, bitP0, has_way_ap, first_way_ap, eqD_int, neD_int, addN, add1N, orN, andN, xorN, ltN, gtN, shrN, inn, notInn, inlst, notinlst, eqD_way, neD_way, eqD_nonway, eqD_waynon, eqD_lst, neD_lst, eqD_bl, isN_way, isNot_way, isN_non, isNot_non, isN_int, isNot_int, len_way, len_book, len_masks, len_entry, len_lst, len_tup, tup_lst, tup_tup, tup_way, lst_way, lst_lst, int_int, way_nD, all_bl, any_bl, rngD_nD, rngD_len, len_nD, Int.toNat_natCast, ex_nil', ex_cons', ex_val, ex_vald, ex_bl, ex_sbl, ex_int, ex_lst, ex_tup, ex_own, ex_vtup, no_lt, no_tl, ex_way_lst, ex_way_tup, ex_book_lst, ex_book_tup, ex_entry_lst, ex_entry_tup, ex_fld_book, ex_fld_ways, len_ap, mask_of_ap, items_of_ap, all_items_ap, lies_within_ap, is_set_ap, is_item_ap, draw_ap, pen_ap, book_ap, init_ap, beq_self_eq_true, reduceCtorEq, if_false, Nat.zero_le, allVal, wipeE, setE, RF.ev, R.d, R.isVal, noLst, startE, List.map_cons, List.map_nil, List.set_cons_zero, List.set_cons_succ, List.getElem?_cons_zero, List.getElem?_cons_succ, List.length_cons, List.length_nil, List.replicate, List.cons_append, List.nil_append, List.append_nil, List.length_map, List.length_range, Nat.reduceSub, Nat.reduceAdd, Bool.not_true, Bool.not_false, Bool.not_not, Bool.false_eq_true, if_true, if_false, decide_eq_true_eq, eq_self, true_and, and_true, true_or, or_true, false_or, or_false, false_and, and_false, Bool.not_eq_true', decide_eq_false_iff_not, ite_not, exists_eq_left, exists_eq_left', eqD_lst_nil, neD_lst_nil, row_ap, natCast_eq, tup_nil, isi_way, in_entry, notin_entry, in_ways, notin_ways, ways_snoc, neD_int, dTupRg_app, dIndex_app, dRevL_app, iRevRg_app, dSaid_app, has_ap, dCmpC_app, dBinC_app, dIsC_app, dLstRg_app])
def t_needed_noes (F_mask_of : DF) (F_shuts_out : DF) (F_items_of : DF) : DS := (dSeq (dSet 3 (dCall F_mask_of (dCons (dVar 2) dNil))) (dSeq (dFor (iSeq (dVar 2)) (gN 4) (dIfS (dTest (dCall F_shuts_out (dCons (dVar 0) (dCons (dOp xorD (dVar 3) (dOp shlD (dC (.int 1)) (dVar 4))) (dCons (dVar 1) dNil))))) (dSet 3 (dOp xorD (dVar 3) (dOp shlD (dC (.int 1)) (dVar 4)))) dNext)) (dRet (dCall F_items_of (dCons (dVar 3) dNil)))))
def t_check_answers (X_NoSet : Addr) (X_NoAnswers : Addr) (F_is_set : DF) (F_Course___len__ : DF) (F_mask_of : DF) : DS := (dSeq (dIfS (dOrT (dNotT (dTest (dCall F_is_set (dCons (dVar 1) (dCons (dMeth0 F_Course___len__ (dVar 0)) dNil))))) (dNotT (dTest (dCall F_is_set (dCons (dVar 2) (dCons (dMeth0 F_Course___len__ (dVar 0)) dNil)))))) (dRaise X_NoSet) dNext) (dIfS (dTest (dOp neD (dOp andD (dCall F_mask_of (dCons (dVar 1) dNil)) (dCall F_mask_of (dCons (dVar 2) dNil))) (dC (.int 0)))) (dRaise X_NoAnswers) dNext))
/-! ### answers -/
def Fit (kb : List Entry) (ys ns w : List Nat) : Prop := StW kb w ∧ (∀ i ∈ ys, i ∈ w) ∧ ∀ i ∈ ns, i ∉ w
structure Ans (kb : List Entry) (ys ns : List Nat) : Prop where
  ya : ys.Pairwise (· < ·)
  yl : ∀ i ∈ ys, i < kb.length
  na : ns.Pairwise (· < ·)
  nl : ∀ i ∈ ns, i < kb.length
  fit : ∃ w, Fit kb ys ns w
theorem Ans.dis {kb : List Entry} {ys ns : List Nat} (h : Ans kb ys ns) : ∀ i ∈ ys, i ∉ ns := fun i hi z => by
  obtain ⟨w, _, h2, h3⟩ := h.fit
  exact h3 i z (h2 i hi)
theorem mask_dis {u v : List Nat} : maskN u &&& maskN v = 0 ↔ ∀ i ∈ u, i ∉ v := by
  constructor
  · intro h i hi z
    have : (maskN u &&& maskN v).testBit i = true := by rw [Nat.testBit_and, maskN_bit, maskN_bit, decide_eq_true hi, decide_eq_true z]; rfl
    rw [h] at this
    simp at this
  · intro h
    apply Nat.eq_of_testBit_eq
    intro i
    rw [Nat.testBit_and, maskN_bit, maskN_bit, Nat.zero_testBit]
    by_cases c : i ∈ u
    · rw [decide_eq_false (h i c), Bool.and_false]
    · rw [decide_eq_false c, Bool.false_and]
def F_check_answers (C X Y : Addr) : DF := fun ds q x => ∃ kb y n, ds = [crsD C kb, y, n] ∧ kb.length ≤ 24 ∧ pl y = true ∧ pl n = true ∧ (isSet (kb.length : Nat) y = false ∨ isSet (kb.length : Nat) n = false → x ⟨X, none⟩) ∧
  ∀ ys ns : List Nat, y = wayD ys → n = wayD ns → ys.Pairwise (· < ·) → (∀ i ∈ ys, i < kb.length) → ns.Pairwise (· < ·) → (∀ i ∈ ns, i < kb.length) → ((∃ i ∈ ys, i ∈ ns) → x ⟨Y, none⟩) ∧ ((∀ i ∈ ys, i ∉ ns) → q .non)
theorem s_check_answers (C X Y : Addr) : ∀ ds q x, F_check_answers C X Y ds q x → ds.length = 3 ∧ t_check_answers X Y F_is_set (F_Course___len__ C) F_mask_of { nx := fun _ => q .non, rt := q, ex := x } (startE 3 ds) := by
  rintro ds q x ⟨kb, y, n, rfl, hk, hy, hn, h0, h1⟩
  refine ⟨rfl, ?_⟩
  unfold t_check_answers
  refine w_seq fun k hk' => w_if fun A B hA hB => ?_
  walk_at "v13"
  refine ⟨by omega, hy, ?_⟩
  cases sy : isSet (kb.length : Nat) y with
  | false =>
    rw [if_pos rfl]
    exact hA (h0 (.inl sy))
  | true =>
    rw [if_neg Bool.noConfusion]
    refine ⟨by omega, hn, ?_⟩
    cases sn : isSet (kb.length : Nat) n with
    | false =>
      rw [if_pos rfl]
      exact hA (h0 (.inr sn))
    | true =>
      rw [if_neg Bool.noConfusion]
      obtain ⟨ys, rfl, ya, yl⟩ := isSet_inv sy
      obtain ⟨ns, rfl, na, nl⟩ := isSet_inv sn
      obtain ⟨hx, hq⟩ := h1 ys ns rfl rfl ya yl na nl
      refine hB (hk' _ (w_if fun A B hA hB => ?_))
      walk_at "v13"
      refine ⟨fun i hi => by have := yl i hi; omega, fun i hi => by have := nl i hi; omega, ?_⟩
      by_cases c : maskN ys &&& maskN ns = 0
      · rw [c]
        walk_at "v13"
        exact hB (hq (mask_dis.mp c))
      · have c' : ¬ ((maskN ys &&& maskN ns : Nat) : Int) = 0 := by omega
        walk_at "v13"
        rw [if_neg c']
        refine hA (hx ?_)
        apply Classical.byContradiction
        intro no
        exact c (mask_dis.mpr fun i hi z => no ⟨i, hi, z⟩)
theorem Fit.sub {kb : List Entry} {ys ns w : List Nat} {r : Nat} (hn : ∀ i ∈ ns, i < kb.length) (hr : Grt [mskB kb] (restM kb.length ns) r) (h : Fit kb ys ns w) : ∀ i ∈ w, i ∈ bitsN r := greatest_holds hn hr h.1 fun i hi z => h.2.2 i z hi
theorem Ans.top {kb : List Entry} {ys ns : List Nat} {r : Nat} (h : Ans kb ys ns) (hr : Grt [mskB kb] (restM kb.length ns) r) : Fit kb ys ns (bitsN r) := by
  obtain ⟨w, hw⟩ := h.fit
  exact ⟨StW.of_greatest h.nl hr, fun i hi => hw.sub h.nl hr i (hw.2.1 i hi), fun i hi z => (mem_bits_greatest h.nl hr z).2 hi⟩
/-! ### which items are sure, out, open -/
theorem mask_lt24 {r n : Nat} (hn : n ≤ 24) (h : ∀ j, r.testBit j = true → j < n) : r < 2 ^ 24 := Nat.lt_pow_two_of_testBit _ fun j hj => by
  cases z : r.testBit j with
  | false => rfl
  | true => have := h j z; omega
/-! ### reasons -/
/-- what the package may give as a reason -/
def ReasonP (kb : List Entry) (ys ns : List Nat) (i : Nat) (d : D) : Prop :=
  (i ∈ ys ∧ d = .tup [.str "sure", .int (i : Nat), wayD []]) ∨ (i ∉ ys ∧ i ∈ ns ∧ d = .tup [.str "out", wayD []]) ∨
  (i ∉ ys ∧ i ∉ ns ∧ ∃ r, Grt [mskB kb] (restM kb.length ns) r ∧ i ∉ bitsN r ∧ d = .tup [.str "out", wayD (bitsN r)]) ∨
  (i ∉ ys ∧ i ∉ ns ∧ ∃ k g : Nat, k ∈ ys ∧ Grt [mskB kb] (restM kb.length (putN kb.length ns i)) g ∧ k ∉ bitsN g ∧ d = .tup [.str "sure", .int (k : Nat), wayD (bitsN g)]) ∨
  (i ∉ ys ∧ i ∉ ns ∧ ∃ r g : Nat, Grt [mskB kb] (restM kb.length ns) r ∧ Grt [mskB kb] (restM kb.length (putN kb.length ns i)) g ∧ i ∈ bitsN r ∧ (∀ k ∈ ys, k ∈ bitsN g) ∧ d = .tup [.str "open", wayD (bitsN r), wayD (bitsN g)])
/-! ### the package's reasons are reasons -/
local macro_rules | `(tactic| walk_at "v14") => `(tactic| try simp only [dVar_app, dC_app, dOp_app, dTest_app, dChain_app, dAnd_app, dOr_app, dNot_app, dAndT_app, dOrT_app, dNotT_app, dIf_app, dNil_app, dCons_app, dTup_app, dLst_app, dCall_app, dBlt_app, dIsi_app, dNoPart_app, dPart_app, dSl_app, dNext_app, dBreak_app, dCont_app, dRet_app, dRetOwn_app, dRetN_app, dDrop_app, dFreeze_app, dSet_app, dFLst_app, dOfF_app, dSetOwn_app, dAppend_app, dInsert_app, dFNil_app, dFVal_app, dFOwn_app, dPar_app, dUnpack_app, iSeq_app, iRange1_app, iRange2_app, dFor_app, dYes_app, dLc_app, dNeg_app, dSetLcV_app, dNever_app, iEnumD_app, dFld_app, dMeth0_app, dProp_app, dRaise_app, dMake_app, dDc_app, dDGet_app, dLocked_app, iKeysD_app, dPenGet_app, dPenSet_app, dRetPen_app, dRev_app, dJoin_app, dDict0_app, dDict1_app, dInC_app, dBits_app, ex_false, nD_snoc, and1N, bitP1, bitP0, has_way_ap, first_way_ap, eqD_int, neD_int, addN, add1N, orN, andN, xorN, ltN, gtN, shrN, inn, notInn, inlst, notinlst, eqD_way, neD_way, eqD_nonway, eqD_waynon, eqD_lst, neD_lst, eqD_bl, isN_way, isNot_way, isN_non, isNot_non, isN_int, isNot_int, len_way, len_book, len_masks, len_entry, len_lst, len_tup, tup_lst, tup_tup, tup_way, lst_way, lst_lst, int_int, way_nD, all_bl, any_bl, rngD_nD, rngD_len, len_nD, Int.toNat_natCast, ex_nil', ex_cons', ex_val, ex_vald, ex_bl, ex_sbl, ex_int, ex_lst, ex_tup, ex_own, ex_vtup, no_lt, no_tl, ex_way_lst, ex_way_tup, ex_book_lst, ex_book_tup, ex_entry_lst, ex_entry_tup, ex_fld_book, ex_fld_ways, len_ap, mask_of_ap, items_of_ap, all_items_ap, lies_within_ap, is_set_ap, is_item_ap, draw_ap, pen_ap, book_ap, init_ap, beq_self_eq_true, reduceCtorEq, if_false, Nat.zero_le, allVal, wipeE, setE, RF.ev, R.d, R.isVal, noLst, startE, List.map_cons, List.map_nil, List.set_cons_zero, List.set_cons_succ, List.getElem?_cons_zero, List.getElem?_cons_succ, List.length_cons, List.length_nil, List.replicate, List.cons_append, List.nil_append, List.append_nil, List.length_map, List.length_range, Nat.reduceSub, Nat.reduceAdd, Bool.not_true, Bool.not_false, Bool.not_not, Bool.false_eq_true, if_true, if_false, decide_eq_true_eq, eq_self, true_and, and_true, true_or, or_true, false_or, or_false, false_and, and_false, Bool.not_eq_true', decide_eq_false_iff_not, ite_not, exists_eq_left, exists_eq_left', eqD_lst_nil, neD_lst_nil, row_ap, natCast_eq, tup_nil, isi_way, in_entry, notin_entry, in_ways, notin_ways, ways_snoc, neD_int, dTupRg_app, dIndex_app, dRevL_app, iRevRg_app, dSaid_app, has_ap, dCmpC_app, dBinC_app, dIsC_app, dLstRg_app, dRaiseF_app])
/-! ### answers that clash -/
def lessN (w : List Nat) (e : Nat) : List Nat := w.filter fun j => !decide (j = e)
noncomputable def noesGo (kb : List Entry) (i : Nat) : List Nat → List Nat → List Nat
  | [], w => w
  | e :: es, w => if gateB kb (lessN w e) i = true then noesGo kb i es (lessN w e) else noesGo kb i es w
noncomputable def noesN (kb : List Entry) (i : Nat) (ns : List Nat) : List Nat := noesGo kb i ns ns
theorem mem_less {w : List Nat} {e j : Nat} : j ∈ lessN w e ↔ j ∈ w ∧ j ≠ e := by
  unfold lessN
  rw [List.mem_filter, Bool.not_eq_true', decide_eq_false_iff_not]
def F_needed_noes : DF := fun ds q _ => ∃ (kb : List Entry) (i : Nat) (ns : List Nat), ds = [masksD kb, .int (i : Nat), wayD ns] ∧ kb.length ≤ 24 ∧ ns.Pairwise (· < ·) ∧ (∀ j ∈ ns, j < kb.length) ∧ q (wayD (noesN kb i ns))
theorem noesGo_lt {kb : List Entry} {i : Nat} : ∀ {es w : List Nat}, w.Pairwise (· < ·) → (noesGo kb i es w).Pairwise (· < ·) ∧ ∀ j ∈ noesGo kb i es w, j ∈ w
  | [], w, h => ⟨h, fun j hj => hj⟩
  | e :: es, w, h => by
    unfold noesGo
    split
    · obtain ⟨a, b⟩ := noesGo_lt (kb := kb) (i := i) (es := es) (w := lessN w e) (List.Pairwise.filter _ h)
      exact ⟨a, fun j hj => (mem_less.mp (b j hj)).1⟩
    · exact noesGo_lt h
theorem s_needed_noes : ∀ ds q x, F_needed_noes ds q x → ds.length = 3 ∧ t_needed_noes F_mask_of F_shuts_out F_items_of { nx := fun _ => q .non, rt := q, ex := x } (startE 5 ds) := by
  rintro ds q x ⟨kb, i, ns, rfl, hk, ha, hl, hq⟩
  refine ⟨rfl, ?_⟩
  unfold t_needed_noes
  refine w_seq fun k hk' => ?_
  walk_at "v14"
  refine ⟨fun j hj => by have := hl j hj; omega, hk' _ (w_seq fun k hk' => ?_)⟩
  walk_at "v14"
  refine for_inv (fun i : Nat => D.int (i : Nat)) (fun es env => ∃ w o4, env = [.val (masksD kb), .val (.int (i : Nat)), .val (wayD ns), .val (.int (maskN w : Nat)), o4] ∧ w.Pairwise (· < ·) ∧ (∀ j ∈ w, j < kb.length) ∧ es.Pairwise (· < ·) ∧ (∀ e ∈ es, e ∈ w) ∧ noesGo kb i es w = noesN kb i ns) ⟨ns, _, rfl, ha, hl, ha, fun _ h => h, rfl⟩ ?_ ?_
  · rintro e r env k2 he ⟨w, o4, rfl, h1, h2, h3, h4, h5⟩ hk2
    have hew := h4 e List.mem_cons_self
    have hlt := h2 e hew
    have hx : maskN w ^^^ 2 ^ e = maskN (lessN w e) := mask_less hew
    have hr := List.pairwise_cons.mp h3
    have hlt24 : e ≤ 1000000 := by omega
    refine ⟨_, rfl, w_if fun A B hA hB => ?_⟩
    walk_at "v14"
    refine ⟨_, shl1 e hlt24, _, xorN _ _, ?_⟩
    rw [hx]
    refine shuts_out_way hk (fun j hj => h2 j (mem_less.mp hj).1) ⟨_, rfl, ?_⟩
    unfold noesGo at h5
    by_cases c : gateB kb (lessN w e) i = true
    · rw [if_pos c] at h5 ⊢
      refine hA ?_
      walk_at "v14"
      refine ⟨_, shl1 e hlt24, _, xorN _ _, ?_⟩
      rw [hx]
      exact hk2 _ ⟨_, _, rfl, List.Pairwise.filter _ h1, fun j hj => h2 j (mem_less.mp hj).1, hr.2, fun j hj => mem_less.mpr ⟨h4 j (List.mem_cons_of_mem _ hj), fun z => by have := hr.1 j hj; omega⟩, h5⟩
    · rw [if_neg c] at h5 ⊢
      refine hB ?_
      walk_at "v14"
      exact hk2 _ ⟨_, _, rfl, h1, h2, hr.2, fun j hj => h4 j (List.mem_cons_of_mem _ hj), h5⟩
  · rintro env ⟨w, o4, rfl, h1, h2, h3, h4, h5⟩
    have h5 : w = noesN kb i ns := h5
    subst h5
    refine hk' _ ?_
    walk_at "v14"
    rw [bitsN_mask h1]
    exact ⟨Nat.lt_of_lt_of_le (mask_lt24 hk (bits_of h2)) (Nat.pow_le_pow_right (by decide) (by decide)), hq⟩
structure Pro (kb : List Entry) (ys ns : List Nat) : Prop where
  ya : ys.Pairwise (· < ·)
  yl : ∀ i ∈ ys, i < kb.length
  na : ns.Pairwise (· < ·)
  nl : ∀ i ∈ ns, i < kb.length
  dis : ∀ i ∈ ys, i ∉ ns
theorem Ans.pro {kb : List Entry} {ys ns : List Nat} (h : Ans kb ys ns) : Pro kb ys ns := ⟨h.ya, h.yl, h.na, h.nl, h.dis⟩
/-- the first of yes that is not in the greatest state, with its noes -/
def ClashAt (kb : List Entry) (ys ns : List Nat) (i : Nat) : Prop := ∃ r, Grt [mskB kb] (restM kb.length ns) r ∧ ys.find? (fun j => !decide (j ∈ bitsN r)) = some i
theorem ClashAt.uniq {kb : List Entry} {ys ns : List Nat} {i j : Nat} (a : ClashAt kb ys ns i) (b : ClashAt kb ys ns j) : i = j := by
  obtain ⟨r, h1, h2⟩ := a
  obtain ⟨s, g1, g2⟩ := b
  rw [h1.uniq g1] at h2
  exact Option.some.inj (h2.symm.trans g2)
theorem ClashAt.no {kb : List Entry} {ys ns : List Nat} {i : Nat} (a : ClashAt kb ys ns i) : ¬ Ans kb ys ns := fun h => by
  obtain ⟨r, h1, h2⟩ := a
  have e := List.find?_some h2
  have m := List.mem_of_find?_eq_some h2
  simp only [Bool.not_eq_true', decide_eq_false_iff_not] at e
  exact e ((h.top h1).2.1 i m)
/-- y, n: any plain values -/
def AnsC (C X Y : Addr) (kb : List Entry) (y n : D) (x : XP) (P : List Nat → List Nat → Prop) : Prop := kb.length ≤ 24 ∧ pl y = true ∧ pl n = true ∧ (isSet (kb.length : Nat) y = false ∨ isSet (kb.length : Nat) n = false → x ⟨X, none⟩) ∧
  ∀ ys ns : List Nat, y = wayD ys → n = wayD ns → ys.Pairwise (· < ·) → (∀ i ∈ ys, i < kb.length) → ns.Pairwise (· < ·) → (∀ i ∈ ns, i < kb.length) → ((∃ i ∈ ys, i ∈ ns) → x ⟨Y, none⟩) ∧ ((∀ i ∈ ys, i ∉ ns) → P ys ns)
theorem AnsC.mk {C X Y : Addr} {kb : List Entry} {ys ns : List Nat} {x : XP} {P : List Nat → List Nat → Prop} (hk : kb.length ≤ 24) (h : Pro kb ys ns) (hp : P ys ns) : AnsC C X Y kb (wayD ys) (wayD ns) x P :=
  ⟨hk, pl_way _, pl_way _, (fun z => by
    rw [isSet_of h.ya h.yl, isSet_of h.na h.nl] at z
    rcases z with z | z <;> cases z), fun ys' ns' e1 e2 _ _ _ _ => by
    cases wayD_inj e1; cases wayD_inj e2
    exact ⟨fun ⟨i, h1, h2⟩ => absurd h2 (h.dis i h1), fun _ => hp⟩⟩
theorem AnsC.imp {C X Y : Addr} {kb : List Entry} {y n : D} {x x' : XP} {P P' : List Nat → List Nat → Prop} (h : AnsC C X Y kb y n x P) (hx : ∀ e, x e → x' e) (hp : ∀ ys ns, y = wayD ys → n = wayD ns → Pro kb ys ns → P ys ns → P' ys ns) : AnsC C X Y kb y n x' P' :=
  ⟨h.1, h.2.1, h.2.2.1, fun z => hx _ (h.2.2.2.1 z), fun ys ns e1 e2 a b c d => ⟨fun z => hx _ ((h.2.2.2.2 ys ns e1 e2 a b c d).1 z), fun z => hp ys ns e1 e2 ⟨a, b, c, d, z⟩ ((h.2.2.2.2 ys ns e1 e2 a b c d).2 z)⟩⟩
local macro_rules | `(tactic| walk_at "v15") => `(tactic| try simp only [dVar_app, dC_app, dOp_app, dTest_app, dChain_app, dAnd_app, dOr_app, dNot_app, dAndT_app, dOrT_app, dNotT_app, dIf_app, dNil_app, dCons_app, dTup_app, dLst_app, dCall_app, dBlt_app, dIsi_app, dNoPart_app, dPart_app, dSl_app, dNext_app, dBreak_app, dCont_app, dRet_app, dRetOwn_app, dRetN_app, dDrop_app, dFreeze_app, dSet_app, dFLst_app, dOfF_app, dSetOwn_app, dAppend_app, dInsert_app, dFNil_app, dFVal_app, dFOwn_app, dPar_app, dUnpack_app, iSeq_app, iRange1_app, iRange2_app, dFor_app, dYes_app, dLc_app, dNeg_app, dSetLcV_app, dNever_app, iEnumD_app, dFld_app, dMeth0_app, dProp_app, dRaise_app, dMake_app, dDc_app, dDGet_app, dLocked_app, iKeysD_app, dPenGet_app, dPenSet_app, dRetPen_app, dRev_app, dJoin_app, dDict0_app, dDict1_app, dInC_app, dBits_app, ex_false, nD_snoc, and1N, bitP1, bitP0, has_way_ap, first_way_ap, eqD_int, neD_int, addN, add1N, orN, andN, xorN, ltN, gtN, shrN, inn, notInn, inlst, notinlst, eqD_way, neD_way, eqD_nonway, eqD_waynon, eqD_lst, neD_lst, eqD_bl, isN_way, isNot_way, isN_non, isNot_non, isN_int, isNot_int, len_way, len_book, len_masks, len_entry, len_lst, len_tup, tup_lst, tup_tup, tup_way, lst_way, lst_lst, int_int, way_nD, all_bl, any_bl, rngD_nD, rngD_len, len_nD, Int.toNat_natCast, ex_nil', ex_cons', ex_val, ex_vald, ex_bl, ex_sbl, ex_int, ex_lst, ex_tup, ex_own, ex_vtup, no_lt, no_tl, ex_way_lst, ex_way_tup, ex_book_lst, ex_book_tup, ex_entry_lst, ex_entry_tup, ex_fld_book, ex_fld_ways, len_ap, mask_of_ap, items_of_ap, all_items_ap, lies_within_ap, is_set_ap, is_item_ap, draw_ap, pen_ap, book_ap, init_ap, beq_self_eq_true, reduceCtorEq, if_false, Nat.zero_le, allVal, wipeE, setE, RF.ev, R.d, R.isVal, noLst, startE, List.map_cons, List.map_nil, List.set_cons_zero, List.set_cons_succ, List.getElem?_cons_zero, List.getElem?_cons_succ, List.length_cons, List.length_nil, List.replicate, List.cons_append, List.nil_append, List.append_nil, List.length_map, List.length_range, Nat.reduceSub, Nat.reduceAdd, Bool.not_true, Bool.not_false, Bool.not_not, Bool.false_eq_true, if_true, if_false, decide_eq_true_eq, eq_self, true_and, and_true, true_or, or_true, false_or, or_false, false_and, and_false, Bool.not_eq_true', decide_eq_false_iff_not, ite_not, exists_eq_left, exists_eq_left', eqD_lst_nil, neD_lst_nil, row_ap, natCast_eq, tup_nil, isi_way, in_entry, notin_entry, in_ways, notin_ways, ways_snoc, neD_int, dTupRg_app, dIndex_app, dRevL_app, iRevRg_app, dSaid_app, has_ap, dCmpC_app, dBinC_app, dIsC_app, dLstRg_app, dSetPopAt_app, dFLstRg_app, dReprC_app, dFmt_app, dJs_nil, dJs_cons])
def F_isS : DF := fun ds q _ => ∃ a, ds = [a, a] ∧ eqD a a = some (.bl true) ∧ ReprOk a ∧ q (.bl true)
theorem s__law_isS : ∀ ds q x, F_isS ds q x → ds.length = 2 ∧ t__law_is { nx := fun _ => q .non, rt := q, ex := x } (startE 2 ds) := by
  rintro ds q x ⟨a, rfl, he, hr, hq⟩
  refine ⟨rfl, ?_⟩
  unfold t__law_is
  walk_at "v15"
  obtain ⟨s, e1, e2⟩ := hr
  rw [he]
  walk_at "v15"
  rw [e1]
  walk_at "v15"
  rw [eqD_str (by simp [SeqAt.shaped, PyData.canLay0, PyData.depth, e2])]
  walk_at "v15"
  exact hq
theorem isS_ap {a : D} {q : D → Prop} {x : XP} (he : eqD a a = some (.bl true)) (hr : ReprOk a) (h : q (.bl true)) : F_isS [a, a] q x := ⟨a, rfl, he, hr, h⟩
theorem isS_pt {a : D} {q : D → Prop} {x : XP} (ha : pt a 64 = true) (hr : ReprOk a) (h : q (.bl true)) : F_isS [a, a] q x := isS_ap (eqD_same ha) hr h
local macro_rules | `(tactic| walk_at "v16") => `(tactic| try simp only [dVar_app, dC_app, dOp_app, dTest_app, dChain_app, dAnd_app, dOr_app, dNot_app, dAndT_app, dOrT_app, dNotT_app, dIf_app, dNil_app, dCons_app, dTup_app, dLst_app, dCall_app, dBlt_app, dIsi_app, dNoPart_app, dPart_app, dSl_app, dNext_app, dBreak_app, dCont_app, dRet_app, dRetOwn_app, dRetN_app, dDrop_app, dFreeze_app, dSet_app, dFLst_app, dOfF_app, dSetOwn_app, dAppend_app, dInsert_app, dFNil_app, dFVal_app, dFOwn_app, dPar_app, dUnpack_app, iSeq_app, iRange1_app, iRange2_app, dFor_app, dYes_app, dLc_app, dNeg_app, dSetLcV_app, dNever_app, iEnumD_app, dFld_app, dMeth0_app, dProp_app, dRaise_app, dMake_app, dDc_app, dDGet_app, dLocked_app, iKeysD_app, dPenGet_app, dPenSet_app, dRetPen_app, dRev_app, dJoin_app, dDict0_app, dDict1_app, dInC_app, dBits_app, ex_false, nD_snoc, and1N, bitP1, bitP0, has_way_ap, first_way_ap, eqD_int, neD_int, addN, add1N, orN, andN, xorN, ltN, gtN, shrN, inn, notInn, inlst, notinlst, eqD_way, neD_way, eqD_nonway, eqD_waynon, eqD_lst, neD_lst, eqD_bl, isN_way, isNot_way, isN_non, isNot_non, isN_int, isNot_int, len_way, len_book, len_masks, len_entry, len_lst, len_tup, tup_lst, tup_tup, tup_way, lst_way, lst_lst, int_int, way_nD, all_bl, any_bl, rngD_nD, rngD_len, len_nD, Int.toNat_natCast, ex_nil', ex_cons', ex_val, ex_vald, ex_bl, ex_sbl, ex_int, ex_lst, ex_tup, ex_own, ex_vtup, no_lt, no_tl, ex_way_lst, ex_way_tup, ex_book_lst, ex_book_tup, ex_entry_lst, ex_entry_tup, ex_fld_book, ex_fld_ways, len_ap, mask_of_ap, items_of_ap, all_items_ap, lies_within_ap, is_set_ap, is_item_ap, draw_ap, pen_ap, book_ap, init_ap, beq_self_eq_true, reduceCtorEq, if_false, Nat.zero_le, allVal, wipeE, setE, RF.ev, R.d, R.isVal, noLst, startE, List.map_cons, List.map_nil, List.set_cons_zero, List.set_cons_succ, List.getElem?_cons_zero, List.getElem?_cons_succ, List.length_cons, List.length_nil, List.replicate, List.cons_append, List.nil_append, List.append_nil, List.length_map, List.length_range, Nat.reduceSub, Nat.reduceAdd, Bool.not_true, Bool.not_false, Bool.not_not, Bool.false_eq_true, if_true, if_false, decide_eq_true_eq, eq_self, true_and, and_true, true_or, or_true, false_or, or_false, false_and, and_false, Bool.not_eq_true', decide_eq_false_iff_not, ite_not, exists_eq_left, exists_eq_left', dStarT_app, dMethR_app, reMeth_app, rSetE_app, rRetE_app, rRet3_app, rExprE_app, rUnpE_app, rAppF_app, rIfNin_app, rPutF_app, reGetF_app, rFldV_app, rMake_app, rSetLc_app, rForF_app, rFldL_app, rFldD_app, reOf_app, rFor_app, rNext_app])
/-! ### answers that may be wrong: the right ones are Y of yes and N of no -/
def cntY (Y u : List Nat) : Nat := (Y.filter fun i => !decide (i ∈ u)).length
def cntN (N u : List Nat) : Nat := (N.filter fun i => decide (i ∈ u)).length
def cntW (Y N u : List Nat) : Nat := cntY Y u + cntN N u
theorem filter_less (p : Nat → Bool) : ∀ {w : List Nat} {e : Nat}, w.Pairwise (· < ·) → e ∈ w → (w.filter p).length = (if p e = true then 1 else 0) + ((lessN w e).filter p).length
  | [], e, _, h => by cases h
  | a :: w, e, pw, h => by
    obtain ⟨p1, p2⟩ := List.pairwise_cons.mp pw
    by_cases c : a = e
    · subst c
      have e1 : lessN (a :: w) a = w := by
        unfold lessN
        rw [List.filter_cons_of_neg (by simp), List.filter_eq_self]
        intro j hj
        have := p1 j hj
        simp; omega
      rw [e1]
      by_cases d : p a = true
      · rw [List.filter_cons_of_pos d, if_pos d, List.length_cons, Nat.add_comm]
      · rw [List.filter_cons_of_neg d, if_neg d, Nat.zero_add]
    · have hm : e ∈ w := by
        rcases List.mem_cons.mp h with z | z
        · exact absurd z.symm c
        · exact z
      have ih := filter_less p p2 hm
      have e1 : lessN (a :: w) e = a :: lessN w e := by
        unfold lessN
        rw [List.filter_cons_of_pos (by simp [c])]
      rw [e1]
      by_cases d : p a = true
      · rw [List.filter_cons_of_pos d, List.filter_cons_of_pos d, List.length_cons, List.length_cons, ih]; omega
      · rw [List.filter_cons_of_neg d, List.filter_cons_of_neg d, ih]
theorem len_less {w : List Nat} {e : Nat} (h : w.Pairwise (· < ·)) (m : e ∈ w) : w.length = 1 + (lessN w e).length := by
  have := filter_less (fun _ => true) h m
  rw [if_pos rfl, List.filter_eq_self.mpr (fun _ _ => rfl), List.filter_eq_self.mpr (fun _ _ => rfl)] at this
  exact this
theorem sub_len : ∀ {u w : List Nat}, u.Pairwise (· < ·) → w.Pairwise (· < ·) → (∀ j ∈ u, j ∈ w) → u.length ≤ w.length
  | [], _, _, _, _ => Nat.zero_le _
  | a :: u, w, hu, hw, h => by
    obtain ⟨p1, p2⟩ := List.pairwise_cons.mp hu
    have l := len_less hw (h a List.mem_cons_self)
    have := sub_len p2 (hw.sublist (List.filter_sublist (p := fun j => !decide (j = a)))) fun j hj => mem_less.mpr ⟨h j (List.mem_cons_of_mem _ hj), fun z => by have := p1 j hj; omega⟩
    have e : (w.filter fun j => !decide (j = a)) = lessN w a := rfl
    rw [e] at this
    rw [List.length_cons, l]
    omega
/-- a clash: the item, its noes -/
abbrev Cl := Nat × List Nat
def clD (c : Cl) : D := .tup [.int (c.1 : Nat), wayD c.2]
structure ClOk (kb : List Entry) (ys ns : List Nat) (c : Cl) : Prop where
  iy : c.1 ∈ ys
  asc : c.2.Pairwise (· < ·)
  sub : ∀ j ∈ c.2, j ∈ ns
  gate : Gate kb c.2 c.1
def InR (Y N : List Nat) (c : Cl) : Prop := c.1 ∈ Y ∧ ∀ j ∈ c.2, j ∈ N
/-- the number of answers -/
def wd (ys ns : List Nat) : Nat := ys.length + ns.length
structure CasK (kb : List Entry) (ys ns Y N : List Nat) : Prop where
  k24 : kb.length ≤ 24
  pro : Pro kb ys ns
  ya : Y.Pairwise (· < ·)
  na : N.Pairwise (· < ·)
  ysub : ∀ i ∈ Y, i ∈ ys
  nsub : ∀ i ∈ N, i ∈ ns
section
variable {kb : List Entry} {ys ns Y N : List Nat}
theorem CasK.lessY (h : CasK kb ys ns Y N) (e : Nat) : CasK kb ys ns (lessN Y e) N := ⟨h.k24, h.pro, h.ya.sublist List.filter_sublist, h.na, fun i hi => h.ysub i (mem_less.mp hi).1, h.nsub⟩
theorem CasK.lessN (h : CasK kb ys ns Y N) (e : Nat) : CasK kb ys ns Y (QD.lessN N e) := ⟨h.k24, h.pro, h.ya, h.na.sublist List.filter_sublist, h.ysub, fun i hi => h.nsub i (mem_less.mp hi).1⟩
theorem CasK.nl (h : CasK kb ys ns Y N) : ∀ j ∈ N, j < kb.length := fun j hj => h.pro.nl j (h.nsub j hj)
theorem CasK.yl (h : CasK kb ys ns Y N) : ∀ j ∈ Y, j < kb.length := fun j hj => h.pro.yl j (h.ysub j hj)
/-- the right answers as an integer -/
def rgt (Y N : List Nat) : Nat := maskN Y ||| maskN N
theorem rgt_bit {Y N : List Nat} {i : Nat} : (rgt Y N).testBit i = true ↔ i ∈ Y ∨ i ∈ N := by
  unfold rgt
  rw [Nat.testBit_or, Bool.or_eq_true, mem_maskN, mem_maskN]
theorem rgt_lessY (h : CasK kb ys ns Y N) {e : Nat} (he : e ∈ Y) : rgt Y N ^^^ 2 ^ e = rgt (QD.lessN Y e) N := by
  have hn : e ∉ N := fun z => h.pro.dis e (h.ysub e he) (h.nsub e z)
  refine Nat.eq_of_testBit_eq fun j => ?_
  rw [Nat.testBit_xor, Nat.testBit_two_pow]
  by_cases c : e = j
  · subst c
    have a : (rgt Y N).testBit e = true := rgt_bit.mpr (.inl he)
    have b : (rgt (QD.lessN Y e) N).testBit e = false := by
      rw [← Bool.not_eq_true, rgt_bit]
      rintro (z | z)
      · exact (mem_less.mp z).2 rfl
      · exact hn z
    rw [a, b]; simp
  · rw [decide_eq_false c, Bool.xor_false, Bool.eq_iff_iff, rgt_bit, rgt_bit, mem_less]
    constructor
    · rintro (z | z)
      · exact .inl ⟨z, fun y => c y.symm⟩
      · exact .inr z
    · rintro (z | z)
      · exact .inl z.1
      · exact .inr z
theorem rgt_lessN (h : CasK kb ys ns Y N) {e : Nat} (he : e ∈ N) : rgt Y N ^^^ 2 ^ e = rgt Y (QD.lessN N e) := by
  have hn : e ∉ Y := fun z => h.pro.dis e (h.ysub e z) (h.nsub e he)
  refine Nat.eq_of_testBit_eq fun j => ?_
  rw [Nat.testBit_xor, Nat.testBit_two_pow]
  by_cases c : e = j
  · subst c
    have a : (rgt Y N).testBit e = true := rgt_bit.mpr (.inr he)
    have b : (rgt Y (QD.lessN N e)).testBit e = false := by
      rw [← Bool.not_eq_true, rgt_bit]
      rintro (z | z)
      · exact hn z
      · exact (mem_less.mp z).2 rfl
    rw [a, b]; simp
  · rw [decide_eq_false c, Bool.xor_false, Bool.eq_iff_iff, rgt_bit, rgt_bit, mem_less]
    constructor
    · rintro (z | z)
      · exact .inl z
      · exact .inr ⟨z, fun y => c y.symm⟩
    · rintro (z | z)
      · exact .inl z
      · exact .inr z.1
theorem and_yes (h : CasK kb ys ns Y N) : maskN ys &&& rgt Y N = maskN Y := by
  refine Nat.eq_of_testBit_eq fun j => ?_
  rw [Nat.testBit_and, Bool.eq_iff_iff, Bool.and_eq_true, rgt_bit, mem_maskN, mem_maskN]
  exact ⟨fun ⟨a, b⟩ => b.elim id fun z => absurd (h.nsub j z) (h.pro.dis j a), fun z => ⟨h.ysub j z, .inl z⟩⟩
theorem and_no (h : CasK kb ys ns Y N) : maskN ns &&& rgt Y N = maskN N := by
  refine Nat.eq_of_testBit_eq fun j => ?_
  rw [Nat.testBit_and, Bool.eq_iff_iff, Bool.and_eq_true, rgt_bit, mem_maskN, mem_maskN]
  exact ⟨fun ⟨a, b⟩ => b.elim (fun z => absurd a (h.pro.dis j (h.ysub j z))) id, fun z => ⟨h.nsub j z, .inr z⟩⟩
theorem rgt_inj (h : CasK kb ys ns Y N) {Y' N' : List Nat} (h' : CasK kb ys ns Y' N') (e : rgt Y N = rgt Y' N') : Y = Y' ∧ N = N' := by
  have a : maskN Y = maskN Y' := by rw [← and_yes h, ← and_yes h', e]
  have b : maskN N = maskN N' := by rw [← and_no h, ← and_no h', e]
  exact ⟨by rw [← bitsN_mask h.ya, ← bitsN_mask h'.ya, a], by rw [← bitsN_mask h.na, ← bitsN_mask h'.na, b]⟩
theorem clash_in (h : CasK kb ys ns Y N) {c : Cl} (ok : ClOk kb ys ns c) : (2 ^ c.1 ||| maskN c.2) &&& rgt Y N = (2 ^ c.1 ||| maskN c.2) ↔ InR Y N c := by
  rw [and_eq_left]
  constructor
  · intro z
    refine ⟨?_, fun j hj => ?_⟩
    · have := z c.1 (by rw [Nat.testBit_or, Nat.testBit_two_pow_self]; rfl)
      rcases rgt_bit.mp this with y | y
      · exact y
      · exact absurd (h.nsub _ y) (h.pro.dis _ ok.iy)
    · have := z j (by rw [Nat.testBit_or, mem_maskN.mpr hj, Bool.or_true])
      rcases rgt_bit.mp this with y | y
      · exact absurd (ok.sub j hj) (h.pro.dis j (h.ysub j y))
      · exact y
  · rintro ⟨a, b⟩ i hi
    rw [Nat.testBit_or, Bool.or_eq_true, Nat.testBit_two_pow, decide_eq_true_eq, mem_maskN] at hi
    rcases hi with rfl | hi
    · exact rgt_bit.mpr (.inl a)
    · exact rgt_bit.mpr (.inr (b i hi))
/-- all right answers are those of a state -/
def FitsR (kb : List Entry) (Y N : List Nat) : Prop := ∃ r, Grt [mskB kb] (restM kb.length N) r ∧ ∀ i ∈ Y, i ∈ bitsN r
def HardR (kb : List Entry) (Y N : List Nat) (k : Nat) : Prop := ∀ u, StW kb u → k < cntW Y N u
theorem cntW_lessY (h : CasK kb ys ns Y N) {e : Nat} (he : e ∈ Y) (u : List Nat) : cntW Y N u = (if e ∈ u then 0 else 1) + cntW (QD.lessN Y e) N u := by
  unfold cntW cntY
  rw [filter_less _ h.ya he]
  by_cases c : e ∈ u
  · simp [c]
  · simp [c]; omega
theorem cntW_lessN (h : CasK kb ys ns Y N) {e : Nat} (he : e ∈ N) (u : List Nat) : cntW Y N u = (if e ∈ u then 1 else 0) + cntW Y (QD.lessN N e) u := by
  unfold cntW cntN
  rw [filter_less _ h.na he]
  by_cases c : e ∈ u
  · simp [c]; omega
  · simp [c]
theorem clash_hits {c : Cl} (ok : ClOk kb ys ns c) {u : List Nat} (hu : StW kb u) : c.1 ∉ u ∨ ∃ j ∈ c.2, j ∈ u := by
  by_cases z : c.1 ∈ u
  · obtain ⟨j, h1, h2⟩ := ok.gate u hu z
    exact .inr ⟨j, h2, h1⟩
  · exact .inl z
theorem mem_ne {c : Cl} (h : CasK kb ys ns Y N) (ok : ClOk kb ys ns c) {j : Nat} (hj : j ∈ c.2) : j ≠ c.1 := fun z => h.pro.dis c.1 ok.iy (z ▸ ok.sub j hj)
theorem clash_len (h : CasK kb ys ns Y N) {c : Cl} (ok : ClOk kb ys ns c) : c.2.length + 1 ≤ wd ys ns := by
  have l1 : 1 ≤ ys.length := List.length_pos_of_mem ok.iy
  have l2 : c.2.length ≤ ns.length := sub_len ok.asc h.pro.na ok.sub
  unfold wd
  omega
end

def t_Cases___init__ (CS : Addr) : DR := (rSeq (rFldV CS "book" (dVar 1)) (rSeq (rFldV CS "known" (dVar 2)) (rSeq (rFldV CS "lacked" (dVar 3)) (rSeq (rFldL CS "clashes") (rFldD CS "trees")))))
def t_Cases_smallest_clash (CS : Addr) (F_lies_within : DF) (F_mask_of : DF) : DR := (rSeq (rOf (dSet 2 (dC .non))) (rSeq (rForF (dFld CS "clashes" (dVar 0)) 1 (gTupN [3, 4]) (rOf (dIfS (dAndT (dTest (dCall F_lies_within (dCons (dOp orD (dOp shlD (dC (.int 1)) (dVar 3)) (dCall F_mask_of (dCons (dVar 4) dNil))) (dCons (dVar 1) dNil)))) (dOrT (dTest (dOp isA (dVar 2) (dC .non))) (dTest (dOp ltA (dBlt lenF (dCons (dVar 4) dNil)) (dBlt lenF (dCons (dOp ixD (dVar 2) (dC (.int 1))) dNil)))))) (dSet 2 (dTup (dCons (dVar 3) (dCons (dVar 4) dNil)))) dNext))) (rOf (dRet (dVar 2)))))
def t_Cases_greatest (CS : Addr) (F_greatest_in : DF) (F_all_items : DF) : DS := (dRet (dCall F_greatest_in (dCons (dTup (dCons (dFld CS "book" (dVar 0)) dNil)) (dCons (dOp xorD (dCall F_all_items (dCons (dBlt lenF (dCons (dFld CS "book" (dVar 0)) dNil)) dNil)) (dOp andD (dFld CS "lacked" (dVar 0)) (dVar 1))) dNil))))
def t_Cases_learn_clashes (CS : Addr) (F_items_of : DF) (F_Cases_greatest : DF) (F_needed_noes : DF) : DR := (rSeq (rOf (dSet 2 (dOp andD (dFld CS "known" (dVar 0)) (dVar 1)))) (rFor (iSeq (dCall F_items_of (dCons (dOp xorD (dVar 2) (dOp andD (dVar 2) (dMethR CS "greatest" F_Cases_greatest (dVar 0) (dCons (dVar 1) dNil)))) dNil))) (gN 3) (rAppF (dFld CS "clashes" (dVar 0)) (dTup (dCons (dVar 3) (dCons (dCall F_needed_noes (dCons (dFld CS "book" (dVar 0)) (dCons (dVar 3) (dCons (dCall F_items_of (dCons (dOp andD (dFld CS "lacked" (dVar 0)) (dVar 1)) dNil)) dNil)))) dNil))))))
def t_Cases_clash_within (CS : Addr) (F_Cases_smallest_clash : FR) (F_Cases_learn_clashes : FR) : DR := (rSeq (rSetE 2 (reMeth CS "smallest_clash" F_Cases_smallest_clash (dVar 0) (dCons (dVar 1) dNil))) (rSeq (rIfS (dTest (dOp isA (dVar 2) (dC .non))) (rSeq (rExprE (reMeth CS "learn_clashes" F_Cases_learn_clashes (dVar 0) (dCons (dVar 1) dNil))) (rSetE 2 (reMeth CS "smallest_clash" F_Cases_smallest_clash (dVar 0) (dCons (dVar 1) dNil)))) rNext) (rOf (dRet (dVar 2)))))
def t_Cases_state_with (CS : Addr) (F_Cases_clash_within : FR) (F_Cases_greatest : DF) (F_Cases_state_with : FR) : DR := (rSeq (rSetE 4 (reMeth CS "clash_within" F_Cases_clash_within (dVar 0) (dCons (dVar 1) dNil))) (rSeq (rOf (dIfS (dTest (dOp isA (dVar 4) (dC .non))) (dRet (dMethR CS "greatest" F_Cases_greatest (dVar 0) (dCons (dVar 1) dNil))) dNext)) (rSeq (rOf (dIfS (dTest (dOp eqD (dVar 3) (dC (.int 0)))) (dRet (dC .non)) dNext)) (rSeq (rFor (iSeq (dTup (dCons (dOp ixD (dVar 4) (dC (.int 0))) (dStarT (dOp ixD (dVar 4) (dC (.int 1))) dNil)))) (gN 5) (rIfS (dTest (dOp eqD (dOp andD (dOp shrD (dVar 2) (dVar 5)) (dC (.int 1))) (dC (.int 0)))) (rSeq (rSetE 6 (reMeth CS "state_with" F_Cases_state_with (dVar 0) (dCons (dOp xorD (dVar 1) (dOp shlD (dC (.int 1)) (dVar 5))) (dCons (dVar 2) (dCons (dOp subD (dVar 3) (dC (.int 1))) dNil))))) (rSeq (rOf (dIfS (dTest (dOp isNotA (dVar 6) (dC .non))) (dRet (dVar 6)) dNext)) (rOf (dSet 2 (dOp orD (dVar 2) (dOp shlD (dC (.int 1)) (dVar 5))))))) rNext)) (rOf (dRet (dC .non)))))))
def t_Cases_tree (CS : Addr) (F_Cases_clash_within : FR) (F_items_of : DF) (F_Cases_greatest : DF) (F_Cases_tree : FR) : DR := (rSeq (rIfNin (dVar 1) (dFld CS "trees" (dVar 0)) (rSeq (rUnpE [3, 4] (reMeth CS "clash_within" F_Cases_clash_within (dVar 0) (dCons (dVar 1) dNil))) (rIfS (dTest (dOp eqD (dVar 2) (dC (.int 0)))) (rPutF (dTup (dCons (dC (.str "clash")) (dCons (dVar 3) (dCons (dCall F_items_of (dCons (dMethR CS "greatest" F_Cases_greatest (dVar 0) (dCons (dVar 1) dNil)) dNil)) dNil)))) (dFld CS "trees" (dVar 0)) (dVar 1)) (rSeq (rSetLc 5 [6] (iSeq (dTup (dCons (dVar 3) (dStarT (dVar 4) dNil)))) (gN 6) (reMeth CS "tree" F_Cases_tree (dVar 0) (dCons (dOp xorD (dVar 1) (dOp shlD (dC (.int 1)) (dVar 6))) (dCons (dOp subD (dVar 2) (dC (.int 1))) dNil)))) (rPutF (dTup (dCons (dC (.str "clash")) (dCons (dVar 3) (dCons (dVar 4) (dCons (dBlt tupF (dCons (dVar 5) dNil)) dNil))))) (dFld CS "trees" (dVar 0)) (dVar 1))))) rNext) (rRetE (reGetF (dFld CS "trees" (dVar 0)) (dVar 1))))
/-! ### the object -/
def casN : List Str := ["book", "known", "lacked", "clashes", "trees"]
def casL (kb : List Entry) (ys ns : List Nat) (b c : Addr) : List D := [masksD kb, .int (maskN ys : Nat), .int (maskN ns : Nat), .adr b, .adr c]
def casD (CS : Addr) (kb : List Entry) (ys ns : List Nat) (b c : Addr) : D := .ins CS casN (casL kb ys ns b c)
def casR (b c : Addr) (cl : List Cl) (ks : List Key) (vs : List D) : Reg := [(c, .dic ks vs), (b, .lst (cl.map clD))]
def F_casInit (CS : Addr) : FR := fun ds os q _ => ∃ (a dx : Addr) (bk p l : D), ds = [.adr a, bk, p, l] ∧ os = [(a, .ins CS dx [] [])] ∧ ∀ b c, q .non [(c, .dic [] []), (b, .lst []), (a, .ins CS dx casN [bk, p, l, .adr b, .adr c])]
theorem s_Cases_init (CS : Addr) : ∀ ds os q x, F_casInit CS ds os q x → ds.length = 4 ∧ t_Cases___init__ CS { nx := fun _ os' => q .non os', rt := q, ex := x } (startE 4 ds) os := by
  rintro ds os q x ⟨a, dx, bk, p, l, rfl, rfl, hq⟩
  refine ⟨rfl, ?_⟩
  unfold t_Cases___init__
  refine r_seq fun k hk => ?_
  walk_at "v16"
  refine ⟨_, a, 0, dx, [], [], rfl, rfl, rfl, by simp, by decide, hk _ _ (r_seq fun k hk => ?_)⟩
  walk_at "v16"
  refine ⟨_, a, 0, dx, _, _, rfl, rfl, rfl, by intro g h; rw [List.mem_singleton.mp h]; decide, by decide, hk _ _ (r_seq fun k hk => ?_)⟩
  walk_at "v16"
  refine ⟨_, a, 0, dx, _, _, rfl, rfl, rfl, by intro g h; rcases List.mem_cons.mp h with rfl | h; decide; rw [List.mem_singleton.mp h]; decide, by decide, hk _ _ (r_seq fun k hk => ?_)⟩
  walk_at "v16"
  refine ⟨a, 0, dx, _, _, rfl, rfl, by decide, by decide, fun b => hk _ _ ?_⟩
  walk_at "v16"
  exact ⟨a, 1, dx, _, _, rfl, rfl, by decide, by decide, fun c => hq b c⟩
def F_casGrt (CS : Addr) : DF := fun ds q _ => ∃ (kb : List Entry) (ys ns Y N : List Nat) (b c : Addr), ds = [casD CS kb ys ns b c, .int (rgt Y N : Nat)] ∧ CasK kb ys ns Y N ∧ ∀ r : Nat, Grt [mskB kb] (restM kb.length N) r → q (.int (r : Nat))
theorem s_Cases_greatest (CS : Addr) : ∀ ds q x, F_casGrt CS ds q x → ds.length = 2 ∧ t_Cases_greatest CS F_greatest_in F_all_items { nx := fun _ => q .non, rt := q, ex := x } (startE 2 ds) := by
  rintro ds q x ⟨kb, ys, ns, Y, N, b, c, rfl, h, hq⟩
  refine ⟨rfl, ?_⟩
  unfold t_Cases_greatest casD
  walk_at "v16"
  have hk := h.k24
  have hb := fun j => rest_bits (n := kb.length) (g := maskN N) (i := j) (bits_of h.nl)
  refine ⟨_, _, _, rfl, rfl, by decide, _, _, _, rfl, rfl, _, len_masks kb, ?_⟩
  refine all_items_ap.mpr ⟨by omega, _, _, _, rfl, rfl, _, andN _ _, _, xorN _ _, ?_⟩
  rw [and_no h]
  refine ⟨[mskB kb], _, by rw [masksD_eq]; rfl, ?_, fun m hm i hi => ?_, fun r hr => hq r hr⟩
  · have := small_mask hk fun j hj => ((hb j).mp hj).1
    show (2 ^ kb.length - 1) ^^^ maskN N < 2 ^ 100
    omega
  · rw [List.mem_singleton] at hm
    rw [hm, mskB_len]
    exact ((hb i).mp hi).1
theorem noesGo_gate {kb : List Entry} {i : Nat} : ∀ {es w : List Nat}, Gate kb w i → Gate kb (noesGo kb i es w) i
  | [], w, h => h
  | e :: es, w, h => by
    unfold noesGo
    split
    · rename_i g
      exact noesGo_gate (gateB_iff.mp g)
    · exact noesGo_gate h
def F_smallest (CS : Addr) : FR := fun ds os q _ => ∃ (kb : List Entry) (ys ns Y N : List Nat) (b c : Addr) (cl : List Cl) (ks : List Key) (vs : List D), ds = [casD CS kb ys ns b c, .int (rgt Y N : Nat)] ∧ os = casR b c cl ks vs ∧ CasK kb ys ns Y N ∧ (∀ c ∈ cl, ClOk kb ys ns c) ∧
  ((∀ c ∈ cl, ¬ InR Y N c) → q .non os) ∧ ∀ c ∈ cl, InR Y N c → q (clD c) os
theorem s_Cases_smallest (CS : Addr) : ∀ ds os q x, F_smallest CS ds os q x → ds.length = 2 ∧ t_Cases_smallest_clash CS F_lies_within F_mask_of { nx := fun _ os' => q .non os', rt := q, ex := x } (startE 5 ds) os := by
  rintro ds os q x ⟨kb, ys, ns, Y, N, b, c, cl, ks, vs, rfl, rfl, h, hc, q0, q1⟩
  refine ⟨rfl, ?_⟩
  unfold t_Cases_smallest_clash
  refine r_seq fun k hk => r_of fun k2 hk2 => ?_
  walk_at "v16"
  refine hk2 _ rfl (hk _ _ (r_seq fun k hk => ?_))
  unfold casD
  walk_at "v16"
  refine ⟨_, _, _, rfl, rfl, b, _, rfl, rfl, ?_⟩
  refine r_fork_inv clD (fun o => o[1]? = some (b, OO.lst (cl.map clD))) (fun l env => ∃ bst o3 o4, env = [.val (.ins CS casN (casL kb ys ns b c)), .val (.int (rgt Y N : Nat)), .val bst, o3, o4] ∧ ∃ l0, l0 ++ l = cl ∧ ((bst = .non ∧ ∀ c ∈ l0, ¬ InR Y N c) ∨ ∃ c ∈ cl, InR Y N c ∧ bst = clD c)) rfl ⟨_, _, _, rfl, [], rfl, .inl ⟨rfl, by simp⟩⟩ ?_ ?_
  · rintro a r env k3 ha ⟨bst, o3, o4, rfl, l0, el, hb⟩ hk3
    refine ⟨_, rfl, rfl, r_of fun k4 hk4 => w_if fun A B hA hB => ?_⟩
    have ok := hc a ha
    walk_at "v16"
    have e24 : a.1 ≤ 1000000 := by have := h.pro.yl a.1 ok.iy; have := h.k24; omega
    refine ⟨_, shl1 _ e24, fun j hj => by have := h.pro.nl j (ok.sub j hj); have := h.k24; omega, _, orN _ _, lies_within_ap.mpr ⟨_, rfl, ?_⟩⟩
    have el' : (l0 ++ [a]) ++ r = cl := by simpa using el
    by_cases hin : InR Y N a
    · rw [if_pos (decide_eq_true ((clash_in h ok).mpr hin))]
      have hAA : A := by
        refine hA ?_
        walk_at "v16"
        exact ⟨by decide, hk4 _ rfl (hk3 _ ⟨_, _, _, rfl, l0 ++ [a], el', .inr ⟨a, ha, hin, rfl⟩⟩)⟩
      rcases hb with ⟨rfl, h1⟩ | ⟨c1, m1, i1, rfl⟩
      · exact ⟨.bl true, rfl, true, rfl, hAA⟩
      · have hBB : B := by
          refine hB ?_
          walk_at "v16"
          exact hk4 _ (by rfl) (hk3 _ ⟨_, _, _, rfl, l0 ++ [a], el', .inr ⟨c1, m1, i1, rfl⟩⟩)
        refine ⟨.bl false, rfl, false, rfl, wayD c1.2, rfl, _, len_way c1.2, _, ltN _ _, _, rfl, ?_⟩
        split
        · exact hAA
        · exact hBB
    · rw [if_neg (by rw [decide_eq_true_eq]; exact fun z => hin ((clash_in h ok).mp z))]
      refine hB ?_
      walk_at "v16"
      refine hk4 _ (by rfl) (hk3 _ ⟨_, _, _, rfl, l0 ++ [a], el', hb.imp (fun ⟨e, h1⟩ => ⟨e, fun c hc => ?_⟩) id⟩)
      rcases List.mem_append.mp hc with z | z
      · exact h1 c z
      · rw [List.mem_singleton.mp z]; exact hin
  · rintro env ⟨bst, o3, o4, rfl, l0, el, hb⟩
    refine hk _ _ (r_of fun k4 hk4 => ?_)
    walk_at "v16"
    rw [List.append_nil] at el
    subst el
    rcases hb with ⟨rfl, h1⟩ | ⟨c1, m1, i1, rfl⟩
    · exact q0 h1
    · exact q1 c1 m1 i1

/-! ### clashes learned -/
noncomputable def newC (kb : List Entry) (Y N : List Nat) (r : Nat) : List Cl := (Y.filter fun i => !decide (i ∈ bitsN r)).map fun i => (i, noesN kb i N)
theorem newC_ok {kb : List Entry} {ys ns Y N : List Nat} {r : Nat} (h : CasK kb ys ns Y N) (hr : Grt [mskB kb] (restM kb.length N) r) : ∀ c ∈ newC kb Y N r, ClOk kb ys ns c ∧ InR Y N c := by
  intro c hc
  obtain ⟨i, hi, rfl⟩ := List.mem_map.mp hc
  obtain ⟨h1, h2⟩ := List.mem_filter.mp hi
  rw [Bool.not_eq_true', decide_eq_false_iff_not] at h2
  obtain ⟨p1, p2⟩ := noesGo_lt (kb := kb) (i := i) (es := N) (w := N) h.na
  exact ⟨⟨h.ysub i h1, p1, fun j hj => h.nsub j (p2 j hj), noesGo_gate ((gate_greatest h.nl hr).mpr h2)⟩, h1, p2⟩
theorem newC_len {kb : List Entry} {ys ns Y N : List Nat} {r : Nat} (h : CasK kb ys ns Y N) : (newC kb Y N r).length ≤ wd ys ns := by
  unfold newC
  rw [List.length_map]
  have a := List.length_filter_le (fun i => !decide (i ∈ bitsN r)) Y
  have b := sub_len h.ya h.pro.ya h.ysub
  unfold wd
  omega
theorem wanted_mask (Y : List Nat) (r : Nat) : maskN Y ^^^ (maskN Y &&& r) = maskN (Y.filter fun i => !decide (i ∈ bitsN r)) := by
  refine Nat.eq_of_testBit_eq fun j => ?_
  rw [Nat.testBit_xor, Nat.testBit_and, maskN_bit, maskN_bit]
  by_cases a : j ∈ Y
  · by_cases b : r.testBit j = true
    · rw [decide_eq_true a, b, decide_eq_false fun z => by have := (List.mem_filter.mp z).2; rw [Bool.not_eq_true', decide_eq_false_iff_not, bitsN_mem] at this; exact this b]; rfl
    · rw [decide_eq_true a, decide_eq_true (List.mem_filter.mpr ⟨a, by rw [Bool.not_eq_true', decide_eq_false_iff_not, bitsN_mem]; exact b⟩), (by simpa using b : r.testBit j = false)]; rfl
  · rw [decide_eq_false a, decide_eq_false fun z => a (List.mem_filter.mp z).1]; simp
def F_learn (CS : Addr) : FR := fun ds os q _ => ∃ (kb : List Entry) (ys ns Y N : List Nat) (b c : Addr) (cl : List Cl) (ks : List Key) (vs : List D), ds = [casD CS kb ys ns b c, .int (rgt Y N : Nat)] ∧ os = casR b c cl ks vs ∧ CasK kb ys ns Y N ∧ cl.length + wd ys ns ≤ 16777216 ∧
  ∀ r : Nat, Grt [mskB kb] (restM kb.length N) r → q .non (casR b c (cl ++ newC kb Y N r) ks vs)
theorem s_Cases_learn (CS : Addr) : ∀ ds os q x, F_learn CS ds os q x → ds.length = 2 ∧ t_Cases_learn_clashes CS F_items_of (F_casGrt CS) F_needed_noes { nx := fun _ os' => q .non os', rt := q, ex := x } (startE 4 ds) os := by
  rintro ds os q x ⟨kb, ys, ns, Y, N, b, c, cl, ks, vs, rfl, rfl, h, hl, hq⟩
  refine ⟨rfl, ?_⟩
  have hk := h.k24
  unfold t_Cases_learn_clashes
  refine r_seq fun k hk1 => r_of fun k2 hk2 => ?_
  unfold casD
  walk_at "v16"
  refine ⟨_, _, _, rfl, rfl, _, andN _ _, ?_⟩
  rw [and_yes h]
  refine hk2 _ rfl (hk1 _ _ ?_)
  walk_at "v16"
  refine .inr ⟨⟨_, _, rfl, by decide⟩, kb, ys, ns, Y, N, b, c, rfl, h, fun r hr => ?_⟩
  walk_at "v16"
  have pf : (Y.filter fun i => !decide (i ∈ bitsN r)).Pairwise (· < ·) := h.ya.sublist List.filter_sublist
  rw [wanted_mask, bitsN_mask pf]
  refine ⟨?_, ?_⟩
  · have := mask_lt24 hk (bits_of (n := kb.length) fun i hi => h.yl i (List.mem_filter.mp hi).1 : ∀ i, (maskN (Y.filter fun i => !decide (i ∈ bitsN r))).testBit i = true → i < kb.length)
    omega
  refine r_for_inv (fun i : Nat => D.int (i : Nat)) (fun l env o => ∃ o3, env = [.val (.ins CS casN (casL kb ys ns b c)), .val (.int (rgt Y N : Nat)), .val (.int (maskN Y : Nat)), o3] ∧ ∃ l0, l0 ++ l = (Y.filter fun i => !decide (i ∈ bitsN r)) ∧ o = casR b c (cl ++ l0.map fun i => (i, noesN kb i N)) ks vs) ⟨_, rfl, [], rfl, by simp⟩ ?_ ?_
  · rintro i l env o k3 hi ⟨o3, rfl, l0, el, rfl⟩ hk3
    refine ⟨_, rfl, rfl, ?_⟩
    have hiY := (List.mem_filter.mp hi).1
    have len : (cl ++ l0.map fun i => (i, noesN kb i N)).length < 16777216 := by
      have a := newC_len (r := r) h
      unfold newC at a
      rw [← el] at a
      simp at a ⊢
      omega
    walk_at "v16"
    refine ⟨_, _, _, rfl, rfl, b, 1, _, rfl, rfl, by rw [List.length_map]; exact len, ?_⟩
    refine ⟨_, _, _, rfl, rfl, ?_⟩
    walk_at "v16"
    refine ⟨_, _, _, rfl, rfl, _, andN _ _, ?_⟩
    rw [and_no h]
    refine items_of_ap.mpr ⟨?_, ?_⟩
    · have := mask_lt24 hk (bits_of h.nl)
      omega
    rw [bitsN_mask h.na]
    walk_at "v16"
    refine ⟨kb, i, N, rfl, hk, h.na, h.nl, ?_⟩
    walk_at "v16"
    refine ⟨by decide, hk3 _ _ ⟨_, rfl, l0 ++ [i], by simpa using el, ?_⟩⟩
    show [(c, OO.dic ks vs), (b, OO.lst _)] = [(c, OO.dic ks vs), (b, OO.lst _)]
    rw [List.map_append, List.map_append, List.map_append, List.map_append, List.append_assoc]
    rfl
  · rintro env o ⟨o3, rfl, l0, el, rfl⟩
    rw [List.append_nil] at el
    subst el
    exact hq r hr

/-! ### a clash of right answers -/
def F_within (CS : Addr) : FR := fun ds os q _ => ∃ (kb : List Entry) (ys ns Y N : List Nat) (b c : Addr) (cl : List Cl) (ks : List Key) (vs : List D), ds = [casD CS kb ys ns b c, .int (rgt Y N : Nat)] ∧ os = casR b c cl ks vs ∧ CasK kb ys ns Y N ∧ (∀ c ∈ cl, ClOk kb ys ns c) ∧ cl.length + wd ys ns ≤ 16777216 ∧
  ∀ new : List Cl, (∀ c ∈ new, ClOk kb ys ns c) → new.length ≤ wd ys ns → (FitsR kb Y N → q .non (casR b c (cl ++ new) ks vs)) ∧ ∀ a ∈ cl ++ new, InR Y N a → q (clD a) (casR b c (cl ++ new) ks vs)
theorem s_Cases_within (CS : Addr) : ∀ ds os q x, F_within CS ds os q x → ds.length = 2 ∧ t_Cases_clash_within CS (F_smallest CS) (F_learn CS) { nx := fun _ os' => q .non os', rt := q, ex := x } (startE 3 ds) os := by
  rintro ds os q x ⟨kb, ys, ns, Y, N, b, c, cl, ks, vs, rfl, rfl, h, hc, hl, hq⟩
  refine ⟨rfl, ?_⟩
  have hk := h.k24
  unfold t_Cases_clash_within
  refine r_seq fun k hk1 => ?_
  unfold casD
  walk_at "v16"
  refine ⟨⟨_, _, rfl, by decide⟩, kb, ys, ns, Y, N, b, c, cl, ks, vs, rfl, rfl, h, hc, fun _ => ?_, fun a ha hin => ?_⟩
  · refine hk1 _ _ (r_seq fun k hk2 => r_if fun A B hA hB => ?_)
    walk_at "v16"
    refine hA (r_seq fun k hk3 => ?_)
    walk_at "v16"
    refine ⟨⟨_, _, rfl, by decide⟩, kb, ys, ns, Y, N, b, c, cl, ks, vs, rfl, rfl, h, hl, fun r hr => hk3 _ _ ?_⟩
    have hn := newC_ok h hr
    have hall : ∀ a ∈ cl ++ newC kb Y N r, ClOk kb ys ns a := fun a ha => by
      rcases List.mem_append.mp ha with z | z
      · exact hc a z
      · exact (hn a z).1
    obtain ⟨q1, q2⟩ := hq _ (fun a ha => (hn a ha).1) (newC_len h)
    walk_at "v16"
    refine ⟨⟨_, _, rfl, by decide⟩, kb, ys, ns, Y, N, b, c, _, ks, vs, rfl, rfl, h, hall, fun hno => ?_, fun a ha hin => ?_⟩
    · have hfit : FitsR kb Y N := ⟨r, hr, fun i hi => by
        apply Classical.byContradiction
        intro z
        have m : (i, noesN kb i N) ∈ newC kb Y N r := List.mem_map.mpr ⟨i, List.mem_filter.mpr ⟨hi, by simpa using z⟩, rfl⟩
        exact hno _ (List.mem_append_right _ m) (hn _ m).2⟩
      refine hk2 _ _ (r_of fun k4 hk4 => ?_)
      walk_at "v16"
      exact q1 hfit
    · refine hk2 _ _ (r_of fun k4 hk4 => ?_)
      walk_at "v16"
      exact q2 a ha hin
  · refine hk1 _ _ (r_seq fun k hk2 => r_if fun A B hA hB => ?_)
    walk_at "v16"
    refine ⟨.bl false, rfl, false, rfl, ?_⟩
    rw [if_neg (by decide)]
    refine hB (hk2 _ _ (r_of fun k4 hk4 => ?_))
    walk_at "v16"
    have z := (hq [] (by simp) (by simp)).2 a (by simpa using ha) hin
    rw [List.append_nil] at z
    exact z

/-! ### the search for a state -/
def HardX (kb : List Entry) (Y N : List Nat) (fx k : Nat) : Prop := ∀ u, StW kb u → (∀ i ∈ Y, fx.testBit i = true → i ∈ u) → (∀ j ∈ N, fx.testBit j = true → j ∉ u) → k < cntW Y N u
def rightIn (a : Cl) (u : List Nat) (x : Nat) : Prop := if x = a.1 then x ∈ u else x ∉ u
def YR (a : Cl) (Y : List Nat) (x : Nat) : List Nat := if x = a.1 then lessN Y x else Y
def NR (a : Cl) (N : List Nat) (x : Nat) : List Nat := if x = a.1 then N else lessN N x
section
variable {kb : List Entry} {ys ns Y N : List Nat} {a : Cl} {x : Nat}
theorem cl_mem (hin : InR Y N a) (hx : x ∈ a.1 :: a.2) : (x = a.1 ∧ x ∈ Y) ∨ (x ∈ a.2 ∧ x ∈ N) := by
  rcases List.mem_cons.mp hx with rfl | z
  · exact .inl ⟨rfl, hin.1⟩
  · exact .inr ⟨z, hin.2 x z⟩
theorem CasK.rest (h : CasK kb ys ns Y N) (x : Nat) : CasK kb ys ns (YR a Y x) (NR a N x) := by
  unfold YR NR
  by_cases c : x = a.1
  · rw [if_pos c, if_pos c]; exact h.lessY x
  · rw [if_neg c, if_neg c]; exact h.lessN x
theorem rgt_rest (h : CasK kb ys ns Y N) (ok : ClOk kb ys ns a) (hin : InR Y N a) (hx : x ∈ a.1 :: a.2) : rgt Y N ^^^ 2 ^ x = rgt (YR a Y x) (NR a N x) := by
  unfold YR NR
  rcases cl_mem hin hx with ⟨e, m⟩ | ⟨z, m⟩
  · rw [if_pos e, if_pos e]; exact rgt_lessY h m
  · have ne := mem_ne h ok z
    rw [if_neg ne, if_neg ne]; exact rgt_lessN h m
theorem cnt_rest (h : CasK kb ys ns Y N) (ok : ClOk kb ys ns a) (hin : InR Y N a) (hx : x ∈ a.1 :: a.2) (u : List Nat) : (rightIn a u x → cntW Y N u = cntW (YR a Y x) (NR a N x) u) ∧ (¬ rightIn a u x → cntW Y N u = 1 + cntW (YR a Y x) (NR a N x) u) := by
  unfold YR NR rightIn
  rcases cl_mem hin hx with ⟨e, m⟩ | ⟨z, m⟩
  · rw [if_pos e, if_pos e, if_pos e]
    have := cntW_lessY h m u
    constructor
    · intro w; rw [if_pos w] at this; omega
    · intro w; rw [if_neg w] at this; exact this
  · have ne := mem_ne h ok z
    rw [if_neg ne, if_neg ne, if_neg ne]
    have := cntW_lessN h m u
    constructor
    · intro w; rw [if_neg w] at this; omega
    · intro w; rw [if_pos (Classical.not_not.mp w)] at this; exact this
theorem cnt_rest_le (h : CasK kb ys ns Y N) (ok : ClOk kb ys ns a) (hin : InR Y N a) (hx : x ∈ a.1 :: a.2) (u : List Nat) : cntW Y N u ≤ 1 + cntW (YR a Y x) (NR a N x) u := by
  obtain ⟨h1, h2⟩ := cnt_rest h ok hin hx u
  by_cases c : rightIn a u x
  · have := h1 c; omega
  · have := h2 c; omega
theorem not_all_right (ok : ClOk kb ys ns a) (h : CasK kb ys ns Y N) {u : List Nat} (hu : StW kb u) : ¬ ∀ x ∈ a.1 :: a.2, rightIn a u x := fun z => by
  have z1 := z a.1 List.mem_cons_self
  unfold rightIn at z1
  rw [if_pos rfl] at z1
  rcases clash_hits ok hu with y | ⟨j, y1, y2⟩
  · exact y z1
  · have := z j (List.mem_cons_of_mem _ y1)
    unfold rightIn at this
    rw [if_neg (mem_ne h ok y1)] at this
    exact this y2
end
theorem grt_state {kb : List Entry} {ys ns Y N : List Nat} {r : Nat} (h : CasK kb ys ns Y N) (hr : Grt [mskB kb] (restM kb.length N) r) (hf : FitsR kb Y N) : StW kb (bitsN r) ∧ cntW Y N (bitsN r) = 0 := by
  obtain ⟨s, g, hy⟩ := hf
  cases hr.uniq g
  refine ⟨StW.of_greatest h.nl hr, ?_⟩
  unfold cntW cntY cntN
  rw [List.filter_eq_nil_iff.mpr fun i hi => by simpa using hy i hi, List.filter_eq_nil_iff.mpr fun i hi => by
    have : i ∉ bitsN r := fun z => (mem_bits_greatest h.nl hr z).2 hi
    simpa using this]
  rfl
def F_state (CS : Addr) : Nat → FR
  | 0 => fun _ _ _ _ => False
  | n + 1 => fun ds os q _ => ∃ (kb : List Entry) (ys ns Y N : List Nat) (b c : Addr) (cl : List Cl) (ks : List Key) (vs : List D) (fx k : Nat), ds = [casD CS kb ys ns b c, .int (rgt Y N : Nat), .int (fx : Nat), .int (k : Nat)] ∧ os = casR b c cl ks vs ∧ CasK kb ys ns Y N ∧ (∀ c ∈ cl, ClOk kb ys ns c) ∧ k ≤ n ∧ cl.length + wd ys ns * (wd ys ns + 1) ^ k ≤ 16000000 ∧
    ∀ new : List Cl, (∀ c ∈ new, ClOk kb ys ns c) → new.length ≤ wd ys ns * (wd ys ns + 1) ^ k → (HardX kb Y N fx k → q .non (casR b c (cl ++ new) ks vs)) ∧ ∀ u, StW kb u → cntW Y N u ≤ k → q (.int (maskN u : Nat)) (casR b c (cl ++ new) ks vs)
theorem s_Cases_state (CS : Addr) (n : Nat) : ∀ ds os q x, F_state CS (n + 1) ds os q x → ds.length = 4 ∧ t_Cases_state_with CS (F_within CS) (F_casGrt CS) (F_state CS n) { nx := fun _ os' => q .non os', rt := q, ex := x } (startE 7 ds) os := by
  rintro ds os q x ⟨kb, ys, ns, Y, N, b, c, cl, ks, vs, fx, k, rfl, rfl, h, hc, hkn, hl, hq⟩
  refine ⟨rfl, ?_⟩
  have hk := h.k24
  have p7 : wd ys ns ≤ wd ys ns * (wd ys ns + 1) ^ k := Nat.le_mul_of_pos_right _ (Nat.pow_pos (by omega))
  unfold t_Cases_state_with
  refine r_seq fun k1 hk1 => ?_
  unfold casD
  walk_at "v16"
  refine ⟨⟨_, _, rfl, by decide⟩, kb, ys, ns, Y, N, b, c, cl, ks, vs, rfl, rfl, h, hc, by omega, fun new hn nl => ⟨fun hfit => ?_, fun a ha hin => ?_⟩⟩
  · refine hk1 _ _ (r_seq fun k2 hk2 => r_of fun k3 hk3 => w_if fun A B hA hB => ?_)
    walk_at "v16"
    refine hA ?_
    walk_at "v16"
    refine ⟨⟨_, _, rfl, by decide⟩, kb, ys, ns, Y, N, b, c, rfl, h, fun r hr => ?_⟩
    walk_at "v16"
    obtain ⟨g1, g2⟩ := grt_state h hr hfit
    have z := (hq new hn (by omega)).2 (bitsN r) g1 (by omega)
    rw [mask_bitsN] at z
    exact z
  · refine hk1 _ _ (r_seq fun k2 hk2 => r_of fun k3 hk3 => w_if fun A B hA hB => ?_)
    have hall : ∀ a ∈ cl ++ new, ClOk kb ys ns a := fun a ha => by
      rcases List.mem_append.mp ha with z | z
      · exact hc a z
      · exact hn a z
    have ok := hall a ha
    walk_at "v16"
    refine ⟨.bl false, rfl, false, rfl, ?_⟩
    rw [if_neg (by decide)]
    refine hB (hk3 _ rfl (hk2 _ _ (r_seq fun k2 hk2 => r_of fun k3 hk3 => w_if fun A B hA hB => ?_)))
    walk_at "v16"
    have some_wrong : ∀ u, StW kb u → 1 ≤ cntW Y N u := fun u hu => by
      apply Classical.byContradiction
      intro z
      refine not_all_right ok h hu fun x hx => ?_
      apply Classical.byContradiction
      intro w
      have := (cnt_rest h ok hin hx u).2 w
      omega
    cases k with
    | zero =>
      refine cast (if_pos rfl).symm (hA ?_)
      walk_at "v16"
      exact (hq new hn (by omega)).1 fun u hu _ _ => some_wrong u hu
    | succ k' =>
      rw [if_neg (by omega)]
      refine hB (hk3 _ rfl (hk2 _ _ (r_seq fun k2 hk2 => ?_)))
      have lc := clash_len h ok
      obtain ⟨d, hdw⟩ : ∃ d, wd ys ns = d + 1 := ⟨wd ys ns - 1, by omega⟩
      rw [hdw] at hl hq nl lc p7
      have pw : (d + 1) * (d + 1 + 1) ^ (k' + 1) = d * ((d + 1) * (d + 1 + 1) ^ k') + 2 * ((d + 1) * (d + 1 + 1) ^ k') := by
        rw [Nat.pow_succ, ← Nat.mul_assoc, Nat.mul_comm _ (d + 1 + 1), show d + 1 + 1 = d + 2 from rfl, Nat.add_mul]
      have W6 : d + 1 ≤ (d + 1) * (d + 1 + 1) ^ k' := Nat.le_mul_of_pos_right _ (Nat.pow_pos (by omega))
      rw [pw] at hl hq
      generalize hW : (d + 1) * (d + 1 + 1) ^ k' = W at hl hq W6
      walk_at "v16"
      refine ⟨.int (a.1 : Nat), rfl, wayD a.2, rfl, nD a.2, rfl, nD a.2, rfl, by rw [len_nD]; omega, ?_⟩
      refine r_for_inv (l := a.1 :: a.2) (fun i : Nat => D.int (i : Nat)) (fun l env o => ∃ (fx' : Nat) (o5 o6 : EV) (nw : List Cl) (l0 : List Nat), env = [.val (.ins CS casN (casL kb ys ns b c)), .val (.int (rgt Y N : Nat)), .val (.int (fx' : Nat)), .val (.int ((k' + 1 : Nat) : Int)), .val (clD a), o5, o6] ∧ noOwnB [o6] = true ∧ l0 ++ l = a.1 :: a.2 ∧ (∀ y, fx'.testBit y = true ↔ fx.testBit y = true ∨ y ∈ l0) ∧ (∀ c ∈ nw, ClOk kb ys ns c) ∧ nw.length ≤ d + 1 + l0.length * W ∧ o = casR b c (cl ++ nw) ks vs ∧
        ∀ u, StW kb u → (∀ i ∈ Y, fx.testBit i = true → i ∈ u) → (∀ j ∈ N, fx.testBit j = true → j ∉ u) → cntW Y N u ≤ k' + 1 → ∀ y ∈ l0, rightIn a u y) ⟨fx, _, _, new, [], rfl, rfl, rfl, by simp, hn, by simpa using nl, rfl, by simp⟩ ?_ ?_
      · rintro x r env o k3 hx ⟨fx', o5, o6, nw, l0, rfl, ho, el, hfx, hnw, lnw, rfl, hP⟩ hk3
        refine ⟨_, rfl, ho, r_if fun A B hA hB => ?_⟩
        have el' : (l0 ++ [x]) ++ r = a.1 :: a.2 := by simpa using el
        have ll : l0.length + (r.length + 1) = a.2.length + 1 := by
          have := congrArg List.length el
          simpa using this
        have x24 : x ≤ 1000000 := by
          rcases cl_mem hin hx with ⟨_, m⟩ | ⟨_, m⟩
          · have := h.yl x m; omega
          · have := h.nl x m; omega
        walk_at "v16"
        by_cases fb : fx'.testBit x = true
        · rw [if_neg (by rw [fb]; simp)]
          refine hB ?_
          walk_at "v16"
          refine hk3 _ _ ⟨fx', _, o6, nw, l0 ++ [x], rfl, ho, el', fun y => ?_, hnw, ?_, rfl, fun u hu g1 g2 g3 y hy => ?_⟩
          · rw [hfx y, List.mem_append, List.mem_singleton]
            constructor
            · rintro (z | z)
              · exact .inl z
              · exact .inr (.inl z)
            · rintro (z | z | z)
              · exact .inl z
              · exact .inr z
              · rw [z]; exact (hfx x).mp fb
          · rw [List.length_append, Nat.add_mul]; omega
          · rcases List.mem_append.mp hy with z | z
            · exact hP u hu g1 g2 g3 y z
            · rw [List.mem_singleton.mp z]
              rcases (hfx x).mp fb with w | w
              · unfold rightIn
                rcases cl_mem hin hx with ⟨e, m⟩ | ⟨z, m⟩
                · rw [if_pos e]; exact g1 x m w
                · rw [if_neg (mem_ne h ok z)]; exact g2 x m w
              · exact hP u hu g1 g2 g3 x w
        · rw [if_pos (by simpa using fb)]
          refine hA (r_seq fun k4 hk4 => ?_)
          walk_at "v16"
          obtain ⟨n', rfl⟩ : ∃ n', n = n' + 1 := ⟨n - 1, by omega⟩
          have lm : l0.length * W ≤ d * W := Nat.mul_le_mul_right W (by omega)
          have hall' : ∀ c ∈ cl ++ nw, ClOk kb ys ns c := fun d hd => by
            rcases List.mem_append.mp hd with z | z
            · exact hc d z
            · exact hnw d z
          refine ⟨⟨_, _, rfl, by decide⟩, _, shl1 x x24, _, xorN _ _, _, sub1N (by omega), ?_⟩
          rw [rgt_rest h ok hin hx]
          refine ⟨kb, ys, ns, YR a Y x, NR a N x, b, c, cl ++ nw, ks, vs, fx', k', rfl, rfl, h.rest x, hall', by omega, by rw [List.length_append, hdw, hW]; omega, fun new2 hn2 nl2 => ⟨fun hard => ?_, fun u hu hcnt => ?_⟩⟩
          · rw [hdw, hW] at nl2
            refine hk4 _ _ (r_seq fun k5 hk5 => r_of fun k6 hk6 => w_if fun A B hA hB => ?_)
            walk_at "v16"
            refine hB (hk6 _ rfl (hk5 _ _ (r_of fun k5 hk5 => ?_)))
            walk_at "v16"
            refine ⟨_, shl1 x x24, _, orN _ _, hk5 _ rfl (hk3 _ _ ⟨fx' ||| 2 ^ x, _, .val .non, nw ++ new2, l0 ++ [x], rfl, rfl, el', fun y => ?_, fun d hd => ?_, ?_, by rw [List.append_assoc], fun u hu g1 g2 g3 y hy => ?_⟩)⟩
            · rw [Nat.testBit_or, Bool.or_eq_true, hfx y, List.mem_append, List.mem_singleton, Nat.testBit_two_pow, decide_eq_true_eq, or_assoc]
              exact or_congr_right (or_congr_right eq_comm)
            · rcases List.mem_append.mp hd with z | z
              · exact hnw d z
              · exact hn2 d z
            · rw [List.length_append, List.length_append, Nat.add_mul, List.length_singleton, Nat.one_mul]; omega
            · rcases List.mem_append.mp hy with z | z
              · exact hP u hu g1 g2 g3 y z
              · rw [List.mem_singleton.mp z]
                apply Classical.byContradiction
                intro w
                have e := (cnt_rest h ok hin hx u).2 w
                have := hard u hu (fun i hi hb => ?_) fun j hj hb => ?_
                · omega
                · have iY : i ∈ Y := by
                    unfold YR at hi
                    split at hi
                    · exact (mem_less.mp hi).1
                    · exact hi
                  rcases (hfx i).mp hb with v | v
                  · exact g1 i iY v
                  · have r1 := hP u hu g1 g2 g3 i v
                    have m1 : i ∈ a.1 :: a.2 := by rw [← el]; exact List.mem_append_left _ v
                    unfold rightIn at r1
                    rcases cl_mem hin m1 with ⟨e1, _⟩ | ⟨_, e1⟩
                    · rwa [if_pos e1] at r1
                    · exact absurd (h.nsub i e1) (h.pro.dis i (h.ysub i iY))
                · have jN : j ∈ N := by
                    unfold NR at hj
                    split at hj
                    · exact hj
                    · exact (mem_less.mp hj).1
                  rcases (hfx j).mp hb with v | v
                  · exact g2 j jN v
                  · have r1 := hP u hu g1 g2 g3 j v
                    have m1 : j ∈ a.1 :: a.2 := by rw [← el]; exact List.mem_append_left _ v
                    unfold rightIn at r1
                    rcases cl_mem hin m1 with ⟨_, e1⟩ | ⟨e1, _⟩
                    · exact absurd (h.nsub j jN) (h.pro.dis j (h.ysub j e1))
                    · rwa [if_neg (mem_ne h ok e1)] at r1
          · rw [hdw, hW] at nl2
            refine hk4 _ _ (r_seq fun k5 hk5 => r_of fun k6 hk6 => w_if fun A B hA hB => ?_)
            walk_at "v16"
            refine hA ?_
            walk_at "v16"
            have le := cnt_rest_le h ok hin hx u
            have z := (hq (nw ++ new2) (fun d hd => by
              rcases List.mem_append.mp hd with z | z
              · exact hnw d z
              · exact hn2 d z) (by rw [List.length_append]; omega)).2 u hu (by omega)
            rw [← List.append_assoc] at z
            exact z
      · rintro env o ⟨fx', o5, o6, nw, l0, rfl, ho, el, hfx, hnw, lnw, rfl, hP⟩
        rw [List.append_nil] at el
        subst el
        refine hk2 _ _ (r_of fun k3 hk3 => ?_)
        walk_at "v16"
        have lm : (a.1 :: a.2).length * W ≤ (d + 1) * W := Nat.mul_le_mul_right W (by simpa using lc)
        rw [Nat.add_mul, Nat.one_mul] at lm
        refine (hq nw hnw (by omega)).1 fun u hu g1 g2 => ?_
        apply Classical.byContradiction
        intro z
        exact not_all_right ok h hu (hP u hu g1 g2 (by omega))

/-! ### case trees -/
def ShowsT (kb : List Entry) (ys ns : List Nat) : Nat → List Nat → List Nat → D → Prop
  | 0, Y, N, v => ∃ i r : Nat, v = .tup [.str "clash", .int (i : Nat), wayD (bitsN r)] ∧ i ∈ Y ∧ Grt [mskB kb] (restM kb.length N) r ∧ i ∉ bitsN r
  | k + 1, Y, N, v => ∃ (a : Cl) (ts : List D), v = .tup [.str "clash", .int (a.1 : Nat), wayD a.2, .tup ts] ∧ ClOk kb ys ns a ∧ InR Y N a ∧ ts.length = a.2.length + 1 ∧ ∀ (p x : Nat) (t : D), (a.1 :: a.2)[p]? = some x → ts[p]? = some t → ShowsT kb ys ns k (YR a Y x) (NR a N x) t
def keyR (Y N : List Nat) : Key := .inl ((rgt Y N : Nat) : Int)
def TrOk (kb : List Entry) (ys ns : List Nat) (s : Nat) (ks : List Key) (vs : List D) : Prop := ks.length = vs.length ∧ ∀ (p : Nat) (key : Key) (v : D), ks[p]? = some key → vs[p]? = some v → ∃ Y N k, CasK kb ys ns Y N ∧ key = keyR Y N ∧ k + s = Y.length + N.length ∧ ShowsT kb ys ns k Y N v
theorem lkK_in {k : Key} : ∀ {ks : List Key} {vs : List D}, ks.length = vs.length → k ∈ ks → ∃ (p : Nat) (v : D), lkK k ks vs = some v ∧ ks[p]? = some k ∧ vs[p]? = some v
  | [], _, _, h => by cases h
  | a :: ks, [], h, _ => by cases h
  | a :: ks, v :: vs, hl, h => by
    unfold lkK
    by_cases c : a = k
    · subst c
      exact ⟨0, v, by simp, rfl, rfl⟩
    · have hm : k ∈ ks := by
        rcases List.mem_cons.mp h with z | z
        · exact absurd z.symm c
        · exact z
      obtain ⟨p, w, h1, h2, h3⟩ := lkK_in (by simpa using hl) hm
      exact ⟨p + 1, w, by simp [c]; exact h1, h2, h3⟩
theorem lkK_snoc {k : Key} {v : D} : ∀ {ks : List Key} {vs : List D}, ks.length = vs.length → k ∉ ks → lkK k (ks ++ [k]) (vs ++ [v]) = some v
  | [], [], _, _ => by simp [lkK]
  | [], _ :: _, h, _ => by cases h
  | a :: ks, [], h, _ => by cases h
  | a :: ks, w :: vs, hl, h => by
    have c : a ≠ k := fun z => h (z ▸ List.mem_cons_self)
    show lkK k (a :: (ks ++ [k])) (w :: (vs ++ [v])) = _
    unfold lkK
    simp [c]
    exact lkK_snoc (by simpa using hl) fun z => h (List.mem_cons_of_mem _ z)
theorem inK_false {k : Key} {ks : List Key} : inK k ks = false ↔ k ∉ ks := by rw [← inK_iff, Bool.not_eq_true]
theorem TrOk.snoc {kb : List Entry} {ys ns : List Nat} {s : Nat} {ks : List Key} {vs : List D} (t : TrOk kb ys ns s ks vs) {Y N : List Nat} {k : Nat} {v : D} (h : CasK kb ys ns Y N) (e : k + s = Y.length + N.length) (sh : ShowsT kb ys ns k Y N v) : TrOk kb ys ns s (ks ++ [keyR Y N]) (vs ++ [v]) := by
  refine ⟨by simp [t.1], fun p key w h1 h2 => ?_⟩
  by_cases c : p < ks.length
  · rw [List.getElem?_append_left c] at h1
    rw [List.getElem?_append_left (by rw [← t.1]; exact c)] at h2
    exact t.2 p key w h1 h2
  · have l1 := (List.getElem?_eq_some_iff.mp h1).1
    have e1 : p = ks.length := by simp at l1; omega
    subst e1
    rw [List.getElem?_append_right (Nat.le_refl _), Nat.sub_self] at h1
    rw [t.1, List.getElem?_append_right (Nat.le_refl _), Nat.sub_self] at h2
    cases h1; cases h2
    exact ⟨Y, N, k, h, rfl, e, sh⟩
theorem len_rest {kb : List Entry} {ys ns Y N : List Nat} {a : Cl} {x : Nat} (h : CasK kb ys ns Y N) (hin : InR Y N a) (ok : ClOk kb ys ns a) (hx : x ∈ a.1 :: a.2) : Y.length + N.length = (YR a Y x).length + (NR a N x).length + 1 := by
  unfold YR NR
  rcases cl_mem hin hx with ⟨e, m⟩ | ⟨z, m⟩
  · rw [if_pos e, if_pos e, len_less h.ya m]; omega
  · have ne := mem_ne h ok z
    rw [if_neg ne, if_neg ne, len_less h.na m]; omega
theorem keyR_inj {kb : List Entry} {ys ns Y N Y' N' : List Nat} (h : CasK kb ys ns Y N) (h' : CasK kb ys ns Y' N') (e : keyR Y N = keyR Y' N') : Y = Y' ∧ N = N' := rgt_inj h h' (by
  have := Sum.inl.inj e
  exact Int.ofNat.inj this)
theorem hard_rest {kb : List Entry} {ys ns Y N : List Nat} {a : Cl} {x k : Nat} (h : CasK kb ys ns Y N) (ok : ClOk kb ys ns a) (hin : InR Y N a) (hx : x ∈ a.1 :: a.2) (hd : HardR kb Y N (k + 1)) : HardR kb (YR a Y x) (NR a N x) k := fun u hu => by
  have := hd u hu
  have := cnt_rest_le h ok hin hx u
  omega
theorem hard_no_fit {kb : List Entry} {ys ns Y N : List Nat} {k : Nat} (h : CasK kb ys ns Y N) (hd : HardR kb Y N k) : ¬ FitsR kb Y N := fun hf => by
  have hf' := hf
  obtain ⟨r, g, _⟩ := hf
  obtain ⟨g1, g2⟩ := grt_state h g hf'
  have := hd _ g1
  omega
def F_tree (CS : Addr) : Nat → FR
  | 0 => fun _ _ _ _ => False
  | n + 1 => fun ds os q _ => ∃ (kb : List Entry) (ys ns Y N : List Nat) (b c : Addr) (cl : List Cl) (ks : List Key) (vs : List D) (k s : Nat), ds = [casD CS kb ys ns b c, .int (rgt Y N : Nat), .int (k : Nat)] ∧ os = casR b c cl ks vs ∧ CasK kb ys ns Y N ∧ (∀ c ∈ cl, ClOk kb ys ns c) ∧ k ≤ n ∧ k + s = Y.length + N.length ∧ HardR kb Y N k ∧ TrOk kb ys ns s ks vs ∧ ks.length + (wd ys ns + 1) ^ k ≤ 16000000 ∧ cl.length + wd ys ns * (wd ys ns + 1) ^ k ≤ 16000000 ∧
    ∀ (new : List Cl) (kn : List Key) (vn : List D) (v : D), (∀ c ∈ new, ClOk kb ys ns c) → new.length ≤ wd ys ns * (wd ys ns + 1) ^ k → kn.length ≤ (wd ys ns + 1) ^ k → TrOk kb ys ns s (ks ++ kn) (vs ++ vn) → (∀ key ∈ kn, ∃ Y' N', CasK kb ys ns Y' N' ∧ key = keyR Y' N' ∧ Y'.length + N'.length ≤ Y.length + N.length) → ShowsT kb ys ns k Y N v → q v (casR b c (cl ++ new) (ks ++ kn) (vs ++ vn))
theorem s_Cases_tree (CS : Addr) (n : Nat) : ∀ ds os q x, F_tree CS (n + 1) ds os q x → ds.length = 3 ∧ t_Cases_tree CS (F_within CS) F_items_of (F_casGrt CS) (F_tree CS n) { nx := fun _ os' => q .non os', rt := q, ex := x } (startE 7 ds) os := by
  rintro ds os q x ⟨kb, ys, ns, Y, N, b, c, cl, ks, vs, k, s, rfl, rfl, h, hc, hkn, hs, hd, ht, hlk, hl, hq⟩
  refine ⟨rfl, ?_⟩
  have hk := h.k24
  have p7 : wd ys ns ≤ wd ys ns * (wd ys ns + 1) ^ k := Nat.le_mul_of_pos_right _ (Nat.pow_pos (by omega))
  have p8 : 1 ≤ (wd ys ns + 1) ^ k := Nat.one_le_pow _ _ (by omega)
  unfold t_Cases_tree
  refine r_seq fun k1 hk1 => ?_
  unfold casD
  walk_at "v16"
  refine ⟨_, _, _, rfl, rfl, c, 0, ks, vs, keyR Y N, rfl, rfl, rfl, ?_⟩
  -- what stands at the end
  have fin : ∀ (nw : List Cl) (ks' : List Key) (vs' : List D) (v : D) (e2 e3 e4 e5 e6 : EV), lkK (keyR Y N) ks' vs' = some v → q v (casR b c (cl ++ nw) ks' vs') → k1 [.val (.ins CS casN (casL kb ys ns b c)), .val (.int (rgt Y N : Nat)), e2, e3, e4, e5, e6] (casR b c (cl ++ nw) ks' vs') := fun nw ks' vs' v e2 e3 e4 e5 e6 hlk hv => hk1 _ _ (by
    walk_at "v16"
    exact ⟨_, _, _, rfl, rfl, c, 0, ks', vs', keyR Y N, v, rfl, rfl, rfl, hlk, hv⟩)
  cases hin : inK (keyR Y N) ks with
  | true =>
    rw [if_neg (by simp)]
    obtain ⟨p, v, h1, h2, h3⟩ := lkK_in ht.1 (inK_iff.mp hin)
    obtain ⟨Y', N', k', g1, g2, g3, g4⟩ := ht.2 p _ _ h2 h3
    obtain ⟨rfl, rfl⟩ := keyR_inj h g1 g2
    have ek : k' = k := by omega
    subst ek
    have z := hq [] [] [] v (by simp) (by simp) (by simp) (by simpa using ht) (by simp) g4
    have f := fin [] ks vs v (.val (.int (k' : Nat))) .no .no .no .no h1
    simp only [List.append_nil] at z f
    walk_at "v16"
    exact f z
  | false =>
    rw [if_pos rfl]
    have hnk := inK_false.mp hin
    refine r_seq fun k2 hk2 => ?_
    walk_at "v16"
    refine ⟨⟨_, _, rfl, by decide⟩, kb, ys, ns, Y, N, b, c, cl, ks, vs, rfl, rfl, h, hc, by omega, fun new hn nl => ⟨fun hfit => absurd hfit (hard_no_fit h hd), fun a ha hia => ?_⟩⟩
    have hall : ∀ a ∈ cl ++ new, ClOk kb ys ns a := fun a ha => by
      rcases List.mem_append.mp ha with z | z
      · exact hc a z
      · exact hn a z
    have ok := hall a ha
    refine ⟨_, rfl, rfl, hk2 _ _ (r_if fun A B hA hB => ?_)⟩
    walk_at "v16"
    cases k with
    | zero =>
      refine cast (if_pos rfl).symm (hA ?_)
      walk_at "v16"
      refine ⟨⟨_, _, rfl, by decide⟩, kb, ys, ns, Y, N, b, c, rfl, h, fun r hr => ?_⟩
      have r24 : r < 2 ^ 100 := by
        have := mask_lt24 hk fun j hj => (mem_bits_greatest h.nl hr (bitsN_mem.mpr hj)).1
        omega
      have hout : a.1 ∉ bitsN r := fun z => by
        obtain ⟨j, j1, j2⟩ := ok.gate _ (StW.of_greatest h.nl hr) z
        exact (mem_bits_greatest h.nl hr j1).2 (hia.2 j j2)
      refine items_of_ap.mpr ⟨r24, ?_⟩
      walk_at "v16"
      refine ⟨by decide, _, _, _, rfl, rfl, c, 0, ks, vs, keyR Y N, rfl, rfl, rfl, hnk, by omega, ?_⟩
      have sh : ShowsT kb ys ns 0 Y N (.tup [.str "clash", .int (a.1 : Nat), wayD (bitsN r)]) := ⟨a.1, r, rfl, hia.1, hr, hout⟩
      refine fin new _ _ _ _ _ _ _ _ (lkK_snoc ht.1 hnk) (hq new [keyR Y N] [_] _ hn (by omega) (by simp) (ht.snoc h hs sh) (fun key hkey => ⟨Y, N, h, List.mem_singleton.mp hkey, Nat.le_refl _⟩) sh)
    | succ k' =>
      refine cast (if_neg (by omega)).symm (hB (r_seq fun k3 hk3 => ?_))
      have lc := clash_len h ok
      obtain ⟨d, hdw⟩ : ∃ d, wd ys ns = d + 1 := ⟨wd ys ns - 1, by omega⟩
      rw [hdw] at hl hq nl lc hlk
      have pw : (d + 1 + 1) ^ (k' + 1) = d * (d + 1 + 1) ^ k' + 2 * (d + 1 + 1) ^ k' := by
        rw [Nat.pow_succ, Nat.mul_comm _ (d + 1 + 1), show d + 1 + 1 = d + 2 from rfl, Nat.add_mul]
      have p7' : 1 ≤ (d + 1 + 1) ^ k' := Nat.one_le_pow _ _ (by omega)
      rw [pw] at hlk hl hq
      generalize hW : (d + 1 + 1) ^ k' = W at hlk hl hq p7'
      have pv : (d + 1) * (d * W + 2 * W) = d * ((d + 1) * W) + 2 * ((d + 1) * W) := by
        rw [Nat.mul_add, Nat.mul_left_comm, Nat.mul_left_comm (d + 1) 2]
      have pU : d + 1 ≤ (d + 1) * W := Nat.le_mul_of_pos_right _ p7'
      rw [pv] at hl hq
      generalize hU : (d + 1) * W = U at hl hq pU
      walk_at "v16"
      refine ⟨nD a.2, rfl, by rw [len_nD]; omega, by rw [len_nD]; omega, ?_⟩
      refine r_lc_inv (l := a.1 :: a.2) (acc := []) (fun i : Nat => D.int (i : Nat)) (fun l acc o => ∃ (nw : List Cl) (kn : List Key) (vn : List D) (l0 : List Nat), l0 ++ l = a.1 :: a.2 ∧ acc.length = l0.length ∧ (∀ (p x : Nat) (t : D), l0[p]? = some x → acc[p]? = some t → ShowsT kb ys ns k' (YR a Y x) (NR a N x) t) ∧ (∀ c ∈ nw, ClOk kb ys ns c) ∧ nw.length ≤ d + 1 + l0.length * U ∧ kn.length ≤ l0.length * W ∧ TrOk kb ys ns s (ks ++ kn) (vs ++ vn) ∧ (∀ key ∈ kn, ∃ Y' N', CasK kb ys ns Y' N' ∧ key = keyR Y' N' ∧ Y'.length + N'.length + 1 ≤ Y.length + N.length) ∧ o = casR b c (cl ++ nw) (ks ++ kn) (vs ++ vn))
        ⟨new, [], [], [], rfl, rfl, by simp, hn, by simpa using nl, by simp, by simpa using ht, by simp, by simp⟩ ?_ ?_
      · rintro x r acc o hx ⟨nw, kn, vn, l0, el, la, hsh, hnw, lnw, lkn, htr, hkn', rfl⟩
        refine ⟨_, rfl, rfl, fun Q hQ => ?_⟩
        have x24 : x ≤ 1000000 := by
          rcases cl_mem hia hx with ⟨_, m⟩ | ⟨_, m⟩
          · have := h.yl x m; omega
          · have := h.nl x m; omega
        have ll : l0.length + (r.length + 1) = a.2.length + 1 := by
          have := congrArg List.length el
          simpa using this
        have lm : l0.length * U ≤ d * U := Nat.mul_le_mul_right _ (by omega)
        have lm2 : l0.length * W ≤ d * W := Nat.mul_le_mul_right _ (by omega)
        obtain ⟨n', rfl⟩ : ∃ n', n = n' + 1 := ⟨n - 1, by omega⟩
        have hall' : ∀ c ∈ cl ++ nw, ClOk kb ys ns c := fun d hd => by
          rcases List.mem_append.mp hd with z | z
          · exact hc d z
          · exact hnw d z
        walk_at "v16"
        refine ⟨⟨_, _, rfl, by decide⟩, _, shl1 x x24, _, xorN _ _, _, sub1N (by omega), ?_⟩
        rw [rgt_rest h ok hia hx]
        have lr := len_rest h hia ok hx
        refine ⟨kb, ys, ns, YR a Y x, NR a N x, b, c, cl ++ nw, ks ++ kn, vs ++ vn, k', s, rfl, rfl, h.rest x, hall', by omega, by omega, hard_rest h ok hia hx hd, htr, by rw [List.length_append, hdw, hW]; omega, by rw [List.length_append, hdw, hW, hU]; omega, fun new2 kn2 vn2 v hn2 nl2 kl2 htr2 hk2 hv => ?_⟩
        rw [hdw, hW, hU] at nl2
        rw [hdw, hW] at kl2
        refine hQ v _ ⟨nw ++ new2, kn ++ kn2, vn ++ vn2, l0 ++ [x], by simpa using el, by simp [la], fun p y t h1 h2 => ?_, fun d hd => ?_, ?_, ?_, by simpa using htr2, fun key hkey => ?_, by simp⟩
        · by_cases c : p < l0.length
          · rw [List.getElem?_append_left c] at h1
            rw [List.getElem?_append_left (by rw [la]; exact c)] at h2
            exact hsh p y t h1 h2
          · have l1 := (List.getElem?_eq_some_iff.mp h1).1
            have e1 : p = l0.length := by simp at l1; omega
            subst e1
            rw [List.getElem?_append_right (Nat.le_refl _), Nat.sub_self] at h1
            rw [← la, List.getElem?_append_right (Nat.le_refl _), Nat.sub_self] at h2
            cases h1; cases h2
            exact hv
        · rcases List.mem_append.mp hd with z | z
          · exact hnw d z
          · exact hn2 d z
        · rw [List.length_append, List.length_append, Nat.add_mul, List.length_singleton, Nat.one_mul]; omega
        · rw [List.length_append, List.length_append, Nat.add_mul, List.length_singleton, Nat.one_mul]; omega
        · rcases List.mem_append.mp hkey with z | z
          · exact hkn' key z
          · obtain ⟨Y', N', g1, g2, g3⟩ := hk2 key z
            exact ⟨Y', N', g1, g2, by omega⟩
      · rintro ds o ⟨nw, kn, vn, l0, el, la, hsh, hnw, lnw, lkn, htr, hkn', rfl⟩
        rw [List.append_nil] at el
        subst el
        rw [List.nil_append] at la hsh
        have lm : (a.1 :: a.2).length * U ≤ (d + 1) * U := Nat.mul_le_mul_right _ (by simpa using lc)
        rw [Nat.add_mul, Nat.one_mul] at lm
        have lm2 : (a.1 :: a.2).length * W ≤ (d + 1) * W := Nat.mul_le_mul_right _ (by simpa using lc)
        rw [Nat.add_mul, Nat.one_mul] at lm2
        refine hk3 _ _ ?_
        walk_at "v16"
        have hnk2 : keyR Y N ∉ ks ++ kn := fun z => by
          rcases List.mem_append.mp z with z | z
          · exact hnk z
          · obtain ⟨Y', N', g1, g2, g3⟩ := hkn' _ z
            obtain ⟨e1, e2⟩ := keyR_inj h g1 g2
            rw [e1, e2] at g3
            omega
        have sh : ShowsT kb ys ns (k' + 1) Y N (.tup [.str "clash", .int (a.1 : Nat), wayD a.2, .tup ds]) := ⟨a, ds, rfl, ok, hia, by simpa using la, hsh⟩
        refine ⟨by decide, _, _, _, rfl, rfl, c, 0, ks ++ kn, vs ++ vn, keyR Y N, rfl, rfl, rfl, hnk2, by rw [List.length_append]; omega, ?_⟩
        have z := hq nw (kn ++ [keyR Y N]) (vn ++ [_]) _ hnw (by omega) (by rw [List.length_append, List.length_singleton]; omega) (by rw [← List.append_assoc, ← List.append_assoc]; exact htr.snoc h hs sh) (fun key hkey => by
          rcases List.mem_append.mp hkey with z | z
          · obtain ⟨Y', N', g1, g2, g3⟩ := hkn' _ z
            exact ⟨Y', N', g1, g2, by omega⟩
          · exact ⟨Y, N, h, List.mem_singleton.mp z, Nat.le_refl _⟩) sh
        rw [← List.append_assoc, ← List.append_assoc] at z
        exact fin nw _ _ _ _ _ _ _ _ (lkK_snoc htr.1 hnk2) z
def t_fewest_wrong (C : Addr) (CS : Addr) (F_check_answers : DF) (F_Cases___init__ : FR) (F_mask_of : DF) (F_Cases_state_with : FR) (F_items_of : DF) (F_Cases_tree : FR) : DR := (rSeq (rOf (dDrop (dCall F_check_answers (dCons (dVar 0) (dCons (dVar 1) (dCons (dVar 2) dNil)))))) (rSeq (rMake CS 3 F_Cases___init__ (dCons (dFld C "book" (dVar 0)) (dCons (dCall F_mask_of (dCons (dVar 1) dNil)) (dCons (dCall F_mask_of (dCons (dVar 2) dNil)) dNil)))) (rSeq (rOf (dSet 4 (dOp orD (dCall F_mask_of (dCons (dVar 1) dNil)) (dCall F_mask_of (dCons (dVar 2) dNil))))) (rSeq (rOf (dSet 5 (dC (.int 0)))) (rSeq (rSetE 6 (reMeth CS "state_with" F_Cases_state_with (dVar 3) (dCons (dVar 4) (dCons (dC (.int 0)) (dCons (dC (.int 0)) dNil))))) (rSeq (rWhile (dTest (dOp isA (dVar 6) (dC .non))) (rSeq (rOf (dSet 5 (dOp addA (dVar 5) (dC (.int 1))))) (rSetE 6 (reMeth CS "state_with" F_Cases_state_with (dVar 3) (dCons (dVar 4) (dCons (dC (.int 0)) (dCons (dVar 5) dNil))))))) (rSeq (rOf (dIfS (dTest (dOp eqD (dVar 5) (dC (.int 0)))) (dRet (dTup (dCons (dC (.int 0)) (dCons (dCall F_items_of (dCons (dVar 6) dNil)) (dCons (dC .non) dNil))))) dNext)) (rRet3 (dVar 5) (dCall F_items_of (dCons (dVar 6) dNil)) (reMeth CS "tree" F_Cases_tree (dVar 3) (dCons (dVar 4) (dCons (dOp subD (dVar 5) (dC (.int 1))) dNil)))))))))))
/-! ### the least number of wrong answers -/
def F_fewest (C CS X Y : Addr) : DF := fun ds q x => ∃ (kb : List Entry) (y n : D), ds = [crsD C kb, y, n] ∧ AnsC C X Y kb y n x fun ys ns => (wd ys ns ≤ 6 ∨ FitsR kb ys ns) ∧
  ∀ (u : List Nat) (v : D), StW kb u → (∀ w, StW kb w → cntW ys ns u ≤ cntW ys ns w) → (cntW ys ns u = 0 → v = .non) → (∀ k, cntW ys ns u = k + 1 → ShowsT kb ys ns k ys ns v) → q (.tup [.int (cntW ys ns u : Nat), wayD u, v])
theorem st_empty (kb : List Entry) : StW kb [] := ⟨.nil, fun _ h => (nomatch h), st_nil _⟩
theorem cnt_empty (ys ns : List Nat) : cntW ys ns [] = ys.length := by
  unfold cntW cntY cntN
  rw [List.filter_eq_self.mpr (by simp), List.filter_eq_nil_iff.mpr (by simp)]
  rfl
theorem s_fewest (C CS X Y : Addr) : ∀ ds q x, F_fewest C CS X Y ds q x → ds.length = 3 ∧ t_fewest_wrong C CS (F_check_answers C X Y) (F_casInit CS) F_mask_of (F_state CS 26) F_items_of (F_tree CS 26) { nx := fun _ _ => q .non, rt := fun d _ => q d, ex := fun _ => x } (startE 7 ds) [] := by
  rintro ds q x ⟨kb, y, n, rfl, hk, hy, hn, hx, hq⟩
  refine ⟨rfl, ?_⟩
  unfold t_fewest_wrong
  refine r_seq fun k1 hk1 => r_of fun k2 hk2 => ?_
  walk_at "v16"
  refine ⟨kb, y, n, rfl, hk, hy, hn, hx, fun ys ns e1 e2 ya yl na nl => ⟨(hq ys ns e1 e2 ya yl na nl).1, fun dis => ?_⟩⟩
  subst e1 e2
  obtain ⟨few, hq⟩ := (hq ys ns rfl rfl ya yl na nl).2 dis
  have h : CasK kb ys ns ys ns := ⟨hk, ⟨ya, yl, na, nl, dis⟩, ya, na, fun _ h => h, fun _ h => h⟩
  have y24 : ∀ i ∈ ys, i ≤ 1000000 := fun i hi => by have := yl i hi; omega
  have n24 : ∀ i ∈ ns, i ≤ 1000000 := fun i hi => by have := nl i hi; omega
  refine hk2 _ rfl (hk1 _ _ (r_seq fun k1 hk1 => ?_))
  walk_at "v16"
  refine ⟨y24, n24, fun a dx => ⟨a, dx, _, _, _, rfl, rfl, fun b c => ⟨rfl, [(c, .dic [] []), (b, .lst [])], dx, _, _, rfl, hk1 _ _ (r_seq fun k1 hk1 => r_of fun k2 hk2 => ?_)⟩⟩⟩
  walk_at "v16"
  refine ⟨y24, n24, hk2 _ rfl (hk1 _ _ (r_seq fun k1 hk1 => r_of fun k2 hk2 => ?_))⟩
  walk_at "v16"
  refine hk2 _ rfl (hk1 _ _ (r_seq fun k1 hk1 => ?_))
  walk_at "v16"
  have w48 : wd ys ns ≤ 48 := by
    have a := asc_len ys 0 ya fun i hi => ⟨Nat.zero_le _, yl i hi⟩
    have b := asc_len ns 0 na fun i hi => ⟨Nat.zero_le _, nl i hi⟩
    unfold wd
    omega
  have yw : ys.length ≤ wd ys ns := by unfold wd; omega
  have not_fit : ∀ m, HardR kb ys ns m → wd ys ns ≤ 6 := fun m hd => few.elim id fun z => absurd z (hard_no_fit h hd)
  -- a search with that many wrong answers
  have try_ : ∀ (m : Nat) (cl : List Cl) (q' : D → Reg → Prop), (wd ys ns ≤ 6 ∧ m ≤ 6 ∨ m = 0) → (∀ u, StW kb u → m ≤ cntW ys ns u) → (∀ c ∈ cl, ClOk kb ys ns c) → cl.length ≤ (wd ys ns + 1) ^ m →
      (∀ (new : List Cl), (∀ c ∈ cl ++ new, ClOk kb ys ns c) → (cl ++ new).length ≤ (wd ys ns + 1) ^ (m + 1) → (m < 6 → HardR kb ys ns m → q' .non (casR b c (cl ++ new) [] [])) ∧ ∀ u, StW kb u → cntW ys ns u = m → q' (.int (maskN u : Nat)) (casR b c (cl ++ new) [] [])) →
      F_state CS 26 [.ins CS casN [masksD kb, .int (maskN ys : Nat), .int (maskN ns : Nat), .adr b, .adr c], .int ((maskN ys ||| maskN ns : Nat) : Int), .int 0, .int (m : Nat)] (casR b c cl [] []) q' (fun _ => x) := by
    intro m cl q' hm lb hcl hlen hq'
    have p2 : (7 : Nat) ^ 6 = 117649 := by decide
    have p1 : (wd ys ns + 1) ^ m ≤ 117649 := by
      rcases hm with ⟨h1, h2⟩ | rfl
      · exact Nat.le_trans (Nat.pow_le_pow_left (show wd ys ns + 1 ≤ 7 by omega) m) (p2 ▸ Nat.pow_le_pow_right (by decide) h2)
      · show 1 ≤ 117649; omega
    have p4 : wd ys ns * (wd ys ns + 1) ^ m ≤ 48 * 117649 := Nat.mul_le_mul w48 p1
    have p3 : (wd ys ns + 1) ^ (m + 1) = wd ys ns * (wd ys ns + 1) ^ m + (wd ys ns + 1) ^ m := by rw [Nat.pow_succ, Nat.mul_comm, Nat.add_mul, Nat.one_mul]
    refine ⟨kb, ys, ns, ys, ns, b, c, cl, [], [], 0, m, rfl, rfl, h, hcl, by show m ≤ 25; omega, by omega, fun new hn nl => ?_⟩
    have hall : ∀ c ∈ cl ++ new, ClOk kb ys ns c := fun d hd => by
      rcases List.mem_append.mp hd with z | z
      · exact hcl d z
      · exact hn d z
    obtain ⟨q1, q2⟩ := hq' new hall (by rw [List.length_append]; omega)
    refine ⟨fun hard => ?_, fun u hu hc => q2 u hu (Nat.le_antisymm hc (lb u hu))⟩
    have hr : HardR kb ys ns m := fun u hu => hard u hu (fun i _ z => by simp at z) fun j _ z => by simp at z
    have := hr [] (st_empty kb)
    rw [cnt_empty] at this
    have := not_fit m hr
    exact q1 (by omega) hr
  let Cond : Nat → D → List Cl → Prop := fun num st cl => (num = 0 ∨ wd ys ns ≤ 6 ∧ num ≤ 6) ∧ (∀ c ∈ cl, ClOk kb ys ns c) ∧ cl.length ≤ (wd ys ns + 1) ^ (num + 1) ∧ (∀ u, StW kb u → num ≤ cntW ys ns u) ∧ ((st = .non ∧ num < 6 ∧ HardR kb ys ns num) ∨ ∃ u, StW kb u ∧ cntW ys ns u = num ∧ st = .int (maskN u : Nat))
  have start : ∀ (st : D) (cl : List Cl), Cond 0 st cl → k1 [.val (crsD C kb), .val (wayD ys), .val (wayD ns), .val (.ins CS casN [masksD kb, .int (maskN ys : Nat), .int (maskN ns : Nat), .adr b, .adr c]), .val (.int ((maskN ys ||| maskN ns : Nat) : Int)), .val (.int 0), .val st] (casR b c cl [] []) := by
    intro st cl hcond
    refine hk1 _ _ (r_seq fun k3 hk3 => ?_)
    refine r_while_inv (fun m env os => ∃ (num : Nat) (st : D) (cl : List Cl), env = [.val (crsD C kb), .val (wayD ys), .val (wayD ns), .val (.ins CS casN [masksD kb, .int (maskN ys : Nat), .int (maskN ns : Nat), .adr b, .adr c]), .val (.int ((maskN ys ||| maskN ns : Nat) : Int)), .val (.int (num : Nat)), .val st] ∧ os = casR b c cl [] [] ∧ Cond num st cl ∧ m = 6 - num) 6 ⟨0, st, cl, rfl, rfl, hcond, rfl⟩ ?_
    rintro m env os ⟨num, st, cl, rfl, rfl, ⟨h6, hcl, hlen, lb, hst⟩, rfl⟩ k4 hk4
    walk_at "v16"
    rcases hst with ⟨rfl, n6, hard⟩ | ⟨u, hu, hcu, rfl⟩
    · walk_at "v16"
      refine r_seq fun k5 hk5 => r_of fun k6 hk6 => ?_
      walk_at "v16"
      refine hk6 _ rfl (hk5 _ _ ?_)
      walk_at "v16"
      refine ⟨⟨_, _, rfl, by decide⟩, try_ (num + 1) cl _ (.inl ⟨not_fit _ hard, by omega⟩) (fun u hu => hard u hu) hcl hlen fun new hall hl => ⟨fun h7 hh => hk4 (6 - (num + 1)) (by omega) _ _ ⟨num + 1, .non, cl ++ new, rfl, rfl, ⟨.inr ⟨not_fit _ hard, by omega⟩, hall, hl, fun u hu => hard u hu, .inl ⟨rfl, h7, hh⟩⟩, rfl⟩, fun u hu hcu => hk4 (6 - (num + 1)) (by omega) _ _ ⟨num + 1, _, cl ++ new, rfl, rfl, ⟨.inr ⟨not_fit _ hard, by omega⟩, hall, hl, fun u hu => hard u hu, .inr ⟨u, hu, hcu, rfl⟩⟩, rfl⟩⟩⟩
    · walk_at "v16"
      have u24 : maskN u < 2 ^ 100 := by
        have := mask_lt24 hk (bits_of hu.lt)
        omega
      have lbu : ∀ w, StW kb w → cntW ys ns u ≤ cntW ys ns w := fun w hw => by rw [hcu]; exact lb w hw
      refine hk3 _ _ (r_seq fun k5 hk5 => r_of fun k6 hk6 => w_if fun A B hA hB => ?_)
      walk_at "v16"
      cases num with
      | zero =>
        refine cast (if_pos rfl).symm (hA ?_)
        walk_at "v16"
        refine ⟨u24, by decide, ?_⟩
        rw [bitsN_mask hu.asc]
        have z := hq u .non hu lbu (fun _ => rfl) fun k e => by omega
        rw [hcu] at z
        exact z
      | succ k =>
        refine cast (if_neg (by omega)).symm (hB (hk6 _ rfl (hk5 _ _ ?_)))
        walk_at "v16"
        obtain ⟨w6, k6⟩ : wd ys ns ≤ 6 ∧ k + 1 ≤ 6 := h6.elim (fun z => by omega) id
        have p1 : (wd ys ns + 1) ^ (k + 1 + 1) ≤ 7 ^ 7 := Nat.le_trans (Nat.pow_le_pow_left (show wd ys ns + 1 ≤ 7 by omega) _) (Nat.pow_le_pow_right (by decide) (by omega))
        have p2 : (7 : Nat) ^ 7 = 823543 := by decide
        have p3 : (wd ys ns + 1) ^ k ≤ 7 ^ 6 := Nat.le_trans (Nat.pow_le_pow_left (show wd ys ns + 1 ≤ 7 by omega) _) (Nat.pow_le_pow_right (by decide) (by omega))
        have p4 : (7 : Nat) ^ 6 = 117649 := by decide
        have p5 : wd ys ns * (wd ys ns + 1) ^ k ≤ 6 * 117649 := Nat.mul_le_mul w6 (p4 ▸ p3)
        have l6 := lb [] (st_empty kb)
        rw [cnt_empty] at l6
        refine ⟨u24, ⟨_, _, rfl, by decide⟩, _, sub1N (by omega), kb, ys, ns, ys, ns, b, c, cl, [], [], k, ys.length + ns.length - k, rfl, rfl, h, hcl, by show k ≤ 25; omega, by omega, fun w hw => lb w hw, ⟨rfl, by simp⟩, by simp; omega, by omega, fun new kn vn v hn nl kl htr hkn hv => ?_⟩
        rw [bitsN_mask hu.asc]
        have z := hq u v hu lbu (fun e => by omega) fun k' e => by
          have : k' = k := by omega
          subst this
          exact hv
        rw [hcu] at z
        exact z
  refine ⟨⟨_, _, rfl, by decide⟩, try_ 0 [] _ (.inr rfl) (fun _ _ => Nat.zero_le _) (by simp) (by simp) fun new hall hl => ⟨fun h7 hh => start _ _ ⟨.inl rfl, hall, hl, fun _ _ => Nat.zero_le _, .inl ⟨rfl, h7, hh⟩⟩, fun u hu hcu => start _ _ ⟨.inl rfl, hall, hl, fun _ _ => Nat.zero_le _, .inr ⟨u, hu, hcu, rfl⟩⟩⟩⟩

local macro_rules | `(tactic| walk_at "v17") => `(tactic| try simp only [dVar_app, dC_app, dOp_app, dTest_app, dChain_app, dAnd_app, dOr_app, dNot_app, dAndT_app, dOrT_app, dNotT_app, dIf_app, dNil_app, dCons_app, dTup_app, dLst_app, dCall_app, dBlt_app, dIsi_app, dNoPart_app, dPart_app, dSl_app, dNext_app, dBreak_app, dCont_app, dRet_app, dRetOwn_app, dRetN_app, dDrop_app, dFreeze_app, dSet_app, dFLst_app, dOfF_app, dSetOwn_app, dAppend_app, dInsert_app, dFNil_app, dFVal_app, dFOwn_app, dPar_app, dUnpack_app, iSeq_app, iRange1_app, iRange2_app, dFor_app, dYes_app, dLc_app, dNeg_app, dSetLcV_app, dNever_app, iEnumD_app, dFld_app, dMeth0_app, dProp_app, dRaise_app, dMake_app, dDc_app, dDGet_app, dLocked_app, iKeysD_app, dPenGet_app, dPenSet_app, dRetPen_app, dRev_app, dJoin_app, dDict0_app, dDict1_app, dInC_app, dBits_app, ex_false, nD_snoc, and1N, bitP1, bitP0, has_way_ap, first_way_ap, eqD_int, neD_int, addN, add1N, orN, andN, xorN, ltN, gtN, shrN, inn, notInn, inlst, notinlst, eqD_way, neD_way, eqD_nonway, eqD_waynon, eqD_lst, neD_lst, eqD_bl, isN_way, isNot_way, isN_non, isNot_non, isN_int, isNot_int, len_way, len_book, len_masks, len_entry, len_lst, len_tup, tup_lst, tup_tup, tup_way, lst_way, lst_lst, int_int, way_nD, all_bl, any_bl, rngD_nD, rngD_len, len_nD, Int.toNat_natCast, ex_nil', ex_cons', ex_val, ex_vald, ex_bl, ex_sbl, ex_int, ex_lst, ex_tup, ex_own, ex_vtup, no_lt, no_tl, ex_way_lst, ex_way_tup, ex_book_lst, ex_book_tup, ex_entry_lst, ex_entry_tup, ex_fld_book, ex_fld_ways, len_ap, mask_of_ap, items_of_ap, all_items_ap, lies_within_ap, is_set_ap, is_item_ap, draw_ap, pen_ap, book_ap, init_ap, beq_self_eq_true, reduceCtorEq, if_false, Nat.zero_le, allVal, wipeE, setE, RF.ev, R.d, R.isVal, noLst, startE, List.map_cons, List.map_nil, List.set_cons_zero, List.set_cons_succ, List.getElem?_cons_zero, List.getElem?_cons_succ, List.length_cons, List.length_nil, List.replicate, List.cons_append, List.nil_append, List.append_nil, List.length_map, List.length_range, Nat.reduceSub, Nat.reduceAdd, Bool.not_true, Bool.not_false, Bool.not_not, Bool.false_eq_true, if_true, if_false, decide_eq_true_eq, eq_self, true_and, and_true, true_or, or_true, false_or, or_false, false_and, and_false, Bool.not_eq_true', decide_eq_false_iff_not, ite_not, exists_eq_left, exists_eq_left', eqD_lst_nil, neD_lst_nil, row_ap, natCast_eq, tup_nil, isi_way, in_entry, notin_entry, in_ways, notin_ways, ways_snoc, dSaid_app, neD_int, dTupRg_app, dIndex_app, has_ap])
/-! ### law k29 -/
theorem Ans.same {kb b : List Entry} (t : TidyB kb b) {ys ns : List Nat} : Ans kb ys ns ↔ Ans b ys ns := by
  have hl := t.len
  constructor
  · rintro ⟨a1, a2, a3, a4, w, w1, w2⟩
    exact ⟨a1, fun i hi => by have := a2 i hi; omega, a3, fun i hi => by have := a4 i hi; omega, w, (StW.same t).mp w1, w2⟩
  · rintro ⟨a1, a2, a3, a4, w, w1, w2⟩
    exact ⟨a1, fun i hi => by have := a2 i hi; omega, a3, fun i hi => by have := a4 i hi; omega, w, (StW.same t).mpr w1, w2⟩
theorem s__law_closed2 : ∀ ds q x, F_closed ds q x → ds.length = 3 ∧ t__law_closed F_has2 { nx := fun _ => q .non, rt := q, ex := x } (startE 5 ds) := by
  rintro ds q x ⟨b, av, w, rfl, hb, wa, wl, hq⟩
  refine ⟨rfl, ?_⟩
  have hle := hb.le
  have wlen := asc_short wa wl
  have hre : ReprOk (wayD w) := reprOk_way (by omega) fun i hi => by have := wl i hi; omega
  unfold t__law_closed
  have sel : ∀ (te : DE) (env : SE) (q : List D → Prop), (∀ i < b.length, ∀ Q : R → Prop, Q (.val (.int (i : Nat))) → te (env.set 4 (.val (.int (i : Nat)))) Q noX) → q (nD w) → (∀ i < b.length, ∃ w', (env.set 4 (.val (.int (i : Nat))))[2]? = some (.val (wayD w')) ∧ w' = w) → (∀ i < b.length, (env.set 4 (.val (.int (i : Nat))))[4]? = some (.val (.int (i : Nat)))) → dLcL (gN 4) (dTest (dOp inD (dVar 4) (dVar 2))) te (nD (List.range b.length)) env q := by
    intro te env q hte hq h2 h4
    refine lc_sN (fun i => decide (i ∈ w)) (fun i hi => ⟨fun Q hQ => ?_, fun _ Q hQ => hte i (List.mem_range.mp hi) Q hQ⟩) (by rw [range_in wa wl]; exact hq)
    obtain ⟨w', e, rfl⟩ := h2 i (List.mem_range.mp hi)
    have e4 := h4 i (List.mem_range.mp hi)
    simp only [dTest_app, dOp_app, dVar_app, e, e4]
    walk_at "v13"
    exact hQ
  refine w_seq fun k hk => w_if fun A B hA hB => ?_
  walk_at "v13"
  refine ⟨by omega, by omega, by omega, ?_⟩
  refine sel _ _ _ (fun i hi Q hQ => by walk_at "v13"; exact hQ) ?_ (fun i hi => ⟨w, rfl, rfl⟩) fun i hi => rfl
  walk_at "v13"
  refine hB (hk _ (w_seq fun k hk => w_if fun A B hA hB => ?_))
  walk_at "v13"
  obtain ⟨s, e1, e2⟩ := hre
  rw [e1]
  walk_at "v13"
  refine ⟨by omega, by omega, by omega, ?_⟩
  refine sel _ _ _ (fun i hi Q hQ => by walk_at "v13"; exact hQ) ?_ (fun i hi => ⟨w, rfl, rfl⟩) fun i hi => rfl
  walk_at "v13"
  rw [e1]
  walk_at "v13"
  rw [neD_str e2]
  walk_at "v13"
  refine ⟨by omega, lc_bN (fun i => decide (i ∈ av)) (fun i hi Q h => ?_) ?_⟩
  · walk_at "v13"
    exact h
  walk_at "v13"
  have ea : (List.map (fun i => decide (i ∈ av)) w).any id = w.any fun i => decide (i ∈ av) := by rw [List.any_map]; rfl
  rw [ea]
  unfold closB at hq
  cases c : w.any fun i => decide (i ∈ av) with
  | true =>
    rw [if_pos rfl]
    refine hA ?_
    walk_at "v13"
    rw [c] at hq
    exact hq
  | false =>
    rw [c] at hq
    rw [if_neg Bool.false_ne_true]
    refine hB (hk _ (w_seq fun k hk => ?_))
    walk_at "v13"
    refine ⟨by omega, by omega, ?_⟩
    refine for_inv (fun i : Nat => D.int (i : Nat)) (fun l env => (∃ o3 o4, env = [.val (bookD b), .val (wayD av), .val (wayD w), o3, o4]) ∧ (∀ i ∈ l, i < b.length) ∧ ((List.range b.length).all fun i => decide (i ∈ w) || (decide (i ∈ av) || !hasL (b.getD i []) w)) = (l.all fun i => decide (i ∈ w) || (decide (i ∈ av) || !hasL (b.getD i []) w))) ⟨⟨_, _, rfl⟩, fun i hi => List.mem_range.mp hi, rfl⟩ ?_ ?_
    · rintro a l env k2 _ ⟨⟨o3, o4, rfl⟩, hm, hh⟩ hk2
      have ha := hm a List.mem_cons_self
      rw [List.all_cons] at hh
      refine ⟨_, rfl, w_if fun A B hA hB => ?_⟩
      walk_at "v13"
      by_cases c1 : a ∈ w
      · rw [if_pos c1]
        refine hB ?_
        walk_at "v13"
        rw [decide_eq_true c1, Bool.true_or, Bool.true_and] at hh
        exact hk2 _ ⟨⟨_, _, rfl⟩, fun i hi => hm i (List.mem_cons_of_mem _ hi), hh⟩
      · rw [if_neg c1]
        by_cases c2 : a ∈ av
        · rw [if_pos c2]
          refine hB ?_
          walk_at "v13"
          rw [decide_eq_true c2, Bool.true_or, Bool.or_true, Bool.true_and] at hh
          exact hk2 _ ⟨⟨_, _, rfl⟩, fun i hi => hm i (List.mem_cons_of_mem _ hi), hh⟩
        · rw [if_neg c2]
          refine ⟨_, ix_book (getD_get ha), has2_way (ways_short hb _ (List.mem_of_getElem? (getD_get ha))) ?_⟩
          walk_at "v13"
          rw [decide_eq_false c1, decide_eq_false c2, Bool.false_or, Bool.false_or] at hh
          cases c3 : hasL (b.getD a []) w with
          | true =>
            rw [if_pos rfl]
            refine hA ?_
            walk_at "v13"
            rw [c3] at hh
            rw [hh] at hq
            exact hq
          | false =>
            rw [if_neg Bool.false_ne_true]
            refine hB ?_
            walk_at "v13"
            rw [c3, Bool.not_false, Bool.true_and] at hh
            exact hk2 _ ⟨⟨_, _, rfl⟩, fun i hi => hm i (List.mem_cons_of_mem _ hi), hh⟩
    · rintro env ⟨⟨o3, o4, rfl⟩, hm, hh⟩
      refine hk _ ?_
      walk_at "v13"
      rw [hh] at hq
      exact hq
theorem Fit.same {kb b : List Entry} (t : TidyB kb b) {ys ns w : List Nat} : Fit kb ys ns w ↔ Fit b ys ns w := and_congr (StW.same t) Iff.rfl
theorem grt_same_rest {kb b : List Entry} (t : TidyB kb b) {w : List Nat} {r : Nat} (hw : ∀ i ∈ w, i < kb.length) (h : Grt [mskB kb] (restM kb.length w) r) : Grt [mskB b] (restM b.length w) r := by
  have hl := t.len
  rw [← hl]
  exact Grt.same t (fun i hi => by have := ((restM_bit hw i).mp hi).1; omega) h
theorem ReasonP.same {kb b : List Entry} (t : TidyB kb b) {ys ns : List Nat} {i : Nat} {d : D} (hn : ∀ j ∈ ns, j < kb.length) (h : ReasonP kb ys ns i d) : ReasonP b ys ns i d := by
  have hl := t.len
  have pl' : ∀ j ∈ putN kb.length ns i, j < kb.length := fun j hj => (putN_mem.mp hj).1
  have e : putN b.length ns i = putN kb.length ns i := by rw [hl]
  rcases h with h | h | ⟨c, c2, r, hr, hir, ed⟩ | ⟨c, c2, k0, g, hk0, hg, hkg, ed⟩ | ⟨c, c2, r, g, hr, hg, hir, hy, ed⟩
  · exact .inl h
  · exact .inr (.inl h)
  · exact .inr (.inr (.inl ⟨c, c2, r, grt_same_rest t hn hr, hir, ed⟩))
  · exact .inr (.inr (.inr (.inl ⟨c, c2, k0, g, hk0, by rw [e]; exact grt_same_rest t pl' hg, hkg, ed⟩)))
  · exact .inr (.inr (.inr (.inr ⟨c, c2, r, g, grt_same_rest t hn hr, by rw [e]; exact grt_same_rest t pl' hg, hir, hy, ed⟩)))
/-! ### the text of a course -/
/-! ### books near a book -/
def EOk (n i : Nat) (e : Entry) : Prop := e.length < 64 ∧ ∀ w ∈ e, WayOk n w ∧ i ∉ w
theorem BookOk.of {b : List Entry} (h1 : 1 ≤ b.length) (h2 : b.length ≤ 24) (h : ∀ i, i < b.length → EOk b.length i (b.getD i [])) : BookOk b := by
  have key : ∀ i e, b[i]? = some e → EOk b.length i e := fun i e he => by
    have hi := (List.getElem?_eq_some_iff.mp he).1
    have := h i hi
    rw [List.getD, he] at this
    exact this
  have mem : ∀ e ∈ b, ∃ i, EOk b.length i e := fun e he => by
    obtain ⟨i, hi⟩ := List.mem_iff_getElem?.mp he
    exact ⟨i, key i e hi⟩
  exact ⟨h1, h2, fun e he => (mem e he).elim fun i h => h.1, fun e he w hw => (mem e he).elim fun i h => (h.2 w hw).1, fun i e he w hw => ((key i e he).2 w hw).2⟩
/-! ### books of just so many items -/
theorem All2.at_ {α β : Type} {P : α → β → Prop} {l : List α} {m : List β} (h : All2 P l m) : ∀ {j : Nat} {d : β}, m[j]? = some d → ∃ a, l[j]? = some a ∧ P a d := by
  induction h with
  | nil => intro j d e; simp at e
  | cons p _ ih =>
    intro j d e
    cases j with
    | zero => simp at e; subst e; exact ⟨_, by simp, p⟩
    | succ j => simpa using ih (by simpa using e)
def Ens6 (n : Nat) (b : List Entry) : Prop := ∀ (i : Nat) e, b[i]? = some e → EnOk n i e ∧ e.length ≤ 6
theorem Ens6.add {n : Nat} {b : List Entry} {e : Entry} (h : Ens6 n b) (he : EnOk n b.length e) (hl : e.length ≤ 6) : Ens6 n (b ++ [e]) := by
  intro i e' hi
  by_cases c : i < b.length
  · rw [List.getElem?_append_left c] at hi
    exact h i e' hi
  · have hlt := (List.getElem?_eq_some_iff.mp hi).1
    simp at hlt
    have : i = b.length := by omega
    subst this
    rw [List.getElem?_append_right (Nat.le_refl _)] at hi
    simp at hi
    subst hi
    exact ⟨he, hl⟩
local macro_rules | `(tactic| walk_at "v18") => `(tactic| try simp only [dVar_app, dC_app, dOp_app, dTest_app, dChain_app, dAnd_app, dOr_app, dNot_app, dAndT_app, dOrT_app, dNotT_app, dIf_app, dNil_app, dCons_app, dTup_app, dLst_app, dCall_app, dBlt_app, dIsi_app, dNoPart_app, dPart_app, dSl_app, dNext_app, dBreak_app, dCont_app, dRet_app, dRetOwn_app, dRetN_app, dDrop_app, dFreeze_app, dSet_app, dFLst_app, dOfF_app, dSetOwn_app, dAppend_app, dInsert_app, dFNil_app, dFVal_app, dFOwn_app, dPar_app, dUnpack_app, iSeq_app, iRange1_app, iRange2_app, dFor_app, dYes_app, dLc_app, dNeg_app, dSetLcV_app, dNever_app, iEnumD_app, dFld_app, dMeth0_app, dProp_app, dRaise_app, dMake_app, dDc_app, dDGet_app, dLocked_app, iKeysD_app, dPenGet_app, dPenSet_app, dRetPen_app, dRev_app, dJoin_app, dDict0_app, dDict1_app, dInC_app, dBits_app, ex_false, nD_snoc, and1N, bitP1, bitP0, has_way_ap, first_way_ap, eqD_int, neD_int, addN, add1N, orN, andN, xorN, ltN, gtN, shrN, inn, notInn, inlst, notinlst, eqD_way, neD_way, eqD_nonway, eqD_waynon, eqD_lst, neD_lst, eqD_bl, isN_way, isNot_way, isN_non, isNot_non, isN_int, isNot_int, len_way, len_book, len_masks, len_entry, len_lst, len_tup, tup_lst, tup_tup, tup_way, lst_way, lst_lst, int_int, way_nD, all_bl, any_bl, rngD_nD, rngD_len, len_nD, Int.toNat_natCast, ex_nil', ex_cons', ex_val, ex_vald, ex_bl, ex_sbl, ex_int, ex_lst, ex_tup, ex_own, ex_vtup, no_lt, no_tl, ex_way_lst, ex_way_tup, ex_book_lst, ex_book_tup, ex_entry_lst, ex_entry_tup, ex_fld_book, ex_fld_ways, len_ap, mask_of_ap, items_of_ap, all_items_ap, lies_within_ap, is_set_ap, is_item_ap, draw_ap, pen_ap, book_ap, init_ap, beq_self_eq_true, reduceCtorEq, if_false, Nat.zero_le, allVal, wipeE, setE, RF.ev, R.d, R.isVal, noLst, startE, List.map_cons, List.map_nil, List.set_cons_zero, List.set_cons_succ, List.getElem?_cons_zero, List.getElem?_cons_succ, List.length_cons, List.length_nil, List.replicate, List.cons_append, List.nil_append, List.append_nil, List.length_map, List.length_range, Nat.reduceSub, Nat.reduceAdd, Bool.not_true, Bool.not_false, Bool.not_not, Bool.false_eq_true, if_true, if_false, decide_eq_true_eq, eq_self, true_and, and_true, true_or, or_true, false_or, or_false, false_and, and_false, Bool.not_eq_true', decide_eq_false_iff_not, ite_not, exists_eq_left, exists_eq_left', eqD_lst_nil, neD_lst_nil, row_ap, natCast_eq, tup_nil, isi_way, in_entry, notin_entry, in_ways, notin_ways, ways_snoc, neD_int, dTupRg_app, dIndex_app, has_ap, dCmpC_app, dBinC_app, dIsC_app, dRevL_app, iZipD_app, dLc2_app])
/-! ### two sources at once -/
/-! ### & and | of courses -/
/-! ### what joined courses allow -/
theorem StP.mono {a b : List Entry} (hl : b.length = a.length) (h : ∀ i p, i < a.length → hasL (a.getD i []) p = true → hasL (b.getD i []) p = true) {w : List Nat} (s : StP a w) : StP b w := by
  induction s with
  | nil => exact .nil
  | put _ hk hw ih =>
    rw [← hl]
    exact .put ih (by omega) (h _ _ hk hw)
local macro_rules | `(tactic| walk_at "v19") => `(tactic| try simp only [dVar_app, dC_app, dOp_app, dTest_app, dChain_app, dAnd_app, dOr_app, dNot_app, dAndT_app, dOrT_app, dNotT_app, dIf_app, dNil_app, dCons_app, dTup_app, dLst_app, dCall_app, dBlt_app, dIsi_app, dNoPart_app, dPart_app, dSl_app, dNext_app, dBreak_app, dCont_app, dRet_app, dRetOwn_app, dRetN_app, dDrop_app, dFreeze_app, dSet_app, dFLst_app, dOfF_app, dSetOwn_app, dAppend_app, dInsert_app, dFNil_app, dFVal_app, dFOwn_app, dPar_app, dUnpack_app, iSeq_app, iRange1_app, iRange2_app, dFor_app, dYes_app, dLc_app, dNeg_app, dSetLcV_app, dNever_app, iEnumD_app, dFld_app, dMeth0_app, dProp_app, dRaise_app, dMake_app, dDc_app, dDGet_app, dLocked_app, iKeysD_app, dPenGet_app, dPenSet_app, dRetPen_app, dRev_app, dJoin_app, dDict0_app, dDict1_app, dInC_app, dBits_app, ex_false, nD_snoc, and1N, bitP1, bitP0, has_way_ap, first_way_ap, eqD_int, neD_int, addN, add1N, orN, andN, xorN, ltN, gtN, shrN, inn, notInn, inlst, notinlst, eqD_way, neD_way, eqD_nonway, eqD_waynon, eqD_lst, neD_lst, eqD_bl, isN_way, isNot_way, isN_non, isNot_non, isN_int, isNot_int, len_way, len_book, len_masks, len_entry, len_lst, len_tup, tup_lst, tup_tup, tup_way, lst_way, lst_lst, int_int, way_nD, all_bl, any_bl, rngD_nD, rngD_len, len_nD, Int.toNat_natCast, ex_nil', ex_cons', ex_val, ex_vald, ex_bl, ex_sbl, ex_int, ex_lst, ex_tup, ex_own, ex_vtup, no_lt, no_tl, ex_way_lst, ex_way_tup, ex_book_lst, ex_book_tup, ex_entry_lst, ex_entry_tup, ex_fld_book, ex_fld_ways, len_ap, mask_of_ap, items_of_ap, all_items_ap, lies_within_ap, is_set_ap, is_item_ap, draw_ap, pen_ap, book_ap, init_ap, beq_self_eq_true, reduceCtorEq, if_false, Nat.zero_le, allVal, wipeE, setE, RF.ev, R.d, R.isVal, noLst, startE, List.map_cons, List.map_nil, List.set_cons_zero, List.set_cons_succ, List.getElem?_cons_zero, List.getElem?_cons_succ, List.length_cons, List.length_nil, List.replicate, List.cons_append, List.nil_append, List.append_nil, List.length_map, List.length_range, Nat.reduceSub, Nat.reduceAdd, Bool.not_true, Bool.not_false, Bool.not_not, Bool.false_eq_true, if_true, if_false, decide_eq_true_eq, eq_self, true_and, and_true, true_or, or_true, false_or, or_false, false_and, and_false, Bool.not_eq_true', decide_eq_false_iff_not, ite_not, exists_eq_left, exists_eq_left', eqD_lst_nil, neD_lst_nil, row_ap, natCast_eq, tup_nil, isi_way, in_entry, notin_entry, in_ways, notin_ways, ways_snoc, neD_int, dTupRg_app, dIndex_app, dRevL_app, iRevRg_app, dSaid_app, has_ap, dCmpC_app, dBinC_app, dIsC_app, dLstRg_app, dSetPopAt_app, dFLstRg_app, dReprC_app, dRaiseF_app, dForLam_app, dLamL_nil, dLamL_cons])
local macro_rules | `(tactic| walk_at "v20") => `(tactic| try simp only [dVar_app, dC_app, dOp_app, dTest_app, dChain_app, dAnd_app, dOr_app, dNot_app, dAndT_app, dOrT_app, dNotT_app, dIf_app, dNil_app, dCons_app, dTup_app, dLst_app, dCall_app, dBlt_app, dIsi_app, dNoPart_app, dPart_app, dSl_app, dNext_app, dBreak_app, dCont_app, dRet_app, dRetOwn_app, dRetN_app, dDrop_app, dFreeze_app, dSet_app, dFLst_app, dOfF_app, dSetOwn_app, dAppend_app, dInsert_app, dFNil_app, dFVal_app, dFOwn_app, dPar_app, dUnpack_app, iSeq_app, iRange1_app, iRange2_app, dFor_app, dYes_app, dLc_app, dNeg_app, dSetLcV_app, dNever_app, iEnumD_app, dFld_app, dMeth0_app, dProp_app, dRaise_app, dMake_app, dDc_app, dDGet_app, dLocked_app, iKeysD_app, dPenGet_app, dPenSet_app, dRetPen_app, dRev_app, dJoin_app, dDict0_app, dDict1_app, dInC_app, dBits_app, ex_false, nD_snoc, and1N, bitP1, bitP0, has_way_ap, first_way_ap, eqD_int, neD_int, addN, add1N, orN, andN, xorN, ltN, gtN, shrN, inn, notInn, inlst, notinlst, eqD_way, neD_way, eqD_nonway, eqD_waynon, eqD_lst, neD_lst, eqD_bl, isN_way, isNot_way, isN_non, isNot_non, isN_int, isNot_int, len_way, len_book, len_masks, len_entry, len_lst, len_tup, tup_lst, tup_tup, tup_way, lst_way, lst_lst, int_int, way_nD, all_bl, any_bl, rngD_nD, rngD_len, len_nD, Int.toNat_natCast, ex_nil', ex_cons', ex_val, ex_vald, ex_bl, ex_sbl, ex_int, ex_lst, ex_tup, ex_own, ex_vtup, no_lt, no_tl, ex_way_lst, ex_way_tup, ex_book_lst, ex_book_tup, ex_entry_lst, ex_entry_tup, ex_fld_book, ex_fld_ways, len_ap, mask_of_ap, items_of_ap, all_items_ap, lies_within_ap, is_set_ap, is_item_ap, draw_ap, pen_ap, book_ap, init_ap, beq_self_eq_true, reduceCtorEq, if_false, Nat.zero_le, allVal, wipeE, setE, RF.ev, R.d, R.isVal, noLst, startE, List.map_cons, List.map_nil, List.set_cons_zero, List.set_cons_succ, List.getElem?_cons_zero, List.getElem?_cons_succ, List.length_cons, List.length_nil, List.replicate, List.cons_append, List.nil_append, List.append_nil, List.length_map, List.length_range, Nat.reduceSub, Nat.reduceAdd, Bool.not_true, Bool.not_false, Bool.not_not, Bool.false_eq_true, if_true, if_false, decide_eq_true_eq, eq_self, true_and, and_true, true_or, or_true, false_or, or_false, false_and, and_false, Bool.not_eq_true', decide_eq_false_iff_not, ite_not, exists_eq_left, exists_eq_left', eqD_lst_nil, neD_lst_nil, row_ap, natCast_eq, tup_nil, isi_way, in_entry, notin_entry, in_ways, notin_ways, ways_snoc, neD_int, dTupRg_app, dIndex_app, has_ap, dCmpC_app, dBinC_app, dIsC_app])
/-! ### any row -/
local macro_rules | `(tactic| walk_at "v21") => `(tactic| try simp only [dVar_app, dC_app, dOp_app, dTest_app, dChain_app, dAnd_app, dOr_app, dNot_app, dAndT_app, dOrT_app, dNotT_app, dIf_app, dNil_app, dCons_app, dTup_app, dLst_app, dCall_app, dBlt_app, dIsi_app, dNoPart_app, dPart_app, dSl_app, dNext_app, dBreak_app, dCont_app, dRet_app, dRetOwn_app, dRetN_app, dDrop_app, dFreeze_app, dSet_app, dFLst_app, dOfF_app, dSetOwn_app, dAppend_app, dInsert_app, dFNil_app, dFVal_app, dFOwn_app, dPar_app, dUnpack_app, iSeq_app, iRange1_app, iRange2_app, dFor_app, dYes_app, dLc_app, dNeg_app, dSetLcV_app, dNever_app, iEnumD_app, dFld_app, dMeth0_app, dProp_app, dRaise_app, dMake_app, dDc_app, dDGet_app, dLocked_app, iKeysD_app, dPenGet_app, dPenSet_app, dRetPen_app, dRev_app, dJoin_app, dDict0_app, dDict1_app, dInC_app, dBits_app, ex_false, nD_snoc, and1N, bitP1, bitP0, has_way_ap, first_way_ap, eqD_int, neD_int, addN, add1N, orN, andN, xorN, ltN, gtN, shrN, inn, notInn, inlst, notinlst, eqD_way, neD_way, eqD_nonway, eqD_waynon, eqD_lst, neD_lst, eqD_bl, isN_way, isNot_way, isN_non, isNot_non, isN_int, isNot_int, len_way, len_book, len_masks, len_entry, len_lst, len_tup, tup_lst, tup_tup, tup_way, lst_way, lst_lst, int_int, way_nD, all_bl, any_bl, rngD_nD, rngD_len, len_nD, Int.toNat_natCast, ex_nil', ex_cons', ex_val, ex_vald, ex_bl, ex_sbl, ex_int, ex_lst, ex_tup, ex_own, ex_vtup, no_lt, no_tl, ex_way_lst, ex_way_tup, ex_book_lst, ex_book_tup, ex_entry_lst, ex_entry_tup, ex_fld_book, ex_fld_ways, len_ap, mask_of_ap, items_of_ap, all_items_ap, lies_within_ap, is_set_ap, is_item_ap, draw_ap, pen_ap, book_ap, init_ap, beq_self_eq_true, reduceCtorEq, if_false, Nat.zero_le, allVal, wipeE, setE, RF.ev, R.d, R.isVal, noLst, startE, List.map_cons, List.map_nil, List.set_cons_zero, List.set_cons_succ, List.getElem?_cons_zero, List.getElem?_cons_succ, List.length_cons, List.length_nil, List.replicate, List.cons_append, List.nil_append, List.append_nil, List.length_map, List.length_range, Nat.reduceSub, Nat.reduceAdd, Bool.not_true, Bool.not_false, Bool.not_not, Bool.false_eq_true, if_true, if_false, decide_eq_true_eq, eq_self, true_and, and_true, true_or, or_true, false_or, or_false, false_and, and_false, Bool.not_eq_true', decide_eq_false_iff_not, ite_not, exists_eq_left, exists_eq_left', eqD_lst_nil, neD_lst_nil, row_ap, natCast_eq, tup_nil, isi_way, in_entry, notin_entry, in_ways, notin_ways, ways_snoc, neD_int, dTupRg_app, dIndex_app, dRevL_app, iRevRg_app, dSaid_app, has_ap])
local macro_rules | `(tactic| walk_at "v22") => `(tactic| try simp only [dVar_app, dC_app, dOp_app, dTest_app, dChain_app, dAnd_app, dOr_app, dNot_app, dAndT_app, dOrT_app, dNotT_app, dIf_app, dNil_app, dCons_app, dTup_app, dLst_app, dCall_app, dBlt_app, dIsi_app, dNoPart_app, dPart_app, dSl_app, dNext_app, dBreak_app, dCont_app, dRet_app, dRetOwn_app, dRetN_app, dDrop_app, dFreeze_app, dSet_app, dFLst_app, dOfF_app, dSetOwn_app, dAppend_app, dInsert_app, dFNil_app, dFVal_app, dFOwn_app, dPar_app, dUnpack_app, iSeq_app, iRange1_app, iRange2_app, dFor_app, dYes_app, dLc_app, dNeg_app, dSetLcV_app, dNever_app, iEnumD_app, dFld_app, dMeth0_app, dProp_app, dRaise_app, dMake_app, dDc_app, dDGet_app, dLocked_app, iKeysD_app, dPenGet_app, dPenSet_app, dRetPen_app, dRev_app, dJoin_app, dDict0_app, dDict1_app, dInC_app, dBits_app, ex_false, nD_snoc, and1N, bitP1, bitP0, has_way_ap, first_way_ap, eqD_int, neD_int, addN, add1N, orN, andN, xorN, ltN, gtN, shrN, inn, notInn, inlst, notinlst, eqD_way, neD_way, eqD_nonway, eqD_waynon, eqD_lst, neD_lst, eqD_bl, isN_way, isNot_way, isN_non, isNot_non, isN_int, isNot_int, len_way, len_book, len_masks, len_entry, len_lst, len_tup, tup_lst, tup_tup, tup_way, lst_way, lst_lst, int_int, way_nD, all_bl, any_bl, rngD_nD, rngD_len, len_nD, Int.toNat_natCast, ex_nil', ex_cons', ex_val, ex_vald, ex_bl, ex_sbl, ex_int, ex_lst, ex_tup, ex_own, ex_vtup, no_lt, no_tl, ex_way_lst, ex_way_tup, ex_book_lst, ex_book_tup, ex_entry_lst, ex_entry_tup, ex_fld_book, ex_fld_ways, len_ap, mask_of_ap, items_of_ap, all_items_ap, lies_within_ap, is_set_ap, is_item_ap, draw_ap, pen_ap, book_ap, init_ap, beq_self_eq_true, reduceCtorEq, if_false, Nat.zero_le, allVal, wipeE, setE, RF.ev, R.d, R.isVal, noLst, startE, List.map_cons, List.map_nil, List.set_cons_zero, List.set_cons_succ, List.getElem?_cons_zero, List.getElem?_cons_succ, List.length_cons, List.length_nil, List.replicate, List.cons_append, List.nil_append, List.append_nil, List.length_map, List.length_range, Nat.reduceSub, Nat.reduceAdd, Bool.not_true, Bool.not_false, Bool.not_not, Bool.false_eq_true, if_true, if_false, decide_eq_true_eq, eq_self, true_and, and_true, true_or, or_true, false_or, or_false, false_and, and_false, Bool.not_eq_true', decide_eq_false_iff_not, ite_not, exists_eq_left, exists_eq_left', eqD_lst_nil, neD_lst_nil, row_ap, natCast_eq, tup_nil, isi_way, in_entry, notin_entry, in_ways, notin_ways, ways_snoc, neD_int, dTupRg_app, dIndex_app, dRevL_app, iRevRg_app, dSaid_app, has_ap, dCmpC_app, dBinC_app, dIsC_app, dLstRg_app, dSetPopAt_app, dFLstRg_app])
/-! ### a clash is told in the same words -/
/-! ### reasons, any values -/
def ItC (kb : List Entry) (d : D) (W : Addr) (x : XP) (P : Nat → Prop) : Prop := pl d = true ∧ (isItem (kb.length : Nat) d = false → x ⟨W, none⟩) ∧ ∀ i : Nat, d = .int (i : Nat) → i < kb.length → P i
theorem ItC.mk {kb : List Entry} {i : Nat} {W : Addr} {x : XP} {P : Nat → Prop} (hi : i < kb.length) (h : P i) : ItC kb (.int (i : Nat)) W x P := ⟨rfl, fun e => (by rw [isItem_nat hi] at e; cases e), fun j e _ => by cases natInt_inj e; exact h⟩
theorem ItC.imp {kb : List Entry} {d : D} {W : Addr} {x x' : XP} {P P' : Nat → Prop} (h : ItC kb d W x P) (hx : ∀ e, x e → x' e) (hp : ∀ i, d = .int (i : Nat) → i < kb.length → P i → P' i) : ItC kb d W x' P' := ⟨h.1, fun z => hx _ (h.2.1 z), fun i e hi => hp i e hi (h.2.2 i e hi)⟩
/-! ### the reasons and the words agree -/
local macro_rules | `(tactic| walk_at "v23") => `(tactic| try simp only [dVar_app, dC_app, dOp_app, dTest_app, dChain_app, dAnd_app, dOr_app, dNot_app, dAndT_app, dOrT_app, dNotT_app, dIf_app, dNil_app, dCons_app, dTup_app, dLst_app, dCall_app, dBlt_app, dIsi_app, dNoPart_app, dPart_app, dSl_app, dNext_app, dBreak_app, dCont_app, dRet_app, dRetOwn_app, dRetN_app, dDrop_app, dFreeze_app, dSet_app, dFLst_app, dOfF_app, dSetOwn_app, dAppend_app, dInsert_app, dFNil_app, dFVal_app, dFOwn_app, dPar_app, dUnpack_app, iSeq_app, iRange1_app, iRange2_app, dFor_app, dYes_app, dLc_app, dNeg_app, dSetLcV_app, dNever_app, iEnumD_app, dFld_app, dMeth0_app, dProp_app, dRaise_app, dMake_app, dDc_app, dDGet_app, dLocked_app, iKeysD_app, dPenGet_app, dPenSet_app, dRetPen_app, dRev_app, dJoin_app, dDict0_app, dDict1_app, dInC_app, dBits_app, ex_false, nD_snoc, and1N, bitP1, bitP0, has_way_ap, first_way_ap, eqD_int, neD_int, addN, add1N, orN, andN, xorN, ltN, gtN, shrN, inn, notInn, inlst, notinlst, eqD_way, neD_way, eqD_nonway, eqD_waynon, eqD_lst, neD_lst, eqD_bl, isN_way, isNot_way, isN_non, isNot_non, isN_int, isNot_int, len_way, len_book, len_masks, len_entry, len_lst, len_tup, tup_lst, tup_tup, tup_way, lst_way, lst_lst, int_int, way_nD, all_bl, any_bl, rngD_nD, rngD_len, len_nD, Int.toNat_natCast, ex_nil', ex_cons', ex_val, ex_vald, ex_bl, ex_sbl, ex_int, ex_lst, ex_tup, ex_own, ex_vtup, no_lt, no_tl, ex_way_lst, ex_way_tup, ex_book_lst, ex_book_tup, ex_entry_lst, ex_entry_tup, ex_fld_book, ex_fld_ways, len_ap, mask_of_ap, items_of_ap, all_items_ap, lies_within_ap, is_set_ap, is_item_ap, draw_ap, pen_ap, book_ap, init_ap, beq_self_eq_true, reduceCtorEq, if_false, Nat.zero_le, allVal, wipeE, setE, RF.ev, R.d, R.isVal, noLst, startE, List.map_cons, List.map_nil, List.set_cons_zero, List.set_cons_succ, List.getElem?_cons_zero, List.getElem?_cons_succ, List.length_cons, List.length_nil, List.replicate, List.cons_append, List.nil_append, List.append_nil, List.length_map, List.length_range, Nat.reduceSub, Nat.reduceAdd, Bool.not_true, Bool.not_false, Bool.not_not, Bool.false_eq_true, if_true, if_false, decide_eq_true_eq, eq_self, true_and, and_true, true_or, or_true, false_or, or_false, false_and, and_false, Bool.not_eq_true', decide_eq_false_iff_not, ite_not, exists_eq_left, exists_eq_left', eqD_lst_nil])
/-! ### ranks: shorter first, then the order of Python -/
def Ranked (L : List (List Nat)) : Prop := L.Pairwise fun u v => rankN u < rankN v
/-! ### the tidy form, told apart -/
/-- T: the least ways of ws, ranked -/
structure TidyX (T ws : List (List Nat)) : Prop where
  rk : Ranked T
  mem : ∀ w, w ∈ T ↔ w ∈ ws ∧ ∀ u ∈ ws, (∀ i ∈ u, i ∈ w) → u = w
  len : T.length ≤ ws.length
theorem Ranked.ext : ∀ {L M : List (List Nat)}, Ranked L → Ranked M → (∀ w, w ∈ L ↔ w ∈ M) → L = M
  | [], [], _, _, _ => rfl
  | [], m :: M, _, _, h => absurd ((h m).mpr List.mem_cons_self) (by simp)
  | l :: L, [], _, _, h => absurd ((h l).mp List.mem_cons_self) (by simp)
  | l :: L, m :: M, hL, hM, h => by
    obtain ⟨l1, l2⟩ := List.pairwise_cons.mp hL
    obtain ⟨m1, m2⟩ := List.pairwise_cons.mp hM
    have e : l = m := by
      have a := (h l).mp List.mem_cons_self
      have b := (h m).mpr List.mem_cons_self
      rcases List.mem_cons.mp a with a | a
      · exact a
      · rcases List.mem_cons.mp b with b | b
        · exact b.symm
        · have x := l1 m b
          have y := m1 l a
          omega
    subst e
    congr 1
    refine Ranked.ext l2 m2 fun w => ⟨fun hw => ?_, fun hw => ?_⟩
    · rcases List.mem_cons.mp ((h w).mp (List.mem_cons_of_mem _ hw)) with z | z
      · subst z; exact absurd (l1 w hw) (Nat.lt_irrefl _)
      · exact z
    · rcases List.mem_cons.mp ((h w).mpr (List.mem_cons_of_mem _ hw)) with z | z
      · subst z; exact absurd (m1 w hw) (Nat.lt_irrefl _)
      · exact z
theorem TidyX.uniq {T S ws : List (List Nat)} (a : TidyX T ws) (b : TidyX S ws) : T = S := a.rk.ext b.rk fun w => by rw [a.mem, b.mem]
local macro_rules | `(tactic| walk_at "v24") => `(tactic| try simp only [dVar_app, dC_app, dOp_app, dTest_app, dChain_app, dAnd_app, dOr_app, dNot_app, dAndT_app, dOrT_app, dNotT_app, dIf_app, dNil_app, dCons_app, dTup_app, dLst_app, dCall_app, dBlt_app, dIsi_app, dNoPart_app, dPart_app, dSl_app, dNext_app, dBreak_app, dCont_app, dRet_app, dRetOwn_app, dRetN_app, dDrop_app, dFreeze_app, dSet_app, dFLst_app, dOfF_app, dSetOwn_app, dAppend_app, dInsert_app, dFNil_app, dFVal_app, dFOwn_app, dPar_app, dUnpack_app, iSeq_app, iRange1_app, iRange2_app, dFor_app, dYes_app, dLc_app, dNeg_app, dSetLcV_app, dNever_app, iEnumD_app, dFld_app, dMeth0_app, dProp_app, dRaise_app, dMake_app, dDc_app, dDGet_app, dLocked_app, iKeysD_app, dPenGet_app, dPenSet_app, dRetPen_app, dRev_app, dJoin_app, dDict0_app, dDict1_app, dInC_app, dBits_app, ex_false, nD_snoc, and1N, bitP1, bitP0, has_way_ap, first_way_ap, eqD_int, neD_int, addN, add1N, orN, andN, xorN, ltN, gtN, shrN, inn, notInn, inlst, notinlst, eqD_way, neD_way, eqD_nonway, eqD_waynon, eqD_lst, neD_lst, eqD_bl, isN_way, isNot_way, isN_non, isNot_non, isN_int, isNot_int, len_way, len_book, len_masks, len_entry, len_lst, len_tup, tup_lst, tup_tup, tup_way, lst_way, lst_lst, int_int, way_nD, all_bl, any_bl, rngD_nD, rngD_len, len_nD, Int.toNat_natCast, ex_nil', ex_cons', ex_val, ex_vald, ex_bl, ex_sbl, ex_int, ex_lst, ex_tup, ex_own, ex_vtup, no_lt, no_tl, ex_way_lst, ex_way_tup, ex_book_lst, ex_book_tup, ex_entry_lst, ex_entry_tup, ex_fld_book, ex_fld_ways, len_ap, mask_of_ap, items_of_ap, all_items_ap, lies_within_ap, is_set_ap, is_item_ap, draw_ap, pen_ap, book_ap, init_ap, beq_self_eq_true, reduceCtorEq, if_false, Nat.zero_le, allVal, wipeE, setE, RF.ev, R.d, R.isVal, noLst, startE, List.map_cons, List.map_nil, List.set_cons_zero, List.set_cons_succ, List.getElem?_cons_zero, List.getElem?_cons_succ, List.length_cons, List.length_nil, List.replicate, List.cons_append, List.nil_append, List.append_nil, List.length_map, List.length_range, Nat.reduceSub, Nat.reduceAdd, Bool.not_true, Bool.not_false, Bool.not_not, Bool.false_eq_true, if_true, if_false, decide_eq_true_eq, eq_self, true_and, and_true, true_or, or_true, false_or, or_false, false_and, and_false, Bool.not_eq_true', decide_eq_false_iff_not, ite_not, exists_eq_left, exists_eq_left', enD_book, natCast_eq, in_entry, notin_entry])
theorem TidyX.nil : TidyX [] [] := ⟨.nil, by simp, by simp⟩
local macro_rules | `(tactic| walk_at "v25") => `(tactic| try simp only [dVar_app, dC_app, dOp_app, dTest_app, dChain_app, dAnd_app, dOr_app, dNot_app, dAndT_app, dOrT_app, dNotT_app, dIf_app, dNil_app, dCons_app, dTup_app, dLst_app, dCall_app, dBlt_app, dIsi_app, dNoPart_app, dPart_app, dSl_app, dNext_app, dBreak_app, dCont_app, dRet_app, dRetOwn_app, dRetN_app, dDrop_app, dFreeze_app, dSet_app, dFLst_app, dOfF_app, dSetOwn_app, dAppend_app, dInsert_app, dFNil_app, dFVal_app, dFOwn_app, dPar_app, dUnpack_app, iSeq_app, iRange1_app, iRange2_app, dFor_app, dYes_app, dLc_app, dNeg_app, dSetLcV_app, dNever_app, iEnumD_app, dFld_app, dMeth0_app, dProp_app, dRaise_app, dMake_app, dDc_app, dDGet_app, dLocked_app, iKeysD_app, dPenGet_app, dPenSet_app, dRetPen_app, dRev_app, dJoin_app, dDict0_app, dDict1_app, dInC_app, dBits_app, ex_false, nD_snoc, and1N, bitP1, bitP0, has_way_ap, first_way_ap, eqD_int, neD_int, addN, add1N, orN, andN, xorN, ltN, gtN, shrN, inn, notInn, inlst, notinlst, eqD_way, neD_way, eqD_nonway, eqD_waynon, eqD_lst, neD_lst, eqD_bl, isN_way, isNot_way, isN_non, isNot_non, isN_int, isNot_int, len_way, len_book, len_masks, len_entry, len_lst, len_tup, tup_lst, tup_tup, tup_way, lst_way, lst_lst, int_int, way_nD, all_bl, any_bl, rngD_nD, rngD_len, len_nD, Int.toNat_natCast, ex_nil', ex_cons', ex_val, ex_vald, ex_bl, ex_sbl, ex_int, ex_lst, ex_tup, ex_own, ex_vtup, no_lt, no_tl, ex_way_lst, ex_way_tup, ex_book_lst, ex_book_tup, ex_entry_lst, ex_entry_tup, ex_fld_book, ex_fld_ways, len_ap, mask_of_ap, items_of_ap, all_items_ap, lies_within_ap, is_set_ap, is_item_ap, draw_ap, pen_ap, book_ap, init_ap, beq_self_eq_true, reduceCtorEq, if_false, Nat.zero_le, allVal, wipeE, setE, RF.ev, R.d, R.isVal, noLst, startE, List.map_cons, List.map_nil, List.set_cons_zero, List.set_cons_succ, List.getElem?_cons_zero, List.getElem?_cons_succ, List.length_cons, List.length_nil, List.replicate, List.cons_append, List.nil_append, List.append_nil, List.length_map, List.length_range, Nat.reduceSub, Nat.reduceAdd, Bool.not_true, Bool.not_false, Bool.not_not, Bool.false_eq_true, if_true, if_false, decide_eq_true_eq, eq_self, true_and, and_true, true_or, or_true, false_or, or_false, false_and, and_false, Bool.not_eq_true', decide_eq_false_iff_not, ite_not, exists_eq_left, exists_eq_left', eqD_lst_nil, neD_lst_nil, row_ap, natCast_eq, tup_nil, isi_way, in_entry, notin_entry, in_ways, notin_ways, ways_snoc, neD_int, dTupRg_app, dIndex_app, has_ap, dCmpC_app, dBinC_app, dIsC_app, dRevL_app, iZipD_app, dFAdd_app, dExtend_app, dUnpackPop_app, dTruL_app])
/-! ### trees of ways -/
inductive T27 where
  | sh (row : List Nat)
  | wy (w : List Nat) (ts : List T27)
mutual
def tD : T27 → D
  | .sh row => .tup [.str "short", wayD row]
  | .wy w ts => .tup [.str "way", wayD w, .tup (tDs ts)]
def tDs : List T27 → List D
  | [] => []
  | t :: ts => tD t :: tDs ts
end
mutual
def T27.size : T27 → Nat
  | .sh _ => 1
  | .wy _ ts => 1 + sizeL ts
def sizeL : List T27 → Nat
  | [] => 0
  | t :: ts => t.size + sizeL ts
end
mutual
def T27.depth : T27 → Nat
  | .sh _ => 0
  | .wy _ ts => 1 + depthL ts
def depthL : List T27 → Nat
  | [] => 0
  | t :: ts => max t.depth (depthL ts)
end
def Row27 (n : Nat) (w : List Nat) : Prop := w.Pairwise (· < ·) ∧ ∀ j ∈ w, j < n
mutual
def T27.Ok (n : Nat) : T27 → Prop
  | .sh row => Row27 n row
  | .wy w ts => Row27 n w ∧ OkL n ts
def OkL (n : Nat) : List T27 → Prop
  | [] => True
  | t :: ts => t.Ok n ∧ OkL n ts
end
theorem OkL.iff {n : Nat} : ∀ {ts : List T27}, OkL n ts ↔ ∀ t ∈ ts, t.Ok n
  | [] => by simp [OkL]
  | t :: ts => by
    rw [List.forall_mem_cons, ← OkL.iff]
    rfl
theorem T27.pos (t : T27) : 0 < t.size := by cases t <;> simp [T27.size] <;> omega
mutual
theorem pl_tD : ∀ t : T27, pl (tD t) = true
  | .sh row => by
    show (true && (pl (wayD row) && true)) = true
    rw [pl_way]; rfl
  | .wy w ts => by
    show (true && (pl (wayD w) && (pls (tDs ts) && true))) = true
    rw [pl_way, pls_tDs]; rfl
theorem pls_tDs : ∀ ts : List T27, pls (tDs ts) = true
  | [] => rfl
  | t :: ts => by
    show (pl (tD t) && pls (tDs ts)) = true
    rw [pl_tD, pls_tDs]; rfl
end
/-- a set that shows that not all of wa can be learned without av -/
def shB (b : List Entry) (wa av row : List Nat) : Bool := closB b av row && !(wa.all fun j => decide (j ∈ row))
mutual
def rtT (b : List Entry) (i : Nat) (wa : List Nat) : List Nat → T27 → Bool
  | av, .sh row => shB b wa av row
  | av, .wy w ts => decide (w ∈ b.getD i []) && (decide (ts.length = w.length) && rtL b i wa av w ts)
def rtL (b : List Entry) (i : Nat) (wa : List Nat) : List Nat → List Nat → List T27 → Bool
  | av, j :: w, t :: ts => rtT b i wa (putN b.length av j) t && rtL b i wa av w ts
  | _, _, _ => true
end
/-! ### what the program says of a value -/
/-! ### the stack of branches -/
/-! ### the trees that the law grows -/
theorem Row27.tail {n : Nat} {w : List Nat} (h : Row27 n w) : Row27 n (w.drop 1) := ⟨h.1.sublist (List.drop_sublist 1 w), fun j hj => h.2 j (List.mem_of_mem_drop hj)⟩
theorem ClashAt.same {kb b : List Entry} (t : TidyB kb b) {ys ns : List Nat} {i : Nat} (h : ∀ j ∈ ns, j < b.length) (c : ClashAt kb ys ns i) : ClashAt b ys ns i := by
  obtain ⟨r, hr, hf⟩ := c
  rw [t.len] at hr
  exact ⟨r, hr.same t (restM_lt h), hf⟩

local macro_rules | `(tactic| walk_at "v26") => `(tactic| try simp only [dVar_app, dC_app, dOp_app, dTest_app, dChain_app, dAnd_app, dOr_app, dNot_app, dAndT_app, dOrT_app, dNotT_app, dIf_app, dNil_app, dCons_app, dTup_app, dLst_app, dCall_app, dBlt_app, dIsi_app, dNoPart_app, dPart_app, dSl_app, dNext_app, dBreak_app, dCont_app, dRet_app, dRetOwn_app, dRetN_app, dDrop_app, dFreeze_app, dSet_app, dFLst_app, dOfF_app, dSetOwn_app, dAppend_app, dInsert_app, dFNil_app, dFVal_app, dFOwn_app, dPar_app, dUnpack_app, iSeq_app, iRange1_app, iRange2_app, dFor_app, dYes_app, dLc_app, dNeg_app, dSetLcV_app, dNever_app, iEnumD_app, dFld_app, dMeth0_app, dProp_app, dRaise_app, dMake_app, dDc_app, dDGet_app, dLocked_app, iKeysD_app, dPenGet_app, dPenSet_app, dRetPen_app, dRev_app, dJoin_app, dDict0_app, dDict1_app, dInC_app, dBits_app, ex_false, nD_snoc, and1N, bitP1, bitP0, has_way_ap, first_way_ap, eqD_int, neD_int, addN, add1N, orN, andN, xorN, ltN, gtN, shrN, inn, notInn, inlst, notinlst, eqD_way, neD_way, eqD_nonway, eqD_waynon, eqD_lst, neD_lst, eqD_bl, isN_way, isNot_way, isN_non, isNot_non, isN_int, isNot_int, len_way, len_book, len_masks, len_entry, len_lst, len_tup, tup_lst, tup_tup, tup_way, lst_way, lst_lst, int_int, way_nD, all_bl, any_bl, rngD_nD, rngD_len, len_nD, Int.toNat_natCast, ex_nil', ex_cons', ex_val, ex_vald, ex_bl, ex_sbl, ex_int, ex_lst, ex_tup, ex_own, ex_vtup, no_lt, no_tl, ex_way_lst, ex_way_tup, ex_book_lst, ex_book_tup, ex_entry_lst, ex_entry_tup, ex_fld_book, ex_fld_ways, len_ap, mask_of_ap, items_of_ap, all_items_ap, lies_within_ap, is_set_ap, is_item_ap, draw_ap, pen_ap, book_ap, init_ap, beq_self_eq_true, reduceCtorEq, if_false, Nat.zero_le, allVal, wipeE, setE, RF.ev, R.d, R.isVal, noLst, startE, List.map_cons, List.map_nil, List.set_cons_zero, List.set_cons_succ, List.getElem?_cons_zero, List.getElem?_cons_succ, List.length_cons, List.length_nil, List.replicate, List.cons_append, List.nil_append, List.append_nil, List.length_map, List.length_range, Nat.reduceSub, Nat.reduceAdd, Bool.not_true, Bool.not_false, Bool.not_not, Bool.false_eq_true, if_true, if_false, decide_eq_true_eq, eq_self, true_and, and_true, true_or, or_true, false_or, or_false, false_and, and_false, Bool.not_eq_true', decide_eq_false_iff_not, ite_not, exists_eq_left, exists_eq_left', eqD_lst_nil, neD_lst_nil, row_ap, natCast_eq, tup_nil, isi_way, in_entry, notin_entry, in_ways, notin_ways, ways_snoc, neD_int, dTupRg_app, dIndex_app, has_ap, dCmpC_app, dBinC_app, dIsC_app, dRevL_app, iZipD_app, dFAdd_app])
def t__law_less  : DS := (dRet (dBlt tupF (dCons (dOfF (dLc [2] (iSeq (dVar 0)) (gN 2) (dTest (dOp neD (dVar 2) (dVar 1))) (dVar 2))) dNil)))
inductive T33 where
  | lf (i : Nat) (row : List Nat)
  | nd (i : Nat) (g : List Nat) (ts : List T33)
mutual
def t3D : T33 → D
  | .lf i row => .tup [.str "clash", .int (i : Nat), wayD row]
  | .nd i g ts => .tup [.str "clash", .int (i : Nat), wayD g, .tup (t3Ds ts)]
def t3Ds : List T33 → List D
  | [] => []
  | t :: ts => t3D t :: t3Ds ts
end
/-- a full tree of that many levels -/
def T33.Ok (n : Nat) : Nat → T33 → Prop
  | 0, .lf i row => i < n ∧ Row27 n row
  | m + 1, .nd i g ts => (i < n ∧ Row27 n g ∧ g.length ≤ 4 ∧ ts.length ≤ 5) ∧ ∀ t ∈ ts, T33.Ok n m t
  | _, _ => False
def lessL (w : List Nat) (i : Nat) : List Nat := w.filter fun j => !decide (j = i)
/-! ### what the program says -/
/-! ### is_case_tree -/
/-! ### the law's words -/
def F_less : DF := fun ds q _ => ∃ (w : List Nat) (i : Nat), ds = [wayD w, .int (i : Nat)] ∧ w.length ≤ 1000 ∧ q (wayD (lessL w i))
theorem s__law_less : ∀ ds q x, F_less ds q x → ds.length = 2 ∧ t__law_less { nx := fun _ => q .non, rt := q, ex := x } (startE 3 ds) := by
  rintro ds q x ⟨w, i, rfl, hl, hq⟩
  refine ⟨rfl, ?_⟩
  unfold t__law_less
  walk_at "v26"
  refine ⟨by omega, lc_sN (fun j => !decide (j = i)) (fun j hj => ⟨fun Q hQ => ?_, fun _ Q hQ => ?_⟩) ?_⟩
  · walk_at "v26"
    exact hQ
  · walk_at "v26"
    exact hQ
  · walk_at "v26"
    exact hq
/-! ### the trees that the law grows -/
def t__law_shows (F__law_closed : DF) (F__law_top : DF) (F__law_shows : DF) (F__law_less : DF) : DS := (dSeq (dIfS (dOrT (dTest (dOp neD (dOp ixD (dVar 4) (dC (.int 0))) (dC (.str "clash")))) (dTest (dOp notInD (dOp ixD (dVar 4) (dC (.int 1))) (dVar 1)))) (dRet (dC (.bl false))) dNext) (dSeq (dIfS (dTest (dOp eqD (dVar 3) (dC (.int 0)))) (dRet (dAnd (dCall F__law_closed (dCons (dVar 0) (dCons (dVar 2) (dCons (dOp ixD (dVar 4) (dC (.int 2))) dNil)))) (dOp notInD (dOp ixD (dVar 4) (dC (.int 1))) (dOp ixD (dVar 4) (dC (.int 2)))))) dNext) (dSeq (dSet 5 (dOp ixD (dVar 4) (dC (.int 2)))) (dSeq (dIfS (dOrT (dNotT (dTest (dBlt allF (dCons (dOfF (dLc [7] (iSeq (dVar 5)) (gN 7) dYes (dOp inD (dVar 7) (dVar 2)))) dNil)))) (dOrT (dTest (dOp inD (dOp ixD (dVar 4) (dC (.int 1))) (dCall F__law_top (dCons (dVar 0) (dCons (dVar 5) dNil))))) (dTest (dOp neD (dBlt lenF (dCons (dOp ixD (dVar 4) (dC (.int 3))) dNil)) (dOp addA (dBlt lenF (dCons (dVar 5) dNil)) (dC (.int 1))))))) (dRet (dC (.bl false))) dNext) (dSeq (dIfS (dNotT (dTest (dCall F__law_shows (dCons (dVar 0) (dCons (dCall F__law_less (dCons (dVar 1) (dCons (dOp ixD (dVar 4) (dC (.int 1))) dNil))) (dCons (dVar 2) (dCons (dOp subD (dVar 3) (dC (.int 1))) (dCons (dOp ixD (dOp ixD (dVar 4) (dC (.int 3))) (dC (.int 0))) dNil)))))))) (dRet (dC (.bl false))) dNext) (dSeq (dFor (iRange1 (dBlt lenF (dCons (dVar 5) dNil))) (gN 6) (dIfS (dNotT (dTest (dCall F__law_shows (dCons (dVar 0) (dCons (dVar 1) (dCons (dCall F__law_less (dCons (dVar 2) (dCons (dOp ixD (dVar 5) (dVar 6)) dNil))) (dCons (dOp subD (dVar 3) (dC (.int 1))) (dCons (dOp ixD (dOp ixD (dVar 4) (dC (.int 3))) (dOp addA (dVar 6) (dC (.int 1)))) dNil)))))))) (dRet (dC (.bl false))) dNext)) (dRet (dC (.bl true)))))))))
/-! ### the law's reading of a case tree -/
def F_shows : Nat → DF
  | 0 => fun _ _ _ => False
  | f + 1 => fun ds q _ => ∃ (b kb : List Entry) (ys ns Y N : List Nat) (k : Nat) (v : D), ds = [bookD b, wayD Y, wayD N, .int (k : Nat), v] ∧ BookOk b ∧ TidyB kb b ∧ CasK kb ys ns Y N ∧ k ≤ f ∧ ShowsT kb ys ns k Y N v ∧ q (.bl true)
theorem no__law_shows : ∀ ds q x, ¬ F_shows 0 ds q x := fun _ _ _ h => h
theorem s__law_shows (f : Nat) : ∀ ds q x, F_shows (f + 1) ds q x → ds.length = 5 ∧ t__law_shows F_closed F_top (F_shows f) F_less { nx := fun _ => q .non, rt := q, ex := x } (startE 8 ds) := by
  rintro ds q x ⟨b, kb, ys, ns, Y, N, k, v, rfl, hb, t, h, hkf, sh, hq⟩
  refine ⟨rfl, ?_⟩
  have hk := h.k24
  have tl := t.len
  unfold t__law_shows
  cases k with
  | zero =>
    obtain ⟨i, r, rfl, hi, hr, hout⟩ := sh
    refine w_seq fun k1 hk1 => w_if fun A B hA hB => ?_
    walk_at "v21"
    refine ⟨_, rfl, _, neD_same (by decide +kernel), false, rfl, ?_⟩
    rw [if_neg (by decide)]
    refine ⟨_, rfl, _, notInn _ _, _, rfl, ?_⟩
    rw [if_neg (by simpa using hi)]
    refine hB (hk1 _ (w_seq fun k1 hk1 => w_if fun A B hA hB => ?_))
    walk_at "v21"
    refine hA ?_
    walk_at "v21"
    refine ⟨_, rfl, closed_ap hb (bitsN_asc r) (fun j hj => by have := (mem_bits_greatest h.nl hr hj).1; omega) ⟨true, by rw [closB_greatest t h.nl hr], ?_⟩⟩
    rw [if_pos rfl]
    refine ⟨_, rfl, _, rfl, _, notInn _ _, ?_⟩
    rw [decide_eq_false hout]
    exact hq
  | succ k =>
    obtain ⟨a, ts, rfl, ok, hin, lts, hts⟩ := sh
    refine w_seq fun k1 hk1 => w_if fun A B hA hB => ?_
    walk_at "v21"
    refine ⟨_, rfl, _, neD_same (by decide +kernel), false, rfl, ?_⟩
    rw [if_neg (by decide)]
    refine ⟨_, rfl, _, notInn _ _, _, rfl, ?_⟩
    rw [if_neg (by simpa using hin.1)]
    refine hB (hk1 _ (w_seq fun k1 hk1 => w_if fun A B hA hB => ?_))
    walk_at "v21"
    refine cast (if_neg (by omega)).symm (hB (hk1 _ (w_seq fun k1 hk1 => ?_)))
    walk_at "v21"
    refine ⟨_, rfl, hk1 _ (w_seq fun k1 hk1 => w_if fun A B hA hB => ?_)⟩
    have gl : ∀ j ∈ a.2, j < b.length := fun j hj => by have := h.nl j (hin.2 j hj); omega
    have g24 : a.2.length ≤ 24 := by have := asc_short ok.asc gl; omega
    walk_at "v21"
    refine ⟨by omega, lc_all (fun i : Nat => D.int (i : Nat)) (fun i : Nat => D.bl (decide (i ∈ N))) (fun i hi => ⟨_, rfl, fun Q hQ => ?_⟩) ?_⟩
    · walk_at "v21"
      exact hQ
    walk_at "v21"
    have hall : allF [.lst (a.2.map fun i => D.bl (decide (i ∈ N)))] = some (.bl true) := by
      have := all_bl (a.2.map fun i => decide (i ∈ N))
      rw [List.map_map] at this
      refine this.trans ?_
      congr 2
      rw [List.all_map, List.all_eq_true]
      exact fun i hi => decide_eq_true (hin.2 i hi)
    refine ⟨_, hall, true, rfl, ?_⟩
    rw [if_neg (by decide)]
    refine ⟨_, rfl, b, a.2, rfl, hb, gl, by omega, fun r hr => ⟨_, inn _ _, _, rfl, ?_⟩⟩
    have gb : Gate b a.2 a.1 := fun u hu hi => ok.gate u ((StW.same t).mpr hu) hi
    rw [if_neg (by rw [decide_eq_false ((gate_greatest gl hr).mp gb)]; decide)]
    refine ⟨.tup ts, rfl, .int (ts.length : Nat), rfl, .bl false, ?_, false, rfl, ?_⟩
    · rw [lts, neD_int]
      simp
    rw [if_neg (by decide)]
    refine hB (hk1 _ (w_seq fun k1 hk1 => w_if fun A B hA hB => ?_))
    obtain ⟨f', rfl⟩ : ∃ f', f = f' + 1 := ⟨f - 1, by omega⟩
    have child : ∀ (p x : Nat), (a.1 :: a.2)[p]? = some x → ∃ d, ts[p]? = some d ∧ ShowsT kb ys ns k (YR a Y x) (NR a N x) d := fun p x hp => by
      have lp := (List.getElem?_eq_some_iff.mp hp).1
      have lp2 : p < ts.length := by rw [List.length_cons] at lp; omega
      exact ⟨ts[p], List.getElem?_eq_getElem lp2, hts p x _ hp (List.getElem?_eq_getElem lp2)⟩
    walk_at "v21"
    have Y24 : Y.length ≤ 24 := by have := asc_short h.ya h.yl; omega
    have N24 : N.length ≤ 24 := by have := asc_short h.na h.nl; omega
    obtain ⟨d0, e0, sh0⟩ := child 0 a.1 rfl
    have ixt : ∀ (p : Nat) (d : D), ts[p]? = some d → ixD (.tup ts) (.int (p : Nat)) = some d := fun p d e => by
      show atI ts ((p : Nat) : Int) = _
      exact atI_nat e
    have ix0 : ixD (.tup ts) (.int 0) = some d0 := ixt 0 d0 e0
    refine ⟨_, rfl, Y, a.1, rfl, by omega, _, sub1N (by omega), _, rfl, _, ix0, ?_⟩
    have y0 : YR a Y a.1 = lessL Y a.1 := if_pos rfl
    have n0 : NR a N a.1 = N := if_pos rfl
    rw [y0, n0] at sh0
    refine ⟨b, kb, ys, ns, lessL Y a.1, N, k, d0, rfl, hb, t, h.lessY a.1, by omega, sh0, true, rfl, ?_⟩
    rw [if_neg (by decide)]
    refine hB (hk1 _ (w_seq fun k1 hk1 => ?_))
    walk_at "v21"
    refine ⟨by omega, by omega, for_any (fun i : Nat => D.int (i : Nat)) (fun env => ∃ o7 o8, env = [.val (bookD b), .val (wayD Y), .val (wayD N), .val (.int ((k + 1 : Nat) : Int)), .val (.tup [.str "clash", .int (a.1 : Nat), wayD a.2, .tup ts]), .val (wayD a.2), o7, o8]) ⟨_, _, rfl⟩ ?_ ?_⟩
    · rintro p env k2 hp ⟨o7, o8, rfl⟩ hk2
      have lp : p < a.2.length := List.mem_range.mp hp
      refine ⟨_, rfl, w_if fun A B hA hB => ?_⟩
      have hx : a.2[p]? = some a.2[p] := List.getElem?_eq_getElem lp
      have m1 : a.2[p] ∈ a.2 := List.getElem_mem lp
      obtain ⟨d1, e1, sh1⟩ := child (p + 1) a.2[p] hx
      have ne := mem_ne h ok m1
      have y1 : YR a Y a.2[p] = Y := if_neg ne
      have n1 : NR a N a.2[p] = lessL N a.2[p] := if_neg ne
      rw [y1, n1] at sh1
      walk_at "v21"
      refine ⟨_, ix_row hx, N, a.2[p], rfl, by omega, _, sub1N (by omega), _, rfl, _, ixt (p + 1) d1 e1, ?_⟩
      refine ⟨b, kb, ys, ns, Y, lessL N a.2[p], k, d1, rfl, hb, t, h.lessN a.2[p], by omega, sh1, true, rfl, ?_⟩
      rw [if_neg (by decide)]
      refine hB ?_
      walk_at "v21"
      exact hk2 _ ⟨_, _, rfl⟩
    · rintro env ⟨o7, o8, rfl⟩
      refine hk1 _ ?_
      walk_at "v21"
      exact hq
theorem CasK.proYN {kb : List Entry} {ys ns Y N : List Nat} (h : CasK kb ys ns Y N) : Pro kb Y N := ⟨h.ya, h.yl, h.na, h.nl, fun i hi z => h.pro.dis i (h.ysub i hi) (h.nsub i z)⟩
theorem fewest_ap {C CS X Y : Addr} {kb : List Entry} {ys ns : List Nat} {q : D → Prop} {x : XP} (hk : kb.length ≤ 24) (hp : Pro kb ys ns) (hc : wd ys ns ≤ 6 ∨ FitsR kb ys ns)
    (hq : ∀ (u : List Nat) (v : D), StW kb u → (∀ w, StW kb w → cntW ys ns u ≤ cntW ys ns w) → (cntW ys ns u = 0 → v = .non) → (∀ k, cntW ys ns u = k + 1 → ShowsT kb ys ns k ys ns v) → q (.tup [.int (cntW ys ns u : Nat), wayD u, v])) : F_fewest C CS X Y [crsD C kb, wayD ys, wayD ns] q x :=
  ⟨kb, _, _, rfl, AnsC.mk hk hp ⟨hc, hq⟩⟩

local macro_rules | `(tactic| walk_at "v27") => `(tactic| try simp only [dVar_app, dC_app, dOp_app, dTest_app, dChain_app, dAnd_app, dOr_app, dNot_app, dAndT_app, dOrT_app, dNotT_app, dIf_app, dNil_app, dCons_app, dTup_app, dLst_app, dCall_app, dBlt_app, dIsi_app, dNoPart_app, dPart_app, dSl_app, dNext_app, dBreak_app, dCont_app, dRet_app, dRetOwn_app, dRetN_app, dDrop_app, dFreeze_app, dSet_app, dFLst_app, dOfF_app, dSetOwn_app, dAppend_app, dInsert_app, dFNil_app, dFVal_app, dFOwn_app, dPar_app, dUnpack_app, iSeq_app, iRange1_app, iRange2_app, dFor_app, dYes_app, dLc_app, dNeg_app, dSetLcV_app, dNever_app, iEnumD_app, dFld_app, dMeth0_app, dProp_app, dRaise_app, dMake_app, dDc_app, dDGet_app, dLocked_app, iKeysD_app, dPenGet_app, dPenSet_app, dRetPen_app, dRev_app, dJoin_app, dDict0_app, dDict1_app, dInC_app, dBits_app, ex_false, nD_snoc, and1N, bitP1, bitP0, has_way_ap, first_way_ap, eqD_int, neD_int, addN, add1N, orN, andN, xorN, ltN, gtN, shrN, inn, notInn, inlst, notinlst, eqD_way, neD_way, eqD_nonway, eqD_waynon, eqD_lst, neD_lst, eqD_bl, isN_way, isNot_way, isN_non, isNot_non, isN_int, isNot_int, len_way, len_book, len_masks, len_entry, len_lst, len_tup, tup_lst, tup_tup, tup_way, lst_way, lst_lst, int_int, way_nD, all_bl, any_bl, rngD_nD, rngD_len, len_nD, Int.toNat_natCast, ex_nil', ex_cons', ex_val, ex_vald, ex_bl, ex_sbl, ex_int, ex_lst, ex_tup, ex_own, ex_vtup, no_lt, no_tl, ex_way_lst, ex_way_tup, ex_book_lst, ex_book_tup, ex_entry_lst, ex_entry_tup, ex_fld_book, ex_fld_ways, len_ap, mask_of_ap, items_of_ap, all_items_ap, lies_within_ap, is_set_ap, is_item_ap, draw_ap, pen_ap, book_ap, init_ap, beq_self_eq_true, reduceCtorEq, if_false, Nat.zero_le, allVal, wipeE, setE, RF.ev, R.d, R.isVal, noLst, startE, List.map_cons, List.map_nil, List.set_cons_zero, List.set_cons_succ, List.getElem?_cons_zero, List.getElem?_cons_succ, List.length_cons, List.length_nil, List.replicate, List.cons_append, List.nil_append, List.append_nil, List.length_map, List.length_range, Nat.reduceSub, Nat.reduceAdd, Bool.not_true, Bool.not_false, Bool.not_not, Bool.false_eq_true, if_true, if_false, decide_eq_true_eq, eq_self, true_and, and_true, true_or, or_true, false_or, or_false, false_and, and_false, Bool.not_eq_true', decide_eq_false_iff_not, ite_not, exists_eq_left, exists_eq_left', eqD_lst_nil, neD_lst_nil, row_ap, natCast_eq, tup_nil, isi_way, in_entry, notin_entry, in_ways, notin_ways, ways_snoc, neD_int, dTupRg_app, dIndex_app, dRevL_app, iRevRg_app, dSaid_app, has_ap, dCmpC_app, dBinC_app, dIsC_app])
local macro_rules | `(tactic| walk_at "v28") => `(tactic| try simp only [dVar_app, dC_app, dOp_app, dTest_app, dChain_app, dAnd_app, dOr_app, dNot_app, dAndT_app, dOrT_app, dNotT_app, dIf_app, dNil_app, dCons_app, dTup_app, dLst_app, dCall_app, dBlt_app, dIsi_app, dNoPart_app, dPart_app, dSl_app, dNext_app, dBreak_app, dCont_app, dRet_app, dRetOwn_app, dRetN_app, dDrop_app, dFreeze_app, dSet_app, dFLst_app, dOfF_app, dSetOwn_app, dAppend_app, dInsert_app, dFNil_app, dFVal_app, dFOwn_app, dPar_app, dUnpack_app, iSeq_app, iRange1_app, iRange2_app, dFor_app, dYes_app, dLc_app, dNeg_app, dSetLcV_app, dNever_app, iEnumD_app, dFld_app, dMeth0_app, dProp_app, dRaise_app, dMake_app, dDc_app, dDGet_app, dLocked_app, iKeysD_app, dPenGet_app, dPenSet_app, dRetPen_app, dRev_app, dJoin_app, dDict0_app, dDict1_app, dInC_app, dBits_app, ex_false, nD_snoc, and1N, bitP1, bitP0, has_way_ap, first_way_ap, eqD_int, neD_int, addN, add1N, orN, andN, xorN, ltN, gtN, shrN, inn, notInn, inlst, notinlst, eqD_way, neD_way, eqD_nonway, eqD_waynon, eqD_lst, neD_lst, eqD_bl, isN_way, isNot_way, isN_non, isNot_non, isN_int, isNot_int, len_way, len_book, len_masks, len_entry, len_lst, len_tup, tup_lst, tup_tup, tup_way, lst_way, lst_lst, int_int, way_nD, all_bl, any_bl, rngD_nD, rngD_len, len_nD, Int.toNat_natCast, ex_nil', ex_cons', ex_val, ex_vald, ex_bl, ex_sbl, ex_int, ex_lst, ex_tup, ex_own, ex_vtup, no_lt, no_tl, ex_way_lst, ex_way_tup, ex_book_lst, ex_book_tup, ex_entry_lst, ex_entry_tup, ex_fld_book, ex_fld_ways, len_ap, mask_of_ap, items_of_ap, all_items_ap, lies_within_ap, is_set_ap, is_item_ap, draw_ap, pen_ap, book_ap, init_ap, beq_self_eq_true, reduceCtorEq, if_false, Nat.zero_le, allVal, wipeE, setE, RF.ev, R.d, R.isVal, noLst, startE, List.map_cons, List.map_nil, List.set_cons_zero, List.set_cons_succ, List.getElem?_cons_zero, List.getElem?_cons_succ, List.length_cons, List.length_nil, List.replicate, List.cons_append, List.nil_append, List.append_nil, List.length_map, List.length_range, Nat.reduceSub, Nat.reduceAdd, Bool.not_true, Bool.not_false, Bool.not_not, Bool.false_eq_true, if_true, if_false, decide_eq_true_eq, eq_self, true_and, and_true, true_or, or_true, false_or, or_false, false_and, and_false, Bool.not_eq_true', decide_eq_false_iff_not, ite_not, exists_eq_left, exists_eq_left', eqD_lst_nil, neD_lst_nil, row_ap, natCast_eq, tup_nil, isi_way, in_entry, notin_entry, in_ways, notin_ways, ways_snoc, neD_int, dTupRg_app, dIndex_app, dRevL_app, iRevRg_app, dSaid_app, has_ap, dCmpC_app, dBinC_app, dIsC_app, dLstRg_app, dSetPopAt_app, dFLstRg_app, dReprC_app, dRaiseF_app])
def t_law34 (C : Addr) (F__law_cell_at : DF) (F__law_pen_of : DF) (F__law_book : DF) (F_Course___init__ : DF) (F__law_few : DF) (F_fewest_wrong : DF) (F_Course___contains__ : DF) (F__law_shows : DF) (F__law_less : DF) (F_greatest : DF) (F__law_is : DF) (F__law_draw : DF) : DS := (dSeq (dFor (iSeq (dOp addA (dLst (dCons (dCall F__law_cell_at (dCons (dVar 0) (dCons (dC (.int 0)) dNil))) dNil)) (dSl (dVar 0) (dPart (dC (.int 1))) (dPart (dC (.int 5)))))) (gN 1) (dSeq (dSet 2 (dCall F__law_pen_of (dCons (dVar 1) dNil))) (dSeq (dSet 3 (dCall F__law_book (dCons (dVar 2) (dCons (dC (.int 9)) dNil)))) (dSeq (dPar [7, 8] (dFVal (dBlt lenF (dCons (dVar 3) dNil)) (dFVal (dMake C F_Course___init__ (dCons (dVar 3) dNil)) dFNil))) (dSeq (dPar [9, 4] (dFVal (dCall F__law_few (dCons (dVar 2) (dCons (dVar 7) (dCons (dC (.int 3)) dNil)))) (dFVal (dCall F__law_few (dCons (dVar 2) (dCons (dVar 7) (dCons (dC (.int 3)) dNil)))) dFNil))) (dSeq (dSet 4 (dBlt tupF (dCons (dOfF (dLc [5] (iSeq (dVar 4)) (gN 5) (dTest (dOp notInD (dVar 5) (dVar 9))) (dVar 5))) dNil))) (dSeq (dUnpack [10, 11, 12] (dCall F_fewest_wrong (dCons (dVar 8) (dCons (dVar 9) (dCons (dVar 4) dNil))))) (dSeq (dIfS (dOrT (dTest (dInC F_Course___contains__ true (dVar 11) (dVar 8))) (dTest (dOp neD (dOp addA (dBlt lenF (dCons (dOfF (dLc [5] (iSeq (dVar 9)) (gN 5) (dTest (dOp notInD (dVar 5) (dVar 11))) (dVar 5))) dNil)) (dBlt lenF (dCons (dOfF (dLc [5] (iSeq (dVar 4)) (gN 5) (dTest (dOp inD (dVar 5) (dVar 11))) (dVar 5))) dNil))) (dVar 10)))) (dRet (dC (.bl false))) dNext) (dSeq (dIfS (dAndT (dTest (dOp gtI (dVar 10) (dC (.int 0)))) (dNotT (dTest (dCall F__law_shows (dCons (dVar 3) (dCons (dVar 9) (dCons (dVar 4) (dCons (dOp subD (dVar 10) (dC (.int 1))) (dCons (dVar 12) dNil))))))))) (dRet (dC (.bl false))) dNext) (dSeq (dFor (iSeq (dVar 9)) (gN 5) (dIfS (dTest (dOp notInD (dOp subD (dVar 10) (dOp ixD (dCall F_fewest_wrong (dCons (dVar 8) (dCons (dCall F__law_less (dCons (dVar 9) (dCons (dVar 5) dNil))) (dCons (dVar 4) dNil)))) (dC (.int 0)))) (dTup (dCons (dC (.int 0)) (dCons (dC (.int 1)) dNil))))) (dRet (dC (.bl false))) dNext)) (dSeq (dFor (iSeq (dVar 4)) (gN 5) (dIfS (dTest (dOp notInD (dOp subD (dVar 10) (dOp ixD (dCall F_fewest_wrong (dCons (dVar 8) (dCons (dVar 9) (dCons (dCall F__law_less (dCons (dVar 4) (dCons (dVar 5) dNil))) dNil)))) (dC (.int 0)))) (dTup (dCons (dC (.int 0)) (dCons (dC (.int 1)) dNil))))) (dRet (dC (.bl false))) dNext)) (dSeq (dSet 6 (dCall F_greatest (dCons (dVar 8) (dCons (dVar 4) dNil)))) (dIfS (dNotT (dTest (dCall F__law_is (dCons (dOp ixD (dCall F_fewest_wrong (dCons (dVar 8) (dCons (dBlt tupF (dCons (dOfF (dLc [5] (iSeq (dVar 6)) (gN 5) (dOrT (dTest (dOp inD (dVar 5) (dVar 9))) (dTest (dOp eqD (dCall F__law_draw (dCons (dVar 2) (dCons (dC (.int 2)) dNil))) (dC (.int 0))))) (dVar 5))) dNil)) (dCons (dVar 4) dNil)))) (dC (.int 0))) (dCons (dC (.int 0)) dNil))))) (dRet (dC (.bl false))) dNext))))))))))))) (dRet (dC (.bl true))))
theorem s_law34 (C CS X_NoSet X_NoAnswers : Addr) : ∀ ds q x, F_law ds q x → ds.length = 1 ∧ t_law34 C F__law_cell_at F__law_pen_of F__law_book (F_Course___init__ C) F_few (F_fewest C CS X_NoSet X_NoAnswers) (F_Course___contains__ C) (F_shows 26) F_less (F_greatest C X_NoSet) F_isS F__law_draw { nx := fun _ => q .non, rt := q, ex := x } (startE 13 ds) := by
  rintro ds q x ⟨ns, rfl, hl, hq⟩
  refine ⟨rfl, ?_⟩
  unfold t_law34
  refine law_any (fun env => ∃ o1 o2 o3 o4 o5 o6 o7 o8 o9 o10 o11 o12, env = [.val (.scr (iD ns)), o1, o2, o3, o4, o5, o6, o7, o8, o9, o10, o11, o12]) hl hq ⟨_, _, _, _, _, _, _, _, _, _, _, _, rfl⟩ ?_
  rintro J z env ⟨o1, o2, o3, o4, o5, o6, o7, o8, o9, o10, o11, o12, rfl⟩ hJ
  refine w_seq fun k hk => ?_
  walk_at "v28"
  refine hk _ (w_seq fun k hk => ?_)
  walk_at "v28"
  refine ⟨9, rfl, by decide, by decide, fun b hb hbl => ?_⟩
  walk_at "v28"
  refine hk _ (w_seq fun k hk => ?_)
  walk_at "v28"
  refine ⟨hb, fun kb t => hk _ ?_⟩
  have hkl := t.len
  have hk24 : kb.length ≤ 24 := by omega
  have h1 := hb.pos
  have hkb := t.ok hb
  refine w_seq fun k hk => ?_
  walk_at "v28"
  refine few_ap (by omega) (by omega) (by decide) fun yes ya yl y3 => ?_
  walk_at "v28"
  refine few_ap (by omega) (by omega) (by decide) fun no0 na0 nl0 n3 => ?_
  walk_at "v28"
  refine hk _ (w_seq fun k hk => ?_)
  have y3 : yes.length ≤ 3 := y3
  have n3 : no0.length ≤ 3 := n3
  walk_at "v28"
  refine ⟨by omega, lc_sN (fun j => !decide (j ∈ yes)) (fun j hj => ⟨fun Q hQ => ?_, fun _ Q hQ => ?_⟩) ?_⟩
  · walk_at "v28"
    exact hQ
  · walk_at "v28"
    exact hQ
  walk_at "v28"
  generalize eno : (no0.filter fun j => !decide (j ∈ yes)) = no
  have na : no.Pairwise (· < ·) := by rw [← eno]; exact na0.sublist List.filter_sublist
  have nl : ∀ j ∈ no, j < b.length := fun j hj => by rw [← eno] at hj; exact nl0 j (List.mem_filter.mp hj).1
  have nn3 : no.length ≤ 3 := by rw [← eno]; exact Nat.le_trans (List.length_filter_le _ _) n3
  have dis : ∀ j ∈ yes, j ∉ no := fun j hj z => by
    rw [← eno] at z
    have := (List.mem_filter.mp z).2
    simp [hj] at this
  have pro : Pro kb yes no := ⟨ya, by rw [hkl]; exact yl, na, by rw [hkl]; exact nl, dis⟩
  refine hk _ (w_seq fun k hk => ?_)
  walk_at "v28"
  refine fewest_ap hk24 pro (.inl (by unfold wd; omega)) fun u v hu lb v0 v1 => ?_
  refine ⟨_, rfl, rfl, hk _ (w_seq fun k hk => w_if fun A B hA hB => ?_)⟩
  walk_at "v28"
  refine contains_st hk24 hu ⟨true, rfl, ?_⟩
  rw [if_neg (by decide)]
  refine ⟨by omega, lc_sN (fun j => !decide (j ∈ u)) (fun j hj => ⟨fun Q hQ => ?_, fun _ Q hQ => ?_⟩) ⟨by omega, lc_sN (fun j => decide (j ∈ u)) (fun j hj => ⟨fun Q hQ => ?_, fun _ Q hQ => ?_⟩) ?_⟩⟩
  · walk_at "v28"
    exact hQ
  · walk_at "v28"
    exact hQ
  · walk_at "v28"
    exact hQ
  · walk_at "v28"
    exact hQ
  rw [len_nD, len_nD]
  refine cast (if_pos rfl).symm (hB (hk _ (w_seq fun k hk => w_if fun A B hA hB => ?_)))
  walk_at "v28"
  have cas : CasK kb yes no yes no := ⟨hk24, pro, ya, na, fun _ h => h, fun _ h => h⟩
  have c3 : cntW yes no u ≤ 3 := by
    have := lb [] (st_empty kb)
    rw [cnt_empty] at this
    omega
  have hBB : B := by
    refine hB (hk _ (w_seq fun k hk => ?_))
    walk_at "v28"
    refine for_any (fun i : Nat => D.int (i : Nat)) (fun env => ∃ o5 o6, env = [.val (.scr (iD ns)), .val (.int z), .val .pen, .val (bookD b), .val (wayD no), o5, o6, .val (.int (b.length : Nat)), .val (crsD C kb), .val (wayD yes), .val (.int (cntW yes no u : Nat)), .val (wayD u), .val v]) ⟨_, _, rfl⟩ ?_ ?_
    · rintro i env k2 hi ⟨o5, o6, rfl⟩ hk2
      refine ⟨_, rfl, w_if fun A B hA hB => ?_⟩
      walk_at "v28"
      refine ⟨yes, i, rfl, by omega, ?_⟩
      have e1 : ∀ w, cntW yes no w = (if i ∈ w then 0 else 1) + cntW (lessL yes i) no w := fun w => cntW_lessY cas hi w
      refine fewest_ap hk24 ((cas.lessY i).proYN) (.inl ?_) fun u2 v2 hu2 lb2 _ _ => ?_
      · have := List.length_filter_le (fun j => !decide (j = i)) yes
        unfold wd lessL
        omega
      have a1 := lb u2 hu2
      have a2 := lb2 u hu
      rw [e1 u2] at a1
      have a3 := e1 u
      have le1 : cntW (lessL yes i) no u2 ≤ cntW yes no u := by
        have : cntW (lessL yes i) no u2 ≤ cntW (lessL yes i) no u := a2
        rw [a3]; omega
      have le2 : cntW yes no u ≤ 1 + cntW (lessL yes i) no u2 := by
        have : (if i ∈ u2 then 0 else 1) + cntW (lessL yes i) no u2 ≤ 1 + cntW (lessL yes i) no u2 := by split <;> omega
        omega
      refine ⟨_, rfl, _, subNle le1, by decide, _, notInn (cntW yes no u - cntW (lessL yes i) no u2) [0, 1], _, rfl, ?_⟩
      have hd : cntW yes no u - cntW (lessL yes i) no u2 = 0 ∨ cntW yes no u - cntW (lessL yes i) no u2 = 1 := by omega
      rw [if_neg (by rcases hd with z | z <;> rw [z] <;> decide)]
      refine hB ?_
      walk_at "v28"
      exact hk2 _ ⟨_, _, rfl⟩
    · rintro env ⟨o5, o6, rfl⟩
      refine hk _ (w_seq fun k hk => ?_)
      walk_at "v28"
      refine for_any (fun i : Nat => D.int (i : Nat)) (fun env => ∃ o5 o6, env = [.val (.scr (iD ns)), .val (.int z), .val .pen, .val (bookD b), .val (wayD no), o5, o6, .val (.int (b.length : Nat)), .val (crsD C kb), .val (wayD yes), .val (.int (cntW yes no u : Nat)), .val (wayD u), .val v]) ⟨_, _, rfl⟩ ?_ ?_
      · rintro i env k2 hi ⟨o5, o6, rfl⟩ hk2
        refine ⟨_, rfl, w_if fun A B hA hB => ?_⟩
        walk_at "v28"
        refine ⟨no, i, rfl, by omega, ?_⟩
        have e1 : ∀ w, cntW yes no w = (if i ∈ w then 1 else 0) + cntW yes (lessL no i) w := fun w => cntW_lessN cas hi w
        refine fewest_ap hk24 ((cas.lessN i).proYN) (.inl ?_) fun u2 v2 hu2 lb2 _ _ => ?_
        · have := List.length_filter_le (fun j => !decide (j = i)) no
          unfold wd lessL
          omega
        have a1 := lb u2 hu2
        have a2 := lb2 u hu
        rw [e1 u2] at a1
        have a3 := e1 u
        have le1 : cntW yes (lessL no i) u2 ≤ cntW yes no u := by
          have : cntW yes (lessL no i) u2 ≤ cntW yes (lessL no i) u := a2
          rw [a3]; omega
        have le2 : cntW yes no u ≤ 1 + cntW yes (lessL no i) u2 := by
          have : (if i ∈ u2 then 1 else 0) + cntW yes (lessL no i) u2 ≤ 1 + cntW yes (lessL no i) u2 := by split <;> omega
          omega
        refine ⟨_, rfl, _, subNle le1, by decide, _, notInn (cntW yes no u - cntW yes (lessL no i) u2) [0, 1], _, rfl, ?_⟩
        have hd : cntW yes no u - cntW yes (lessL no i) u2 = 0 ∨ cntW yes no u - cntW yes (lessL no i) u2 = 1 := by omega
        rw [if_neg (by rcases hd with z | z <;> rw [z] <;> decide)]
        refine hB ?_
        walk_at "v28"
        exact hk2 _ ⟨_, _, rfl⟩
      · rintro env ⟨o5, o6, rfl⟩
        refine hk _ (w_seq fun k hk => ?_)
        walk_at "v28"
        refine greatest_ap hk24 na (by rw [hkl]; exact nl) fun r hr => hk _ (w_if fun A B hA hB => ?_)
        walk_at "v28"
        have rl := fun j hj => (mem_bits_greatest (by rw [hkl]; exact nl) hr hj : j < kb.length ∧ j ∉ no)
        have r24 := asc_short (bitsN_asc r) fun j hj => (rl j hj).1
        refine ⟨by omega, lc_subN (p := fun _ => True) (fun j hj Q hQ => ?_) (fun j hj Q hQ => ?_) fun w hw _ => ?_⟩
        · walk_at "v28"
          split
          · exact hQ true fun _ => trivial
          · exact ⟨by decide, by decide, fun i _ => hQ _ fun _ => trivial⟩
        · walk_at "v28"
          exact hQ
        have wa := (bitsN_asc r).sublist hw
        have wb : ∀ j ∈ w, j ∈ bitsN r := fun j hj => hw.subset hj
        have fit : FitsR kb w no := ⟨r, hr, wb⟩
        have pw : Pro kb w no := ⟨wa, fun j hj => (rl j (wb j hj)).1, na, by rw [hkl]; exact nl, fun j hj => (rl j (wb j hj)).2⟩
        refine fewest_ap hk24 pw (.inr fit) fun u2 v2 hu2 lb2 _ _ => ⟨_, rfl, ?_⟩
        have g0 : cntW w no (bitsN r) = 0 := by
          have cw : CasK kb w no w no := ⟨hk24, pw, wa, na, fun _ h => h, fun _ h => h⟩
          exact (grt_state cw hr fit).2
        have z0 : cntW w no u2 = 0 := by
          have := lb2 (bitsN r) (StW.of_greatest (by rw [hkl]; exact nl) hr)
          omega
        rw [z0]
        refine isS_pt (a := .int 0) rfl (rok_ok (by decide +kernel) (by decide +kernel)) ⟨true, rfl, ?_⟩
        rw [if_neg (by decide)]
        refine hB (hJ _ ⟨_, _, _, _, _, _, _, _, _, _, _, _, rfl⟩)
  rcases Nat.eq_zero_or_pos (cntW yes no u) with c0 | cp
  · refine ⟨_, rfl, _, rfl, ?_⟩
    rw [if_neg (by rw [c0]; decide)]
    exact hBB
  · obtain ⟨c, hc⟩ : ∃ c, cntW yes no u = c + 1 := ⟨cntW yes no u - 1, by omega⟩
    refine ⟨_, rfl, _, rfl, ?_⟩
    rw [if_pos (by rw [hc]; simp)]
    refine ⟨_, sub1N cp, ?_⟩
    refine ⟨b, kb, yes, no, yes, no, c, v, by rw [hc]; rfl, hb, t, cas, by show c ≤ 25; omega, v1 c hc, true, rfl, ?_⟩
    rw [if_neg (by decide)]
    exact hBB

end QD
namespace QD
open PySem PySem.Spec PyProof.Rows L2
def topS (i : Nat) : Stmt := PySem.Challenge.pw_learnways_k34_whole_case_trees_and_state.main.body.getD i (.Pass ⟨0, 0, 0, 0⟩)
structure CrsG (K : PySem.W.Frag) (mg : Str → Option Value) (C : Addr) : Prop where
  cls : Cls K C
  n_book : NoAttr K C "book"
  n_ways : NoAttr K C "_ways"
  most : ConI K mg "Course" C "MOST" 24
structure CasG (K : PySem.W.Frag) (C : Addr) : Prop where
  cls : Cls K C
  n_book : NoAttr K C "book"
  n_known : NoAttr K C "known"
  n_lacked : NoAttr K C "lacked"
  n_clashes : NoAttr K C "clashes"
  n_trees : NoAttr K C "trees"

theorem sc__law_pen_of : FnScope ["_law_cell", "_law_left"] ["_law_cell"] (defScope (topS 51)) := ⟨rfl, rfl, rfl, by decide +kernel, rfl, by decide +kernel, by decide +kernel⟩
theorem g__law_pen_of {P : Program} {w : World} {K : PySem.W.Frag} {mg : Str → Option Value} {base : Heap} {f : Addr} {fd : FuncData} {F : DF} (fn : Fun K "_law_pen_of" "_law_pen_of" (topS 51) f fd) (T : Tx mg)  (pure : ∀ ds q x, F ds q x → ds.length = 1 ∧ t__law_pen_of  { nx := fun _ => q .non, rt := q, ex := x } (startE 2 ds)) : FnG P w K mg base 1 f fd ["_law_cell"] (spOf K F) :=
  def_ok fn sc__law_pen_of (fun cdv A callers s H E B po => (pds_cons (pd_set 1 (pd_blt (ok_max2 B.calm) T.max boot_max_ (pda_cons (pd_bty ok_int T.int boot_int_ (pda_cons (pd_var 0) pda_nil)) (pda_cons (pd_op ok_sub pd_int (pd_bty ok_int T.int boot_int_ (pda_cons (pd_var 0) pda_nil))) pda_nil))) B.nd)
  (pds_one (pd_retPen (pf_lst (pda_cons (pd_var 1) (pda_cons (pd_bty ok_int T.int boot_int_ (pda_cons (pd_cmp ok_ge (pd_var 1) (pd_op ok_pow pd_int pd_int) (nomark _)) pda_nil)) (pda_cons (pd_op ok_mod (pd_var 1) pd_int) pda_nil)))))))) pure
theorem sc__law_next : FnScope ["_law_root"] ["_law_root"] (defScope (topS 50)) := ⟨rfl, rfl, rfl, by decide +kernel, rfl, by decide +kernel, by decide +kernel⟩
theorem g__law_next {P : Program} {w : World} {K : PySem.W.Frag} {mg : Str → Option Value} {base : Heap} {f : Addr} {fd : FuncData} {F : DF} (fn : Fun K "_law_next" "_law_next" (topS 50) f fd) (T : Tx mg)  (pure : ∀ ds q x, F ds q x → ds.length = 1 ∧ t__law_next  { nx := fun _ => q .non, rt := q, ex := x } (startE 1 ds)) : FnG P w K mg base 1 f fd ["_law_root"] (spOf K F) :=
  def_ok fn sc__law_next (fun cdv A callers s H E B po => (pds_cons (pd_set 0 (pd_op ok_mod (pd_op ok_addA (pd_var 0) pd_int) pd_int) B.nd)
  (pds_one (pd_ret (pd_op ok_mod (pd_op ok_addA (pd_op ok_addA (pd_op ok_mulA (pd_var 0) (pd_var 0)) (pd_op ok_mulA pd_int (pd_var 0))) pd_int) pd_int))))) pure
theorem sc__law_draw : FnScope ["_law_pen", "_law_many", "_law_found"] ["_law_pen", "_law_many"] (defScope (topS 52)) := ⟨rfl, rfl, rfl, by decide +kernel, rfl, by decide +kernel, by decide +kernel⟩
theorem g__law_draw {P : Program} {w : World} {K : PySem.W.Frag} {mg : Str → Option Value} {base : Heap} {f : Addr} {fd : FuncData} {F__law_next F : DF} (fn : Fun K "_law_draw" "_law_draw" (topS 52) f fd) (T : Tx mg) (C__law_next : CalG P w K mg base 1 "_law_next" (spOf K F__law_next) []) (pure : ∀ ds q x, F ds q x → ds.length = 2 ∧ t__law_draw F__law_next { nx := fun _ => q .non, rt := q, ex := x } (startE 3 ds)) : FnG P w K mg base 2 f fd ["_law_pen", "_law_many"] (spOf K F) :=
  def_ok fn sc__law_draw (fun cdv A callers s H E B po => (pds_cons (pd_ifS (PDW.pt (pdw_and (pdt_cmp (ok_eq B.u64) (pd_penGet (k := 1) (pd_var 0)) pd_int (nomark _)) (pdw_and1 (pdt_cmp ok_gt (pd_penGet (k := 0) (pd_var 0)) pd_int (nomark _))))) (pds_cons (pd_set 2 (pd_op ok_mod (pd_penGet (k := 0) (pd_var 0)) (pd_var 1)) B.nd)
  (pds_cons (pd_penSet 0 (k := 0) (pd_op ok_fdiv (pd_penGet (k := 0) (pd_var 0)) (pd_var 1)))
  (pds_one (pd_ret (pd_var 2))))) pds_nil)
  (pds_cons (pd_penSet 0 (k := 2) (pd_call C__law_next B (by decide) (pda_cons (pd_op ok_addA (pd_call C__law_next B (by decide) (pda_cons (pd_penGet (k := 2) (pd_var 0)) pda_nil)) pd_int) pda_nil)))
  (pds_one (pd_ret (pd_op ok_mod (pd_op ok_fdiv (pd_penGet (k := 2) (pd_var 0)) pd_int) (pd_var 1))))))) pure
theorem sc__law_way : FnScope ["_law_pen", "_law_n", "_law_item", "_law_most", "_law_found", "_law_turn", "_law_one"] ["_law_pen", "_law_n", "_law_item", "_law_most"] (defScope (topS 53)) := ⟨rfl, rfl, rfl, by decide +kernel, rfl, by decide +kernel, by decide +kernel⟩
theorem g__law_way {P : Program} {w : World} {K : PySem.W.Frag} {mg : Str → Option Value} {base : Heap} {f : Addr} {fd : FuncData} {F__law_draw F : DF} (fn : Fun K "_law_way" "_law_way" (topS 53) f fd) (T : Tx mg) (C__law_draw : CalG P w K mg base 2 "_law_draw" (spOf K F__law_draw) []) (pure : ∀ ds q x, F ds q x → ds.length = 4 ∧ t__law_way F__law_draw { nx := fun _ => q .non, rt := q, ex := x } (startE 7 ds)) : FnG P w K mg base 3 f fd ["_law_pen", "_law_n", "_law_item", "_law_most"] (spOf K F) :=
  def_ok fn sc__law_way (fun cdv A callers s H E B po => (pds_cons (pd_setOwn 4 (pf_lst pda_nil) B.nd)
  (pds_cons (pd_for po B.calm (pdi_range1 (pd_call C__law_draw B (by decide) (pda_cons (pd_var 0) (pda_cons (pd_op ok_addA (pd_var 3) pd_int) pda_nil))) T.range) (pgd_name 5 B.nd) (pds_cons (pd_set 6 (pd_call C__law_draw B (by decide) (pda_cons (pd_var 0) (pda_cons (pd_var 1) pda_nil))) B.nd)
  (pds_one (pd_ifS (PDW.pt (pdw_and (pdt_cmp (ok_ne B.u64) (pd_var 6) (pd_var 2) (nomark _)) (pdw_and1 (pdt_cmp (ok_notIn B.u65) (pd_var 6) (pd_var 4) (by with_unfolding_all rfl))))) (pds_one (pd_append 4 (pd_var 6))) pds_nil))))
  (pds_one (pd_ret (pd_bty ok_tuple T.tuple boot_tuple_ (pda_cons (pd_blt ok_sorted T.sorted boot_sorted_ (pda_cons (pd_ofF (pf_lc (own := [("_law_one", 6)]) (is := [6]) (dg := (gN 6)) B.calm B.nd (pdi_seq (pd_var 4)) (blkOk_by (N := ["_law_pen", "_law_n", "_law_item", "_law_most", "_law_found", "_law_turn", "_law_one"]) (sc := defScope (topS 53)) (by decide +kernel)) (comp_name 6 B.nd (fun s H C cl fp => rfl) (fun s H C cl fp => by first | exact Or.inl rfl | exact Or.inr rfl) (fun s H C cl fp => by first | exact Or.inl rfl | exact Or.inr rfl)) (fun s H C cl fp => BC.ptd B fun Bk => ptsd_nil) (fun s H C cl fp => BC.pd B fun Bk => (pd_bty ok_int T.int boot_int_ (pda_cons (pd_var 6) pda_nil))))) pda_nil)) pda_nil))))))) pure
theorem sc__law_book : FnScope ["_law_pen", "_law_most", "_law_item", "_law_n", "_law_shape", "_law_book_here", "_law_entry", "_law_turn", "_law_way_here", "_law_one"] ["_law_pen", "_law_most"] (defScope (topS 54)) := ⟨rfl, rfl, rfl, by decide +kernel, rfl, by decide +kernel, by decide +kernel⟩
theorem g__law_book {P : Program} {w : World} {K : PySem.W.Frag} {mg : Str → Option Value} {base : Heap} {f : Addr} {fd : FuncData} {F__law_draw F__law_way F : DF} (fn : Fun K "_law_book" "_law_book" (topS 54) f fd) (T : Tx mg) (C__law_draw : CalG P w K mg base 2 "_law_draw" (spOf K F__law_draw) []) (C__law_way : CalG P w K mg base 3 "_law_way" (spOf K F__law_way) []) (pure : ∀ ds q x, F ds q x → ds.length = 2 ∧ t__law_book F__law_draw F__law_way { nx := fun _ => q .non, rt := q, ex := x } (startE 10 ds)) : FnG P w K mg base 4 f fd ["_law_pen", "_law_most"] (spOf K F) :=
  def_ok fn sc__law_book (fun cdv A callers s H E B po => (pds_cons (pd_par3 3 4 5 (paf_val (pd_op ok_addA pd_int (pd_call C__law_draw B (by decide) (pda_cons (pd_var 0) (pda_cons (pd_var 1) pda_nil)))) (paf_val (pd_call C__law_draw B (by decide) (pda_cons (pd_var 0) (pda_cons pd_int pda_nil))) (paf_own (pf_lst pda_nil) paf_nil))) B.calm B.nd)
  (pds_cons (pd_for po B.calm (pdi_range1 (pd_var 3) T.range) (pgd_name 2 B.nd) (pds_cons (pd_setOwn 6 (pf_lst pda_nil) B.nd)
  (pds_cons (pd_for po B.calm (pdi_range1 (pd_op ok_addA pd_int (pd_call C__law_draw B (by decide) (pda_cons (pd_var 0) (pda_cons (pd_ix (pd_lst (pda_cons pd_int (pda_cons pd_int (pda_cons pd_int (pda_cons pd_int (pda_cons pd_int (pda_cons pd_int pda_nil))))))) (pd_var 4)) pda_nil)))) T.range) (pgd_name 7 B.nd) (pds_cons (pd_set 8 (pd_call C__law_way B (by decide) (pda_cons (pd_var 0) (pda_cons (pd_var 3) (pda_cons (pd_var 2) (pda_cons (pd_ix (pd_lst (pda_cons pd_int (pda_cons pd_int (pda_cons pd_int (pda_cons pd_int (pda_cons pd_int (pda_cons pd_int pda_nil))))))) (pd_var 4)) pda_nil))))) B.nd)
  (pds_cons (pd_ifS (pdt_cmp (ok_in B.u65) (pd_var 4) (pd_tup (pda_cons pd_int (pda_cons pd_int (pda_cons pd_int pda_nil)))) (by with_unfolding_all rfl)) (pds_one (pd_set 8 (pd_bty ok_tuple T.tuple boot_tuple_ (pda_cons (pd_ofF (pf_lc (own := [("_law_one", 9)]) (is := [9]) (dg := (gN 9)) B.calm B.nd (pdi_seq (pd_var 8)) (blkOk_by (N := ["_law_pen", "_law_most", "_law_item", "_law_n", "_law_shape", "_law_book_here", "_law_entry", "_law_turn", "_law_way_here", "_law_one"]) (sc := defScope (topS 54)) (by decide +kernel)) (comp_name 9 B.nd (fun s H C cl fp => rfl) (fun s H C cl fp => by first | exact Or.inl rfl | exact Or.inr rfl) (fun s H C cl fp => by first | exact Or.inl rfl | exact Or.inr rfl)) (fun s H C cl fp => BC.ptd B fun Bk => (ptsd_one (pdt_cmp (ok_ltA Bk.u65) (pd_var 9) (pd_var 2) (nomark _)))) (fun s H C cl fp => BC.pd B fun Bk => (pd_var 9)))) pda_nil)) B.nd)) pds_nil)
  (pds_one (pd_append 6 (pd_var 8))))))
  (pds_cons (pd_ifS (PDW.pt (pdw_and (pdt_cmp ok_gt (pd_var 4) pd_int (nomark _)) (pdw_and1 (pdt_cmp (ok_eq B.u64) (pd_call C__law_draw B (by decide) (pda_cons (pd_var 0) (pda_cons pd_int pda_nil))) pd_int (nomark _))))) (pds_one (pd_append 6 (pd_tup pda_nil))) pds_nil)
  (pds_cons (pd_ifS (PDW.pt (pdw_and (pdt_cmp (ok_in B.u65) (pd_var 4) (pd_tup (pda_cons pd_int (pda_cons pd_int pda_nil))) (by with_unfolding_all rfl)) (pdw_and1 (pdt_cmp (ok_eq B.u64) (pd_call C__law_draw B (by decide) (pda_cons (pd_var 0) (pda_cons pd_int pda_nil))) pd_int (nomark _))))) (pds_one (pd_setOwn 6 (pf_lst pda_nil) B.nd)) pds_nil)
  (pds_one (pd_append 5 (pd_bty ok_tuple T.tuple boot_tuple_ (pda_cons (pd_var 6) pda_nil)))))))))
  (pds_one (pd_ret (pd_bty ok_tuple T.tuple boot_tuple_ (pda_cons (pd_var 5) pda_nil))))))) pure
theorem sc_is_integer : FnScope ["value"] ["value"] (defScope (topS 2)) := ⟨rfl, rfl, rfl, by decide +kernel, rfl, by decide +kernel, by decide +kernel⟩
theorem g_is_integer {P : Program} {w : World} {K : PySem.W.Frag} {mg : Str → Option Value} {base : Heap} {f : Addr} {fd : FuncData} {F : DF} (fn : Fun K "is_integer" "is_integer" (topS 2) f fd) (T : Tx mg)  (pure : ∀ ds q x, F ds q x → ds.length = 1 ∧ t_is_integer  { nx := fun _ => q .non, rt := q, ex := x } (startE 1 ds)) : FnG P w K mg base 1 f fd ["value"] (spOf K F) :=
  def_ok fn sc_is_integer (fun cdv A callers s H E B po => (pds_one (pd_ret (pd_and (pd_isi T.isinstance T.int boot_int_ (pd_var 0)) (pd_one (pd_not (pd_isi T.isinstance T.bool boot_bool_ (pd_var 0)))))))) pure
theorem sc_is_item : FnScope ["value", "count"] ["value", "count"] (defScope (topS 3)) := ⟨rfl, rfl, rfl, by decide +kernel, rfl, by decide +kernel, by decide +kernel⟩
theorem g_is_item {P : Program} {w : World} {K : PySem.W.Frag} {mg : Str → Option Value} {base : Heap} {f : Addr} {fd : FuncData} {F_is_integer F : DF} (fn : Fun K "is_item" "is_item" (topS 3) f fd) (T : Tx mg) (C_is_integer : CalG P w K mg base 1 "is_integer" (spOf K F_is_integer) []) (pure : ∀ ds q x, F ds q x → ds.length = 2 ∧ t_is_item F_is_integer { nx := fun _ => q .non, rt := q, ex := x } (startE 2 ds)) : FnG P w K mg base 2 f fd ["value", "count"] (spOf K F) :=
  def_ok fn sc_is_item (fun cdv A callers s H E B po => (pds_one (pd_ret (pd_and (pd_call C_is_integer B (by decide) (pda_cons (pd_var 0) pda_nil)) (pd_one (pd_chain ok_le (ok_ltA B.u65) pd_int (pd_var 0) (pd_var 1))))))) pure
theorem sc_is_set : FnScope ["value", "count", "least", "item"] ["value", "count"] (defScope (topS 4)) := ⟨rfl, rfl, rfl, by decide +kernel, rfl, by decide +kernel, by decide +kernel⟩
theorem g_is_set {P : Program} {w : World} {K : PySem.W.Frag} {mg : Str → Option Value} {base : Heap} {f : Addr} {fd : FuncData} {F_is_item F : DF} (fn : Fun K "is_set" "is_set" (topS 4) f fd) (T : Tx mg) (C_is_item : CalG P w K mg base 2 "is_item" (spOf K F_is_item) []) (pure : ∀ ds q x, F ds q x → ds.length = 2 ∧ t_is_set F_is_item { nx := fun _ => q .non, rt := q, ex := x } (startE 4 ds)) : FnG P w K mg base 3 f fd ["value", "count"] (spOf K F) :=
  def_ok fn sc_is_set (fun cdv A callers s H E B po => (pds_cons (pd_ifS (pdt_not (pdt_val (pd_isi T.isinstance T.tuple boot_tuple_ (pd_var 0)))) (pds_one (pd_ret pd_bl)) pds_nil)
  (pds_cons (pd_set 2 pd_int B.nd)
  (pds_cons (pd_for po B.calm (pdi_seq (pd_var 0)) (pgd_name 3 B.nd) (pds_cons (pd_ifS (PDW.pt (pdw_or (pdt_not (pdt_val (pd_call C_is_item B (by decide) (pda_cons (pd_var 3) (pda_cons (pd_var 1) pda_nil))))) (pdw_or1 (pdt_cmp (ok_ltA B.u65) (pd_var 3) (pd_var 2) (nomark _))))) (pds_one (pd_ret pd_bl)) pds_nil)
  (pds_one (pd_set 2 (pd_op ok_addA (pd_var 3) pd_int) B.nd))))
  (pds_one (pd_ret pd_bl)))))) pure
theorem sc_mask_of : FnScope ["items", "mask", "item"] ["items"] (defScope (topS 15)) := ⟨rfl, rfl, rfl, by decide +kernel, rfl, by decide +kernel, by decide +kernel⟩
theorem g_mask_of {P : Program} {w : World} {K : PySem.W.Frag} {mg : Str → Option Value} {base : Heap} {f : Addr} {fd : FuncData} {F : DF} (fn : Fun K "mask_of" "mask_of" (topS 15) f fd) (T : Tx mg)  (pure : ∀ ds q x, F ds q x → ds.length = 1 ∧ t_mask_of  { nx := fun _ => q .non, rt := q, ex := x } (startE 3 ds)) : FnG P w K mg base 1 f fd ["items"] (spOf K F) :=
  def_ok fn sc_mask_of (fun cdv A callers s H E B po => (pds_cons (pd_set 1 pd_int B.nd)
  (pds_cons (pd_for po B.calm (pdi_seq (pd_var 0)) (pgd_name 2 B.nd) (pds_one (pd_set 1 (pd_op ok_bor (pd_var 1) (pd_op ok_shl pd_int (pd_var 2))) B.nd)))
  (pds_one (pd_ret (pd_var 1)))))) pure
theorem sc_Course___len__ : FnScope ["self"] ["self"] (defScope (inClass (topS 29) 5)) := ⟨rfl, rfl, rfl, by decide +kernel, rfl, by decide +kernel, by decide +kernel⟩
theorem g_Course___len__ {P : Program} {w : World} {K : PySem.W.Frag} {mg : Str → Option Value} {base : Heap} {f : Addr} {fd : FuncData} {C : Addr} {F : DF} (fn : Fun K "__len__" "Course.__len__" (inClass (topS 29) 5) f fd) (T : Tx mg) (U : CrsG K mg C) (pure : ∀ ds q x, F ds q x → ds.length = 1 ∧ t_Course___len__ C { nx := fun _ => q .non, rt := q, ex := x } (startE 1 ds)) : FnG P w K mg base 1 f fd ["self"] (spOf K F) :=
  def_ok fn sc_Course___len__ (fun cdv A callers s H E B po => (pds_one (pd_ret (pd_blt ok_len T.len boot_len_ (pda_cons (pd_fld U.cls U.n_ways (pd_var 0)) pda_nil))))) pure
theorem sc_check_answers : FnScope ["course", "yes", "no"] ["course", "yes", "no"] (defScope (topS 43)) := ⟨rfl, rfl, rfl, by decide +kernel, rfl, by decide +kernel, by decide +kernel⟩
theorem g_check_answers {P : Program} {w : World} {K : PySem.W.Frag} {mg : Str → Option Value} {base : Heap} {f : Addr} {fd : FuncData} {C : Addr} {X_NoSet : Addr} {X_NoAnswers : Addr} {F_is_set F_Course___len__ F_mask_of F : DF} (fn : Fun K "check_answers" "check_answers" (topS 43) f fd) (T : Tx mg) (E_NoSet : ExcG K mg "NoSet" X_NoSet) (E_NoAnswers : ExcG K mg "NoAnswers" X_NoAnswers) (C_is_set : CalG P w K mg base 3 "is_set" (spOf K F_is_set) []) (M_len : MetG P w K mg base 1 C "__len__" (spOf K F_Course___len__)) (hC_Course___len__ : ∀ ds q x, F_Course___len__ ds q x → ∃ ns vs, ds = [.ins C ns vs]) (C_mask_of : CalG P w K mg base 1 "mask_of" (spOf K F_mask_of) []) (pure : ∀ ds q x, F ds q x → ds.length = 3 ∧ t_check_answers X_NoSet X_NoAnswers F_is_set F_Course___len__ F_mask_of { nx := fun _ => q .non, rt := q, ex := x } (startE 3 ds)) : FnG P w K mg base 4 f fd ["course", "yes", "no"] (spOf K F) :=
  def_ok fn sc_check_answers (fun cdv A callers s H E B po => (pds_cons (pd_ifS (PDW.pt (pdw_or (pdt_not (pdt_val (pd_call C_is_set B (by decide) (pda_cons (pd_var 1) (pda_cons (pd_olen M_len B (by decide) T.len (pd_var 0) hC_Course___len__) pda_nil))))) (pdw_or1 (pdt_not (pdt_val (pd_call C_is_set B (by decide) (pda_cons (pd_var 2) (pda_cons (pd_olen M_len B (by decide) T.len (pd_var 0) hC_Course___len__) pda_nil)))))))) (pds_one (pd_raise E_NoSet B)) pds_nil)
  (pds_one (pd_ifS (pdt_cmp (ok_ne B.u64) (pd_op ok_band (pd_call C_mask_of B (by decide) (pda_cons (pd_var 1) pda_nil)) (pd_call C_mask_of B (by decide) (pda_cons (pd_var 2) pda_nil))) pd_int (nomark _)) (pds_one (pd_raise E_NoAnswers B)) pds_nil)))) pure
theorem sc_Cases___init__ : FnScope ["self", "book", "known", "lacked"] ["self", "book", "known", "lacked"] (defScope (inClass (topS 46) 0)) := ⟨rfl, rfl, rfl, by decide +kernel, rfl, by decide +kernel, by decide +kernel⟩
theorem g_Cases___init__ {P : Program} {w : World} {K : PySem.W.Frag} {mg : Str → Option Value} {base : Heap} {f : Addr} {fd : FuncData} {CS : Addr} {F : FR} (fn : Fun K "__init__" "Cases.__init__" (inClass (topS 46) 0) f fd) (T : Tx mg) (UC : CasG K CS) (pure : ∀ ds os q x, F ds os q x → ds.length = 4 ∧ t_Cases___init__ CS { nx := fun _ os' => q .non os', rt := q, ex := x } (startE 4 ds) os) : FnG P w K mg base 1 f fd ["self", "book", "known", "lacked"] (spR K F) :=
  def_okS fn sc_Cases___init__ (fun cdv A callers s H E B po => (prs_cons (prs_fldV UC.cls UC.n_book (pd_var 1))
  (prs_cons (prs_fldV UC.cls UC.n_known (pd_var 2))
  (prs_cons (prs_fldV UC.cls UC.n_lacked (pd_var 3))
  (prs_cons (prs_fldL UC.cls UC.n_clashes)
  (prs_one (prs_fldD UC.cls UC.n_trees))))))) pure
theorem sc_lies_within : FnScope ["way", "items"] ["way", "items"] (defScope (topS 18)) := ⟨rfl, rfl, rfl, by decide +kernel, rfl, by decide +kernel, by decide +kernel⟩
theorem g_lies_within {P : Program} {w : World} {K : PySem.W.Frag} {mg : Str → Option Value} {base : Heap} {f : Addr} {fd : FuncData} {F : DF} (fn : Fun K "lies_within" "lies_within" (topS 18) f fd) (T : Tx mg)  (pure : ∀ ds q x, F ds q x → ds.length = 2 ∧ t_lies_within  { nx := fun _ => q .non, rt := q, ex := x } (startE 2 ds)) : FnG P w K mg base 1 f fd ["way", "items"] (spOf K F) :=
  def_ok fn sc_lies_within (fun cdv A callers s H E B po => (pds_one (pd_ret (pd_cmp (ok_eq B.u64) (pd_op ok_band (pd_var 0) (pd_var 1)) (pd_var 0) (nomark _))))) pure
theorem sc_Cases_smallest_clash : FnScope ["self", "right", "best", "item", "noes"] ["self", "right"] (defScope (inClass (topS 46) 3)) := ⟨rfl, rfl, rfl, by decide +kernel, rfl, by decide +kernel, by decide +kernel⟩
theorem g_Cases_smallest_clash {P : Program} {w : World} {K : PySem.W.Frag} {mg : Str → Option Value} {base : Heap} {f : Addr} {fd : FuncData} {CS : Addr} {F_lies_within F_mask_of : DF} {F : FR} (fn : Fun K "smallest_clash" "Cases.smallest_clash" (inClass (topS 46) 3) f fd) (T : Tx mg) (UC : CasG K CS) (C_lies_within : CalG P w K mg base 1 "lies_within" (spOf K F_lies_within) []) (C_mask_of : CalG P w K mg base 1 "mask_of" (spOf K F_mask_of) []) (pure : ∀ ds os q x, F ds os q x → ds.length = 2 ∧ t_Cases_smallest_clash CS F_lies_within F_mask_of { nx := fun _ os' => q .non os', rt := q, ex := x } (startE 5 ds) os) : FnG P w K mg base 2 f fd ["self", "right"] (spR K F) :=
  def_okS fn sc_Cases_smallest_clash (fun cdv A callers s H E B po => (prs_cons (prs_of (pd_set 2 pd_non B.nd))
  (prs_cons (prs_forF 1 po B.calm (pd_fld UC.cls UC.n_clashes (pd_var 0)) (pgd_names (GN.cons (i := 3) rfl (by first | exact Or.inl rfl | exact Or.inr rfl) (by first | exact Or.inl rfl | exact Or.inr rfl) (GN.cons (i := 4) rfl (by first | exact Or.inl rfl | exact Or.inr rfl) (by first | exact Or.inl rfl | exact Or.inr rfl) GN.nil rfl) rfl) B.calm B.nd) (prs_one (prs_of (pd_ifS (PDW.pt (pdw_and (pdt_val (pd_call C_lies_within B (by decide) (pda_cons (pd_op ok_bor (pd_op ok_shl pd_int (pd_var 3)) (pd_call C_mask_of B (by decide) (pda_cons (pd_var 4) pda_nil))) (pda_cons (pd_var 1) pda_nil)))) (pdw_and1 (PDW.pt (pdw_or (pdt_cmp ok_isA (pd_var 2) pd_non (nomark _)) (pdw_or1 (pdt_cmp (ok_ltA B.u65) (pd_blt ok_len T.len boot_len_ (pda_cons (pd_var 4) pda_nil)) (pd_blt ok_len T.len boot_len_ (pda_cons (pd_ix (pd_var 2) pd_int) pda_nil)) (nomark _)))))))) (pds_one (pd_set 2 (pd_tup (pda_cons (pd_var 3) (pda_cons (pd_var 4) pda_nil))) B.nd)) pds_nil))))
  (prs_one (prs_of (pd_ret (pd_var 2))))))) pure
theorem sc_items_of : FnScope ["mask", "items", "item"] ["mask"] (defScope (topS 16)) := ⟨rfl, rfl, rfl, by decide +kernel, rfl, by decide +kernel, by decide +kernel⟩
theorem g_items_of {P : Program} {w : World} {K : PySem.W.Frag} {mg : Str → Option Value} {base : Heap} {f : Addr} {fd : FuncData} {F : DF} (fn : Fun K "items_of" "items_of" (topS 16) f fd) (T : Tx mg)  (pure : ∀ ds q x, F ds q x → ds.length = 1 ∧ t_items_of  { nx := fun _ => q .non, rt := q, ex := x } (startE 3 ds)) : FnG P w K mg base 1 f fd ["mask"] (spOf K F) :=
  def_ok fn sc_items_of (fun cdv A callers s H E B po => (pds_cons (pd_setOwn 1 (pf_lst pda_nil) B.nd)
  (pds_cons (pd_for po B.calm (pdi_range1 (pd_bits (pd_var 0)) T.range) (pgd_name 2 B.nd) (pds_one (pd_ifS (pdt_cmp (ok_eq B.u64) (pd_op ok_band (pd_op ok_shr (pd_var 0) (pd_var 2)) pd_int) pd_int (nomark _)) (pds_one (pd_append 1 (pd_var 2))) pds_nil)))
  (pds_one (pd_ret (pd_bty ok_tuple T.tuple boot_tuple_ (pda_cons (pd_var 1) pda_nil))))))) pure
theorem sc_first_way : FnScope ["ways", "items", "way"] ["ways", "items"] (defScope (topS 19)) := ⟨rfl, rfl, rfl, by decide +kernel, rfl, by decide +kernel, by decide +kernel⟩
theorem g_first_way {P : Program} {w : World} {K : PySem.W.Frag} {mg : Str → Option Value} {base : Heap} {f : Addr} {fd : FuncData} {F_lies_within F : DF} (fn : Fun K "first_way" "first_way" (topS 19) f fd) (T : Tx mg) (C_lies_within : CalG P w K mg base 1 "lies_within" (spOf K F_lies_within) []) (pure : ∀ ds q x, F ds q x → ds.length = 2 ∧ t_first_way F_lies_within { nx := fun _ => q .non, rt := q, ex := x } (startE 3 ds)) : FnG P w K mg base 2 f fd ["ways", "items"] (spOf K F) :=
  def_ok fn sc_first_way (fun cdv A callers s H E B po => (pds_cons (pd_for po B.calm (pdi_seq (pd_var 0)) (pgd_name 2 B.nd) (pds_one (pd_ifS (pdt_val (pd_call C_lies_within B (by decide) (pda_cons (pd_var 2) (pda_cons (pd_var 1) pda_nil)))) (pds_one (pd_ret (pd_var 2))) pds_nil)))
  (pds_one (pd_ret pd_non)))) pure
theorem sc_has_way : FnScope ["ways", "items"] ["ways", "items"] (defScope (topS 20)) := ⟨rfl, rfl, rfl, by decide +kernel, rfl, by decide +kernel, by decide +kernel⟩
theorem g_has_way {P : Program} {w : World} {K : PySem.W.Frag} {mg : Str → Option Value} {base : Heap} {f : Addr} {fd : FuncData} {F_first_way F : DF} (fn : Fun K "has_way" "has_way" (topS 20) f fd) (T : Tx mg) (C_first_way : CalG P w K mg base 2 "first_way" (spOf K F_first_way) []) (pure : ∀ ds q x, F ds q x → ds.length = 2 ∧ t_has_way F_first_way { nx := fun _ => q .non, rt := q, ex := x } (startE 2 ds)) : FnG P w K mg base 3 f fd ["ways", "items"] (spOf K F) :=
  def_ok fn sc_has_way (fun cdv A callers s H E B po => (pds_one (pd_ret (pd_cmp ok_isNotA (pd_call C_first_way B (by decide) (pda_cons (pd_var 0) (pda_cons (pd_var 1) pda_nil))) pd_non (nomark _))))) pure
theorem sc_can_follow : FnScope ["books", "item", "done", "book"] ["books", "item", "done"] (defScope (topS 21)) := ⟨rfl, rfl, rfl, by decide +kernel, rfl, by decide +kernel, by decide +kernel⟩
theorem g_can_follow {P : Program} {w : World} {K : PySem.W.Frag} {mg : Str → Option Value} {base : Heap} {f : Addr} {fd : FuncData} {F_has_way F : DF} (fn : Fun K "can_follow" "can_follow" (topS 21) f fd) (T : Tx mg) (C_has_way : CalG P w K mg base 3 "has_way" (spOf K F_has_way) []) (pure : ∀ ds q x, F ds q x → ds.length = 3 ∧ t_can_follow F_has_way { nx := fun _ => q .non, rt := q, ex := x } (startE 4 ds)) : FnG P w K mg base 4 f fd ["books", "item", "done"] (spOf K F) :=
  def_ok fn sc_can_follow (fun cdv A callers s H E B po => (pds_cons (pd_for po B.calm (pdi_seq (pd_var 0)) (pgd_name 3 B.nd) (pds_one (pd_ifS (pdt_not (pdt_val (pd_call C_has_way B (by decide) (pda_cons (pd_ix (pd_var 3) (pd_var 1)) (pda_cons (pd_var 2) pda_nil))))) (pds_one (pd_ret pd_bl)) pds_nil)))
  (pds_one (pd_ret pd_bl)))) pure
theorem sc_greatest_in : FnScope ["books", "allowed", "items", "done", "before", "item"] ["books", "allowed"] (defScope (topS 22)) := ⟨rfl, rfl, rfl, by decide +kernel, rfl, by decide +kernel, by decide +kernel⟩
theorem g_greatest_in {P : Program} {w : World} {K : PySem.W.Frag} {mg : Str → Option Value} {base : Heap} {f : Addr} {fd : FuncData} {F_items_of F_can_follow F : DF} (fn : Fun K "greatest_in" "greatest_in" (topS 22) f fd) (T : Tx mg) (C_items_of : CalG P w K mg base 1 "items_of" (spOf K F_items_of) []) (C_can_follow : CalG P w K mg base 4 "can_follow" (spOf K F_can_follow) []) (pure : ∀ ds q x, F ds q x → ds.length = 2 ∧ t_greatest_in F_items_of F_can_follow { nx := fun _ => q .non, rt := q, ex := x } (startE 6 ds)) : FnG P w K mg base 5 f fd ["books", "allowed"] (spOf K F) :=
  def_ok fn sc_greatest_in (fun cdv A callers s H E B po => (pds_cons (pd_set 2 (pd_call C_items_of B (by decide) (pda_cons (pd_var 1) pda_nil)) B.nd)
  (pds_cons (pd_set 3 pd_int B.nd)
  (pds_cons (pd_set 4 pd_non B.nd)
  (pds_cons (pd_while po (pdt_cmp (ok_ne B.u64) (pd_var 3) (pd_var 4) (nomark _)) (pds_cons (pd_set 4 (pd_var 3) B.nd)
  (pds_one (pd_for po B.calm (pdi_seq (pd_var 2)) (pgd_name 5 B.nd) (pds_one (pd_ifS (PDW.pt (pdw_and (pdt_cmp (ok_eq B.u64) (pd_op ok_band (pd_op ok_shr (pd_var 3) (pd_var 5)) pd_int) pd_int (nomark _)) (pdw_and1 (pdt_val (pd_call C_can_follow B (by decide) (pda_cons (pd_var 0) (pda_cons (pd_var 5) (pda_cons (pd_var 3) pda_nil)))))))) (pds_one (pd_set 3 (pd_op ok_bor (pd_var 3) (pd_op ok_shl pd_int (pd_var 5))) B.nd)) pds_nil))))))
  (pds_one (pd_ret (pd_var 3)))))))) pure
theorem sc_all_items : FnScope ["count"] ["count"] (defScope (topS 17)) := ⟨rfl, rfl, rfl, by decide +kernel, rfl, by decide +kernel, by decide +kernel⟩
theorem g_all_items {P : Program} {w : World} {K : PySem.W.Frag} {mg : Str → Option Value} {base : Heap} {f : Addr} {fd : FuncData} {F : DF} (fn : Fun K "all_items" "all_items" (topS 17) f fd) (T : Tx mg)  (pure : ∀ ds q x, F ds q x → ds.length = 1 ∧ t_all_items  { nx := fun _ => q .non, rt := q, ex := x } (startE 1 ds)) : FnG P w K mg base 1 f fd ["count"] (spOf K F) :=
  def_ok fn sc_all_items (fun cdv A callers s H E B po => (pds_one (pd_ret (pd_op ok_sub (pd_op ok_shl pd_int (pd_var 0)) pd_int)))) pure
theorem sc_shuts_out : FnScope ["book", "gate", "item"] ["book", "gate", "item"] (defScope (topS 41)) := ⟨rfl, rfl, rfl, by decide +kernel, rfl, by decide +kernel, by decide +kernel⟩
theorem g_shuts_out {P : Program} {w : World} {K : PySem.W.Frag} {mg : Str → Option Value} {base : Heap} {f : Addr} {fd : FuncData} {F_greatest_in F_all_items F : DF} (fn : Fun K "shuts_out" "shuts_out" (topS 41) f fd) (T : Tx mg) (C_greatest_in : CalG P w K mg base 5 "greatest_in" (spOf K F_greatest_in) []) (C_all_items : CalG P w K mg base 1 "all_items" (spOf K F_all_items) []) (pure : ∀ ds q x, F ds q x → ds.length = 3 ∧ t_shuts_out F_greatest_in F_all_items { nx := fun _ => q .non, rt := q, ex := x } (startE 3 ds)) : FnG P w K mg base 6 f fd ["book", "gate", "item"] (spOf K F) :=
  def_ok fn sc_shuts_out (fun cdv A callers s H E B po => (pds_one (pd_ret (pd_cmp (ok_eq B.u64) (pd_op ok_band (pd_op ok_shr (pd_call C_greatest_in B (by decide) (pda_cons (pd_tup (pda_cons (pd_var 0) pda_nil)) (pda_cons (pd_op ok_bxor (pd_call C_all_items B (by decide) (pda_cons (pd_blt ok_len T.len boot_len_ (pda_cons (pd_var 0) pda_nil)) pda_nil)) (pd_var 1)) pda_nil))) (pd_var 2)) pd_int) pd_int (nomark _))))) pure
theorem sc_needed_noes : FnScope ["book", "item", "no", "kept", "each"] ["book", "item", "no"] (defScope (topS 44)) := ⟨rfl, rfl, rfl, by decide +kernel, rfl, by decide +kernel, by decide +kernel⟩
theorem g_needed_noes {P : Program} {w : World} {K : PySem.W.Frag} {mg : Str → Option Value} {base : Heap} {f : Addr} {fd : FuncData} {F_mask_of F_shuts_out F_items_of F : DF} (fn : Fun K "needed_noes" "needed_noes" (topS 44) f fd) (T : Tx mg) (C_mask_of : CalG P w K mg base 1 "mask_of" (spOf K F_mask_of) []) (C_shuts_out : CalG P w K mg base 6 "shuts_out" (spOf K F_shuts_out) []) (C_items_of : CalG P w K mg base 1 "items_of" (spOf K F_items_of) []) (pure : ∀ ds q x, F ds q x → ds.length = 3 ∧ t_needed_noes F_mask_of F_shuts_out F_items_of { nx := fun _ => q .non, rt := q, ex := x } (startE 5 ds)) : FnG P w K mg base 7 f fd ["book", "item", "no"] (spOf K F) :=
  def_ok fn sc_needed_noes (fun cdv A callers s H E B po => (pds_cons (pd_set 3 (pd_call C_mask_of B (by decide) (pda_cons (pd_var 2) pda_nil)) B.nd)
  (pds_cons (pd_for po B.calm (pdi_seq (pd_var 2)) (pgd_name 4 B.nd) (pds_one (pd_ifS (pdt_val (pd_call C_shuts_out B (by decide) (pda_cons (pd_var 0) (pda_cons (pd_op ok_bxor (pd_var 3) (pd_op ok_shl pd_int (pd_var 4))) (pda_cons (pd_var 1) pda_nil))))) (pds_one (pd_set 3 (pd_op ok_bxor (pd_var 3) (pd_op ok_shl pd_int (pd_var 4))) B.nd)) pds_nil)))
  (pds_one (pd_ret (pd_call C_items_of B (by decide) (pda_cons (pd_var 3) pda_nil))))))) pure
theorem sc_Cases_greatest : FnScope ["self", "right"] ["self", "right"] (defScope (inClass (topS 46) 1)) := ⟨rfl, rfl, rfl, by decide +kernel, rfl, by decide +kernel, by decide +kernel⟩
theorem g_Cases_greatest {P : Program} {w : World} {K : PySem.W.Frag} {mg : Str → Option Value} {base : Heap} {f : Addr} {fd : FuncData} {CS : Addr} {F_greatest_in F_all_items F : DF} (fn : Fun K "greatest" "Cases.greatest" (inClass (topS 46) 1) f fd) (T : Tx mg) (UC : CasG K CS) (C_greatest_in : CalG P w K mg base 5 "greatest_in" (spOf K F_greatest_in) []) (C_all_items : CalG P w K mg base 1 "all_items" (spOf K F_all_items) []) (pure : ∀ ds q x, F ds q x → ds.length = 2 ∧ t_Cases_greatest CS F_greatest_in F_all_items { nx := fun _ => q .non, rt := q, ex := x } (startE 2 ds)) : FnG P w K mg base 6 f fd ["self", "right"] (spOf K F) :=
  def_ok fn sc_Cases_greatest (fun cdv A callers s H E B po => (pds_one (pd_ret (pd_call C_greatest_in B (by decide) (pda_cons (pd_tup (pda_cons (pd_fld UC.cls UC.n_book (pd_var 0)) pda_nil)) (pda_cons (pd_op ok_bxor (pd_call C_all_items B (by decide) (pda_cons (pd_blt ok_len T.len boot_len_ (pda_cons (pd_fld UC.cls UC.n_book (pd_var 0)) pda_nil)) pda_nil)) (pd_op ok_band (pd_fld UC.cls UC.n_lacked (pd_var 0)) (pd_var 1))) pda_nil)))))) pure
theorem sc_Cases_learn_clashes : FnScope ["self", "right", "wanted", "item"] ["self", "right"] (defScope (inClass (topS 46) 4)) := ⟨rfl, rfl, rfl, by decide +kernel, rfl, by decide +kernel, by decide +kernel⟩
theorem g_Cases_learn_clashes {P : Program} {w : World} {K : PySem.W.Frag} {mg : Str → Option Value} {base : Heap} {f : Addr} {fd : FuncData} {CS : Addr} {F_items_of F_Cases_greatest F_needed_noes : DF} {F : FR} (fn : Fun K "learn_clashes" "Cases.learn_clashes" (inClass (topS 46) 4) f fd) (T : Tx mg) (UC : CasG K CS) (C_items_of : CalG P w K mg base 1 "items_of" (spOf K F_items_of) []) (M_Cases_greatest : MetG P w K mg base 6 CS "greatest" (spOf K F_Cases_greatest)) (C_needed_noes : CalG P w K mg base 7 "needed_noes" (spOf K F_needed_noes) []) (pure : ∀ ds os q x, F ds os q x → ds.length = 2 ∧ t_Cases_learn_clashes CS F_items_of F_Cases_greatest F_needed_noes { nx := fun _ os' => q .non os', rt := q, ex := x } (startE 4 ds) os) : FnG P w K mg base 8 f fd ["self", "right"] (spR K F) :=
  def_okS fn sc_Cases_learn_clashes (fun cdv A callers s H E B po => (prs_cons (prs_of (pd_set 2 (pd_op ok_band (pd_fld UC.cls UC.n_known (pd_var 0)) (pd_var 1)) B.nd))
  (prs_one (prs_for po B.calm (pdi_seq (pd_call C_items_of B (by decide) (pda_cons (pd_op ok_bxor (pd_var 2) (pd_op ok_band (pd_var 2) (pd_methR M_Cases_greatest B (by decide) (pd_var 0) (pda_cons (pd_var 1) pda_nil)))) pda_nil))) (pgd_name 3 B.nd) (prs_one (prs_appF (pd_fld UC.cls UC.n_clashes (pd_var 0)) (pd_tup (pda_cons (pd_var 3) (pda_cons (pd_call C_needed_noes B (by decide) (pda_cons (pd_fld UC.cls UC.n_book (pd_var 0)) (pda_cons (pd_var 3) (pda_cons (pd_call C_items_of B (by decide) (pda_cons (pd_op ok_band (pd_fld UC.cls UC.n_lacked (pd_var 0)) (pd_var 1)) pda_nil)) pda_nil)))) pda_nil))))))))) pure
theorem sc_Cases_clash_within : FnScope ["self", "right", "clash"] ["self", "right"] (defScope (inClass (topS 46) 2)) := ⟨rfl, rfl, rfl, by decide +kernel, rfl, by decide +kernel, by decide +kernel⟩
theorem g_Cases_clash_within {P : Program} {w : World} {K : PySem.W.Frag} {mg : Str → Option Value} {base : Heap} {f : Addr} {fd : FuncData} {CS : Addr} {F_Cases_smallest_clash : FR} {F_Cases_learn_clashes : FR} {F : FR} (fn : Fun K "clash_within" "Cases.clash_within" (inClass (topS 46) 2) f fd) (T : Tx mg) (UC : CasG K CS) (M_Cases_smallest_clash : MetG P w K mg base 2 CS "smallest_clash" (spR K F_Cases_smallest_clash)) (M_Cases_learn_clashes : MetG P w K mg base 8 CS "learn_clashes" (spR K F_Cases_learn_clashes)) (pure : ∀ ds os q x, F ds os q x → ds.length = 2 ∧ t_Cases_clash_within CS F_Cases_smallest_clash F_Cases_learn_clashes { nx := fun _ os' => q .non os', rt := q, ex := x } (startE 3 ds) os) : FnG P w K mg base 10 f fd ["self", "right"] (spR K F) :=
  def_okS fn sc_Cases_clash_within (fun cdv A callers s H E B po => (prs_cons (prs_setE 2 (pre_meth M_Cases_smallest_clash B (by decide) (pd_var 0) (pda_cons (pd_var 1) pda_nil)) B.nd)
  (prs_cons (prs_ifS (pdt_cmp ok_isA (pd_var 2) pd_non (nomark _)) (prs_cons (prs_exprE (pre_meth M_Cases_learn_clashes B (by decide) (pd_var 0) (pda_cons (pd_var 1) pda_nil)))
  (prs_one (prs_setE 2 (pre_meth M_Cases_smallest_clash B (by decide) (pd_var 0) (pda_cons (pd_var 1) pda_nil)) B.nd))) prs_nil)
  (prs_one (prs_of (pd_ret (pd_var 2))))))) pure
theorem sc_Cases_state_with : FnScope ["self", "right", "fixed", "k", "clash", "item", "state"] ["self", "right", "fixed", "k"] (defScope (inClass (topS 46) 5)) := ⟨rfl, rfl, rfl, by decide +kernel, rfl, by decide +kernel, by decide +kernel⟩
theorem g_Cases_state_with {P : Program} {w : World} {K : PySem.W.Frag} {mg : Str → Option Value} {base : Heap} {f : Addr} {fd : FuncData} {n : Nat} {CS : Addr} {F_Cases_clash_within : FR} {F_Cases_state_with : FR} {F_Cases_greatest : DF} {F : FR} (fn : Fun K "state_with" "Cases.state_with" (inClass (topS 46) 5) f fd) (T : Tx mg) (UC : CasG K CS) (M_Cases_clash_within : MetG P w K mg base 10 CS "clash_within" (spR K F_Cases_clash_within)) (M_Cases_greatest : MetG P w K mg base 6 CS "greatest" (spOf K F_Cases_greatest)) (M_Cases_state_with : MetG P w K mg base (11 + n) CS "state_with" (spR K F_Cases_state_with)) (pure : ∀ ds os q x, F ds os q x → ds.length = 4 ∧ t_Cases_state_with CS F_Cases_clash_within F_Cases_greatest F_Cases_state_with { nx := fun _ os' => q .non os', rt := q, ex := x } (startE 7 ds) os) : FnG P w K mg base (11 + n + 1) f fd ["self", "right", "fixed", "k"] (spR K F) :=
  def_okS fn sc_Cases_state_with (fun cdv A callers s H E B po => (prs_cons (prs_setE 4 (pre_meth M_Cases_clash_within B (by first | decide | omega) (pd_var 0) (pda_cons (pd_var 1) pda_nil)) B.nd)
  (prs_cons (prs_of (pd_ifS (pdt_cmp ok_isA (pd_var 4) pd_non (nomark _)) (pds_one (pd_ret (pd_methR M_Cases_greatest B (by first | decide | omega) (pd_var 0) (pda_cons (pd_var 1) pda_nil)))) pds_nil))
  (prs_cons (prs_of (pd_ifS (pdt_cmp (ok_eq B.u64) (pd_var 3) pd_int (nomark _)) (pds_one (pd_ret pd_non)) pds_nil))
  (prs_cons (prs_for po B.calm (pdi_seq (pd_tup (pda_cons (pd_ix (pd_var 4) pd_int) (pda_starT (pd_ix (pd_var 4) pd_int) pda_nil)))) (pgd_name 5 B.nd) (prs_one (prs_ifS (pdt_cmp (ok_eq B.u64) (pd_op ok_band (pd_op ok_shr (pd_var 2) (pd_var 5)) pd_int) pd_int (nomark _)) (prs_cons (prs_setE 6 (pre_meth M_Cases_state_with B (by first | decide | omega) (pd_var 0) (pda_cons (pd_op ok_bxor (pd_var 1) (pd_op ok_shl pd_int (pd_var 5))) (pda_cons (pd_var 2) (pda_cons (pd_op ok_sub (pd_var 3) pd_int) pda_nil)))) B.nd)
  (prs_cons (prs_of (pd_ifS (pdt_cmp ok_isNotA (pd_var 6) pd_non (nomark _)) (pds_one (pd_ret (pd_var 6))) pds_nil))
  (prs_one (prs_of (pd_set 2 (pd_op ok_bor (pd_var 2) (pd_op ok_shl pd_int (pd_var 5))) B.nd))))) prs_nil)))
  (prs_one (prs_of (pd_ret pd_non)))))))) pure
theorem sc_Cases_tree : FnScope ["self", "right", "k", "item", "noes", "parts", "wrong"] ["self", "right", "k"] (defScope (inClass (topS 46) 6)) := ⟨rfl, rfl, rfl, by decide +kernel, rfl, by decide +kernel, by decide +kernel⟩
theorem g_Cases_tree {P : Program} {w : World} {K : PySem.W.Frag} {mg : Str → Option Value} {base : Heap} {f : Addr} {fd : FuncData} {n : Nat} {CS : Addr} {F_Cases_clash_within : FR} {F_Cases_tree : FR} {F_items_of F_Cases_greatest : DF} {F : FR} (fn : Fun K "tree" "Cases.tree" (inClass (topS 46) 6) f fd) (T : Tx mg) (UC : CasG K CS) (M_Cases_clash_within : MetG P w K mg base 10 CS "clash_within" (spR K F_Cases_clash_within)) (C_items_of : CalG P w K mg base 1 "items_of" (spOf K F_items_of) []) (M_Cases_greatest : MetG P w K mg base 6 CS "greatest" (spOf K F_Cases_greatest)) (M_Cases_tree : MetG P w K mg base (11 + n) CS "tree" (spR K F_Cases_tree)) (pure : ∀ ds os q x, F ds os q x → ds.length = 3 ∧ t_Cases_tree CS F_Cases_clash_within F_items_of F_Cases_greatest F_Cases_tree { nx := fun _ os' => q .non os', rt := q, ex := x } (startE 7 ds) os) : FnG P w K mg base (11 + n + 1) f fd ["self", "right", "k"] (spR K F) :=
  def_okS fn sc_Cases_tree (fun cdv A callers s H E B po => (prs_cons (prs_ifNin B (pd_var 1) (pd_fld UC.cls UC.n_trees (pd_var 0)) (prs_cons (prs_unpE (pre_meth M_Cases_clash_within B (by first | decide | omega) (pd_var 0) (pda_cons (pd_var 1) pda_nil)) (GN.cons (i := 3) rfl (by first | exact Or.inl rfl | exact Or.inr rfl) (by first | exact Or.inl rfl | exact Or.inr rfl) (GN.cons (i := 4) rfl (by first | exact Or.inl rfl | exact Or.inr rfl) (by first | exact Or.inl rfl | exact Or.inr rfl) GN.nil rfl) rfl) B.calm B.nd)
  (prs_one (prs_ifS (pdt_cmp (ok_eq B.u64) (pd_var 2) pd_int (nomark _)) (prs_one (prs_putF B (pd_tup (pda_cons pd_str (pda_cons (pd_var 3) (pda_cons (pd_call C_items_of B (by first | decide | omega) (pda_cons (pd_methR M_Cases_greatest B (by first | decide | omega) (pd_var 0) (pda_cons (pd_var 1) pda_nil)) pda_nil)) pda_nil)))) (pd_fld UC.cls UC.n_trees (pd_var 0)) (pd_var 1))) (prs_cons (prs_setLc (own := [("wrong", 6)]) (is := [6]) (dg := (gN 6)) 5 B.calm B.nd (pdi_seq (pd_tup (pda_cons (pd_var 3) (pda_starT (pd_var 4) pda_nil)))) (blkOk_by (N := ["self", "right", "k", "item", "noes", "parts", "wrong"]) (sc := defScope (inClass (topS 46) 6)) (by decide +kernel)) (comp_name 6 B.nd (fun s H C cl fp => rfl) (fun s H C cl fp => by first | exact Or.inl rfl | exact Or.inr rfl) (fun s H C cl fp => by first | exact Or.inl rfl | exact Or.inr rfl)) (fun s H C cl fp => BC.pre B fun Bk => (pre_meth M_Cases_tree Bk (by first | decide | omega) (pd_var 0) (pda_cons (pd_op ok_bxor (pd_var 1) (pd_op ok_shl pd_int (pd_var 6))) (pda_cons (pd_op ok_sub (pd_var 2) pd_int) pda_nil)))))
  (prs_one (prs_putF B (pd_tup (pda_cons pd_str (pda_cons (pd_var 3) (pda_cons (pd_var 4) (pda_cons (pd_bty ok_tuple T.tuple boot_tuple_ (pda_cons (pd_var 5) pda_nil)) pda_nil))))) (pd_fld UC.cls UC.n_trees (pd_var 0)) (pd_var 1))))))) prs_nil)
  (prs_one (prs_retE (pre_getF B (pd_fld UC.cls UC.n_trees (pd_var 0)) (pd_var 1)))))) pure
theorem sc_fewest_wrong : FnScope ["course", "yes", "no", "cases", "right", "number", "state"] ["course", "yes", "no"] (defScope (topS 47)) := ⟨rfl, rfl, rfl, by decide +kernel, rfl, by decide +kernel, by decide +kernel⟩
theorem g_fewest_wrong {P : Program} {w : World} {K : PySem.W.Frag} {mg : Str → Option Value} {base : Heap} {f : Addr} {fd : FuncData} {C : Addr} {CS : Addr} {F_Cases___init__ : FR} {F_Cases_state_with : FR} {F_Cases_tree : FR} {F_check_answers F_mask_of F_items_of F : DF} (fn : Fun K "fewest_wrong" "fewest_wrong" (topS 47) f fd) (T : Tx mg) (U : CrsG K mg C) (UC : CasG K CS) (C_check_answers : CalG P w K mg base 4 "check_answers" (spOf K F_check_answers) []) (M_Cases___init__ : MakR P w K mg base 1 "Cases" CS F_Cases___init__) (C_mask_of : CalG P w K mg base 1 "mask_of" (spOf K F_mask_of) []) (M_Cases_state_with : MetG P w K mg base 37 CS "state_with" (spR K F_Cases_state_with)) (C_items_of : CalG P w K mg base 1 "items_of" (spOf K F_items_of) []) (M_Cases_tree : MetG P w K mg base 37 CS "tree" (spR K F_Cases_tree)) (pure : ∀ ds q x, F ds q x → ds.length = 3 ∧ t_fewest_wrong C CS F_check_answers F_Cases___init__ F_mask_of F_Cases_state_with F_items_of F_Cases_tree { nx := fun _ _ => q .non, rt := fun d _ => q d, ex := fun _ => x } (startE 7 ds) []) : FnG P w K mg base 39 f fd ["course", "yes", "no"] (spOf K F) :=
  def_okR fn sc_fewest_wrong (fun cdv A callers s H E B po => (prs_cons (prs_of (pd_expr (pd_call C_check_answers B (by decide) (pda_cons (pd_var 0) (pda_cons (pd_var 1) (pda_cons (pd_var 2) pda_nil))))))
  (prs_cons (prs_make 3 M_Cases___init__ B (by decide) (pda_cons (pd_fld U.cls U.n_book (pd_var 0)) (pda_cons (pd_call C_mask_of B (by decide) (pda_cons (pd_var 1) pda_nil)) (pda_cons (pd_call C_mask_of B (by decide) (pda_cons (pd_var 2) pda_nil)) pda_nil))) B.nd)
  (prs_cons (prs_of (pd_set 4 (pd_op ok_bor (pd_call C_mask_of B (by decide) (pda_cons (pd_var 1) pda_nil)) (pd_call C_mask_of B (by decide) (pda_cons (pd_var 2) pda_nil))) B.nd))
  (prs_cons (prs_of (pd_set 5 pd_int B.nd))
  (prs_cons (prs_setE 6 (pre_meth M_Cases_state_with B (by decide) (pd_var 3) (pda_cons (pd_var 4) (pda_cons pd_int (pda_cons pd_int pda_nil)))) B.nd)
  (prs_cons (prs_while po (pdt_cmp ok_isA (pd_var 6) pd_non (nomark _)) (prs_cons (prs_of (pd_set 5 (pd_op ok_addA (pd_var 5) pd_int) B.nd))
  (prs_one (prs_setE 6 (pre_meth M_Cases_state_with B (by decide) (pd_var 3) (pda_cons (pd_var 4) (pda_cons pd_int (pda_cons (pd_var 5) pda_nil)))) B.nd))))
  (prs_cons (prs_of (pd_ifS (pdt_cmp (ok_eq B.u64) (pd_var 5) pd_int (nomark _)) (pds_one (pd_ret (pd_tup (pda_cons pd_int (pda_cons (pd_call C_items_of B (by decide) (pda_cons (pd_var 6) pda_nil)) (pda_cons pd_non pda_nil)))))) pds_nil))
  (prs_one (prs_ret3 (pd_var 5) (pd_call C_items_of B (by decide) (pda_cons (pd_var 6) pda_nil)) (pre_meth M_Cases_tree B (by decide) (pd_var 3) (pda_cons (pd_var 4) (pda_cons (pd_op ok_sub (pd_var 5) pd_int) pda_nil))))))))))))) pure
theorem sc_greatest : FnScope ["course", "avoided", "allowed"] ["course", "avoided"] (defScope (topS 39)) := ⟨rfl, rfl, rfl, by decide +kernel, rfl, by decide +kernel, by decide +kernel⟩
theorem g_greatest {P : Program} {w : World} {K : PySem.W.Frag} {mg : Str → Option Value} {base : Heap} {f : Addr} {fd : FuncData} {C : Addr} {X_NoSet : Addr} {F_is_set F_Course___len__ F_all_items F_mask_of F_items_of F_greatest_in F : DF} {dvs : List V} {kws : List (Str × V)} (fn : FunD K "greatest" "greatest" (defArgs (topS 39)) (defBody (topS 39)) (defScope (topS 39)) dvs kws f fd) (T : Tx mg) (U : CrsG K mg C) (E_NoSet : ExcG K mg "NoSet" X_NoSet) (C_is_set : CalG P w K mg base 3 "is_set" (spOf K F_is_set) []) (M_len : MetG P w K mg base 1 C "__len__" (spOf K F_Course___len__)) (hC_Course___len__ : ∀ ds q x, F_Course___len__ ds q x → ∃ ns vs, ds = [.ins C ns vs]) (C_all_items : CalG P w K mg base 1 "all_items" (spOf K F_all_items) []) (C_mask_of : CalG P w K mg base 1 "mask_of" (spOf K F_mask_of) []) (C_items_of : CalG P w K mg base 1 "items_of" (spOf K F_items_of) []) (C_greatest_in : CalG P w K mg base 5 "greatest_in" (spOf K F_greatest_in) []) (pure : ∀ ds q x, F ds q x → ds.length = 2 ∧ t_greatest C X_NoSet F_is_set F_Course___len__ F_all_items F_mask_of F_items_of F_greatest_in { nx := fun _ => q .non, rt := q, ex := x } (startE 3 ds)) : FnG P w K mg base 6 f fd ["course", "avoided"] (spOf K F) :=
  def_okD fn sc_greatest (fun cdv A callers s H E B po => (pds_cons (pd_ifS (pdt_not (pdt_val (pd_call C_is_set B (by decide) (pda_cons (pd_var 1) (pda_cons (pd_olen M_len B (by decide) T.len (pd_var 0) hC_Course___len__) pda_nil))))) (pds_one (pd_raise E_NoSet B)) pds_nil)
  (pds_cons (pd_set 2 (pd_op ok_bxor (pd_call C_all_items B (by decide) (pda_cons (pd_olen M_len B (by decide) T.len (pd_var 0) hC_Course___len__) pda_nil)) (pd_call C_mask_of B (by decide) (pda_cons (pd_var 1) pda_nil))) B.nd)
  (pds_one (pd_ret (pd_call C_items_of B (by decide) (pda_cons (pd_call C_greatest_in B (by decide) (pda_cons (pd_tup (pda_cons (pd_fld U.cls U.n_book (pd_var 0)) pda_nil)) (pda_cons (pd_var 2) pda_nil))) pda_nil))))))) pure
theorem sc__law_cell_at : FnScope ["_law_script", "_law_k"] ["_law_script", "_law_k"] (defScope (topS 49)) := ⟨rfl, rfl, rfl, by decide +kernel, rfl, by decide +kernel, by decide +kernel⟩
theorem g__law_cell_at {P : Program} {w : World} {K : PySem.W.Frag} {mg : Str → Option Value} {base : Heap} {f : Addr} {fd : FuncData} {F : DF} (fn : Fun K "_law_cell_at" "_law_cell_at" (topS 49) f fd) (T : Tx mg)  (pure : ∀ ds q x, F ds q x → ds.length = 2 ∧ t__law_cell_at  { nx := fun _ => q .non, rt := q, ex := x } (startE 2 ds)) : FnG P w K mg base 1 f fd ["_law_script", "_law_k"] (spOf K F) :=
  def_ok fn sc__law_cell_at (fun cdv A callers s H E B po => (pds_cons (pd_ifS (pdt_cmp (ok_ltA B.u65) (pd_var 1) (pd_blt ok_len T.len boot_len_ (pda_cons (pd_var 0) pda_nil)) (nomark _)) (pds_one (pd_ret (pd_ix (pd_var 0) (pd_var 1)))) pds_nil)
  (pds_one (pd_ret pd_int)))) pure
theorem sc_is_entry : FnScope ["value", "item", "count", "way"] ["value", "item", "count"] (defScope (topS 5)) := ⟨rfl, rfl, rfl, by decide +kernel, rfl, by decide +kernel, by decide +kernel⟩
theorem g_is_entry {P : Program} {w : World} {K : PySem.W.Frag} {mg : Str → Option Value} {base : Heap} {f : Addr} {fd : FuncData} {F_is_set F : DF} (fn : Fun K "is_entry" "is_entry" (topS 5) f fd) (T : Tx mg) (C_is_set : CalG P w K mg base 3 "is_set" (spOf K F_is_set) []) (pure : ∀ ds q x, F ds q x → ds.length = 3 ∧ t_is_entry F_is_set { nx := fun _ => q .non, rt := q, ex := x } (startE 4 ds)) : FnG P w K mg base 4 f fd ["value", "item", "count"] (spOf K F) :=
  def_ok fn sc_is_entry (fun cdv A callers s H E B po => (pds_cons (pd_ifS (pdt_not (pdt_val (pd_isi T.isinstance T.tuple boot_tuple_ (pd_var 0)))) (pds_one (pd_ret pd_bl)) pds_nil)
  (pds_cons (pd_for po B.calm (pdi_seq (pd_var 0)) (pgd_name 3 B.nd) (pds_one (pd_ifS (PDW.pt (pdw_or (pdt_not (pdt_val (pd_call C_is_set B (by decide) (pda_cons (pd_var 3) (pda_cons (pd_var 2) pda_nil))))) (pdw_or1 (pdt_cmp (ok_in B.u65) (pd_var 1) (pd_var 3) (by with_unfolding_all rfl))))) (pds_one (pd_ret pd_bl)) pds_nil)))
  (pds_one (pd_ret pd_bl))))) pure
theorem sc_is_ways : FnScope ["value", "most", "item", "entry"] ["value", "most"] (defScope (topS 6)) := ⟨rfl, rfl, rfl, by decide +kernel, rfl, by decide +kernel, by decide +kernel⟩
theorem g_is_ways {P : Program} {w : World} {K : PySem.W.Frag} {mg : Str → Option Value} {base : Heap} {f : Addr} {fd : FuncData} {F_is_entry F : DF} (fn : Fun K "is_ways" "is_ways" (topS 6) f fd) (T : Tx mg) (C_is_entry : CalG P w K mg base 4 "is_entry" (spOf K F_is_entry) []) (pure : ∀ ds q x, F ds q x → ds.length = 2 ∧ t_is_ways F_is_entry { nx := fun _ => q .non, rt := q, ex := x } (startE 4 ds)) : FnG P w K mg base 5 f fd ["value", "most"] (spOf K F) :=
  def_ok fn sc_is_ways (fun cdv A callers s H E B po => (pds_cons (pd_ifS (PDW.pt (pdw_or (pdt_not (pdt_val (pd_isi T.isinstance T.tuple boot_tuple_ (pd_var 0)))) (pdw_or1 (pdt_not (pdt_chain ok_le ok_le pd_int (pd_blt ok_len T.len boot_len_ (pda_cons (pd_var 0) pda_nil)) (pd_var 1)))))) (pds_one (pd_ret pd_bl)) pds_nil)
  (pds_cons (pd_for po B.calm (pdi_enum (pd_var 0) T.enumerate) (pgd_names (GN.cons (i := 2) rfl (by first | exact Or.inl rfl | exact Or.inr rfl) (by first | exact Or.inl rfl | exact Or.inr rfl) (GN.cons (i := 3) rfl (by first | exact Or.inl rfl | exact Or.inr rfl) (by first | exact Or.inl rfl | exact Or.inr rfl) GN.nil rfl) rfl) B.calm B.nd) (pds_one (pd_ifS (pdt_not (pdt_val (pd_call C_is_entry B (by decide) (pda_cons (pd_var 3) (pda_cons (pd_var 2) (pda_cons (pd_blt ok_len T.len boot_len_ (pda_cons (pd_var 0) pda_nil)) pda_nil)))))) (pds_one (pd_ret pd_bl)) pds_nil)))
  (pds_one (pd_ret pd_bl))))) pure
theorem sc_rank_of : FnScope ["way", "rank", "item"] ["way"] (defScope (topS 32)) := ⟨rfl, rfl, rfl, by decide +kernel, rfl, by decide +kernel, by decide +kernel⟩
theorem g_rank_of {P : Program} {w : World} {K : PySem.W.Frag} {mg : Str → Option Value} {base : Heap} {f : Addr} {fd : FuncData} {C : Addr} {F : DF} (fn : Fun K "rank_of" "rank_of" (topS 32) f fd) (T : Tx mg) (U : CrsG K mg C) (pure : ∀ ds q x, F ds q x → ds.length = 1 ∧ t_rank_of C { nx := fun _ => q .non, rt := q, ex := x } (startE 3 ds)) : FnG P w K mg base 1 f fd ["way"] (spOf K F) :=
  def_ok fn sc_rank_of (fun cdv A callers s H E B po => (pds_cons (pd_set 1 (pd_blt ok_len T.len boot_len_ (pda_cons (pd_var 0) pda_nil)) B.nd)
  (pds_cons (pd_for po B.calm (pdi_seq (pd_var 0)) (pgd_name 2 B.nd) (pds_one (pd_set 1 (pd_op ok_addA (pd_op ok_mulA (pd_var 1) (pd_con U.most)) (pd_var 2)) B.nd)))
  (pds_one (pd_ret (pd_var 1)))))) pure
theorem sc_in_order : FnScope ["ways", "ranked", "way", "rank"] ["ways"] (defScope (topS 33)) := ⟨rfl, rfl, rfl, by decide +kernel, rfl, by decide +kernel, by decide +kernel⟩
theorem g_in_order {P : Program} {w : World} {K : PySem.W.Frag} {mg : Str → Option Value} {base : Heap} {f : Addr} {fd : FuncData} {F_rank_of F : DF} (fn : Fun K "in_order" "in_order" (topS 33) f fd) (T : Tx mg) (C_rank_of : CalG P w K mg base 1 "rank_of" (spOf K F_rank_of) []) (pure : ∀ ds q x, F ds q x → ds.length = 1 ∧ t_in_order F_rank_of { nx := fun _ => q .non, rt := q, ex := x } (startE 4 ds)) : FnG P w K mg base 2 f fd ["ways"] (spOf K F) :=
  def_ok fn sc_in_order (fun cdv A callers s H E B po => (pds_cons (pd_set 1 (pd_dc (own := [("way", 2)]) (is := [2]) (dg := gN 2) B.calm B.nd (pdi_seq (pd_var 0)) (blkOk_by (N := ["ways", "ranked", "way", "rank"]) (sc := defScope (topS 33)) (by decide +kernel)) (comp_name 2 B.nd (fun s H C cl fp => rfl) (fun s H C cl fp => by first | exact Or.inl rfl | exact Or.inr rfl) (fun s H C cl fp => by first | exact Or.inl rfl | exact Or.inr rfl)) (fun s H C cl fp => BC.pd B fun Bk => (pd_call C_rank_of Bk (by decide) (pda_cons (pd_var 2) pda_nil))) (fun s H C cl fp => BC.pd B fun Bk => (pd_var 2))) B.nd)
  (pds_one (pd_ret (pd_ofF (pf_lc (own := [("rank", 3)]) (is := [3]) (dg := (gN 3)) B.calm B.nd (pdi_seq (pd_blt ok_sorted T.sorted boot_sorted_ (pda_cons (pd_locked 1 (pd_ofF (pf_lc (own := [("rank", 3)]) (is := [3]) (dg := (gN 3)) B.calm B.nd (pdi_keys (pd_var 1)) (blkOk_by (N := ["ways", "ranked", "way", "rank"]) (sc := defScope (topS 33)) (by decide +kernel)) (comp_name 3 B.nd (fun s H C cl fp => rfl) (fun s H C cl fp => by first | exact Or.inl rfl | exact Or.inr rfl) (fun s H C cl fp => by first | exact Or.inl rfl | exact Or.inr rfl)) (fun s H C cl fp => BC.ptd B fun Bk => ptsd_nil) (fun s H C cl fp => BC.pd B fun Bk => (pd_bty ok_int T.int boot_int_ (pda_cons (pd_var 3) pda_nil)))))) pda_nil))) (blkOk_by (N := ["ways", "ranked", "way", "rank"]) (sc := defScope (topS 33)) (by decide +kernel)) (comp_name 3 B.nd (fun s H C cl fp => rfl) (fun s H C cl fp => by first | exact Or.inl rfl | exact Or.inr rfl) (fun s H C cl fp => by first | exact Or.inl rfl | exact Or.inr rfl)) (fun s H C cl fp => BC.ptd B fun Bk => ptsd_nil) (fun s H C cl fp => BC.pd B fun Bk => (pd_dget Bk (pd_var 1) (pd_var 3))))))))) pure
theorem sc_tidy : FnScope ["ways", "kept", "masks", "way"] ["ways"] (defScope (topS 34)) := ⟨rfl, rfl, rfl, by decide +kernel, rfl, by decide +kernel, by decide +kernel⟩
theorem g_tidy {P : Program} {w : World} {K : PySem.W.Frag} {mg : Str → Option Value} {base : Heap} {f : Addr} {fd : FuncData} {F_in_order F_has_way F_mask_of F : DF} (fn : Fun K "tidy" "tidy" (topS 34) f fd) (T : Tx mg) (C_in_order : CalG P w K mg base 2 "in_order" (spOf K F_in_order) []) (C_has_way : CalG P w K mg base 3 "has_way" (spOf K F_has_way) []) (C_mask_of : CalG P w K mg base 1 "mask_of" (spOf K F_mask_of) []) (pure : ∀ ds q x, F ds q x → ds.length = 1 ∧ t_tidy F_in_order F_has_way F_mask_of { nx := fun _ => q .non, rt := q, ex := x } (startE 4 ds)) : FnG P w K mg base 4 f fd ["ways"] (spOf K F) :=
  def_ok fn sc_tidy (fun cdv A callers s H E B po => (pds_cons (pd_setOwn 1 (pf_lst pda_nil) B.nd)
  (pds_cons (pd_setOwn 2 (pf_lst pda_nil) B.nd)
  (pds_cons (pd_for po B.calm (pdi_seq (pd_call C_in_order B (by decide) (pda_cons (pd_var 0) pda_nil))) (pgd_name 3 B.nd) (pds_one (pd_ifS (pdt_not (pdt_val (pd_call C_has_way B (by decide) (pda_cons (pd_var 2) (pda_cons (pd_call C_mask_of B (by decide) (pda_cons (pd_var 3) pda_nil)) pda_nil))))) (pds_cons (pd_append 1 (pd_var 3))
  (pds_one (pd_append 2 (pd_call C_mask_of B (by decide) (pda_cons (pd_var 3) pda_nil))))) pds_nil)))
  (pds_one (pd_ret (pd_bty ok_tuple T.tuple boot_tuple_ (pda_cons (pd_var 1) pda_nil)))))))) pure
theorem sc_masks_of : FnScope ["ways", "way"] ["ways"] (defScope (topS 35)) := ⟨rfl, rfl, rfl, by decide +kernel, rfl, by decide +kernel, by decide +kernel⟩
theorem g_masks_of {P : Program} {w : World} {K : PySem.W.Frag} {mg : Str → Option Value} {base : Heap} {f : Addr} {fd : FuncData} {F_mask_of F : DF} (fn : Fun K "masks_of" "masks_of" (topS 35) f fd) (T : Tx mg) (C_mask_of : CalG P w K mg base 1 "mask_of" (spOf K F_mask_of) []) (pure : ∀ ds q x, F ds q x → ds.length = 1 ∧ t_masks_of F_mask_of { nx := fun _ => q .non, rt := q, ex := x } (startE 2 ds)) : FnG P w K mg base 2 f fd ["ways"] (spOf K F) :=
  def_ok fn sc_masks_of (fun cdv A callers s H E B po => (pds_one (pd_ret (pd_bty ok_tuple T.tuple boot_tuple_ (pda_cons (pd_ofF (pf_lc (own := [("way", 1)]) (is := [1]) (dg := (gN 1)) B.calm B.nd (pdi_seq (pd_var 0)) (blkOk_by (N := ["ways", "way"]) (sc := defScope (topS 35)) (by decide +kernel)) (comp_name 1 B.nd (fun s H C cl fp => rfl) (fun s H C cl fp => by first | exact Or.inl rfl | exact Or.inr rfl) (fun s H C cl fp => by first | exact Or.inl rfl | exact Or.inr rfl)) (fun s H C cl fp => BC.ptd B fun Bk => ptsd_nil) (fun s H C cl fp => BC.pd B fun Bk => (pd_call C_mask_of Bk (by decide) (pda_cons (pd_var 1) pda_nil))))) pda_nil))))) pure
theorem sc_Course___init__ : FnScope ["self", "ways", "entry"] ["self", "ways"] (defScope (inClass (topS 29) 1)) := ⟨rfl, rfl, rfl, by decide +kernel, rfl, by decide +kernel, by decide +kernel⟩
theorem g_Course___init__ {P : Program} {w : World} {K : PySem.W.Frag} {mg : Str → Option Value} {base : Heap} {f : Addr} {fd : FuncData} {C : Addr} {X_NoCourse : Addr} {F_is_ways F_tidy F_masks_of : DF} {F : DF} (fn : Fun K "__init__" "Course.__init__" (inClass (topS 29) 1) f fd) (T : Tx mg) (U : CrsG K mg C) (E_NoCourse : ExcG K mg "NoCourse" X_NoCourse) (C_is_ways : CalG P w K mg base 5 "is_ways" (spOf K F_is_ways) []) (C_tidy : CalG P w K mg base 4 "tidy" (spOf K F_tidy) []) (C_masks_of : CalG P w K mg base 2 "masks_of" (spOf K F_masks_of) []) (pure : ∀ ds q x, F ds q x → ds.length + 1 = 2 ∧ t_Course___init__ C X_NoCourse F_is_ways F_tidy F_masks_of ((.no : EV) :: startE 2 ds) [] [] (fun ns es => q (.ins C ns es)) x) : FnG P w K mg base 6 f fd ["self", "ways"] (spIni K C F) :=
  ini_ok fn sc_Course___init__ (fun cdv A callers s H E B po => (pn_if (pdt_not (pdt_val (pd_call C_is_ways B (by decide) (pda_cons (pd_var 1) (pda_cons (pd_con U.most) pda_nil))))) (pds_one (pd_raise E_NoCourse B)) (pn_set U.cls U.n_ways rfl (by first | exact Or.inl rfl | exact Or.inr (Or.inl rfl)) rfl rfl (pd_bty ok_tuple T.tuple boot_tuple_ (pda_cons (pd_ofF (pf_lc (own := [("entry", 2)]) (is := [2]) (dg := (gN 2)) B.calm B.nd (pdi_seq (pd_var 1)) (blkOk_by (N := ["self", "ways", "entry"]) (sc := defScope (inClass (topS 29) 1)) (by decide +kernel)) (comp_name 2 B.nd (fun s H C cl fp => rfl) (fun s H C cl fp => by first | exact Or.inl rfl | exact Or.inr rfl) (fun s H C cl fp => by first | exact Or.inl rfl | exact Or.inr rfl)) (fun s H C cl fp => BC.ptd B fun Bk => ptsd_nil) (fun s H C cl fp => BC.pd B fun Bk => (pd_call C_tidy Bk (by decide) (pda_cons (pd_var 2) pda_nil))))) pda_nil)) (pn_set U.cls U.n_book rfl (by first | exact Or.inl rfl | exact Or.inr (Or.inl rfl)) rfl rfl (pd_bty ok_tuple T.tuple boot_tuple_ (pda_cons (pd_ofF (pf_lc (own := [("entry", 2)]) (is := [2]) (dg := (gN 2)) B.calm B.nd (pdi_seq (pd_fld U.cls U.n_ways (pd_var 0))) (blkOk_by (N := ["self", "ways", "entry"]) (sc := defScope (inClass (topS 29) 1)) (by decide +kernel)) (comp_name 2 B.nd (fun s H C cl fp => rfl) (fun s H C cl fp => by first | exact Or.inl rfl | exact Or.inr rfl) (fun s H C cl fp => by first | exact Or.inl rfl | exact Or.inr rfl)) (fun s H C cl fp => BC.ptd B fun Bk => ptsd_nil) (fun s H C cl fp => BC.pd B fun Bk => (pd_call C_masks_of Bk (by decide) (pda_cons (pd_var 2) pda_nil))))) pda_nil)) pn_nil rfl) rfl))) (by simp) pure
theorem sc__law_few : FnScope ["_law_pen", "_law_n", "_law_most", "_law_found", "_law_turn", "_law_one"] ["_law_pen", "_law_n", "_law_most"] (defScope (topS 55)) := ⟨rfl, rfl, rfl, by decide +kernel, rfl, by decide +kernel, by decide +kernel⟩
theorem g__law_few {P : Program} {w : World} {K : PySem.W.Frag} {mg : Str → Option Value} {base : Heap} {f : Addr} {fd : FuncData} {F__law_draw F : DF} (fn : Fun K "_law_few" "_law_few" (topS 55) f fd) (T : Tx mg) (C__law_draw : CalG P w K mg base 2 "_law_draw" (spOf K F__law_draw) []) (pure : ∀ ds q x, F ds q x → ds.length = 3 ∧ t__law_few F__law_draw { nx := fun _ => q .non, rt := q, ex := x } (startE 6 ds)) : FnG P w K mg base 3 f fd ["_law_pen", "_law_n", "_law_most"] (spOf K F) :=
  def_ok fn sc__law_few (fun cdv A callers s H E B po => (pds_cons (pd_setOwn 3 (pf_lst pda_nil) B.nd)
  (pds_cons (pd_for po B.calm (pdi_range1 (pd_call C__law_draw B (by decide) (pda_cons (pd_var 0) (pda_cons (pd_op ok_addA (pd_var 2) pd_int) pda_nil))) T.range) (pgd_name 4 B.nd) (pds_cons (pd_set 5 (pd_call C__law_draw B (by decide) (pda_cons (pd_var 0) (pda_cons (pd_var 1) pda_nil))) B.nd)
  (pds_one (pd_ifS (pdt_cmp (ok_notIn B.u65) (pd_var 5) (pd_var 3) (by with_unfolding_all rfl)) (pds_one (pd_append 3 (pd_var 5))) pds_nil))))
  (pds_one (pd_ret (pd_bty ok_tuple T.tuple boot_tuple_ (pda_cons (pd_blt ok_sorted T.sorted boot_sorted_ (pda_cons (pd_ofF (pf_lc (own := [("_law_one", 5)]) (is := [5]) (dg := (gN 5)) B.calm B.nd (pdi_seq (pd_var 3)) (blkOk_by (N := ["_law_pen", "_law_n", "_law_most", "_law_found", "_law_turn", "_law_one"]) (sc := defScope (topS 55)) (by decide +kernel)) (comp_name 5 B.nd (fun s H C cl fp => rfl) (fun s H C cl fp => by first | exact Or.inl rfl | exact Or.inr rfl) (fun s H C cl fp => by first | exact Or.inl rfl | exact Or.inr rfl)) (fun s H C cl fp => BC.ptd B fun Bk => ptsd_nil) (fun s H C cl fp => BC.pd B fun Bk => (pd_bty ok_int T.int boot_int_ (pda_cons (pd_var 5) pda_nil))))) pda_nil)) pda_nil))))))) pure
theorem sc_is_state_mask : FnScope ["book", "items"] ["book", "items"] (defScope (topS 23)) := ⟨rfl, rfl, rfl, by decide +kernel, rfl, by decide +kernel, by decide +kernel⟩
theorem g_is_state_mask {P : Program} {w : World} {K : PySem.W.Frag} {mg : Str → Option Value} {base : Heap} {f : Addr} {fd : FuncData} {F_greatest_in F : DF} (fn : Fun K "is_state_mask" "is_state_mask" (topS 23) f fd) (T : Tx mg) (C_greatest_in : CalG P w K mg base 5 "greatest_in" (spOf K F_greatest_in) []) (pure : ∀ ds q x, F ds q x → ds.length = 2 ∧ t_is_state_mask F_greatest_in { nx := fun _ => q .non, rt := q, ex := x } (startE 2 ds)) : FnG P w K mg base 6 f fd ["book", "items"] (spOf K F) :=
  def_ok fn sc_is_state_mask (fun cdv A callers s H E B po => (pds_one (pd_ret (pd_cmp (ok_eq B.u64) (pd_call C_greatest_in B (by decide) (pda_cons (pd_tup (pda_cons (pd_var 0) pda_nil)) (pda_cons (pd_var 1) pda_nil))) (pd_var 1) (nomark _))))) pure
theorem sc_Course___contains__ : FnScope ["self", "value"] ["self", "value"] (defScope (inClass (topS 29) 8)) := ⟨rfl, rfl, rfl, by decide +kernel, rfl, by decide +kernel, by decide +kernel⟩
theorem g_Course___contains__ {P : Program} {w : World} {K : PySem.W.Frag} {mg : Str → Option Value} {base : Heap} {f : Addr} {fd : FuncData} {C : Addr} {F_is_set F_Course___len__ F_is_state_mask F_mask_of F : DF} (fn : Fun K "__contains__" "Course.__contains__" (inClass (topS 29) 8) f fd) (T : Tx mg) (U : CrsG K mg C) (C_is_set : CalG P w K mg base 3 "is_set" (spOf K F_is_set) []) (M_len : MetG P w K mg base 1 C "__len__" (spOf K F_Course___len__)) (hC_Course___len__ : ∀ ds q x, F_Course___len__ ds q x → ∃ ns vs, ds = [.ins C ns vs]) (C_is_state_mask : CalG P w K mg base 6 "is_state_mask" (spOf K F_is_state_mask) []) (C_mask_of : CalG P w K mg base 1 "mask_of" (spOf K F_mask_of) []) (pure : ∀ ds q x, F ds q x → ds.length = 2 ∧ t_Course___contains__ C F_is_set F_Course___len__ F_is_state_mask F_mask_of { nx := fun _ => q .non, rt := q, ex := x } (startE 2 ds)) : FnG P w K mg base 7 f fd ["self", "value"] (spOf K F) :=
  def_ok fn sc_Course___contains__ (fun cdv A callers s H E B po => (pds_one (pd_ret (pd_and (pd_call C_is_set B (by decide) (pda_cons (pd_var 1) (pda_cons (pd_olen M_len B (by decide) T.len (pd_var 0) hC_Course___len__) pda_nil))) (pd_one (pd_call C_is_state_mask B (by decide) (pda_cons (pd_fld U.cls U.n_book (pd_var 0)) (pda_cons (pd_call C_mask_of B (by decide) (pda_cons (pd_var 1) pda_nil)) pda_nil)))))))) pure
theorem sc__law_is : FnScope ["_law_value", "_law_due"] ["_law_value", "_law_due"] (defScope (topS 58)) := ⟨rfl, rfl, rfl, by decide +kernel, rfl, by decide +kernel, by decide +kernel⟩
theorem g__law_is {P : Program} {w : World} {K : PySem.W.Frag} {mg : Str → Option Value} {base : Heap} {f : Addr} {fd : FuncData} {F : DF} (fn : Fun K "_law_is" "_law_is" (topS 58) f fd) (T : Tx mg)  (pure : ∀ ds q x, F ds q x → ds.length = 2 ∧ t__law_is  { nx := fun _ => q .non, rt := q, ex := x } (startE 2 ds)) : FnG P w K mg base 1 f fd ["_law_value", "_law_due"] (spOf K F) :=
  def_ok fn sc__law_is (fun cdv A callers s H E B po => (pds_one (pd_ret (pd_and (pd_cmp (ok_eq B.u64) (pd_var 0) (pd_var 1) (nomark _)) (pd_one (pd_cmp (ok_eq B.u64) (pd_blt (ok_repr B.gd B.u65) T.repr boot_repr_ (pda_cons (pd_var 0) pda_nil)) (pd_blt (ok_repr B.gd B.u65) T.repr boot_repr_ (pda_cons (pd_var 1) pda_nil)) (nomark _))))))) pure
theorem sc__law_has : FnScope ["_law_entry", "_law_known", "_law_way_here", "_law_one"] ["_law_entry", "_law_known"] (defScope (topS 56)) := ⟨rfl, rfl, rfl, by decide +kernel, rfl, by decide +kernel, by decide +kernel⟩
theorem g__law_has {P : Program} {w : World} {K : PySem.W.Frag} {mg : Str → Option Value} {base : Heap} {f : Addr} {fd : FuncData} {F : DF} (fn : Fun K "_law_has" "_law_has" (topS 56) f fd) (T : Tx mg)  (pure : ∀ ds q x, F ds q x → ds.length = 2 ∧ t__law_has  { nx := fun _ => q .non, rt := q, ex := x } (startE 4 ds)) : FnG P w K mg base 1 f fd ["_law_entry", "_law_known"] (spOf K F) :=
  def_ok fn sc__law_has (fun cdv A callers s H E B po => (pds_cons (pd_for po B.calm (pdi_seq (pd_var 0)) (pgd_name 2 B.nd) (pds_one (pd_ifS (pdt_val (pd_blt (ok_all B.calm) T.all boot_all_ (pda_cons (pd_ofF (pf_lc (own := [("_law_one", 3)]) (is := [3]) (dg := (gN 3)) B.calm B.nd (pdi_seq (pd_var 2)) (blkOk_by (N := ["_law_entry", "_law_known", "_law_way_here", "_law_one"]) (sc := defScope (topS 56)) (by decide +kernel)) (comp_name 3 B.nd (fun s H C cl fp => rfl) (fun s H C cl fp => by first | exact Or.inl rfl | exact Or.inr rfl) (fun s H C cl fp => by first | exact Or.inl rfl | exact Or.inr rfl)) (fun s H C cl fp => BC.ptd B fun Bk => ptsd_nil) (fun s H C cl fp => BC.pd B fun Bk => (pd_cmp (ok_in Bk.u65) (pd_var 3) (pd_var 1) (by with_unfolding_all rfl))))) pda_nil))) (pds_one (pd_ret pd_bl)) pds_nil)))
  (pds_one (pd_ret pd_bl)))) pure
theorem sc__law_closed : FnScope ["_law_book_here", "_law_avoided", "_law_row", "_law_item", "_law_one"] ["_law_book_here", "_law_avoided", "_law_row"] (defScope (topS 59)) := ⟨rfl, rfl, rfl, by decide +kernel, rfl, by decide +kernel, by decide +kernel⟩
theorem g__law_closed {P : Program} {w : World} {K : PySem.W.Frag} {mg : Str → Option Value} {base : Heap} {f : Addr} {fd : FuncData} {F__law_has F : DF} (fn : Fun K "_law_closed" "_law_closed" (topS 59) f fd) (T : Tx mg) (C__law_has : CalG P w K mg base 1 "_law_has" (spOf K F__law_has) []) (pure : ∀ ds q x, F ds q x → ds.length = 3 ∧ t__law_closed F__law_has { nx := fun _ => q .non, rt := q, ex := x } (startE 5 ds)) : FnG P w K mg base 2 f fd ["_law_book_here", "_law_avoided", "_law_row"] (spOf K F) :=
  def_ok fn sc__law_closed (fun cdv A callers s H E B po => (pds_cons (pd_ifS (PDW.pt (pdw_or (pdt_not (pdt_val (pd_isi T.isinstance T.tuple boot_tuple_ (pd_var 2)))) (pdw_or1 (pdt_cmp (ok_ne B.u64) (pd_var 2) (pd_bty ok_tuple T.tuple boot_tuple_ (pda_cons (pd_ofF (pf_lc (own := [("_law_one", 4)]) (is := [4]) (dg := (gN 4)) B.calm B.nd (pdi_range1 (pd_blt ok_len T.len boot_len_ (pda_cons (pd_var 0) pda_nil)) T.range) (blkOk_by (N := ["_law_book_here", "_law_avoided", "_law_row", "_law_item", "_law_one"]) (sc := defScope (topS 59)) (by decide +kernel)) (comp_name 4 B.nd (fun s H C cl fp => rfl) (fun s H C cl fp => by first | exact Or.inl rfl | exact Or.inr rfl) (fun s H C cl fp => by first | exact Or.inl rfl | exact Or.inr rfl)) (fun s H C cl fp => BC.ptd B fun Bk => (ptsd_one (pdt_cmp (ok_in Bk.u65) (pd_var 4) (pd_var 2) (by with_unfolding_all rfl)))) (fun s H C cl fp => BC.pd B fun Bk => (pd_var 4)))) pda_nil)) (nomark _))))) (pds_one (pd_ret pd_bl)) pds_nil)
  (pds_cons (pd_ifS (PDW.pt (pdw_or (pdt_cmp (ok_ne B.u64) (pd_blt (ok_repr B.gd B.u65) T.repr boot_repr_ (pda_cons (pd_var 2) pda_nil)) (pd_blt (ok_repr B.gd B.u65) T.repr boot_repr_ (pda_cons (pd_bty ok_tuple T.tuple boot_tuple_ (pda_cons (pd_ofF (pf_lc (own := [("_law_one", 4)]) (is := [4]) (dg := (gN 4)) B.calm B.nd (pdi_range1 (pd_blt ok_len T.len boot_len_ (pda_cons (pd_var 0) pda_nil)) T.range) (blkOk_by (N := ["_law_book_here", "_law_avoided", "_law_row", "_law_item", "_law_one"]) (sc := defScope (topS 59)) (by decide +kernel)) (comp_name 4 B.nd (fun s H C cl fp => rfl) (fun s H C cl fp => by first | exact Or.inl rfl | exact Or.inr rfl) (fun s H C cl fp => by first | exact Or.inl rfl | exact Or.inr rfl)) (fun s H C cl fp => BC.ptd B fun Bk => (ptsd_one (pdt_cmp (ok_in Bk.u65) (pd_var 4) (pd_var 2) (by with_unfolding_all rfl)))) (fun s H C cl fp => BC.pd B fun Bk => (pd_var 4)))) pda_nil)) pda_nil)) (nomark _)) (pdw_or1 (pdt_val (pd_blt (ok_any B.calm) T.any boot_any_ (pda_cons (pd_ofF (pf_lc (own := [("_law_one", 4)]) (is := [4]) (dg := (gN 4)) B.calm B.nd (pdi_seq (pd_var 2)) (blkOk_by (N := ["_law_book_here", "_law_avoided", "_law_row", "_law_item", "_law_one"]) (sc := defScope (topS 59)) (by decide +kernel)) (comp_name 4 B.nd (fun s H C cl fp => rfl) (fun s H C cl fp => by first | exact Or.inl rfl | exact Or.inr rfl) (fun s H C cl fp => by first | exact Or.inl rfl | exact Or.inr rfl)) (fun s H C cl fp => BC.ptd B fun Bk => ptsd_nil) (fun s H C cl fp => BC.pd B fun Bk => (pd_cmp (ok_in Bk.u65) (pd_var 4) (pd_var 1) (by with_unfolding_all rfl))))) pda_nil)))))) (pds_one (pd_ret pd_bl)) pds_nil)
  (pds_cons (pd_for po B.calm (pdi_range1 (pd_blt ok_len T.len boot_len_ (pda_cons (pd_var 0) pda_nil)) T.range) (pgd_name 3 B.nd) (pds_one (pd_ifS (PDW.pt (pdw_and (pdt_cmp (ok_notIn B.u65) (pd_var 3) (pd_var 2) (by with_unfolding_all rfl)) (pdw_and (pdt_cmp (ok_notIn B.u65) (pd_var 3) (pd_var 1) (by with_unfolding_all rfl)) (pdw_and1 (pdt_val (pd_call C__law_has B (by decide) (pda_cons (pd_ix (pd_var 0) (pd_var 3)) (pda_cons (pd_var 2) pda_nil)))))))) (pds_one (pd_ret pd_bl)) pds_nil)))
  (pds_one (pd_ret pd_bl)))))) pure
theorem sc__law_top : FnScope ["_law_book_here", "_law_avoided", "_law_known", "_law_turn", "_law_one"] ["_law_book_here", "_law_avoided"] (defScope (topS 57)) := ⟨rfl, rfl, rfl, by decide +kernel, rfl, by decide +kernel, by decide +kernel⟩
theorem g__law_top {P : Program} {w : World} {K : PySem.W.Frag} {mg : Str → Option Value} {base : Heap} {f : Addr} {fd : FuncData} {F__law_has F : DF} (fn : Fun K "_law_top" "_law_top" (topS 57) f fd) (T : Tx mg) (C__law_has : CalG P w K mg base 1 "_law_has" (spOf K F__law_has) []) (pure : ∀ ds q x, F ds q x → ds.length = 2 ∧ t__law_top F__law_has { nx := fun _ => q .non, rt := q, ex := x } (startE 5 ds)) : FnG P w K mg base 2 f fd ["_law_book_here", "_law_avoided"] (spOf K F) :=
  def_ok fn sc__law_top (fun cdv A callers s H E B po => (pds_cons (pd_set 2 (pd_lst pda_nil) B.nd)
  (pds_cons (pd_for po B.calm (pdi_range1 (pd_blt ok_len T.len boot_len_ (pda_cons (pd_var 0) pda_nil)) T.range) (pgd_name 3 B.nd) (pds_one (pd_set 2 (pd_op ok_addA (pd_var 2) (pd_ofF (pf_lc (own := [("_law_one", 4)]) (is := [4]) (dg := (gN 4)) B.calm B.nd (pdi_range1 (pd_blt ok_len T.len boot_len_ (pda_cons (pd_var 0) pda_nil)) T.range) (blkOk_by (N := ["_law_book_here", "_law_avoided", "_law_known", "_law_turn", "_law_one"]) (sc := defScope (topS 57)) (by decide +kernel)) (comp_name 4 B.nd (fun s H C cl fp => rfl) (fun s H C cl fp => by first | exact Or.inl rfl | exact Or.inr rfl) (fun s H C cl fp => by first | exact Or.inl rfl | exact Or.inr rfl)) (fun s H C cl fp => BC.ptd B fun Bk => (ptsd_one (PDW.pt (pdw_and (pdt_cmp (ok_notIn Bk.u65) (pd_var 4) (pd_op ok_addA (pd_var 2) (pd_bty ok_list T.list boot_list_ (pda_cons (pd_var 1) pda_nil))) (by with_unfolding_all rfl)) (pdw_and1 (pdt_val (pd_call C__law_has Bk (by decide) (pda_cons (pd_ix (pd_var 0) (pd_var 4)) (pda_cons (pd_var 2) pda_nil))))))))) (fun s H C cl fp => BC.pd B fun Bk => (pd_var 4))))) B.nd)))
  (pds_one (pd_ret (pd_bty ok_tuple T.tuple boot_tuple_ (pda_cons (pd_ofF (pf_lc (own := [("_law_one", 4)]) (is := [4]) (dg := (gN 4)) B.calm B.nd (pdi_range1 (pd_blt ok_len T.len boot_len_ (pda_cons (pd_var 0) pda_nil)) T.range) (blkOk_by (N := ["_law_book_here", "_law_avoided", "_law_known", "_law_turn", "_law_one"]) (sc := defScope (topS 57)) (by decide +kernel)) (comp_name 4 B.nd (fun s H C cl fp => rfl) (fun s H C cl fp => by first | exact Or.inl rfl | exact Or.inr rfl) (fun s H C cl fp => by first | exact Or.inl rfl | exact Or.inr rfl)) (fun s H C cl fp => BC.ptd B fun Bk => (ptsd_one (pdt_cmp (ok_in Bk.u65) (pd_var 4) (pd_var 2) (by with_unfolding_all rfl)))) (fun s H C cl fp => BC.pd B fun Bk => (pd_var 4)))) pda_nil))))))) pure
theorem sc__law_less : FnScope ["_law_row", "_law_item", "_law_one"] ["_law_row", "_law_item"] (defScope (topS 60)) := ⟨rfl, rfl, rfl, by decide +kernel, rfl, by decide +kernel, by decide +kernel⟩
theorem g__law_less {P : Program} {w : World} {K : PySem.W.Frag} {mg : Str → Option Value} {base : Heap} {f : Addr} {fd : FuncData} {F : DF} (fn : Fun K "_law_less" "_law_less" (topS 60) f fd) (T : Tx mg)  (pure : ∀ ds q x, F ds q x → ds.length = 2 ∧ t__law_less  { nx := fun _ => q .non, rt := q, ex := x } (startE 3 ds)) : FnG P w K mg base 1 f fd ["_law_row", "_law_item"] (spOf K F) :=
  def_ok fn sc__law_less (fun cdv A callers s H E B po => (pds_one (pd_ret (pd_bty ok_tuple T.tuple boot_tuple_ (pda_cons (pd_ofF (pf_lc (own := [("_law_one", 2)]) (is := [2]) (dg := (gN 2)) B.calm B.nd (pdi_seq (pd_var 0)) (blkOk_by (N := ["_law_row", "_law_item", "_law_one"]) (sc := defScope (topS 60)) (by decide +kernel)) (comp_name 2 B.nd (fun s H C cl fp => rfl) (fun s H C cl fp => by first | exact Or.inl rfl | exact Or.inr rfl) (fun s H C cl fp => by first | exact Or.inl rfl | exact Or.inr rfl)) (fun s H C cl fp => BC.ptd B fun Bk => (ptsd_one (pdt_cmp (ok_ne Bk.u64) (pd_var 2) (pd_var 1) (nomark _)))) (fun s H C cl fp => BC.pd B fun Bk => (pd_var 2)))) pda_nil))))) pure
theorem sc__law_shows : FnScope ["_law_book_here", "_law_yes", "_law_no", "_law_k", "_law_value", "_law_gate", "_law_place", "_law_one"] ["_law_book_here", "_law_yes", "_law_no", "_law_k", "_law_value"] (defScope (topS 61)) := ⟨rfl, rfl, rfl, by decide +kernel, rfl, by decide +kernel, by decide +kernel⟩
theorem g__law_shows {P : Program} {w : World} {K : PySem.W.Frag} {mg : Str → Option Value} {base : Heap} {f : Addr} {fd : FuncData} {n : Nat} {F__law_closed F__law_top F__law_shows F__law_less F : DF} (fn : Fun K "_law_shows" "_law_shows" (topS 61) f fd) (T : Tx mg) (C__law_closed : CalG P w K mg base 2 "_law_closed" (spOf K F__law_closed) []) (C__law_top : CalG P w K mg base 2 "_law_top" (spOf K F__law_top) []) (C__law_shows : CalG P w K mg base (2 + n) "_law_shows" (spOf K F__law_shows) []) (C__law_less : CalG P w K mg base 1 "_law_less" (spOf K F__law_less) []) (pure : ∀ ds q x, F ds q x → ds.length = 5 ∧ t__law_shows F__law_closed F__law_top F__law_shows F__law_less { nx := fun _ => q .non, rt := q, ex := x } (startE 8 ds)) : FnG P w K mg base (2 + n + 1) f fd ["_law_book_here", "_law_yes", "_law_no", "_law_k", "_law_value"] (spOf K F) :=
  def_ok fn sc__law_shows (fun cdv A callers s H E B po => (pds_cons (pd_ifS (PDW.pt (pdw_or (pdt_cmp (ok_ne B.u64) (pd_ix (pd_var 4) pd_int) pd_str (nomark _)) (pdw_or1 (pdt_cmp (ok_notIn B.u65) (pd_ix (pd_var 4) pd_int) (pd_var 1) (by with_unfolding_all rfl))))) (pds_one (pd_ret pd_bl)) pds_nil)
  (pds_cons (pd_ifS (pdt_cmp (ok_eq B.u64) (pd_var 3) pd_int (nomark _)) (pds_one (pd_ret (pd_and (pd_call C__law_closed B (by first | decide | omega) (pda_cons (pd_var 0) (pda_cons (pd_var 2) (pda_cons (pd_ix (pd_var 4) pd_int) pda_nil)))) (pd_one (pd_cmp (ok_notIn B.u65) (pd_ix (pd_var 4) pd_int) (pd_ix (pd_var 4) pd_int) (by with_unfolding_all rfl)))))) pds_nil)
  (pds_cons (pd_set 5 (pd_ix (pd_var 4) pd_int) B.nd)
  (pds_cons (pd_ifS (PDW.pt (pdw_or (pdt_not (pdt_val (pd_blt (ok_all B.calm) T.all boot_all_ (pda_cons (pd_ofF (pf_lc (own := [("_law_one", 7)]) (is := [7]) (dg := (gN 7)) B.calm B.nd (pdi_seq (pd_var 5)) (blkOk_by (N := ["_law_book_here", "_law_yes", "_law_no", "_law_k", "_law_value", "_law_gate", "_law_place", "_law_one"]) (sc := defScope (topS 61)) (by decide +kernel)) (comp_name 7 B.nd (fun s H C cl fp => rfl) (fun s H C cl fp => by first | exact Or.inl rfl | exact Or.inr rfl) (fun s H C cl fp => by first | exact Or.inl rfl | exact Or.inr rfl)) (fun s H C cl fp => BC.ptd B fun Bk => ptsd_nil) (fun s H C cl fp => BC.pd B fun Bk => (pd_cmp (ok_in Bk.u65) (pd_var 7) (pd_var 2) (by with_unfolding_all rfl))))) pda_nil)))) (pdw_or (pdt_cmp (ok_in B.u65) (pd_ix (pd_var 4) pd_int) (pd_call C__law_top B (by first | decide | omega) (pda_cons (pd_var 0) (pda_cons (pd_var 5) pda_nil))) (by with_unfolding_all rfl)) (pdw_or1 (pdt_cmp (ok_ne B.u64) (pd_blt ok_len T.len boot_len_ (pda_cons (pd_ix (pd_var 4) pd_int) pda_nil)) (pd_op ok_addA (pd_blt ok_len T.len boot_len_ (pda_cons (pd_var 5) pda_nil)) pd_int) (nomark _)))))) (pds_one (pd_ret pd_bl)) pds_nil)
  (pds_cons (pd_ifS (pdt_not (pdt_val (pd_call C__law_shows B (by first | decide | omega) (pda_cons (pd_var 0) (pda_cons (pd_call C__law_less B (by first | decide | omega) (pda_cons (pd_var 1) (pda_cons (pd_ix (pd_var 4) pd_int) pda_nil))) (pda_cons (pd_var 2) (pda_cons (pd_op ok_sub (pd_var 3) pd_int) (pda_cons (pd_ix (pd_ix (pd_var 4) pd_int) pd_int) pda_nil)))))))) (pds_one (pd_ret pd_bl)) pds_nil)
  (pds_cons (pd_for po B.calm (pdi_range1 (pd_blt ok_len T.len boot_len_ (pda_cons (pd_var 5) pda_nil)) T.range) (pgd_name 6 B.nd) (pds_one (pd_ifS (pdt_not (pdt_val (pd_call C__law_shows B (by first | decide | omega) (pda_cons (pd_var 0) (pda_cons (pd_var 1) (pda_cons (pd_call C__law_less B (by first | decide | omega) (pda_cons (pd_var 2) (pda_cons (pd_ix (pd_var 5) (pd_var 6)) pda_nil))) (pda_cons (pd_op ok_sub (pd_var 3) pd_int) (pda_cons (pd_ix (pd_ix (pd_var 4) pd_int) (pd_op ok_addA (pd_var 6) pd_int)) pda_nil)))))))) (pds_one (pd_ret pd_bl)) pds_nil)))
  (pds_one (pd_ret pd_bl))))))))) pure
theorem sc_law : FnScope ["_law_script", "_law_cell", "_law_pen", "_law_book_here", "_law_no", "_law_item", "_law_top_here", "_law_n", "_law_course", "_law_yes", "_law_number", "_law_state", "_law_tree"] ["_law_script"] (defScope (topS 62)) := ⟨rfl, rfl, rfl, by decide +kernel, rfl, by decide +kernel, by decide +kernel⟩
theorem g_law {P : Program} {w : World} {K : PySem.W.Frag} {mg : Str → Option Value} {base : Heap} {f : Addr} {fd : FuncData} {C : Addr} {F__law_cell_at F__law_pen_of F__law_book F_Course___init__ F__law_few F_fewest_wrong F_Course___contains__ F__law_shows F__law_less F_greatest F__law_is F__law_draw F : DF} (fn : Fun K "law" "law" (topS 62) f fd) (T : Tx mg) (U : CrsG K mg C) (C__law_cell_at : CalG P w K mg base 1 "_law_cell_at" (spOf K F__law_cell_at) []) (C__law_pen_of : CalG P w K mg base 1 "_law_pen_of" (spOf K F__law_pen_of) []) (C__law_book : CalG P w K mg base 4 "_law_book" (spOf K F__law_book) []) (M_init : MakG P w K mg base 6 "Course" C F_Course___init__) (C__law_few : CalG P w K mg base 3 "_law_few" (spOf K F__law_few) []) (C_fewest_wrong : CalG P w K mg base 39 "fewest_wrong" (spOf K F_fewest_wrong) []) (M_contains : MetG P w K mg base 7 C "__contains__" (spOf K F_Course___contains__)) (hC_Course___contains__ : ∀ ds q x, F_Course___contains__ ds q x → ∃ ns vs d, ds = [.ins C ns vs, d]) (C__law_shows : CalG P w K mg base 28 "_law_shows" (spOf K F__law_shows) []) (C__law_less : CalG P w K mg base 1 "_law_less" (spOf K F__law_less) []) (C_greatest : CalG P w K mg base 6 "greatest" (spOf K F_greatest) []) (C__law_is : CalG P w K mg base 1 "_law_is" (spOf K F__law_is) []) (C__law_draw : CalG P w K mg base 2 "_law_draw" (spOf K F__law_draw) []) (pure : ∀ ds q x, F ds q x → ds.length = 1 ∧ t_law34 C F__law_cell_at F__law_pen_of F__law_book F_Course___init__ F__law_few F_fewest_wrong F_Course___contains__ F__law_shows F__law_less F_greatest F__law_is F__law_draw { nx := fun _ => q .non, rt := q, ex := x } (startE 13 ds)) : FnG P w K mg base 40 f fd ["_law_script"] (spOf K F) :=
  def_ok fn sc_law (fun cdv A callers s H E B po => (pds_cons (pd_for po B.calm (pdi_seq (pd_op ok_addA (pd_lst (pda_cons (pd_call C__law_cell_at B (by decide) (pda_cons (pd_var 0) (pda_cons pd_int pda_nil))) pda_nil)) (pd_slice (pd_var 0) (pdo_some pd_int) (pdo_some pd_int)))) (pgd_name 1 B.nd) (pds_cons (pd_set 2 (pd_call C__law_pen_of B (by decide) (pda_cons (pd_var 1) pda_nil)) B.nd)
  (pds_cons (pd_set 3 (pd_call C__law_book B (by decide) (pda_cons (pd_var 2) (pda_cons pd_int pda_nil))) B.nd)
  (pds_cons (pd_par2 7 8 (paf_val (pd_blt ok_len T.len boot_len_ (pda_cons (pd_var 3) pda_nil)) (paf_val (pd_make M_init B (by decide) (pda_cons (pd_var 3) pda_nil)) paf_nil)) B.calm B.nd)
  (pds_cons (pd_parT (paf_val (pd_call C__law_few B (by decide) (pda_cons (pd_var 2) (pda_cons (pd_var 7) (pda_cons pd_int pda_nil)))) (paf_val (pd_call C__law_few B (by decide) (pda_cons (pd_var 2) (pda_cons (pd_var 7) (pda_cons pd_int pda_nil)))) paf_nil)) (GN.cons (i := 9) rfl (by first | exact Or.inl rfl | exact Or.inr rfl) (by first | exact Or.inl rfl | exact Or.inr rfl) (GN.cons (i := 4) rfl (by first | exact Or.inl rfl | exact Or.inr rfl) (by first | exact Or.inl rfl | exact Or.inr rfl) GN.nil rfl) rfl) B.calm B.nd)
  (pds_cons (pd_set 4 (pd_bty ok_tuple T.tuple boot_tuple_ (pda_cons (pd_ofF (pf_lc (own := [("_law_item", 5)]) (is := [5]) (dg := (gN 5)) B.calm B.nd (pdi_seq (pd_var 4)) (blkOk_by (N := ["_law_script", "_law_cell", "_law_pen", "_law_book_here", "_law_no", "_law_item", "_law_top_here", "_law_n", "_law_course", "_law_yes", "_law_number", "_law_state", "_law_tree"]) (sc := defScope (topS 62)) (by decide +kernel)) (comp_name 5 B.nd (fun s H C cl fp => rfl) (fun s H C cl fp => by first | exact Or.inl rfl | exact Or.inr rfl) (fun s H C cl fp => by first | exact Or.inl rfl | exact Or.inr rfl)) (fun s H C cl fp => BC.ptd B fun Bk => (ptsd_one (pdt_cmp (ok_notIn Bk.u65) (pd_var 5) (pd_var 9) (by with_unfolding_all rfl)))) (fun s H C cl fp => BC.pd B fun Bk => (pd_var 5)))) pda_nil)) B.nd)
  (pds_cons (pd_unpack (pd_call C_fewest_wrong B (by decide) (pda_cons (pd_var 8) (pda_cons (pd_var 9) (pda_cons (pd_var 4) pda_nil)))) (GN.cons (i := 10) rfl (by first | exact Or.inl rfl | exact Or.inr rfl) (by first | exact Or.inl rfl | exact Or.inr rfl) (GN.cons (i := 11) rfl (by first | exact Or.inl rfl | exact Or.inr rfl) (by first | exact Or.inl rfl | exact Or.inr rfl) (GN.cons (i := 12) rfl (by first | exact Or.inl rfl | exact Or.inr rfl) (by first | exact Or.inl rfl | exact Or.inr rfl) GN.nil rfl) rfl) rfl) B.calm B.nd)
  (pds_cons (pd_ifS (PDW.pt (pdw_or (pdt_inC (neg := true) M_contains B (by decide) (pd_var 11) (pd_var 8) hC_Course___contains__ (by with_unfolding_all rfl)) (pdw_or1 (pdt_cmp (ok_ne B.u64) (pd_op ok_addA (pd_blt ok_len T.len boot_len_ (pda_cons (pd_ofF (pf_lc (own := [("_law_item", 5)]) (is := [5]) (dg := (gN 5)) B.calm B.nd (pdi_seq (pd_var 9)) (blkOk_by (N := ["_law_script", "_law_cell", "_law_pen", "_law_book_here", "_law_no", "_law_item", "_law_top_here", "_law_n", "_law_course", "_law_yes", "_law_number", "_law_state", "_law_tree"]) (sc := defScope (topS 62)) (by decide +kernel)) (comp_name 5 B.nd (fun s H C cl fp => rfl) (fun s H C cl fp => by first | exact Or.inl rfl | exact Or.inr rfl) (fun s H C cl fp => by first | exact Or.inl rfl | exact Or.inr rfl)) (fun s H C cl fp => BC.ptd B fun Bk => (ptsd_one (pdt_cmp (ok_notIn Bk.u65) (pd_var 5) (pd_var 11) (by with_unfolding_all rfl)))) (fun s H C cl fp => BC.pd B fun Bk => (pd_var 5)))) pda_nil)) (pd_blt ok_len T.len boot_len_ (pda_cons (pd_ofF (pf_lc (own := [("_law_item", 5)]) (is := [5]) (dg := (gN 5)) B.calm B.nd (pdi_seq (pd_var 4)) (blkOk_by (N := ["_law_script", "_law_cell", "_law_pen", "_law_book_here", "_law_no", "_law_item", "_law_top_here", "_law_n", "_law_course", "_law_yes", "_law_number", "_law_state", "_law_tree"]) (sc := defScope (topS 62)) (by decide +kernel)) (comp_name 5 B.nd (fun s H C cl fp => rfl) (fun s H C cl fp => by first | exact Or.inl rfl | exact Or.inr rfl) (fun s H C cl fp => by first | exact Or.inl rfl | exact Or.inr rfl)) (fun s H C cl fp => BC.ptd B fun Bk => (ptsd_one (pdt_cmp (ok_in Bk.u65) (pd_var 5) (pd_var 11) (by with_unfolding_all rfl)))) (fun s H C cl fp => BC.pd B fun Bk => (pd_var 5)))) pda_nil))) (pd_var 10) (nomark _))))) (pds_one (pd_ret pd_bl)) pds_nil)
  (pds_cons (pd_ifS (PDW.pt (pdw_and (pdt_cmp ok_gt (pd_var 10) pd_int (nomark _)) (pdw_and1 (pdt_not (pdt_val (pd_call C__law_shows B (by decide) (pda_cons (pd_var 3) (pda_cons (pd_var 9) (pda_cons (pd_var 4) (pda_cons (pd_op ok_sub (pd_var 10) pd_int) (pda_cons (pd_var 12) pda_nil))))))))))) (pds_one (pd_ret pd_bl)) pds_nil)
  (pds_cons (pd_for po B.calm (pdi_seq (pd_var 9)) (pgd_name 5 B.nd) (pds_one (pd_ifS (pdt_cmp (ok_notIn B.u65) (pd_op ok_sub (pd_var 10) (pd_ix (pd_call C_fewest_wrong B (by decide) (pda_cons (pd_var 8) (pda_cons (pd_call C__law_less B (by decide) (pda_cons (pd_var 9) (pda_cons (pd_var 5) pda_nil))) (pda_cons (pd_var 4) pda_nil)))) pd_int)) (pd_tup (pda_cons pd_int (pda_cons pd_int pda_nil))) (by with_unfolding_all rfl)) (pds_one (pd_ret pd_bl)) pds_nil)))
  (pds_cons (pd_for po B.calm (pdi_seq (pd_var 4)) (pgd_name 5 B.nd) (pds_one (pd_ifS (pdt_cmp (ok_notIn B.u65) (pd_op ok_sub (pd_var 10) (pd_ix (pd_call C_fewest_wrong B (by decide) (pda_cons (pd_var 8) (pda_cons (pd_var 9) (pda_cons (pd_call C__law_less B (by decide) (pda_cons (pd_var 4) (pda_cons (pd_var 5) pda_nil))) pda_nil)))) pd_int)) (pd_tup (pda_cons pd_int (pda_cons pd_int pda_nil))) (by with_unfolding_all rfl)) (pds_one (pd_ret pd_bl)) pds_nil)))
  (pds_cons (pd_set 6 (pd_call C_greatest B (by decide) (pda_cons (pd_var 8) (pda_cons (pd_var 4) pda_nil))) B.nd)
  (pds_one (pd_ifS (pdt_not (pdt_val (pd_call C__law_is B (by decide) (pda_cons (pd_ix (pd_call C_fewest_wrong B (by decide) (pda_cons (pd_var 8) (pda_cons (pd_bty ok_tuple T.tuple boot_tuple_ (pda_cons (pd_ofF (pf_lc (own := [("_law_item", 5)]) (is := [5]) (dg := (gN 5)) B.calm B.nd (pdi_seq (pd_var 6)) (blkOk_by (N := ["_law_script", "_law_cell", "_law_pen", "_law_book_here", "_law_no", "_law_item", "_law_top_here", "_law_n", "_law_course", "_law_yes", "_law_number", "_law_state", "_law_tree"]) (sc := defScope (topS 62)) (by decide +kernel)) (comp_name 5 B.nd (fun s H C cl fp => rfl) (fun s H C cl fp => by first | exact Or.inl rfl | exact Or.inr rfl) (fun s H C cl fp => by first | exact Or.inl rfl | exact Or.inr rfl)) (fun s H C cl fp => BC.ptd B fun Bk => (ptsd_one (PDW.pt (pdw_or (pdt_cmp (ok_in Bk.u65) (pd_var 5) (pd_var 9) (by with_unfolding_all rfl)) (pdw_or1 (pdt_cmp (ok_eq Bk.u64) (pd_call C__law_draw Bk (by decide) (pda_cons (pd_var 2) (pda_cons pd_int pda_nil))) pd_int (nomark _))))))) (fun s H C cl fp => BC.pd B fun Bk => (pd_var 5)))) pda_nil)) (pda_cons (pd_var 4) pda_nil)))) pd_int) (pda_cons pd_int pda_nil))))) (pds_one (pd_ret pd_bl)) pds_nil))))))))))))))
  (pds_one (pd_ret pd_bl)))) pure
theorem hC_contains (C : Addr) : ∀ ds q x, F_Course___contains__ C ds q x → ∃ ns vs d, ds = [.ins C ns vs, d] := by
  rintro ds q x ⟨kb, v, rfl, _⟩
  exact ⟨_, _, _, rfl⟩
set_option maxHeartbeats 0 in
theorem all_mk {w : World} {K : PySem.W.Frag} {h : Heap} {mg : Str → Option Value} {fa C : Addr} (X : K.In h) (G : h.Ns mainGlobals mg) (hfa : mg "law" = some (.ref fa))
    {CS : Addr} {X_NoSet : Addr} {X_NoAnswers : Addr} {X_NoCourse : Addr} {f1 : Addr} {oc1 : Value} {kV1 : Value} {dc1 : Value} {pm1 : Value} {cd1 : Value} {ct1 : Value} {od1 an1 : Option Addr} {sl1 : Array (Option Value)} {f2 : Addr} {oc2 : Value} {kV2 : Value} {dc2 : Value} {pm2 : Value} {cd2 : Value} {ct2 : Value} {od2 an2 : Option Addr} {sl2 : Array (Option Value)} {f3 : Addr} {oc3 : Value} {kV3 : Value} {dc3 : Value} {pm3 : Value} {cd3 : Value} {ct3 : Value} {od3 an3 : Option Addr} {sl3 : Array (Option Value)} {f4 : Addr} {oc4 : Value} {kV4 : Value} {dc4 : Value} {pm4 : Value} {cd4 : Value} {ct4 : Value} {od4 an4 : Option Addr} {sl4 : Array (Option Value)} {f5 : Addr} {oc5 : Value} {kV5 : Value} {dc5 : Value} {pm5 : Value} {cd5 : Value} {ct5 : Value} {od5 an5 : Option Addr} {sl5 : Array (Option Value)} {f6 : Addr} {oc6 : Value} {kV6 : Value} {dc6 : Value} {pm6 : Value} {cd6 : Value} {ct6 : Value} {od6 an6 : Option Addr} {sl6 : Array (Option Value)} {f7 : Addr} {oc7 : Value} {kV7 : Value} {dc7 : Value} {pm7 : Value} {cd7 : Value} {ct7 : Value} {od7 an7 : Option Addr} {sl7 : Array (Option Value)} {f8 : Addr} {oc8 : Value} {kV8 : Value} {dc8 : Value} {pm8 : Value} {cd8 : Value} {ct8 : Value} {od8 an8 : Option Addr} {sl8 : Array (Option Value)} {f9 : Addr} {oc9 : Value} {kV9 : Value} {dc9 : Value} {pm9 : Value} {cd9 : Value} {ct9 : Value} {od9 an9 : Option Addr} {sl9 : Array (Option Value)} {f10 : Addr} {oc10 : Value} {kV10 : Value} {dc10 : Value} {pm10 : Value} {cd10 : Value} {ct10 : Value} {od10 an10 : Option Addr} {sl10 : Array (Option Value)} {f11 : Addr} {oc11 : Value} {kV11 : Value} {dc11 : Value} {pm11 : Value} {cd11 : Value} {ct11 : Value} {od11 an11 : Option Addr} {sl11 : Array (Option Value)} {f12 : Addr} {oc12 : Value} {kV12 : Value} {dc12 : Value} {pm12 : Value} {cd12 : Value} {ct12 : Value} {od12 an12 : Option Addr} {sl12 : Array (Option Value)} {f13 : Addr} {oc13 : Value} {kV13 : Value} {dc13 : Value} {pm13 : Value} {cd13 : Value} {ct13 : Value} {od13 an13 : Option Addr} {sl13 : Array (Option Value)} {f14 : Addr} {oc14 : Value} {kV14 : Value} {dc14 : Value} {pm14 : Value} {cd14 : Value} {ct14 : Value} {od14 an14 : Option Addr} {sl14 : Array (Option Value)} {f15 : Addr} {oc15 : Value} {kV15 : Value} {dc15 : Value} {pm15 : Value} {cd15 : Value} {ct15 : Value} {od15 an15 : Option Addr} {sl15 : Array (Option Value)} {f16 : Addr} {oc16 : Value} {kV16 : Value} {dc16 : Value} {pm16 : Value} {cd16 : Value} {ct16 : Value} {od16 an16 : Option Addr} {sl16 : Array (Option Value)} {f17 : Addr} {oc17 : Value} {kV17 : Value} {dc17 : Value} {pm17 : Value} {cd17 : Value} {ct17 : Value} {od17 an17 : Option Addr} {sl17 : Array (Option Value)} {f18 : Addr} {oc18 : Value} {kV18 : Value} {dc18 : Value} {pm18 : Value} {cd18 : Value} {ct18 : Value} {od18 an18 : Option Addr} {sl18 : Array (Option Value)} {f19 : Addr} {oc19 : Value} {kV19 : Value} {dc19 : Value} {pm19 : Value} {cd19 : Value} {ct19 : Value} {od19 an19 : Option Addr} {sl19 : Array (Option Value)} {f20 : Addr} {oc20 : Value} {kV20 : Value} {dc20 : Value} {pm20 : Value} {cd20 : Value} {ct20 : Value} {od20 an20 : Option Addr} {sl20 : Array (Option Value)} {f21 : Addr} {oc21 : Value} {kV21 : Value} {dc21 : Value} {pm21 : Value} {cd21 : Value} {ct21 : Value} {od21 an21 : Option Addr} {sl21 : Array (Option Value)} {f22 : Addr} {oc22 : Value} {kV22 : Value} {dc22 : Value} {pm22 : Value} {cd22 : Value} {ct22 : Value} {od22 an22 : Option Addr} {sl22 : Array (Option Value)} {f23 : Addr} {oc23 : Value} {kV23 : Value} {dc23 : Value} {pm23 : Value} {cd23 : Value} {ct23 : Value} {od23 an23 : Option Addr} {sl23 : Array (Option Value)} {f24 : Addr} {oc24 : Value} {kV24 : Value} {dc24 : Value} {pm24 : Value} {cd24 : Value} {ct24 : Value} {od24 an24 : Option Addr} {sl24 : Array (Option Value)} {f25 : Addr} {oc25 : Value} {kV25 : Value} {dc25 : Value} {pm25 : Value} {cd25 : Value} {ct25 : Value} {od25 an25 : Option Addr} {sl25 : Array (Option Value)} {f26 : Addr} {oc26 : Value} {kV26 : Value} {dc26 : Value} {pm26 : Value} {cd26 : Value} {ct26 : Value} {od26 an26 : Option Addr} {sl26 : Array (Option Value)} {f27 : Addr} {oc27 : Value} {kV27 : Value} {dc27 : Value} {pm27 : Value} {cd27 : Value} {ct27 : Value} {od27 an27 : Option Addr} {sl27 : Array (Option Value)} {f28 : Addr} {oc28 : Value} {kV28 : Value} {dc28 : Value} {pm28 : Value} {cd28 : Value} {ct28 : Value} {od28 an28 : Option Addr} {sl28 : Array (Option Value)} {f29 : Addr} {oc29 : Value} {kV29 : Value} {dc29 : Value} {pm29 : Value} {cd29 : Value} {ct29 : Value} {od29 an29 : Option Addr} {sl29 : Array (Option Value)} {t29 e29 : Addr} {otc29 : Value} {otd29 : Option Addr} {tn29 : Nat} {tsl29 : Array (Option Value)} {f30 : Addr} {oc30 : Value} {kV30 : Value} {dc30 : Value} {pm30 : Value} {cd30 : Value} {ct30 : Value} {od30 an30 : Option Addr} {sl30 : Array (Option Value)} {f31 : Addr} {oc31 : Value} {kV31 : Value} {dc31 : Value} {pm31 : Value} {cd31 : Value} {ct31 : Value} {od31 an31 : Option Addr} {sl31 : Array (Option Value)} {f32 : Addr} {oc32 : Value} {kV32 : Value} {dc32 : Value} {pm32 : Value} {cd32 : Value} {ct32 : Value} {od32 an32 : Option Addr} {sl32 : Array (Option Value)} {f33 : Addr} {oc33 : Value} {kV33 : Value} {dc33 : Value} {pm33 : Value} {cd33 : Value} {ct33 : Value} {od33 an33 : Option Addr} {sl33 : Array (Option Value)} {f34 : Addr} {oc34 : Value} {kV34 : Value} {dc34 : Value} {pm34 : Value} {cd34 : Value} {ct34 : Value} {od34 an34 : Option Addr} {sl34 : Array (Option Value)} {f35 : Addr} {oc35 : Value} {kV35 : Value} {dc35 : Value} {pm35 : Value} {cd35 : Value} {ct35 : Value} {od35 an35 : Option Addr} {sl35 : Array (Option Value)} {f36 : Addr} {oc36 : Value} {kV36 : Value} {dc36 : Value} {pm36 : Value} {cd36 : Value} {ct36 : Value} {od36 an36 : Option Addr} {sl36 : Array (Option Value)} {f37 : Addr} {oc37 : Value} {kV37 : Value} {dc37 : Value} {pm37 : Value} {cd37 : Value} {ct37 : Value} {od37 an37 : Option Addr} {sl37 : Array (Option Value)} {f38 : Addr} {oc38 : Value} {kV38 : Value} {dc38 : Value} {pm38 : Value} {cd38 : Value} {ct38 : Value} {od38 an38 : Option Addr} {sl38 : Array (Option Value)} {f39 : Addr} {oc39 : Value} {kV39 : Value} {dc39 : Value} {pm39 : Value} {cd39 : Value} {ct39 : Value} {od39 an39 : Option Addr} {sl39 : Array (Option Value)} {f40 : Addr} {oc40 : Value} {kV40 : Value} {dc40 : Value} {pm40 : Value} {cd40 : Value} {ct40 : Value} {od40 an40 : Option Addr} {sl40 : Array (Option Value)} {f41 : Addr} {oc41 : Value} {kV41 : Value} {dc41 : Value} {pm41 : Value} {cd41 : Value} {ct41 : Value} {od41 an41 : Option Addr} {sl41 : Array (Option Value)} {f42 : Addr} {oc42 : Value} {kV42 : Value} {dc42 : Value} {pm42 : Value} {cd42 : Value} {ct42 : Value} {od42 an42 : Option Addr} {sl42 : Array (Option Value)} {f43 : Addr} {oc43 : Value} {kV43 : Value} {dc43 : Value} {pm43 : Value} {cd43 : Value} {ct43 : Value} {od43 an43 : Option Addr} {sl43 : Array (Option Value)} {f44 : Addr} {oc44 : Value} {kV44 : Value} {dc44 : Value} {pm44 : Value} {cd44 : Value} {ct44 : Value} {od44 an44 : Option Addr} {sl44 : Array (Option Value)} {f45 : Addr} {oc45 : Value} {kV45 : Value} {dc45 : Value} {pm45 : Value} {cd45 : Value} {ct45 : Value} {od45 an45 : Option Addr} {sl45 : Array (Option Value)} {f46 : Addr} {oc46 : Value} {kV46 : Value} {dc46 : Value} {pm46 : Value} {cd46 : Value} {ct46 : Value} {od46 an46 : Option Addr} {sl46 : Array (Option Value)} {f47 : Addr} {oc47 : Value} {kV47 : Value} {dc47 : Value} {pm47 : Value} {cd47 : Value} {ct47 : Value} {od47 an47 : Option Addr} {sl47 : Array (Option Value)} {mt : Tok}
    (aC : PySem.W.nsIn K mainGlobals "Course" = some (some (.ref C)))
    (aCS : PySem.W.nsIn K mainGlobals "Cases" = some (some (.ref CS)))
    (pgS : PySem.W.plainGet K CS Str.empty = true)
    (hdS : PySem.W.hasDictIn K CS = true)
    (poS : PySem.W.plainOver K CS = true)
    (saS : PySem.W.findIn K (.ref CS) "__setattr__" = some (some (.builtin "object.__setattr__")))
    (mkS : PySem.W.makesIn K CS = true)
    (kcS : PySem.W.keepIn K (.ref CS) = true)
    (nSbook : PySem.W.findIn K (.ref CS) "book" = some none)
    (nSknown : PySem.W.findIn K (.ref CS) "known" = some none)
    (nSlacked : PySem.W.findIn K (.ref CS) "lacked" = some none)
    (nSclashes : PySem.W.findIn K (.ref CS) "clashes" = some none)
    (nStrees : PySem.W.findIn K (.ref CS) "trees" = some none)
    (aX_NoSet : PySem.W.nsIn K mainGlobals "NoSet" = some (some (.ref X_NoSet)))
    (kX_NoSet : PySem.W.keepIn K (.ref X_NoSet) = true)
    (eX_NoSet : PySem.W.excIn K X_NoSet [.type "ValueError", .type "Exception", .type "BaseException", .type "object"] "ValueError.__new__" = true)
    (sX_NoSet : PySem.W.subIn K (.ref X_NoSet) (.type "BaseException") = some true)
    (tX_NoSet : PySem.W.typeIn K (.ref X_NoSet) = some (.type "type"))
    (aX_NoAnswers : PySem.W.nsIn K mainGlobals "NoAnswers" = some (some (.ref X_NoAnswers)))
    (kX_NoAnswers : PySem.W.keepIn K (.ref X_NoAnswers) = true)
    (eX_NoAnswers : PySem.W.excIn K X_NoAnswers [.type "ValueError", .type "Exception", .type "BaseException", .type "object"] "ValueError.__new__" = true)
    (sX_NoAnswers : PySem.W.subIn K (.ref X_NoAnswers) (.type "BaseException") = some true)
    (tX_NoAnswers : PySem.W.typeIn K (.ref X_NoAnswers) = some (.type "type"))
    (aX_NoCourse : PySem.W.nsIn K mainGlobals "NoCourse" = some (some (.ref X_NoCourse)))
    (kX_NoCourse : PySem.W.keepIn K (.ref X_NoCourse) = true)
    (eX_NoCourse : PySem.W.excIn K X_NoCourse [.type "ValueError", .type "Exception", .type "BaseException", .type "object"] "ValueError.__new__" = true)
    (sX_NoCourse : PySem.W.subIn K (.ref X_NoCourse) (.type "BaseException") = some true)
    (tX_NoCourse : PySem.W.typeIn K (.ref X_NoCourse) = some (.type "type"))
    (a1 : PySem.W.nsIn K mainGlobals "_law_pen_of" = some (some (.ref f1)))
    (l1 : K.lookup f1 = some ⟨oc1, od1, .func (PySem.W.fnOf "_law_pen_of" "_law_pen_of" (defArgs (topS 51)) (defBody (topS 51)) (defScope (topS 51)) .none kV1 dc1 pm1 an1 cd1 ct1), sl1⟩)
    (c1 : PySem.W.codeIn K cd1 "_law_pen_of" = true)
    (k1 : PySem.W.keepIn K (.ref f1) = true)
    (a2 : PySem.W.nsIn K mainGlobals "_law_next" = some (some (.ref f2)))
    (l2 : K.lookup f2 = some ⟨oc2, od2, .func (PySem.W.fnOf "_law_next" "_law_next" (defArgs (topS 50)) (defBody (topS 50)) (defScope (topS 50)) .none kV2 dc2 pm2 an2 cd2 ct2), sl2⟩)
    (c2 : PySem.W.codeIn K cd2 "_law_next" = true)
    (k2 : PySem.W.keepIn K (.ref f2) = true)
    (a3 : PySem.W.nsIn K mainGlobals "_law_draw" = some (some (.ref f3)))
    (l3 : K.lookup f3 = some ⟨oc3, od3, .func (PySem.W.fnOf "_law_draw" "_law_draw" (defArgs (topS 52)) (defBody (topS 52)) (defScope (topS 52)) .none kV3 dc3 pm3 an3 cd3 ct3), sl3⟩)
    (c3 : PySem.W.codeIn K cd3 "_law_draw" = true)
    (k3 : PySem.W.keepIn K (.ref f3) = true)
    (a4 : PySem.W.nsIn K mainGlobals "_law_way" = some (some (.ref f4)))
    (l4 : K.lookup f4 = some ⟨oc4, od4, .func (PySem.W.fnOf "_law_way" "_law_way" (defArgs (topS 53)) (defBody (topS 53)) (defScope (topS 53)) .none kV4 dc4 pm4 an4 cd4 ct4), sl4⟩)
    (c4 : PySem.W.codeIn K cd4 "_law_way" = true)
    (k4 : PySem.W.keepIn K (.ref f4) = true)
    (a5 : PySem.W.nsIn K mainGlobals "_law_book" = some (some (.ref f5)))
    (l5 : K.lookup f5 = some ⟨oc5, od5, .func (PySem.W.fnOf "_law_book" "_law_book" (defArgs (topS 54)) (defBody (topS 54)) (defScope (topS 54)) .none kV5 dc5 pm5 an5 cd5 ct5), sl5⟩)
    (c5 : PySem.W.codeIn K cd5 "_law_book" = true)
    (k5 : PySem.W.keepIn K (.ref f5) = true)
    (a6 : PySem.W.nsIn K mainGlobals "is_integer" = some (some (.ref f6)))
    (l6 : K.lookup f6 = some ⟨oc6, od6, .func (PySem.W.fnOf "is_integer" "is_integer" (defArgs (topS 2)) (defBody (topS 2)) (defScope (topS 2)) .none kV6 dc6 pm6 an6 cd6 ct6), sl6⟩)
    (c6 : PySem.W.codeIn K cd6 "is_integer" = true)
    (k6 : PySem.W.keepIn K (.ref f6) = true)
    (a7 : PySem.W.nsIn K mainGlobals "is_item" = some (some (.ref f7)))
    (l7 : K.lookup f7 = some ⟨oc7, od7, .func (PySem.W.fnOf "is_item" "is_item" (defArgs (topS 3)) (defBody (topS 3)) (defScope (topS 3)) .none kV7 dc7 pm7 an7 cd7 ct7), sl7⟩)
    (c7 : PySem.W.codeIn K cd7 "is_item" = true)
    (k7 : PySem.W.keepIn K (.ref f7) = true)
    (a8 : PySem.W.nsIn K mainGlobals "is_set" = some (some (.ref f8)))
    (l8 : K.lookup f8 = some ⟨oc8, od8, .func (PySem.W.fnOf "is_set" "is_set" (defArgs (topS 4)) (defBody (topS 4)) (defScope (topS 4)) .none kV8 dc8 pm8 an8 cd8 ct8), sl8⟩)
    (c8 : PySem.W.codeIn K cd8 "is_set" = true)
    (k8 : PySem.W.keepIn K (.ref f8) = true)
    (a9 : PySem.W.nsIn K mainGlobals "mask_of" = some (some (.ref f9)))
    (l9 : K.lookup f9 = some ⟨oc9, od9, .func (PySem.W.fnOf "mask_of" "mask_of" (defArgs (topS 15)) (defBody (topS 15)) (defScope (topS 15)) .none kV9 dc9 pm9 an9 cd9 ct9), sl9⟩)
    (c9 : PySem.W.codeIn K cd9 "mask_of" = true)
    (k9 : PySem.W.keepIn K (.ref f9) = true)
    (a10 : PySem.W.findIn K (.ref C) "__len__" = some (some (.ref f10)))
    (i10 : PySem.W.isFn K (.ref f10) = true)
    (l10 : K.lookup f10 = some ⟨oc10, od10, .func (PySem.W.fnOf "__len__" "Course.__len__" (defArgs (inClass (topS 29) 5)) (defBody (inClass (topS 29) 5)) (defScope (inClass (topS 29) 5)) .none kV10 dc10 pm10 an10 cd10 ct10), sl10⟩)
    (c10 : PySem.W.codeIn K cd10 "Course.__len__" = true)
    (k10 : PySem.W.keepIn K (.ref f10) = true)
    (a11 : PySem.W.nsIn K mainGlobals "check_answers" = some (some (.ref f11)))
    (l11 : K.lookup f11 = some ⟨oc11, od11, .func (PySem.W.fnOf "check_answers" "check_answers" (defArgs (topS 43)) (defBody (topS 43)) (defScope (topS 43)) .none kV11 dc11 pm11 an11 cd11 ct11), sl11⟩)
    (c11 : PySem.W.codeIn K cd11 "check_answers" = true)
    (k11 : PySem.W.keepIn K (.ref f11) = true)
    (a12 : PySem.W.findIn K (.ref CS) "__init__" = some (some (.ref f12)))
    (i12 : PySem.W.isFn K (.ref f12) = true)
    (l12 : K.lookup f12 = some ⟨oc12, od12, .func (PySem.W.fnOf "__init__" "Cases.__init__" (defArgs (inClass (topS 46) 0)) (defBody (inClass (topS 46) 0)) (defScope (inClass (topS 46) 0)) .none kV12 dc12 pm12 an12 cd12 ct12), sl12⟩)
    (c12 : PySem.W.codeIn K cd12 "Cases.__init__" = true)
    (k12 : PySem.W.keepIn K (.ref f12) = true)
    (a13 : PySem.W.nsIn K mainGlobals "lies_within" = some (some (.ref f13)))
    (l13 : K.lookup f13 = some ⟨oc13, od13, .func (PySem.W.fnOf "lies_within" "lies_within" (defArgs (topS 18)) (defBody (topS 18)) (defScope (topS 18)) .none kV13 dc13 pm13 an13 cd13 ct13), sl13⟩)
    (c13 : PySem.W.codeIn K cd13 "lies_within" = true)
    (k13 : PySem.W.keepIn K (.ref f13) = true)
    (a14 : PySem.W.findIn K (.ref CS) "smallest_clash" = some (some (.ref f14)))
    (i14 : PySem.W.isFn K (.ref f14) = true)
    (l14 : K.lookup f14 = some ⟨oc14, od14, .func (PySem.W.fnOf "smallest_clash" "Cases.smallest_clash" (defArgs (inClass (topS 46) 3)) (defBody (inClass (topS 46) 3)) (defScope (inClass (topS 46) 3)) .none kV14 dc14 pm14 an14 cd14 ct14), sl14⟩)
    (c14 : PySem.W.codeIn K cd14 "Cases.smallest_clash" = true)
    (k14 : PySem.W.keepIn K (.ref f14) = true)
    (a15 : PySem.W.nsIn K mainGlobals "items_of" = some (some (.ref f15)))
    (l15 : K.lookup f15 = some ⟨oc15, od15, .func (PySem.W.fnOf "items_of" "items_of" (defArgs (topS 16)) (defBody (topS 16)) (defScope (topS 16)) .none kV15 dc15 pm15 an15 cd15 ct15), sl15⟩)
    (c15 : PySem.W.codeIn K cd15 "items_of" = true)
    (k15 : PySem.W.keepIn K (.ref f15) = true)
    (a16 : PySem.W.nsIn K mainGlobals "first_way" = some (some (.ref f16)))
    (l16 : K.lookup f16 = some ⟨oc16, od16, .func (PySem.W.fnOf "first_way" "first_way" (defArgs (topS 19)) (defBody (topS 19)) (defScope (topS 19)) .none kV16 dc16 pm16 an16 cd16 ct16), sl16⟩)
    (c16 : PySem.W.codeIn K cd16 "first_way" = true)
    (k16 : PySem.W.keepIn K (.ref f16) = true)
    (a17 : PySem.W.nsIn K mainGlobals "has_way" = some (some (.ref f17)))
    (l17 : K.lookup f17 = some ⟨oc17, od17, .func (PySem.W.fnOf "has_way" "has_way" (defArgs (topS 20)) (defBody (topS 20)) (defScope (topS 20)) .none kV17 dc17 pm17 an17 cd17 ct17), sl17⟩)
    (c17 : PySem.W.codeIn K cd17 "has_way" = true)
    (k17 : PySem.W.keepIn K (.ref f17) = true)
    (a18 : PySem.W.nsIn K mainGlobals "can_follow" = some (some (.ref f18)))
    (l18 : K.lookup f18 = some ⟨oc18, od18, .func (PySem.W.fnOf "can_follow" "can_follow" (defArgs (topS 21)) (defBody (topS 21)) (defScope (topS 21)) .none kV18 dc18 pm18 an18 cd18 ct18), sl18⟩)
    (c18 : PySem.W.codeIn K cd18 "can_follow" = true)
    (k18 : PySem.W.keepIn K (.ref f18) = true)
    (a19 : PySem.W.nsIn K mainGlobals "greatest_in" = some (some (.ref f19)))
    (l19 : K.lookup f19 = some ⟨oc19, od19, .func (PySem.W.fnOf "greatest_in" "greatest_in" (defArgs (topS 22)) (defBody (topS 22)) (defScope (topS 22)) .none kV19 dc19 pm19 an19 cd19 ct19), sl19⟩)
    (c19 : PySem.W.codeIn K cd19 "greatest_in" = true)
    (k19 : PySem.W.keepIn K (.ref f19) = true)
    (a20 : PySem.W.nsIn K mainGlobals "all_items" = some (some (.ref f20)))
    (l20 : K.lookup f20 = some ⟨oc20, od20, .func (PySem.W.fnOf "all_items" "all_items" (defArgs (topS 17)) (defBody (topS 17)) (defScope (topS 17)) .none kV20 dc20 pm20 an20 cd20 ct20), sl20⟩)
    (c20 : PySem.W.codeIn K cd20 "all_items" = true)
    (k20 : PySem.W.keepIn K (.ref f20) = true)
    (a21 : PySem.W.nsIn K mainGlobals "shuts_out" = some (some (.ref f21)))
    (l21 : K.lookup f21 = some ⟨oc21, od21, .func (PySem.W.fnOf "shuts_out" "shuts_out" (defArgs (topS 41)) (defBody (topS 41)) (defScope (topS 41)) .none kV21 dc21 pm21 an21 cd21 ct21), sl21⟩)
    (c21 : PySem.W.codeIn K cd21 "shuts_out" = true)
    (k21 : PySem.W.keepIn K (.ref f21) = true)
    (a22 : PySem.W.nsIn K mainGlobals "needed_noes" = some (some (.ref f22)))
    (l22 : K.lookup f22 = some ⟨oc22, od22, .func (PySem.W.fnOf "needed_noes" "needed_noes" (defArgs (topS 44)) (defBody (topS 44)) (defScope (topS 44)) .none kV22 dc22 pm22 an22 cd22 ct22), sl22⟩)
    (c22 : PySem.W.codeIn K cd22 "needed_noes" = true)
    (k22 : PySem.W.keepIn K (.ref f22) = true)
    (a23 : PySem.W.findIn K (.ref CS) "greatest" = some (some (.ref f23)))
    (i23 : PySem.W.isFn K (.ref f23) = true)
    (l23 : K.lookup f23 = some ⟨oc23, od23, .func (PySem.W.fnOf "greatest" "Cases.greatest" (defArgs (inClass (topS 46) 1)) (defBody (inClass (topS 46) 1)) (defScope (inClass (topS 46) 1)) .none kV23 dc23 pm23 an23 cd23 ct23), sl23⟩)
    (c23 : PySem.W.codeIn K cd23 "Cases.greatest" = true)
    (k23 : PySem.W.keepIn K (.ref f23) = true)
    (a24 : PySem.W.findIn K (.ref CS) "learn_clashes" = some (some (.ref f24)))
    (i24 : PySem.W.isFn K (.ref f24) = true)
    (l24 : K.lookup f24 = some ⟨oc24, od24, .func (PySem.W.fnOf "learn_clashes" "Cases.learn_clashes" (defArgs (inClass (topS 46) 4)) (defBody (inClass (topS 46) 4)) (defScope (inClass (topS 46) 4)) .none kV24 dc24 pm24 an24 cd24 ct24), sl24⟩)
    (c24 : PySem.W.codeIn K cd24 "Cases.learn_clashes" = true)
    (k24 : PySem.W.keepIn K (.ref f24) = true)
    (a25 : PySem.W.findIn K (.ref CS) "clash_within" = some (some (.ref f25)))
    (i25 : PySem.W.isFn K (.ref f25) = true)
    (l25 : K.lookup f25 = some ⟨oc25, od25, .func (PySem.W.fnOf "clash_within" "Cases.clash_within" (defArgs (inClass (topS 46) 2)) (defBody (inClass (topS 46) 2)) (defScope (inClass (topS 46) 2)) .none kV25 dc25 pm25 an25 cd25 ct25), sl25⟩)
    (c25 : PySem.W.codeIn K cd25 "Cases.clash_within" = true)
    (k25 : PySem.W.keepIn K (.ref f25) = true)
    (a26 : PySem.W.findIn K (.ref CS) "state_with" = some (some (.ref f26)))
    (i26 : PySem.W.isFn K (.ref f26) = true)
    (l26 : K.lookup f26 = some ⟨oc26, od26, .func (PySem.W.fnOf "state_with" "Cases.state_with" (defArgs (inClass (topS 46) 5)) (defBody (inClass (topS 46) 5)) (defScope (inClass (topS 46) 5)) .none kV26 dc26 pm26 an26 cd26 ct26), sl26⟩)
    (c26 : PySem.W.codeIn K cd26 "Cases.state_with" = true)
    (k26 : PySem.W.keepIn K (.ref f26) = true)
    (a27 : PySem.W.findIn K (.ref CS) "tree" = some (some (.ref f27)))
    (i27 : PySem.W.isFn K (.ref f27) = true)
    (l27 : K.lookup f27 = some ⟨oc27, od27, .func (PySem.W.fnOf "tree" "Cases.tree" (defArgs (inClass (topS 46) 6)) (defBody (inClass (topS 46) 6)) (defScope (inClass (topS 46) 6)) .none kV27 dc27 pm27 an27 cd27 ct27), sl27⟩)
    (c27 : PySem.W.codeIn K cd27 "Cases.tree" = true)
    (k27 : PySem.W.keepIn K (.ref f27) = true)
    (a28 : PySem.W.nsIn K mainGlobals "fewest_wrong" = some (some (.ref f28)))
    (l28 : K.lookup f28 = some ⟨oc28, od28, .func (PySem.W.fnOf "fewest_wrong" "fewest_wrong" (defArgs (topS 47)) (defBody (topS 47)) (defScope (topS 47)) .none kV28 dc28 pm28 an28 cd28 ct28), sl28⟩)
    (c28 : PySem.W.codeIn K cd28 "fewest_wrong" = true)
    (k28 : PySem.W.keepIn K (.ref f28) = true)
    (a29 : PySem.W.nsIn K mainGlobals "greatest" = some (some (.ref f29)))
    (l29 : K.lookup f29 = some ⟨oc29, od29, .func (PySem.W.fnOf "greatest" "greatest" (defArgs (topS 39)) (defBody (topS 39)) (defScope (topS 39)) (.ref t29) kV29 dc29 pm29 an29 cd29 ct29), sl29⟩)
    (d29 : K.lookup t29 = some ⟨otc29, otd29, .seq #[.ref e29] tn29, tsl29⟩)
    (c29 : PySem.W.codeIn K cd29 "greatest" = true)
    (k29 : PySem.W.keepIn K (.ref f29) = true)
    (a30 : PySem.W.nsIn K mainGlobals "_law_cell_at" = some (some (.ref f30)))
    (l30 : K.lookup f30 = some ⟨oc30, od30, .func (PySem.W.fnOf "_law_cell_at" "_law_cell_at" (defArgs (topS 49)) (defBody (topS 49)) (defScope (topS 49)) .none kV30 dc30 pm30 an30 cd30 ct30), sl30⟩)
    (c30 : PySem.W.codeIn K cd30 "_law_cell_at" = true)
    (k30 : PySem.W.keepIn K (.ref f30) = true)
    (a31 : PySem.W.nsIn K mainGlobals "is_entry" = some (some (.ref f31)))
    (l31 : K.lookup f31 = some ⟨oc31, od31, .func (PySem.W.fnOf "is_entry" "is_entry" (defArgs (topS 5)) (defBody (topS 5)) (defScope (topS 5)) .none kV31 dc31 pm31 an31 cd31 ct31), sl31⟩)
    (c31 : PySem.W.codeIn K cd31 "is_entry" = true)
    (k31 : PySem.W.keepIn K (.ref f31) = true)
    (a32 : PySem.W.nsIn K mainGlobals "is_ways" = some (some (.ref f32)))
    (l32 : K.lookup f32 = some ⟨oc32, od32, .func (PySem.W.fnOf "is_ways" "is_ways" (defArgs (topS 6)) (defBody (topS 6)) (defScope (topS 6)) .none kV32 dc32 pm32 an32 cd32 ct32), sl32⟩)
    (c32 : PySem.W.codeIn K cd32 "is_ways" = true)
    (k32 : PySem.W.keepIn K (.ref f32) = true)
    (a33 : PySem.W.nsIn K mainGlobals "rank_of" = some (some (.ref f33)))
    (l33 : K.lookup f33 = some ⟨oc33, od33, .func (PySem.W.fnOf "rank_of" "rank_of" (defArgs (topS 32)) (defBody (topS 32)) (defScope (topS 32)) .none kV33 dc33 pm33 an33 cd33 ct33), sl33⟩)
    (c33 : PySem.W.codeIn K cd33 "rank_of" = true)
    (k33 : PySem.W.keepIn K (.ref f33) = true)
    (a34 : PySem.W.nsIn K mainGlobals "in_order" = some (some (.ref f34)))
    (l34 : K.lookup f34 = some ⟨oc34, od34, .func (PySem.W.fnOf "in_order" "in_order" (defArgs (topS 33)) (defBody (topS 33)) (defScope (topS 33)) .none kV34 dc34 pm34 an34 cd34 ct34), sl34⟩)
    (c34 : PySem.W.codeIn K cd34 "in_order" = true)
    (k34 : PySem.W.keepIn K (.ref f34) = true)
    (a35 : PySem.W.nsIn K mainGlobals "tidy" = some (some (.ref f35)))
    (l35 : K.lookup f35 = some ⟨oc35, od35, .func (PySem.W.fnOf "tidy" "tidy" (defArgs (topS 34)) (defBody (topS 34)) (defScope (topS 34)) .none kV35 dc35 pm35 an35 cd35 ct35), sl35⟩)
    (c35 : PySem.W.codeIn K cd35 "tidy" = true)
    (k35 : PySem.W.keepIn K (.ref f35) = true)
    (a36 : PySem.W.nsIn K mainGlobals "masks_of" = some (some (.ref f36)))
    (l36 : K.lookup f36 = some ⟨oc36, od36, .func (PySem.W.fnOf "masks_of" "masks_of" (defArgs (topS 35)) (defBody (topS 35)) (defScope (topS 35)) .none kV36 dc36 pm36 an36 cd36 ct36), sl36⟩)
    (c36 : PySem.W.codeIn K cd36 "masks_of" = true)
    (k36 : PySem.W.keepIn K (.ref f36) = true)
    (a37 : PySem.W.findIn K (.ref C) "__init__" = some (some (.ref f37)))
    (i37 : PySem.W.isFn K (.ref f37) = true)
    (l37 : K.lookup f37 = some ⟨oc37, od37, .func (PySem.W.fnOf "__init__" "Course.__init__" (defArgs (inClass (topS 29) 1)) (defBody (inClass (topS 29) 1)) (defScope (inClass (topS 29) 1)) .none kV37 dc37 pm37 an37 cd37 ct37), sl37⟩)
    (c37 : PySem.W.codeIn K cd37 "Course.__init__" = true)
    (k37 : PySem.W.keepIn K (.ref f37) = true)
    (a38 : PySem.W.nsIn K mainGlobals "_law_few" = some (some (.ref f38)))
    (l38 : K.lookup f38 = some ⟨oc38, od38, .func (PySem.W.fnOf "_law_few" "_law_few" (defArgs (topS 55)) (defBody (topS 55)) (defScope (topS 55)) .none kV38 dc38 pm38 an38 cd38 ct38), sl38⟩)
    (c38 : PySem.W.codeIn K cd38 "_law_few" = true)
    (k38 : PySem.W.keepIn K (.ref f38) = true)
    (a39 : PySem.W.nsIn K mainGlobals "is_state_mask" = some (some (.ref f39)))
    (l39 : K.lookup f39 = some ⟨oc39, od39, .func (PySem.W.fnOf "is_state_mask" "is_state_mask" (defArgs (topS 23)) (defBody (topS 23)) (defScope (topS 23)) .none kV39 dc39 pm39 an39 cd39 ct39), sl39⟩)
    (c39 : PySem.W.codeIn K cd39 "is_state_mask" = true)
    (k39 : PySem.W.keepIn K (.ref f39) = true)
    (a40 : PySem.W.findIn K (.ref C) "__contains__" = some (some (.ref f40)))
    (i40 : PySem.W.isFn K (.ref f40) = true)
    (l40 : K.lookup f40 = some ⟨oc40, od40, .func (PySem.W.fnOf "__contains__" "Course.__contains__" (defArgs (inClass (topS 29) 8)) (defBody (inClass (topS 29) 8)) (defScope (inClass (topS 29) 8)) .none kV40 dc40 pm40 an40 cd40 ct40), sl40⟩)
    (c40 : PySem.W.codeIn K cd40 "Course.__contains__" = true)
    (k40 : PySem.W.keepIn K (.ref f40) = true)
    (a41 : PySem.W.nsIn K mainGlobals "_law_is" = some (some (.ref f41)))
    (l41 : K.lookup f41 = some ⟨oc41, od41, .func (PySem.W.fnOf "_law_is" "_law_is" (defArgs (topS 58)) (defBody (topS 58)) (defScope (topS 58)) .none kV41 dc41 pm41 an41 cd41 ct41), sl41⟩)
    (c41 : PySem.W.codeIn K cd41 "_law_is" = true)
    (k41 : PySem.W.keepIn K (.ref f41) = true)
    (a42 : PySem.W.nsIn K mainGlobals "_law_has" = some (some (.ref f42)))
    (l42 : K.lookup f42 = some ⟨oc42, od42, .func (PySem.W.fnOf "_law_has" "_law_has" (defArgs (topS 56)) (defBody (topS 56)) (defScope (topS 56)) .none kV42 dc42 pm42 an42 cd42 ct42), sl42⟩)
    (c42 : PySem.W.codeIn K cd42 "_law_has" = true)
    (k42 : PySem.W.keepIn K (.ref f42) = true)
    (a43 : PySem.W.nsIn K mainGlobals "_law_closed" = some (some (.ref f43)))
    (l43 : K.lookup f43 = some ⟨oc43, od43, .func (PySem.W.fnOf "_law_closed" "_law_closed" (defArgs (topS 59)) (defBody (topS 59)) (defScope (topS 59)) .none kV43 dc43 pm43 an43 cd43 ct43), sl43⟩)
    (c43 : PySem.W.codeIn K cd43 "_law_closed" = true)
    (k43 : PySem.W.keepIn K (.ref f43) = true)
    (a44 : PySem.W.nsIn K mainGlobals "_law_top" = some (some (.ref f44)))
    (l44 : K.lookup f44 = some ⟨oc44, od44, .func (PySem.W.fnOf "_law_top" "_law_top" (defArgs (topS 57)) (defBody (topS 57)) (defScope (topS 57)) .none kV44 dc44 pm44 an44 cd44 ct44), sl44⟩)
    (c44 : PySem.W.codeIn K cd44 "_law_top" = true)
    (k44 : PySem.W.keepIn K (.ref f44) = true)
    (a45 : PySem.W.nsIn K mainGlobals "_law_less" = some (some (.ref f45)))
    (l45 : K.lookup f45 = some ⟨oc45, od45, .func (PySem.W.fnOf "_law_less" "_law_less" (defArgs (topS 60)) (defBody (topS 60)) (defScope (topS 60)) .none kV45 dc45 pm45 an45 cd45 ct45), sl45⟩)
    (c45 : PySem.W.codeIn K cd45 "_law_less" = true)
    (k45 : PySem.W.keepIn K (.ref f45) = true)
    (a46 : PySem.W.nsIn K mainGlobals "_law_shows" = some (some (.ref f46)))
    (l46 : K.lookup f46 = some ⟨oc46, od46, .func (PySem.W.fnOf "_law_shows" "_law_shows" (defArgs (topS 61)) (defBody (topS 61)) (defScope (topS 61)) .none kV46 dc46 pm46 an46 cd46 ct46), sl46⟩)
    (c46 : PySem.W.codeIn K cd46 "_law_shows" = true)
    (k46 : PySem.W.keepIn K (.ref f46) = true)
    (a47 : PySem.W.nsIn K mainGlobals "law" = some (some (.ref f47)))
    (l47 : K.lookup f47 = some ⟨oc47, od47, .func (PySem.W.fnOf "law" "law" (defArgs (topS 62)) (defBody (topS 62)) (defScope (topS 62)) .none kV47 dc47 pm47 an47 cd47 ct47), sl47⟩)
    (c47 : PySem.W.codeIn K cd47 "law" = true)
    (k47 : PySem.W.keepIn K (.ref f47) = true)
    (pg : PySem.W.plainGet K C Str.empty = true)
    (hd : PySem.W.hasDictIn K C = true)
    (po : PySem.W.plainOver K C = true)
    (sa : PySem.W.findIn K (.ref C) "__setattr__" = some (some (.builtin "object.__setattr__")))
    (mk : PySem.W.makesIn K C = true)
    (kc : PySem.W.keepIn K (.ref C) = true)
    (nB : PySem.W.findIn K (.ref C) "book" = some none)
    (nW : PySem.W.findIn K (.ref C) "_ways" = some none)
    (rd : PySem.W.readsIn K C (.type "type") = true)
    (ga : PySem.W.specialIn K (.ref C) "__getattribute__" = some (some (.builtin "type.__getattribute__")))
    (mo : PySem.W.findCls K (.ref C) (.type "type") "MOST" = some (.val (.int 24 mt)))
    (z_len : PySem.W.nsIn K mainGlobals "len" = some none)
    (z_range : PySem.W.nsIn K mainGlobals "range" = some none)
    (z_tuple : PySem.W.nsIn K mainGlobals "tuple" = some none)
    (z_list : PySem.W.nsIn K mainGlobals "list" = some none)
    (z_int : PySem.W.nsIn K mainGlobals "int" = some none)
    (z_bool : PySem.W.nsIn K mainGlobals "bool" = some none)
    (z_str : PySem.W.nsIn K mainGlobals "str" = some none)
    (z_isinstance : PySem.W.nsIn K mainGlobals "isinstance" = some none)
    (z_max : PySem.W.nsIn K mainGlobals "max" = some none)
    (z_sorted : PySem.W.nsIn K mainGlobals "sorted" = some none)
    (z_sum : PySem.W.nsIn K mainGlobals "sum" = some none)
    (z_all : PySem.W.nsIn K mainGlobals "all" = some none)
    (z_any : PySem.W.nsIn K mainGlobals "any" = some none)
    (z_repr : PySem.W.nsIn K mainGlobals "repr" = some none)
    (z_enumerate : PySem.W.nsIn K mainGlobals "enumerate" = some none)
    (z_zip : PySem.W.nsIn K mainGlobals "zip" = some none)
    (z_reversed : PySem.W.nsIn K mainGlobals "reversed" = some none) :
    ∃ fd : FuncData, (∀ (s : Shared) (v : Value), BindsTo s fd ⟨[v], []⟩ [("_law_script", v)]) ∧ ∀ base : Heap, K.In base → base.Ns mainGlobals mg → FnG PySem.Challenge.rw_learnways_k34_whole_case_trees_and_state.prog w K mg base 40 fa fd ["_law_script"] (spOf K F_law) := by
  have e := hfa.symm.trans (PySem.W.mg_of X G a47)
  cases e
  have T : Tx mg := ⟨PySem.W.mg_none_of X G z_len, PySem.W.mg_none_of X G z_range, PySem.W.mg_none_of X G z_tuple, PySem.W.mg_none_of X G z_list, PySem.W.mg_none_of X G z_int, PySem.W.mg_none_of X G z_bool, PySem.W.mg_none_of X G z_str, PySem.W.mg_none_of X G z_isinstance, PySem.W.mg_none_of X G z_max, PySem.W.mg_none_of X G z_sorted, PySem.W.mg_none_of X G z_sum, PySem.W.mg_none_of X G z_all, PySem.W.mg_none_of X G z_any, PySem.W.mg_none_of X G z_repr, PySem.W.mg_none_of X G z_enumerate, PySem.W.mg_none_of X G z_zip, PySem.W.mg_none_of X G z_reversed⟩
  have cl : Cls K C := ⟨pg, hd, po, sa⟩
  have U : CrsG K mg C := ⟨cl, nB, nW, ⟨PySem.W.mg_of X G aC, _, _, ⟨rd, ga⟩, ⟨mo, ⟨_, rfl⟩⟩⟩⟩
  have UC : CasG K CS := ⟨⟨pgS, hdS, poS, saS⟩, nSbook, nSknown, nSlacked, nSclashes, nStrees⟩
  have E_NoSet : ExcG K mg "NoSet" X_NoSet := ⟨PySem.W.mg_of X G aX_NoSet, kX_NoSet, ⟨_, _, _, _, PySem.F.excBase_ValueError, eX_NoSet⟩, sX_NoSet, tX_NoSet⟩
  have E_NoAnswers : ExcG K mg "NoAnswers" X_NoAnswers := ⟨PySem.W.mg_of X G aX_NoAnswers, kX_NoAnswers, ⟨_, _, _, _, PySem.F.excBase_ValueError, eX_NoAnswers⟩, sX_NoAnswers, tX_NoAnswers⟩
  have E_NoCourse : ExcG K mg "NoCourse" X_NoCourse := ⟨PySem.W.mg_of X G aX_NoCourse, kX_NoCourse, ⟨_, _, _, _, PySem.F.excBase_ValueError, eX_NoCourse⟩, sX_NoCourse, tX_NoCourse⟩
  have N1 := fun_mk (st := (topS 51)) l1 c1 k1
  have B1 := N1.binds (ps := ["_law_cell"]) fun _ _ _ _ _ _ => ulen1 (fun _ => rfl)
  have N2 := fun_mk (st := (topS 50)) l2 c2 k2
  have B2 := N2.binds (ps := ["_law_root"]) fun _ _ _ _ _ _ => ulen1 (fun _ => rfl)
  have N3 := fun_mk (st := (topS 52)) l3 c3 k3
  have B3 := N3.binds (ps := ["_law_pen", "_law_many"]) fun _ _ _ _ _ _ => ulen2 (fun _  _ => rfl)
  have N4 := fun_mk (st := (topS 53)) l4 c4 k4
  have B4 := N4.binds (ps := ["_law_pen", "_law_n", "_law_item", "_law_most"]) fun _ _ _ _ _ _ => ulen4 (fun _  _  _  _ => rfl)
  have N5 := fun_mk (st := (topS 54)) l5 c5 k5
  have B5 := N5.binds (ps := ["_law_pen", "_law_most"]) fun _ _ _ _ _ _ => ulen2 (fun _  _ => rfl)
  have N6 := fun_mk (st := (topS 2)) l6 c6 k6
  have B6 := N6.binds (ps := ["value"]) fun _ _ _ _ _ _ => ulen1 (fun _ => rfl)
  have N7 := fun_mk (st := (topS 3)) l7 c7 k7
  have B7 := N7.binds (ps := ["value", "count"]) fun _ _ _ _ _ _ => ulen2 (fun _  _ => rfl)
  have N8 := fun_mk (st := (topS 4)) l8 c8 k8
  have B8 := N8.binds (ps := ["value", "count"]) fun _ _ _ _ _ _ => ulen2 (fun _  _ => rfl)
  have N9 := fun_mk (st := (topS 15)) l9 c9 k9
  have B9 := N9.binds (ps := ["items"]) fun _ _ _ _ _ _ => ulen1 (fun _ => rfl)
  have N10 := fun_mk (st := (inClass (topS 29) 5)) l10 c10 k10
  have B10 := N10.binds (ps := ["self"]) fun _ _ _ _ _ _ => ulen1 (fun _ => rfl)
  have N11 := fun_mk (st := (topS 43)) l11 c11 k11
  have B11 := N11.binds (ps := ["course", "yes", "no"]) fun _ _ _ _ _ _ => ulen3 (fun _  _  _ => rfl)
  have N12 := fun_mk (st := (inClass (topS 46) 0)) l12 c12 k12
  have B12 := N12.binds (ps := ["self", "book", "known", "lacked"]) fun _ _ _ _ _ _ => ulen4 (fun _  _  _  _ => rfl)
  have N13 := fun_mk (st := (topS 18)) l13 c13 k13
  have B13 := N13.binds (ps := ["way", "items"]) fun _ _ _ _ _ _ => ulen2 (fun _  _ => rfl)
  have N14 := fun_mk (st := (inClass (topS 46) 3)) l14 c14 k14
  have B14 := N14.binds (ps := ["self", "right"]) fun _ _ _ _ _ _ => ulen2 (fun _  _ => rfl)
  have N15 := fun_mk (st := (topS 16)) l15 c15 k15
  have B15 := N15.binds (ps := ["mask"]) fun _ _ _ _ _ _ => ulen1 (fun _ => rfl)
  have N16 := fun_mk (st := (topS 19)) l16 c16 k16
  have B16 := N16.binds (ps := ["ways", "items"]) fun _ _ _ _ _ _ => ulen2 (fun _  _ => rfl)
  have N17 := fun_mk (st := (topS 20)) l17 c17 k17
  have B17 := N17.binds (ps := ["ways", "items"]) fun _ _ _ _ _ _ => ulen2 (fun _  _ => rfl)
  have N18 := fun_mk (st := (topS 21)) l18 c18 k18
  have B18 := N18.binds (ps := ["books", "item", "done"]) fun _ _ _ _ _ _ => ulen3 (fun _  _  _ => rfl)
  have N19 := fun_mk (st := (topS 22)) l19 c19 k19
  have B19 := N19.binds (ps := ["books", "allowed"]) fun _ _ _ _ _ _ => ulen2 (fun _  _ => rfl)
  have N20 := fun_mk (st := (topS 17)) l20 c20 k20
  have B20 := N20.binds (ps := ["count"]) fun _ _ _ _ _ _ => ulen1 (fun _ => rfl)
  have N21 := fun_mk (st := (topS 41)) l21 c21 k21
  have B21 := N21.binds (ps := ["book", "gate", "item"]) fun _ _ _ _ _ _ => ulen3 (fun _  _  _ => rfl)
  have N22 := fun_mk (st := (topS 44)) l22 c22 k22
  have B22 := N22.binds (ps := ["book", "item", "no"]) fun _ _ _ _ _ _ => ulen3 (fun _  _  _ => rfl)
  have N23 := fun_mk (st := (inClass (topS 46) 1)) l23 c23 k23
  have B23 := N23.binds (ps := ["self", "right"]) fun _ _ _ _ _ _ => ulen2 (fun _  _ => rfl)
  have N24 := fun_mk (st := (inClass (topS 46) 4)) l24 c24 k24
  have B24 := N24.binds (ps := ["self", "right"]) fun _ _ _ _ _ _ => ulen2 (fun _  _ => rfl)
  have N25 := fun_mk (st := (inClass (topS 46) 2)) l25 c25 k25
  have B25 := N25.binds (ps := ["self", "right"]) fun _ _ _ _ _ _ => ulen2 (fun _  _ => rfl)
  have N26 := fun_mk (st := (inClass (topS 46) 5)) l26 c26 k26
  have B26 := N26.binds (ps := ["self", "right", "fixed", "k"]) fun _ _ _ _ _ _ => ulen4 (fun _  _  _  _ => rfl)
  have N27 := fun_mk (st := (inClass (topS 46) 6)) l27 c27 k27
  have B27 := N27.binds (ps := ["self", "right", "k"]) fun _ _ _ _ _ _ => ulen3 (fun _  _  _ => rfl)
  have N28 := fun_mk (st := (topS 47)) l28 c28 k28
  have B28 := N28.binds (ps := ["course", "yes", "no"]) fun _ _ _ _ _ _ => ulen3 (fun _  _  _ => rfl)
  have N29 : FunD K "greatest" "greatest" (defArgs (topS 39)) (defBody (topS 39)) (defScope (topS 39)) [V.ref e29] [] f29 _ := ⟨⟨_, _, _, _, _, _, _, _, _, _, rfl, l29, c29, .inr ⟨by simp, _, _, [.ref e29], _, rfl, d29, rfl, .cons rfl .nil⟩, .inl rfl⟩, k29⟩
  have B29 := binds_all1 (ps := ["course", "avoided"]) N29 fun _ _ _ _ _ _ _ us its hl hi => match us, hl, its, hi with | [_, _], _, [_], _ => ⟨_, rfl, rfl⟩
  have N30 := fun_mk (st := (topS 49)) l30 c30 k30
  have B30 := N30.binds (ps := ["_law_script", "_law_k"]) fun _ _ _ _ _ _ => ulen2 (fun _  _ => rfl)
  have N31 := fun_mk (st := (topS 5)) l31 c31 k31
  have B31 := N31.binds (ps := ["value", "item", "count"]) fun _ _ _ _ _ _ => ulen3 (fun _  _  _ => rfl)
  have N32 := fun_mk (st := (topS 6)) l32 c32 k32
  have B32 := N32.binds (ps := ["value", "most"]) fun _ _ _ _ _ _ => ulen2 (fun _  _ => rfl)
  have N33 := fun_mk (st := (topS 32)) l33 c33 k33
  have B33 := N33.binds (ps := ["way"]) fun _ _ _ _ _ _ => ulen1 (fun _ => rfl)
  have N34 := fun_mk (st := (topS 33)) l34 c34 k34
  have B34 := N34.binds (ps := ["ways"]) fun _ _ _ _ _ _ => ulen1 (fun _ => rfl)
  have N35 := fun_mk (st := (topS 34)) l35 c35 k35
  have B35 := N35.binds (ps := ["ways"]) fun _ _ _ _ _ _ => ulen1 (fun _ => rfl)
  have N36 := fun_mk (st := (topS 35)) l36 c36 k36
  have B36 := N36.binds (ps := ["ways"]) fun _ _ _ _ _ _ => ulen1 (fun _ => rfl)
  have N37 := fun_mk (st := (inClass (topS 29) 1)) l37 c37 k37
  have B37 := N37.binds (ps := ["self", "ways"]) fun _ _ _ _ _ _ => ulen2 (fun _  _ => rfl)
  have N38 := fun_mk (st := (topS 55)) l38 c38 k38
  have B38 := N38.binds (ps := ["_law_pen", "_law_n", "_law_most"]) fun _ _ _ _ _ _ => ulen3 (fun _  _  _ => rfl)
  have N39 := fun_mk (st := (topS 23)) l39 c39 k39
  have B39 := N39.binds (ps := ["book", "items"]) fun _ _ _ _ _ _ => ulen2 (fun _  _ => rfl)
  have N40 := fun_mk (st := (inClass (topS 29) 8)) l40 c40 k40
  have B40 := N40.binds (ps := ["self", "value"]) fun _ _ _ _ _ _ => ulen2 (fun _  _ => rfl)
  have N41 := fun_mk (st := (topS 58)) l41 c41 k41
  have B41 := N41.binds (ps := ["_law_value", "_law_due"]) fun _ _ _ _ _ _ => ulen2 (fun _  _ => rfl)
  have N42 := fun_mk (st := (topS 56)) l42 c42 k42
  have B42 := N42.binds (ps := ["_law_entry", "_law_known"]) fun _ _ _ _ _ _ => ulen2 (fun _  _ => rfl)
  have N43 := fun_mk (st := (topS 59)) l43 c43 k43
  have B43 := N43.binds (ps := ["_law_book_here", "_law_avoided", "_law_row"]) fun _ _ _ _ _ _ => ulen3 (fun _  _  _ => rfl)
  have N44 := fun_mk (st := (topS 57)) l44 c44 k44
  have B44 := N44.binds (ps := ["_law_book_here", "_law_avoided"]) fun _ _ _ _ _ _ => ulen2 (fun _  _ => rfl)
  have N45 := fun_mk (st := (topS 60)) l45 c45 k45
  have B45 := N45.binds (ps := ["_law_row", "_law_item"]) fun _ _ _ _ _ _ => ulen2 (fun _  _ => rfl)
  have N46 := fun_mk (st := (topS 61)) l46 c46 k46
  have B46 := N46.binds (ps := ["_law_book_here", "_law_yes", "_law_no", "_law_k", "_law_value"]) fun _ _ _ _ _ _ => ulen5 (fun _  _  _  _  _ => rfl)
  have N47 := fun_mk (st := (topS 62)) l47 c47 k47
  have B47 := N47.binds (ps := ["_law_script"]) fun _ _ _ _ _ _ => ulen1 (fun _ => rfl)
  refine ⟨PySem.W.fnOf "law" "law" (defArgs (topS 62)) (defBody (topS 62)) (defScope (topS 62)) .none kV47 dc47 pm47 an47 cd47 ct47, fun s v => .of_eq rfl, fun base _ _ => ?_⟩
  have Q1 : FnG PySem.Challenge.rw_learnways_k34_whole_case_trees_and_state.prog w K mg base 1 _ _ ["_law_cell"] (spOf K (F__law_pen_of)) := g__law_pen_of N1 T s__law_pen_of
  have C__law_pen_of : CalG PySem.Challenge.rw_learnways_k34_whole_case_trees_and_state.prog w K mg base 1 "_law_pen_of" (spOf K (F__law_pen_of)) [] := ⟨_, _, _, _, Q1, PySem.W.mg_of X G a1, k1, B1, .nil⟩
  have Q2 : FnG PySem.Challenge.rw_learnways_k34_whole_case_trees_and_state.prog w K mg base 1 _ _ ["_law_root"] (spOf K (F__law_next)) := g__law_next N2 T s__law_next
  have C__law_next : CalG PySem.Challenge.rw_learnways_k34_whole_case_trees_and_state.prog w K mg base 1 "_law_next" (spOf K (F__law_next)) [] := ⟨_, _, _, _, Q2, PySem.W.mg_of X G a2, k2, B2, .nil⟩
  have Q3 : FnG PySem.Challenge.rw_learnways_k34_whole_case_trees_and_state.prog w K mg base 2 _ _ ["_law_pen", "_law_many"] (spOf K (F__law_draw)) := g__law_draw N3 T C__law_next s__law_draw
  have C__law_draw : CalG PySem.Challenge.rw_learnways_k34_whole_case_trees_and_state.prog w K mg base 2 "_law_draw" (spOf K (F__law_draw)) [] := ⟨_, _, _, _, Q3, PySem.W.mg_of X G a3, k3, B3, .nil⟩
  have Q4 : FnG PySem.Challenge.rw_learnways_k34_whole_case_trees_and_state.prog w K mg base 3 _ _ ["_law_pen", "_law_n", "_law_item", "_law_most"] (spOf K (F__law_way)) := g__law_way N4 T C__law_draw s__law_way
  have C__law_way : CalG PySem.Challenge.rw_learnways_k34_whole_case_trees_and_state.prog w K mg base 3 "_law_way" (spOf K (F__law_way)) [] := ⟨_, _, _, _, Q4, PySem.W.mg_of X G a4, k4, B4, .nil⟩
  have Q5 : FnG PySem.Challenge.rw_learnways_k34_whole_case_trees_and_state.prog w K mg base 4 _ _ ["_law_pen", "_law_most"] (spOf K (F__law_book)) := g__law_book N5 T C__law_draw C__law_way s__law_book
  have C__law_book : CalG PySem.Challenge.rw_learnways_k34_whole_case_trees_and_state.prog w K mg base 4 "_law_book" (spOf K (F__law_book)) [] := ⟨_, _, _, _, Q5, PySem.W.mg_of X G a5, k5, B5, .nil⟩
  have Q6 : FnG PySem.Challenge.rw_learnways_k34_whole_case_trees_and_state.prog w K mg base 1 _ _ ["value"] (spOf K (F_is_integer)) := g_is_integer N6 T s_is_integer
  have C_is_integer : CalG PySem.Challenge.rw_learnways_k34_whole_case_trees_and_state.prog w K mg base 1 "is_integer" (spOf K (F_is_integer)) [] := ⟨_, _, _, _, Q6, PySem.W.mg_of X G a6, k6, B6, .nil⟩
  have Q7 : FnG PySem.Challenge.rw_learnways_k34_whole_case_trees_and_state.prog w K mg base 2 _ _ ["value", "count"] (spOf K (F_is_item)) := g_is_item N7 T C_is_integer s_is_item
  have C_is_item : CalG PySem.Challenge.rw_learnways_k34_whole_case_trees_and_state.prog w K mg base 2 "is_item" (spOf K (F_is_item)) [] := ⟨_, _, _, _, Q7, PySem.W.mg_of X G a7, k7, B7, .nil⟩
  have Q8 : FnG PySem.Challenge.rw_learnways_k34_whole_case_trees_and_state.prog w K mg base 3 _ _ ["value", "count"] (spOf K (F_is_set)) := g_is_set N8 T C_is_item s_is_set
  have C_is_set : CalG PySem.Challenge.rw_learnways_k34_whole_case_trees_and_state.prog w K mg base 3 "is_set" (spOf K (F_is_set)) [] := ⟨_, _, _, _, Q8, PySem.W.mg_of X G a8, k8, B8, .nil⟩
  have Q9 : FnG PySem.Challenge.rw_learnways_k34_whole_case_trees_and_state.prog w K mg base 1 _ _ ["items"] (spOf K (F_mask_of)) := g_mask_of N9 T s_mask_of
  have C_mask_of : CalG PySem.Challenge.rw_learnways_k34_whole_case_trees_and_state.prog w K mg base 1 "mask_of" (spOf K (F_mask_of)) [] := ⟨_, _, _, _, Q9, PySem.W.mg_of X G a9, k9, B9, .nil⟩
  have Q10 : FnG PySem.Challenge.rw_learnways_k34_whole_case_trees_and_state.prog w K mg base 1 _ _ ["self"] (spOf K (F_Course___len__ C)) := g_Course___len__ N10 T U (s_Course___len__ C)
  have M_len : MetG PySem.Challenge.rw_learnways_k34_whole_case_trees_and_state.prog w K mg base 1 C "__len__" (spOf K (F_Course___len__ C)) := ⟨cl, _, _, _, Q10, ⟨a10, i10, k10⟩, B10⟩
  have Q11 : FnG PySem.Challenge.rw_learnways_k34_whole_case_trees_and_state.prog w K mg base 4 _ _ ["course", "yes", "no"] (spOf K (F_check_answers C X_NoSet X_NoAnswers)) := g_check_answers N11 T E_NoSet E_NoAnswers C_is_set M_len (hC_len C) C_mask_of (s_check_answers C X_NoSet X_NoAnswers)
  have C_check_answers : CalG PySem.Challenge.rw_learnways_k34_whole_case_trees_and_state.prog w K mg base 4 "check_answers" (spOf K (F_check_answers C X_NoSet X_NoAnswers)) [] := ⟨_, _, _, _, Q11, PySem.W.mg_of X G a11, k11, B11, .nil⟩
  have Q12 : FnG PySem.Challenge.rw_learnways_k34_whole_case_trees_and_state.prog w K mg base 1 _ _ ["self", "book", "known", "lacked"] (spR K (F_casInit CS)) := g_Cases___init__ N12 T UC (s_Cases_init CS)
  have M_Cases___init__ : MakR PySem.Challenge.rw_learnways_k34_whole_case_trees_and_state.prog w K mg base 1 "Cases" CS (F_casInit CS) := ⟨PySem.W.mg_of X G aCS, _, _, _, Q12, ⟨mkS, a12, i12, kcS⟩, B12⟩
  have Q13 : FnG PySem.Challenge.rw_learnways_k34_whole_case_trees_and_state.prog w K mg base 1 _ _ ["way", "items"] (spOf K (F_lies_within)) := g_lies_within N13 T s_lies_within
  have C_lies_within : CalG PySem.Challenge.rw_learnways_k34_whole_case_trees_and_state.prog w K mg base 1 "lies_within" (spOf K (F_lies_within)) [] := ⟨_, _, _, _, Q13, PySem.W.mg_of X G a13, k13, B13, .nil⟩
  have Q14 : FnG PySem.Challenge.rw_learnways_k34_whole_case_trees_and_state.prog w K mg base 2 _ _ ["self", "right"] (spR K (F_smallest CS)) := g_Cases_smallest_clash N14 T UC C_lies_within C_mask_of (s_Cases_smallest CS)
  have M_Cases_smallest_clash := (⟨UC.cls, _, _, _, Q14, ⟨a14, i14, k14⟩, B14⟩ : MetG PySem.Challenge.rw_learnways_k34_whole_case_trees_and_state.prog w K mg base 2 CS "smallest_clash" (spR K (F_smallest CS)))
  have Q15 : FnG PySem.Challenge.rw_learnways_k34_whole_case_trees_and_state.prog w K mg base 1 _ _ ["mask"] (spOf K (F_items_of)) := g_items_of N15 T s_items_of
  have C_items_of : CalG PySem.Challenge.rw_learnways_k34_whole_case_trees_and_state.prog w K mg base 1 "items_of" (spOf K (F_items_of)) [] := ⟨_, _, _, _, Q15, PySem.W.mg_of X G a15, k15, B15, .nil⟩
  have Q16 : FnG PySem.Challenge.rw_learnways_k34_whole_case_trees_and_state.prog w K mg base 2 _ _ ["ways", "items"] (spOf K (F_first_way)) := g_first_way N16 T C_lies_within s_first_way
  have C_first_way : CalG PySem.Challenge.rw_learnways_k34_whole_case_trees_and_state.prog w K mg base 2 "first_way" (spOf K (F_first_way)) [] := ⟨_, _, _, _, Q16, PySem.W.mg_of X G a16, k16, B16, .nil⟩
  have Q17 : FnG PySem.Challenge.rw_learnways_k34_whole_case_trees_and_state.prog w K mg base 3 _ _ ["ways", "items"] (spOf K (F_has_way)) := g_has_way N17 T C_first_way s_has_way
  have C_has_way : CalG PySem.Challenge.rw_learnways_k34_whole_case_trees_and_state.prog w K mg base 3 "has_way" (spOf K (F_has_way)) [] := ⟨_, _, _, _, Q17, PySem.W.mg_of X G a17, k17, B17, .nil⟩
  have Q18 : FnG PySem.Challenge.rw_learnways_k34_whole_case_trees_and_state.prog w K mg base 4 _ _ ["books", "item", "done"] (spOf K (F_can_follow)) := g_can_follow N18 T C_has_way s_can_follow
  have C_can_follow : CalG PySem.Challenge.rw_learnways_k34_whole_case_trees_and_state.prog w K mg base 4 "can_follow" (spOf K (F_can_follow)) [] := ⟨_, _, _, _, Q18, PySem.W.mg_of X G a18, k18, B18, .nil⟩
  have Q19 : FnG PySem.Challenge.rw_learnways_k34_whole_case_trees_and_state.prog w K mg base 5 _ _ ["books", "allowed"] (spOf K (F_greatest_in)) := g_greatest_in N19 T C_items_of C_can_follow s_greatest_in
  have C_greatest_in : CalG PySem.Challenge.rw_learnways_k34_whole_case_trees_and_state.prog w K mg base 5 "greatest_in" (spOf K (F_greatest_in)) [] := ⟨_, _, _, _, Q19, PySem.W.mg_of X G a19, k19, B19, .nil⟩
  have Q20 : FnG PySem.Challenge.rw_learnways_k34_whole_case_trees_and_state.prog w K mg base 1 _ _ ["count"] (spOf K (F_all_items)) := g_all_items N20 T s_all_items
  have C_all_items : CalG PySem.Challenge.rw_learnways_k34_whole_case_trees_and_state.prog w K mg base 1 "all_items" (spOf K (F_all_items)) [] := ⟨_, _, _, _, Q20, PySem.W.mg_of X G a20, k20, B20, .nil⟩
  have Q21 : FnG PySem.Challenge.rw_learnways_k34_whole_case_trees_and_state.prog w K mg base 6 _ _ ["book", "gate", "item"] (spOf K (F_shuts_out)) := g_shuts_out N21 T C_greatest_in C_all_items s_shuts_out
  have C_shuts_out : CalG PySem.Challenge.rw_learnways_k34_whole_case_trees_and_state.prog w K mg base 6 "shuts_out" (spOf K (F_shuts_out)) [] := ⟨_, _, _, _, Q21, PySem.W.mg_of X G a21, k21, B21, .nil⟩
  have Q22 : FnG PySem.Challenge.rw_learnways_k34_whole_case_trees_and_state.prog w K mg base 7 _ _ ["book", "item", "no"] (spOf K (F_needed_noes)) := g_needed_noes N22 T C_mask_of C_shuts_out C_items_of s_needed_noes
  have C_needed_noes : CalG PySem.Challenge.rw_learnways_k34_whole_case_trees_and_state.prog w K mg base 7 "needed_noes" (spOf K (F_needed_noes)) [] := ⟨_, _, _, _, Q22, PySem.W.mg_of X G a22, k22, B22, .nil⟩
  have Q23 : FnG PySem.Challenge.rw_learnways_k34_whole_case_trees_and_state.prog w K mg base 6 _ _ ["self", "right"] (spOf K (F_casGrt CS)) := g_Cases_greatest N23 T UC C_greatest_in C_all_items (s_Cases_greatest CS)
  have M_Cases_greatest := (⟨UC.cls, _, _, _, Q23, ⟨a23, i23, k23⟩, B23⟩ : MetG PySem.Challenge.rw_learnways_k34_whole_case_trees_and_state.prog w K mg base 6 CS "greatest" (spOf K (F_casGrt CS)))
  have Q24 : FnG PySem.Challenge.rw_learnways_k34_whole_case_trees_and_state.prog w K mg base 8 _ _ ["self", "right"] (spR K (F_learn CS)) := g_Cases_learn_clashes N24 T UC C_items_of M_Cases_greatest C_needed_noes (s_Cases_learn CS)
  have M_Cases_learn_clashes := (⟨UC.cls, _, _, _, Q24, ⟨a24, i24, k24⟩, B24⟩ : MetG PySem.Challenge.rw_learnways_k34_whole_case_trees_and_state.prog w K mg base 8 CS "learn_clashes" (spR K (F_learn CS)))
  have Q25 : FnG PySem.Challenge.rw_learnways_k34_whole_case_trees_and_state.prog w K mg base 10 _ _ ["self", "right"] (spR K (F_within CS)) := g_Cases_clash_within N25 T UC M_Cases_smallest_clash M_Cases_learn_clashes (s_Cases_within CS)
  have M_Cases_clash_within := (⟨UC.cls, _, _, _, Q25, ⟨a25, i25, k25⟩, B25⟩ : MetG PySem.Challenge.rw_learnways_k34_whole_case_trees_and_state.prog w K mg base 10 CS "clash_within" (spR K (F_within CS)))
  have R26 : ∀ n, FnG PySem.Challenge.rw_learnways_k34_whole_case_trees_and_state.prog w K mg base (11 + n) f26 (PySem.W.fnOf "state_with" "Cases.state_with" (defArgs (inClass (topS 46) 5)) (defBody (inClass (topS 46) 5)) (defScope (inClass (topS 46) 5)) .none kV26 dc26 pm26 an26 cd26 ct26) ["self", "right", "fixed", "k"] (spR K (F_state CS n)) := fun n => by
    induction n with
    | zero => exact FnG.noR N26 (fun _ _ _ _ h => h)
    | succ n ih => exact g_Cases_state_with N26 T UC M_Cases_clash_within M_Cases_greatest (⟨UC.cls, _, _, _, ih, ⟨a26, i26, k26⟩, B26⟩ : MetG PySem.Challenge.rw_learnways_k34_whole_case_trees_and_state.prog w K mg base (11 + n) CS "state_with" (spR K (F_state CS n))) ((s_Cases_state CS) n)
  have Q26 : FnG PySem.Challenge.rw_learnways_k34_whole_case_trees_and_state.prog w K mg base 37 _ _ ["self", "right", "fixed", "k"] (spR K (F_state CS 26)) := R26 26
  have M_Cases_state_with := (⟨UC.cls, _, _, _, Q26, ⟨a26, i26, k26⟩, B26⟩ : MetG PySem.Challenge.rw_learnways_k34_whole_case_trees_and_state.prog w K mg base 37 CS "state_with" (spR K (F_state CS 26)))
  have R27 : ∀ n, FnG PySem.Challenge.rw_learnways_k34_whole_case_trees_and_state.prog w K mg base (11 + n) f27 (PySem.W.fnOf "tree" "Cases.tree" (defArgs (inClass (topS 46) 6)) (defBody (inClass (topS 46) 6)) (defScope (inClass (topS 46) 6)) .none kV27 dc27 pm27 an27 cd27 ct27) ["self", "right", "k"] (spR K (F_tree CS n)) := fun n => by
    induction n with
    | zero => exact FnG.noR N27 (fun _ _ _ _ h => h)
    | succ n ih => exact g_Cases_tree N27 T UC M_Cases_clash_within C_items_of M_Cases_greatest (⟨UC.cls, _, _, _, ih, ⟨a27, i27, k27⟩, B27⟩ : MetG PySem.Challenge.rw_learnways_k34_whole_case_trees_and_state.prog w K mg base (11 + n) CS "tree" (spR K (F_tree CS n))) ((s_Cases_tree CS) n)
  have Q27 : FnG PySem.Challenge.rw_learnways_k34_whole_case_trees_and_state.prog w K mg base 37 _ _ ["self", "right", "k"] (spR K (F_tree CS 26)) := R27 26
  have M_Cases_tree := (⟨UC.cls, _, _, _, Q27, ⟨a27, i27, k27⟩, B27⟩ : MetG PySem.Challenge.rw_learnways_k34_whole_case_trees_and_state.prog w K mg base 37 CS "tree" (spR K (F_tree CS 26)))
  have Q28 : FnG PySem.Challenge.rw_learnways_k34_whole_case_trees_and_state.prog w K mg base 39 _ _ ["course", "yes", "no"] (spOf K (F_fewest C CS X_NoSet X_NoAnswers)) := g_fewest_wrong N28 T U UC C_check_answers M_Cases___init__ C_mask_of M_Cases_state_with C_items_of M_Cases_tree (s_fewest C CS X_NoSet X_NoAnswers)
  have C_fewest_wrong : CalG PySem.Challenge.rw_learnways_k34_whole_case_trees_and_state.prog w K mg base 39 "fewest_wrong" (spOf K (F_fewest C CS X_NoSet X_NoAnswers)) [] := ⟨_, _, _, _, Q28, PySem.W.mg_of X G a28, k28, B28, .nil⟩
  have Q29 : FnG PySem.Challenge.rw_learnways_k34_whole_case_trees_and_state.prog w K mg base 6 _ _ ["course", "avoided"] (spOf K (F_greatest C X_NoSet)) := g_greatest N29 T U E_NoSet C_is_set M_len (hC_len C) C_all_items C_mask_of C_items_of C_greatest_in (s_greatest C X_NoSet)
  have C_greatest : CalG PySem.Challenge.rw_learnways_k34_whole_case_trees_and_state.prog w K mg base 6 "greatest" (spOf K (F_greatest C X_NoSet)) [] := ⟨_, _, _, _, Q29, PySem.W.mg_of X G a29, k29, B29, .nil⟩
  have Q30 : FnG PySem.Challenge.rw_learnways_k34_whole_case_trees_and_state.prog w K mg base 1 _ _ ["_law_script", "_law_k"] (spOf K (F__law_cell_at)) := g__law_cell_at N30 T s__law_cell_at
  have C__law_cell_at : CalG PySem.Challenge.rw_learnways_k34_whole_case_trees_and_state.prog w K mg base 1 "_law_cell_at" (spOf K (F__law_cell_at)) [] := ⟨_, _, _, _, Q30, PySem.W.mg_of X G a30, k30, B30, .nil⟩
  have Q31 : FnG PySem.Challenge.rw_learnways_k34_whole_case_trees_and_state.prog w K mg base 4 _ _ ["value", "item", "count"] (spOf K (F_is_entry)) := g_is_entry N31 T C_is_set s_is_entry
  have C_is_entry : CalG PySem.Challenge.rw_learnways_k34_whole_case_trees_and_state.prog w K mg base 4 "is_entry" (spOf K (F_is_entry)) [] := ⟨_, _, _, _, Q31, PySem.W.mg_of X G a31, k31, B31, .nil⟩
  have Q32 : FnG PySem.Challenge.rw_learnways_k34_whole_case_trees_and_state.prog w K mg base 5 _ _ ["value", "most"] (spOf K (F_is_ways)) := g_is_ways N32 T C_is_entry s_is_ways
  have C_is_ways : CalG PySem.Challenge.rw_learnways_k34_whole_case_trees_and_state.prog w K mg base 5 "is_ways" (spOf K (F_is_ways)) [] := ⟨_, _, _, _, Q32, PySem.W.mg_of X G a32, k32, B32, .nil⟩
  have Q33 : FnG PySem.Challenge.rw_learnways_k34_whole_case_trees_and_state.prog w K mg base 1 _ _ ["way"] (spOf K (F_rank_of)) := g_rank_of N33 T U (s_rank_of C)
  have C_rank_of : CalG PySem.Challenge.rw_learnways_k34_whole_case_trees_and_state.prog w K mg base 1 "rank_of" (spOf K (F_rank_of)) [] := ⟨_, _, _, _, Q33, PySem.W.mg_of X G a33, k33, B33, .nil⟩
  have Q34 : FnG PySem.Challenge.rw_learnways_k34_whole_case_trees_and_state.prog w K mg base 2 _ _ ["ways"] (spOf K (F_in_order)) := g_in_order N34 T C_rank_of s_in_order
  have C_in_order : CalG PySem.Challenge.rw_learnways_k34_whole_case_trees_and_state.prog w K mg base 2 "in_order" (spOf K (F_in_order)) [] := ⟨_, _, _, _, Q34, PySem.W.mg_of X G a34, k34, B34, .nil⟩
  have Q35 : FnG PySem.Challenge.rw_learnways_k34_whole_case_trees_and_state.prog w K mg base 4 _ _ ["ways"] (spOf K (F_tidy)) := g_tidy N35 T C_in_order C_has_way C_mask_of s_tidy
  have C_tidy : CalG PySem.Challenge.rw_learnways_k34_whole_case_trees_and_state.prog w K mg base 4 "tidy" (spOf K (F_tidy)) [] := ⟨_, _, _, _, Q35, PySem.W.mg_of X G a35, k35, B35, .nil⟩
  have Q36 : FnG PySem.Challenge.rw_learnways_k34_whole_case_trees_and_state.prog w K mg base 2 _ _ ["ways"] (spOf K (F_masks_of)) := g_masks_of N36 T C_mask_of s_masks_of
  have C_masks_of : CalG PySem.Challenge.rw_learnways_k34_whole_case_trees_and_state.prog w K mg base 2 "masks_of" (spOf K (F_masks_of)) [] := ⟨_, _, _, _, Q36, PySem.W.mg_of X G a36, k36, B36, .nil⟩
  have Q37 : FnG PySem.Challenge.rw_learnways_k34_whole_case_trees_and_state.prog w K mg base 6 _ _ ["self", "ways"] (spIni K C (F_Course___init__ C)) := g_Course___init__ N37 T U E_NoCourse C_is_ways C_tidy C_masks_of (s_Course___init__ C _)
  have M_init : MakG PySem.Challenge.rw_learnways_k34_whole_case_trees_and_state.prog w K mg base 6 "Course" C (F_Course___init__ C) := ⟨PySem.W.mg_of X G aC, _, _, _, Q37, ⟨mk, a37, i37, kc⟩, B37⟩
  have Q38 : FnG PySem.Challenge.rw_learnways_k34_whole_case_trees_and_state.prog w K mg base 3 _ _ ["_law_pen", "_law_n", "_law_most"] (spOf K (F_few)) := g__law_few N38 T C__law_draw s__law_few
  have C__law_few : CalG PySem.Challenge.rw_learnways_k34_whole_case_trees_and_state.prog w K mg base 3 "_law_few" (spOf K (F_few)) [] := ⟨_, _, _, _, Q38, PySem.W.mg_of X G a38, k38, B38, .nil⟩
  have Q39 : FnG PySem.Challenge.rw_learnways_k34_whole_case_trees_and_state.prog w K mg base 6 _ _ ["book", "items"] (spOf K (F_is_state_mask)) := g_is_state_mask N39 T C_greatest_in s_is_state_mask
  have C_is_state_mask : CalG PySem.Challenge.rw_learnways_k34_whole_case_trees_and_state.prog w K mg base 6 "is_state_mask" (spOf K (F_is_state_mask)) [] := ⟨_, _, _, _, Q39, PySem.W.mg_of X G a39, k39, B39, .nil⟩
  have Q40 : FnG PySem.Challenge.rw_learnways_k34_whole_case_trees_and_state.prog w K mg base 7 _ _ ["self", "value"] (spOf K (F_Course___contains__ C)) := g_Course___contains__ N40 T U C_is_set M_len (hC_len C) C_is_state_mask C_mask_of (s_Course___contains__ C)
  have M_contains : MetG PySem.Challenge.rw_learnways_k34_whole_case_trees_and_state.prog w K mg base 7 C "__contains__" (spOf K (F_Course___contains__ C)) := ⟨cl, _, _, _, Q40, ⟨a40, i40, k40⟩, B40⟩
  have Q41 : FnG PySem.Challenge.rw_learnways_k34_whole_case_trees_and_state.prog w K mg base 1 _ _ ["_law_value", "_law_due"] (spOf K (F_isS)) := g__law_is N41 T s__law_isS
  have C__law_is : CalG PySem.Challenge.rw_learnways_k34_whole_case_trees_and_state.prog w K mg base 1 "_law_is" (spOf K (F_isS)) [] := ⟨_, _, _, _, Q41, PySem.W.mg_of X G a41, k41, B41, .nil⟩
  have Q42 : FnG PySem.Challenge.rw_learnways_k34_whole_case_trees_and_state.prog w K mg base 1 _ _ ["_law_entry", "_law_known"] (spOf K (F_has2)) := g__law_has N42 T s__law_has2
  have C__law_has : CalG PySem.Challenge.rw_learnways_k34_whole_case_trees_and_state.prog w K mg base 1 "_law_has" (spOf K (F_has2)) [] := ⟨_, _, _, _, Q42, PySem.W.mg_of X G a42, k42, B42, .nil⟩
  have Q43 : FnG PySem.Challenge.rw_learnways_k34_whole_case_trees_and_state.prog w K mg base 2 _ _ ["_law_book_here", "_law_avoided", "_law_row"] (spOf K (F_closed)) := g__law_closed N43 T C__law_has s__law_closed2
  have C__law_closed : CalG PySem.Challenge.rw_learnways_k34_whole_case_trees_and_state.prog w K mg base 2 "_law_closed" (spOf K (F_closed)) [] := ⟨_, _, _, _, Q43, PySem.W.mg_of X G a43, k43, B43, .nil⟩
  have Q44 : FnG PySem.Challenge.rw_learnways_k34_whole_case_trees_and_state.prog w K mg base 2 _ _ ["_law_book_here", "_law_avoided"] (spOf K (F_top)) := g__law_top N44 T C__law_has s__law_top
  have C__law_top : CalG PySem.Challenge.rw_learnways_k34_whole_case_trees_and_state.prog w K mg base 2 "_law_top" (spOf K (F_top)) [] := ⟨_, _, _, _, Q44, PySem.W.mg_of X G a44, k44, B44, .nil⟩
  have Q45 : FnG PySem.Challenge.rw_learnways_k34_whole_case_trees_and_state.prog w K mg base 1 _ _ ["_law_row", "_law_item"] (spOf K (F_less)) := g__law_less N45 T s__law_less
  have C__law_less : CalG PySem.Challenge.rw_learnways_k34_whole_case_trees_and_state.prog w K mg base 1 "_law_less" (spOf K (F_less)) [] := ⟨_, _, _, _, Q45, PySem.W.mg_of X G a45, k45, B45, .nil⟩
  have R46 : ∀ n, FnG PySem.Challenge.rw_learnways_k34_whole_case_trees_and_state.prog w K mg base (2 + n) f46 (PySem.W.fnOf "_law_shows" "_law_shows" (defArgs (topS 61)) (defBody (topS 61)) (defScope (topS 61)) .none kV46 dc46 pm46 an46 cd46 ct46) ["_law_book_here", "_law_yes", "_law_no", "_law_k", "_law_value"] (spOf K (F_shows n)) := fun n => by
    induction n with
    | zero => exact FnG.no N46 no__law_shows
    | succ n ih => exact g__law_shows N46 T C__law_closed C__law_top (⟨_, _, _, _, ih, PySem.W.mg_of X G a46, k46, B46, .nil⟩ : CalG PySem.Challenge.rw_learnways_k34_whole_case_trees_and_state.prog w K mg base (2 + n) "_law_shows" (spOf K (F_shows n)) []) C__law_less (s__law_shows n)
  have Q46 : FnG PySem.Challenge.rw_learnways_k34_whole_case_trees_and_state.prog w K mg base 28 _ _ ["_law_book_here", "_law_yes", "_law_no", "_law_k", "_law_value"] (spOf K (F_shows 26)) := R46 26
  have C__law_shows : CalG PySem.Challenge.rw_learnways_k34_whole_case_trees_and_state.prog w K mg base 28 "_law_shows" (spOf K (F_shows 26)) [] := ⟨_, _, _, _, Q46, PySem.W.mg_of X G a46, k46, B46, .nil⟩
  have Q47 : FnG PySem.Challenge.rw_learnways_k34_whole_case_trees_and_state.prog w K mg base 40 _ _ ["_law_script"] (spOf K (F_law)) := g_law N47 T U C__law_cell_at C__law_pen_of C__law_book M_init C__law_few C_fewest_wrong M_contains (hC_contains C) C__law_shows C__law_less C_greatest C__law_is C__law_draw (s_law34 C CS X_NoSet X_NoAnswers)
  exact Q47
end QD
open PySem PySem.W PyProof.Rows in
set_option maxRecDepth 100000 in
set_option maxHeartbeats 0 in
theorem PySem.Challenge.cw_learnways_k34_whole_case_trees_and_state_holds : PySem.Challenge.rw_learnways_k34_whole_case_trees_and_state.Holds := by
  w_on; o_law; k_head; (case hw => w_witness2)
  k_fill
  refine QD.row_ofF (l := PySem.Challenge.rw_learnways_k34_whole_case_trees_and_state) (n := 63) (k := 40) (x := "_law_script") QD.F_law rfl (by decide) rfl ⟨rfl, by decide, by decide⟩ (fun w h Y => PySem.W.kIn_of Y) (fun ns hl _ => ⟨ns, rfl, hl, rfl⟩) ?F
  case F =>
    intro w mg fa h KX G hmg
    refine' QD.all_mk KX G hmg ?aC ?aCS ?pgS ?hdS ?poS ?saS ?mkS ?kcS ?nSbook ?nSknown ?nSlacked ?nSclashes ?nStrees ?aX_NoSet ?kX_NoSet ?eX_NoSet ?sX_NoSet ?tX_NoSet ?aX_NoAnswers ?kX_NoAnswers ?eX_NoAnswers ?sX_NoAnswers ?tX_NoAnswers ?aX_NoCourse ?kX_NoCourse ?eX_NoCourse ?sX_NoCourse ?tX_NoCourse ?a1 ?l1 ?c1 ?k1 ?a2 ?l2 ?c2 ?k2 ?a3 ?l3 ?c3 ?k3 ?a4 ?l4 ?c4 ?k4 ?a5 ?l5 ?c5 ?k5 ?a6 ?l6 ?c6 ?k6 ?a7 ?l7 ?c7 ?k7 ?a8 ?l8 ?c8 ?k8 ?a9 ?l9 ?c9 ?k9 ?a10 ?i10 ?l10 ?c10 ?k10 ?a11 ?l11 ?c11 ?k11 ?a12 ?i12 ?l12 ?c12 ?k12 ?a13 ?l13 ?c13 ?k13 ?a14 ?i14 ?l14 ?c14 ?k14 ?a15 ?l15 ?c15 ?k15 ?a16 ?l16 ?c16 ?k16 ?a17 ?l17 ?c17 ?k17 ?a18 ?l18 ?c18 ?k18 ?a19 ?l19 ?c19 ?k19 ?a20 ?l20 ?c20 ?k20 ?a21 ?l21 ?c21 ?k21 ?a22 ?l22 ?c22 ?k22 ?a23 ?i23 ?l23 ?c23 ?k23 ?a24 ?i24 ?l24 ?c24 ?k24 ?a25 ?i25 ?l25 ?c25 ?k25 ?a26 ?i26 ?l26 ?c26 ?k26 ?a27 ?i27 ?l27 ?c27 ?k27 ?a28 ?l28 ?c28 ?k28 ?a29 ?l29 ?d29 ?c29 ?k29 ?a30 ?l30 ?c30 ?k30 ?a31 ?l31 ?c31 ?k31 ?a32 ?l32 ?c32 ?k32 ?a33 ?l33 ?c33 ?k33 ?a34 ?l34 ?c34 ?k34 ?a35 ?l35 ?c35 ?k35 ?a36 ?l36 ?c36 ?k36 ?a37 ?i37 ?l37 ?c37 ?k37 ?a38 ?l38 ?c38 ?k38 ?a39 ?l39 ?c39 ?k39 ?a40 ?i40 ?l40 ?c40 ?k40 ?a41 ?l41 ?c41 ?k41 ?a42 ?l42 ?c42 ?k42 ?a43 ?l43 ?c43 ?k43 ?a44 ?l44 ?c44 ?k44 ?a45 ?l45 ?c45 ?k45 ?a46 ?l46 ?c46 ?k46 ?a47 ?l47 ?c47 ?k47 ?pg ?hd ?po ?sa ?mk ?kc ?nB ?nW ?rd ?ga ?mo ?z_len ?z_range ?z_tuple ?z_list ?z_int ?z_bool ?z_str ?z_isinstance ?z_max ?z_sorted ?z_sum ?z_all ?z_any ?z_repr ?z_enumerate ?z_zip ?z_reversed
    (case aC => k_is)
    (case aCS => k_is)
    (case pgS => k_is)
    (case hdS => k_is)
    (case poS => k_is)
    (case saS => k_is)
    (case mkS => k_is)
    (case kcS => k_is)
    (case nSbook => k_is)
    (case nSknown => k_is)
    (case nSlacked => k_is)
    (case nSclashes => k_is)
    (case nStrees => k_is)
    (case aX_NoSet => k_is)
    (case kX_NoSet => k_is)
    (case eX_NoSet => k_exc)
    (case sX_NoSet => k_is)
    (case tX_NoSet => k_is)
    (case aX_NoAnswers => k_is)
    (case kX_NoAnswers => k_is)
    (case eX_NoAnswers => k_exc)
    (case sX_NoAnswers => k_is)
    (case tX_NoAnswers => k_is)
    (case aX_NoCourse => k_is)
    (case kX_NoCourse => k_is)
    (case eX_NoCourse => k_exc)
    (case sX_NoCourse => k_is)
    (case tX_NoCourse => k_is)
    (case a1 => k_is)
    (case l1 => k_is)
    (case c1 => k_is)
    (case k1 => k_is)
    (case a2 => k_is)
    (case l2 => k_is)
    (case c2 => k_is)
    (case k2 => k_is)
    (case a3 => k_is)
    (case l3 => k_is)
    (case c3 => k_is)
    (case k3 => k_is)
    (case a4 => k_is)
    (case l4 => k_is)
    (case c4 => k_is)
    (case k4 => k_is)
    (case a5 => k_is)
    (case l5 => k_is)
    (case c5 => k_is)
    (case k5 => k_is)
    (case a6 => k_is)
    (case l6 => k_is)
    (case c6 => k_is)
    (case k6 => k_is)
    (case a7 => k_is)
    (case l7 => k_is)
    (case c7 => k_is)
    (case k7 => k_is)
    (case a8 => k_is)
    (case l8 => k_is)
    (case c8 => k_is)
    (case k8 => k_is)
    (case a9 => k_is)
    (case l9 => k_is)
    (case c9 => k_is)
    (case k9 => k_is)
    (case a10 => k_is)
    (case i10 => k_is)
    (case l10 => k_is)
    (case c10 => k_is)
    (case k10 => k_is)
    (case a11 => k_is)
    (case l11 => k_is)
    (case c11 => k_is)
    (case k11 => k_is)
    (case a12 => k_is)
    (case i12 => k_is)
    (case l12 => k_is)
    (case c12 => k_is)
    (case k12 => k_is)
    (case a13 => k_is)
    (case l13 => k_is)
    (case c13 => k_is)
    (case k13 => k_is)
    (case a14 => k_is)
    (case i14 => k_is)
    (case l14 => k_is)
    (case c14 => k_is)
    (case k14 => k_is)
    (case a15 => k_is)
    (case l15 => k_is)
    (case c15 => k_is)
    (case k15 => k_is)
    (case a16 => k_is)
    (case l16 => k_is)
    (case c16 => k_is)
    (case k16 => k_is)
    (case a17 => k_is)
    (case l17 => k_is)
    (case c17 => k_is)
    (case k17 => k_is)
    (case a18 => k_is)
    (case l18 => k_is)
    (case c18 => k_is)
    (case k18 => k_is)
    (case a19 => k_is)
    (case l19 => k_is)
    (case c19 => k_is)
    (case k19 => k_is)
    (case a20 => k_is)
    (case l20 => k_is)
    (case c20 => k_is)
    (case k20 => k_is)
    (case a21 => k_is)
    (case l21 => k_is)
    (case c21 => k_is)
    (case k21 => k_is)
    (case a22 => k_is)
    (case l22 => k_is)
    (case c22 => k_is)
    (case k22 => k_is)
    (case a23 => k_is)
    (case i23 => k_is)
    (case l23 => k_is)
    (case c23 => k_is)
    (case k23 => k_is)
    (case a24 => k_is)
    (case i24 => k_is)
    (case l24 => k_is)
    (case c24 => k_is)
    (case k24 => k_is)
    (case a25 => k_is)
    (case i25 => k_is)
    (case l25 => k_is)
    (case c25 => k_is)
    (case k25 => k_is)
    (case a26 => k_is)
    (case i26 => k_is)
    (case l26 => k_is)
    (case c26 => k_is)
    (case k26 => k_is)
    (case a27 => k_is)
    (case i27 => k_is)
    (case l27 => k_is)
    (case c27 => k_is)
    (case k27 => k_is)
    (case a28 => k_is)
    (case l28 => k_is)
    (case c28 => k_is)
    (case k28 => k_is)
    (case a29 => k_is)
    (case l29 => k_is)
    (case d29 => k_is)
    (case c29 => k_is)
    (case k29 => k_is)
    (case a30 => k_is)
    (case l30 => k_is)
    (case c30 => k_is)
    (case k30 => k_is)
    (case a31 => k_is)
    (case l31 => k_is)
    (case c31 => k_is)
    (case k31 => k_is)
    (case a32 => k_is)
    (case l32 => k_is)
    (case c32 => k_is)
    (case k32 => k_is)
    (case a33 => k_is)
    (case l33 => k_is)
    (case c33 => k_is)
    (case k33 => k_is)
    (case a34 => k_is)
    (case l34 => k_is)
    (case c34 => k_is)
    (case k34 => k_is)
    (case a35 => k_is)
    (case l35 => k_is)
    (case c35 => k_is)
    (case k35 => k_is)
    (case a36 => k_is)
    (case l36 => k_is)
    (case c36 => k_is)
    (case k36 => k_is)
    (case a37 => k_is)
    (case i37 => k_is)
    (case l37 => k_is)
    (case c37 => k_is)
    (case k37 => k_is)
    (case a38 => k_is)
    (case l38 => k_is)
    (case c38 => k_is)
    (case k38 => k_is)
    (case a39 => k_is)
    (case l39 => k_is)
    (case c39 => k_is)
    (case k39 => k_is)
    (case a40 => k_is)
    (case i40 => k_is)
    (case l40 => k_is)
    (case c40 => k_is)
    (case k40 => k_is)
    (case a41 => k_is)
    (case l41 => k_is)
    (case c41 => k_is)
    (case k41 => k_is)
    (case a42 => k_is)
    (case l42 => k_is)
    (case c42 => k_is)
    (case k42 => k_is)
    (case a43 => k_is)
    (case l43 => k_is)
    (case c43 => k_is)
    (case k43 => k_is)
    (case a44 => k_is)
    (case l44 => k_is)
    (case c44 => k_is)
    (case k44 => k_is)
    (case a45 => k_is)
    (case l45 => k_is)
    (case c45 => k_is)
    (case k45 => k_is)
    (case a46 => k_is)
    (case l46 => k_is)
    (case c46 => k_is)
    (case k46 => k_is)
    (case a47 => k_is)
    (case l47 => k_is)
    (case c47 => k_is)
    (case k47 => k_is)
    (case pg => k_is)
    (case hd => k_is)
    (case po => k_is)
    (case sa => k_is)
    (case mk => k_is)
    (case kc => k_is)
    (case nB => k_is)
    (case nW => k_is)
    (case rd => k_is)
    (case ga => k_is)
    (case mo => k_is)
    (case z_len => k_is)
    (case z_range => k_is)
    (case z_tuple => k_is)
    (case z_list => k_is)
    (case z_int => k_is)
    (case z_bool => k_is)
    (case z_str => k_is)
    (case z_isinstance => k_is)
    (case z_max => k_is)
    (case z_sorted => k_is)
    (case z_sum => k_is)
    (case z_all => k_is)
    (case z_any => k_is)
    (case z_repr => k_is)
    (case z_enumerate => k_is)
    (case z_zip => k_is)
    (case z_reversed => k_is)
