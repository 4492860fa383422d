import PyProof.Rows.All
import KE.KIsAll
import Wide.All
import OpenK.AllK
import Wide.FinOn
import PyProof.EqAt
import PyProof.EqKinds
import PyProof.TupleCall
import OpenK.KOwn
import PyProof.NeKinds
import PyProof.ExcBaseAll.ValueError
import PyProof.ExcAttrAll.ValueError
import PyProof.SetKind
import PyProof.Rows.SetFrom
import PyProof.CollectWalk
import PyProof.Rows.SortRuns
import PyProof.Rows.SortShell
import KE.KSortTup
import PyProof.EnumMake
import PyProof.EnumFor
import PyProof.EnumStmt
import PyProof.Rows.ListMul
import PyProof.Rows.ListMulCarried
import PyProof.SeqI3
import KE.KLam
import PyProof.WalkInts
import KE.KMinBuiltin
import PyProof.Rows.CallKwBuiltin
import KE.KSortKey
import PyProof.AttrMissSeq
import KE.KDictOf
import KE.KNestM
import Lean
import PySem.Challenge.RW_spantolls_k02_whole_worths
set_option Elab.async false
set_option linter.all false
namespace Lg
noncomputable abbrev Tr:=Int×Int×Int
section
variable (rs:List Tr)
noncomputable def rq (c:Nat):Tr:=rs.getD c (0,0,0)
variable {rs}
end
end Lg
set_option maxRecDepth 100000
namespace L2
open PySem PySem.Spec PyProof.Rows
noncomputable abbrev Key:=Sum Int Str
noncomputable def keyIs:Key→Value→Bool
  | .inl k,v=>Value.isInt k v
  | .inr x,v=>Value.isStrOf x v
noncomputable def keyH (w:World):Key→Int
  | .inl k=>hashInt k
  | .inr x=>hashStr w x
theorem keyIs_shape:∀ {k:Key} {v:Value},keyIs k v=true→(∃ i t,k=Sum.inl i∧v=Value.int i t)∨(∃ x t,k=Sum.inr x∧v=Value.str x t)
  | .inl i,v,h=>by
    obtain ⟨t,e⟩:=Value.isInt_shape (k:=i) (v:=v) h;exact .inl ⟨i,t,rfl,e⟩
  | .inr x,v,h=>by
    obtain ⟨t,e⟩:=Value.isStrOf_shape (x:=x) (v:=v) h;exact .inr ⟨x,t,rfl,e⟩
theorem keyIs_int (i:Int) (t:Tok):keyIs (.inl i) (.int i t)=true:=by simp [keyIs,Value.isInt]
theorem keyIs_str (x:Str) (t:Tok):keyIs (.inr x) (.str x t)=true:=by simp [keyIs,Value.isStrOf]
theorem key_ll (a b:Int):decide ((Sum.inl a:Key)=Sum.inl b)=(a == b):=by
  by_cases e:a=b
  · subst e;simp
  · have h:¬ (Sum.inl a:Key)=Sum.inl b:=λ q=>e (Sum.inl.inj q);rw [decide_eq_false h];exact (beq_eq_false_iff_ne.mpr e).symm
theorem key_rr (a b:Str):decide ((Sum.inr a:Key)=Sum.inr b)=decide (a=b):=by
  by_cases e:a=b
  · subst e;simp
  · have h:¬ (Sum.inr a:Key)=Sum.inr b:=λ q=>e (Sum.inr.inj q);rw [decide_eq_false h,decide_eq_false e]
theorem key_lr (a:Int) (b:Str):decide ((Sum.inl a:Key)=Sum.inr b)=false:=decide_eq_false (λ q=>nomatch q)
theorem key_rl (a:Str) (b:Int):decide ((Sum.inr a:Key)=Sum.inl b)=false:=decide_eq_false (λ q=>nomatch q)
noncomputable def mixKind (prog:Program) (w:World):PySem.KeyKind prog w Key where
  is:=keyIs
  hash:=keyH w
  inj:=λ v a b ha hb=>by
    rcases keyIs_shape ha with ⟨i,t,rfl,rfl⟩ | ⟨x,t,rfl,rfl⟩
    · rcases keyIs_shape hb with ⟨j,u,rfl,e⟩ | ⟨y,u,rfl,e⟩
      · injection e with e1 _;rw [e1]
      · exact nomatch e
    · rcases keyIs_shape hb with ⟨j,u,rfl,e⟩ | ⟨y,u,rfl,e⟩
      · exact nomatch e
      · injection e with e1 _;rw [e1]
  byValue:=λ k v h=>by
    rcases keyIs_shape h with ⟨i,t,rfl,rfl⟩ | ⟨x,t,rfl,rfl⟩<;>rfl
  pyHash:=λ hv h=>by
    rcases keyIs_shape hv with ⟨i,t,rfl,rfl⟩ | ⟨x,t,rfl,rfl⟩
    · exact wpAny_pyHash_int h
    · exact wpAny_pyHash_str h
  eqBool:=λ hu hv h=>by
    rcases keyIs_shape hu with ⟨i,t,rfl,rfl⟩ | ⟨x,t,rfl,rfl⟩
    · rcases keyIs_shape hv with ⟨j,u,rfl,rfl⟩ | ⟨y,u,rfl,rfl⟩
      · rw [key_ll] at h;exact wpAny_eqBool_int h
      · rw [key_lr] at h;exact SeqAt.EqAt.int_str i t y u _ _ _ _ h
    · rcases keyIs_shape hv with ⟨j,u,rfl,rfl⟩ | ⟨y,u,rfl,rfl⟩
      · rw [key_rl] at h;exact SeqAt.EqAt.str_int x t j u _ _ _ _ h
      · rw [key_rr] at h;exact wpAny_eqBool_str h
  «strs»:=λ k x t v h=>by
    rcases keyIs_shape h with ⟨i,u,rfl,e⟩ | ⟨y,u,rfl,e⟩
    · exact nomatch e
    · injection e with e1 _;subst e1;cases v<;>rfl
theorem mixKind_int (prog:Program) (w:World) (i:Int) (t:Tok):(mixKind prog w).is (.inl i) (.int i t)=true:=keyIs_int i t
theorem mixKind_str (prog:Program) (w:World) (x:Str) (t:Tok):(mixKind prog w).is (.inr x) (.str x t)=true:=keyIs_str x t
end L2
namespace L2
open PySem PySem.Spec PyProof.Rows
inductive V where
  | non | bl (b:Bool) | int (i:Int) | str (x:Str) | byt (b:Array UInt8) | flt (b:UInt64) | ref (a:Addr) | ty (n:String)
  deriving DecidableEq
noncomputable def RelV:V→Value→Prop
  | .non,u=>u=Value.none
  | .bl b,u=>u=Value.bool b
  | .int i,u=>∃ t,u=Value.int i t
  | .str x,u=>∃ t,u=Value.str x t
  | .byt b,u=>∃ t,u=Value.bytes b t
  | .flt b,u=>∃ t,u=Value.float b t
  | .ref a,u=>u=Value.ref a
  | .ty n,u=>u=Value.type n
noncomputable abbrev Vals:List V→List Value→Prop:=Paired RelV
theorem Vals.length {xs:List V} {us:List Value} (r:Vals xs us):xs.length=us.length:=Paired.length r
theorem Vals.get:∀ {xs:List V} {us:List Value} {i:Nat} {x:V},Vals xs us→xs[i]?=some x→∃ u,us[i]?=some u∧RelV x u
  | _,_,_,_,.nil,e=>by simp at e
  | _,_,0,_,.cons r _,e=>by simp at e;subst e;exact ⟨_,rfl,r⟩
  | _,_,i + 1,x,.cons _ t,e=>by
    obtain ⟨u,h1,h2⟩:=Vals.get (i:=i) (x:=x) t (by simpa using e);exact ⟨u,by simpa using h1,h2⟩
theorem Vals.set {x:V} {u:Value} (r:RelV x u):∀ {xs:List V} {us:List Value} (i:Nat),Vals xs us→Vals (xs.set i x) (us.set i u)
  | _,_,_,.nil=>.nil
  | _,_,0,.cons _ t=>.cons r t
  | _,_,i + 1,.cons q t=>.cons q (Vals.set r i t)
theorem Vals.append:∀ {xs ys:List V} {us ws:List Value},Vals xs us→Vals ys ws→Vals (xs ++ ys) (us ++ ws)
  | _,_,_,_,.nil,s=>s
  | _,_,_,_,.cons r t,s=>.cons r (Vals.append t s)
theorem Vals.take:∀ {xs:List V} {us:List Value} (n:Nat),Vals xs us→Vals (xs.take n) (us.take n)
  | _,_,0,_=>.nil
  | _,_,_ + 1,.nil=>.nil
  | _,_,n + 1,.cons r t=>.cons r (Vals.take n t)
theorem Vals.drop:∀ {xs:List V} {us:List Value} (n:Nat),Vals xs us→Vals (xs.drop n) (us.drop n)
  | _,_,0,r=>r
  | _,_,_ + 1,.nil=>.nil
  | _,_,n + 1,.cons _ t=>Vals.drop n t
noncomputable def RelO:Option V→Option Value→Prop
  | some v,some u=>RelV v u
  | none,none=>True
  | _,_=>False
noncomputable def KV {κ:Type}:List (κ×V)→List (κ×Value)→Prop:=Paired λ (p:κ×V) (q:κ×Value)=>p.1=q.1∧RelV p.2 q.2
noncomputable def kV:Key→V
  | .inl i=>.int i
  | .inr x=>.str x
inductive HO where
    | lst (xs:List V)
    | tup (xs:List V)
    | dK (kvs:List (Key×V)) | dT (kvs:List (List Key×V))
    | set (S:Int→Bool) (n:Nat)
    | ins (C dx:Addr) (fs:List (Str×V))
    | own (x:Addr)
    | xd (fs:List (Str×V))
    | met (f x:Addr)
    | rng (lo hi:Int)
    | frz (o:Obj) (u:HO)
    | tbl (ps:Array Value)
    | ext (φ:Heap→Prop)
noncomputable abbrev Hp:=Addr→Option HO
noncomputable def upd (H:Hp) (a:Addr) (o:HO):Hp:=λ b=>if b=a then some o else H b
theorem upd_same {H:Hp} {a:Addr} {o:HO}:upd H a o a=some o:=by unfold upd;rw [if_pos rfl]
theorem upd_ne {H:Hp} {a b:Addr} {o:HO} (h:b≠a):upd H a o b=H b:=by unfold upd;rw [if_neg h]
theorem ne_of {H:Hp} {a b:Addr} {o u:HO} (h:H a=some o) (h':H b=some u) (d:o≠u):a≠b:=by
  intro e;subst e;rw [h] at h';exact d (Option.some.inj h')
theorem ne_of_none {H:Hp} {a b:Addr} {o:HO} (h:H a=some o) (h':H b=none):a≠b:=by
  intro e;subst e;rw [h] at h';cases h'
section
variable (P:Program) (w:World)
noncomputable def ObjOk (H:Hp) (h:Heap) (a:Addr):HO→Prop
  | .lst xs=>xs.length≤sizeLine∧∃ (its:List Value) (n:Nat),Vals xs its∧h.get? a=some { cls:=.type "list",data:=.seq its.toArray n }
  | .tup xs=>xs.length≤sizeLine∧∃ its:List Value,Vals xs its∧IsTup h a its.toArray
  | .dK kvs=>kvs.length≤sizeLine∧(a == sysModules)=false∧∃ vs,KV kvs vs∧h.DictOf (mixKind P w) a vs
  | .dT kvs=>kvs.length≤sizeLine∧(a == sysModules)=false∧∃ xs:List (List Key×Addr×Value),
      Paired (λ (p:List Key×V) (q:List Key×Addr×Value)=>p.1=q.1∧H q.2.1=some (.tup (p.1.map kV))∧RelV p.2 q.2.2) kvs xs ∧
      ∃ o es ep,h.get? a=some o∧o.ExactDict∧o.data = .dict es ep∧es.toList=xs.map (entryOfKey (tupleKind (mixKind P w)))∧(xs.map (·.1)).Nodup
  | .set S n=>h.SetOf (intKind P w) a S n
  | .ins C dx fs=>H dx=some (.own a)∧fs.length≤1000∧dx≠a∧h.get? a=some (PySem.W.instObj C dx) ∧
      ∃ mA,h.Ns1 dx mA∧(∀ f,RelO (fs.lookup f) (mA f))∧PySem.Within mA (fs.map (·.1))
  | .own _=>∃ o,h.get? a=some o
  | .xd fs=>∃ mA,h.Ns1 a mA∧∀ f,RelO (fs.lookup f) (mA f)
  | .rng lo hi=>∃ t u v,h.get? a=some { cls:=.type "range",data:=.fields #[.int lo t,.int hi u,.int 1 v] }
  | .frz o u=>h.get? a=some o∧ObjOk H h a u
  | .tbl ps=>h.get? a=some { cls:=.none,data:=.fields ps }
  | .met f x=>h.get? a=some (PySem.W.methodObj (.ref f) (.ref x))
  | .ext φ=>φ h∧(∃ o,h.get? a=some o)∧∀ h1 h2:Heap,φ h1→(∀ o,h1.get? a=some o→h2.get? a=some o)→φ h2
noncomputable def HOk (H:Hp) (h:Heap):Prop:=∀ a o,H a=some o→ObjOk P w H h a o
end
section
variable {P:Program} {w:World} {H H':Hp} {h h':Heap} {a:Addr} {o:HO}
theorem ObjOk.lt (x:ObjOk P w H h a o):a < h.objs.size:=by
  cases o with
  | lst xs=>obtain ⟨_,_,_,_,e⟩:=x;exact Heap.lt_size e
  | tup xs=>obtain ⟨_,_,_,p⟩:=x;exact p.lt
  | dK kvs=>obtain ⟨_,_,_,_,o,_,_,e,_⟩:=x;exact Heap.lt_size e
  | dT kvs=>obtain ⟨_,_,_,_,o,_,_,e,_⟩:=x;exact Heap.lt_size e
  | set S n=>obtain ⟨o,_,_,_,e,_⟩:=x;exact Heap.lt_size e
  | ins C dx fs=>obtain ⟨_,_,_,e,_⟩:=x;exact Heap.lt_size e
  | own y=>obtain ⟨_,e⟩:=x;exact Heap.lt_size e
  | xd fs=>obtain ⟨_,⟨_,_,_,e,_⟩,_⟩:=x;exact Heap.lt_size e
  | rng lo hi=>obtain ⟨_,_,_,e⟩:=x;exact Heap.lt_size e
  | frz ob u=>obtain ⟨e,_⟩:=x;exact Heap.lt_size e
  | tbl ps=>exact Heap.lt_size (show h.get? a=some _ from x)
  | met f y=>exact Heap.lt_size (show h.get? a=some _ from x)
  | ext φ=>obtain ⟨_,⟨_,e⟩,_⟩:=x;exact Heap.lt_size e
theorem Paired.mapP {α β:Type} {F G:α→β→Prop}:∀ {l₁:List α} {l₂:List β},Paired F l₁ l₂→(∀ a b,F a b→G a b)→Paired G l₁ l₂
  | _,_,.nil,_=>.nil
  | _,_,.cons r t,f=>.cons (f _ _ r) (Paired.mapP t f)
theorem ObjOk.stay (x:ObjOk P w H h a o) (k:∀ b u,(b=a∨H b=some (.own a))→h.get? b=some u→h'.get? b=some u)
    (ho:∀ b,H b=some (.own a)→H' b=some (.own a)) (ht:∀ b xs,H b=some (.tup xs)→H' b=some (.tup xs)):ObjOk P w H' h' a o:=by
  induction o with
  | lst xs=>obtain ⟨z,its,n,r,e⟩:=x;exact ⟨z,its,n,r,k _ _ (.inl rfl) e⟩
  | tup xs=>obtain ⟨z,its,r,ob,e,c⟩:=x;exact ⟨z,its,r,ob,k _ _ (.inl rfl) e,c⟩
  | dK kvs=>obtain ⟨z,y,vs,r,ob,es,ep,e,c⟩:=x;exact ⟨z,y,vs,r,ob,es,ep,k _ _ (.inl rfl) e,c⟩
  | dT kvs =>
    obtain ⟨z,y,xs,r,ob,es,ep,e,c⟩:=x;exact ⟨z,y,xs,Paired.mapP r λ p q z=>⟨z.1,ht _ _ z.2.1,z.2.2⟩,ob,es,ep,k _ _ (.inl rfl) e,c⟩
  | set S n=>obtain ⟨ob,es,ep,t,e,c⟩:=x;exact ⟨ob,es,ep,t,k _ _ (.inl rfl) e,c⟩
  | ins C dx fs =>
    obtain ⟨d,z,ne,e,mA,⟨od,es,ep,e2,c⟩,r⟩:=x;exact ⟨ho _ d,z,ne,k _ _ (.inl rfl) e,mA,⟨od,es,ep,k _ _ (.inr d) e2,c⟩,r⟩
  | own y=>obtain ⟨ob,e⟩:=x;exact ⟨ob,k _ _ (.inl rfl) e⟩
  | xd fs=>obtain ⟨mA,⟨od,es,ep,e,c⟩,r⟩:=x;exact ⟨mA,⟨od,es,ep,k _ _ (.inl rfl) e,c⟩,r⟩
  | rng lo hi=>obtain ⟨t,u,v,e⟩:=x;exact ⟨t,u,v,k _ _ (.inl rfl) e⟩
  | frz ob u ih=>obtain ⟨e,q⟩:=x;exact ⟨k _ _ (.inl rfl) e,ih q⟩
  | tbl ps =>
    have e:h.get? a=some { cls:=.none,data:=.fields ps }:=x;show h'.get? a=some { cls:=.none,data:=.fields ps };exact k a _ (.inl rfl) e
  | met f y =>
    have e:h.get? a=some (PySem.W.methodObj (.ref f) (.ref y)):=x;show h'.get? a=some (PySem.W.methodObj (.ref f) (.ref y));exact k a _ (.inl rfl) e
  | ext φ=>obtain ⟨p,⟨o,e⟩,st⟩:=x;exact ⟨st _ _ p λ o q=>k _ _ (.inl rfl) q,⟨o,k _ _ (.inl rfl) e⟩,st⟩
theorem HOk.lt (x:HOk P w H h) (e:H a=some o):a < h.objs.size:=(x a o e).lt
theorem HOk.fresh (x:HOk P w H h) (e:h.objs.size≤a):H a=none:=by
  cases q:H a with
  | none=>rfl
  | some u=>exact absurd (Nat.lt_of_lt_of_le (x.lt q) e) (Nat.lt_irrefl _)
theorem HOk.kept (x:HOk P w H h) (k:∀ b u,h.get? b=some u→h'.get? b=some u):HOk P w H h':=λ a o e =>
  (x a o e).stay (λ b u _ q=>k b u q) (λ _ q=>q) λ _ _ q=>q
theorem HOk.laid (x:HOk P w H h) (k:∀ b u,h.get? b=some u→h'.get? b=some u) (hp:h.objs.size≤a) (new:ObjOk P w (upd H a o) h' a o):HOk P w (upd H a o) h':=λ b u e=>by
  have hn:=x.fresh hp
  by_cases hb:b=a
  · subst hb;rw [upd_same] at e;cases e;exact new
  · rw [upd_ne hb] at e;exact (x b u e).stay (λ c v _ q=>k c v q) (λ c q=>by rw [upd_ne (ne_of_none q hn)];exact q) λ c xs q=>by rw [upd_ne (ne_of_none q hn)];exact q
end
noncomputable def Rd (H:Hp) (a:Addr) (u:HO):Prop:=H a=some u∨∃ o,H a=some (.frz o u)
theorem Rd.ok {P:Program} {w:World} {H:Hp} {h:Heap} {a:Addr} {u:HO} (r:Rd H a u) (x:HOk P w H h):ObjOk P w H h a u:=by
  rcases r with r | ⟨o,r⟩
  · exact x a u r
  · obtain ⟨_,q⟩:=x a _ r;exact q
noncomputable def Mut:Option HO→Prop
  | some (.lst _)=>True
  | some (.dK _)=>True
  | some (.dT _)=>True
  | some (.set _ _)=>True
  | some (.ins _ _ _)=>True
  | some (.ext _)=>True
  | _=>False
section
variable {P:Program} {w:World} {H:Hp} {h h':Heap} {x e:Addr} {o':HO}
theorem HOk.write (ok:HOk P w H h) (mu:Mut (H x)) (he:e=x∨H e=some (.own x)) (k:∀ b u,b≠e→h.get? b=some u→h'.get? b=some u) (heo:∃ u,h'.get? e=some u)
    (new:ObjOk P w (upd H x o') h' x o'):HOk P w (upd H x o') h':=λ b u q=>by
  have nown:∀ c y,H c=some (.own y)→c≠x:=λ c y r z=>by subst z;rw [r] at mu;exact mu
  have ntup:∀ c xs,H c=some (.tup xs)→c≠x:=λ c xs r z=>by subst z;rw [r] at mu;exact mu
  by_cases hb:b=x
  · subst hb;rw [upd_same] at q;cases q;exact new
  · rw [upd_ne hb] at q
    by_cases hbe:b=e
    · have q':H b=some (.own x):=by
        rcases he with z | z
        · exact absurd (hbe.trans z) hb
        · rw [hbe];exact z
      rw [q] at q';cases q';obtain ⟨v,hv⟩:=heo;exact ⟨v,by rw [hbe];exact hv⟩
    · refine (ok b u q).stay (λ c v hc r=>k c v ?_ r) (λ c r=>by rw [upd_ne (nown c b r)];exact r) λ c xs r=>by rw [upd_ne (ntup c xs r)];exact r
      rcases hc with rfl | hc
      · exact hbe
      · rintro rfl;rcases he with z | z
        · exact nown c b hc z
        · rw [hc] at z;cases z;exact hb rfl
end
structure Un (fs ex:List Addr) (H H':Hp) (h h':Heap):Prop where
  keep:∀ b o,h.get? b=some o→H b=none→b∉fs→b∉ex→h'.get? b=some o
  slot:∀ b o,h.get? b=some o→H b=none→b∈fs→b∉ex→∃ sl,h'.get? b=some { o with slots:=sl }
  free:∀ b o,h.get? b=some o→H b=none→b∉ex→H' b=none
  there:∀ b o,h.get? b=some o→b∉ex→∃ o',h'.get? b=some o'
  tups:∀ b xs,H b=some (.tup xs)→H' b=some (.tup xs)
  frzs:∀ b o u,H b=some (.frz o u)→H' b=some (.frz o u)
  tbls:∀ b ps,H b=some (.tbl ps)→∃ more,H' b=some (.tbl (ps ++ more))
section
variable {fs fs' ex ex':List Addr} {H H1 H2:Hp} {h h1 h2 h':Heap} {a x e:Addr} {o:HO}
theorem Un.any (u:Un fs ex H H1 h h1) {b:Addr} {ob:Obj} (q:h.get? b=some ob) (n:H b=none) (hx:b∉ex):∃ sl,h1.get? b=some { ob with slots:=sl }:=by
  by_cases hb:b∈fs
  · exact u.slot b ob q n hb hx
  · exact ⟨ob.slots,u.keep b ob q n hb hx⟩
theorem Un.kept (k:∀ b u,h.get? b=some u→h'.get? b=some u):Un fs ex H H h h' :=
  ⟨λ b ob q _ _ _=>k b ob q,λ b ob q _ _ _=>⟨ob.slots,k b ob q⟩,λ _ _ _ n _=>n,λ b ob q _=>⟨ob,k b ob q⟩,λ _ _ q=>q,λ _ _ _ q=>q,λ _ ps q=>⟨#[],by rw [q];simp⟩⟩
theorem Un.refl:Un fs ex H H h h:=Un.kept λ _ _ q=>q
theorem Un.laid (k:∀ b u,h.get? b=some u→h'.get? b=some u) (hp:h.objs.size≤a) (hn:H a=none):Un fs ex H (upd H a o) h h' where
  keep:=λ b u q _ _ _=>k b u q
  slot:=λ b u q _ _ _=>⟨u.slots,k b u q⟩
  free:=λ b u q n _=>by rw [upd_ne (Nat.ne_of_lt (Nat.lt_of_lt_of_le (Heap.lt_size q) hp))];exact n
  there:=λ b u q _=>⟨u,k b u q⟩
  tups:=λ b xs q=>by rw [upd_ne (ne_of_none q hn)];exact q
  frzs:=λ b u xs q=>by rw [upd_ne (ne_of_none q hn)];exact q
  tbls:=λ b ps q=>⟨#[],by rw [upd_ne (ne_of_none q hn),q];simp⟩
theorem Un.write (mu:Mut (H x)) (he:e=x∨H e=some (.own x)) (k:∀ b u,b≠e→h.get? b=some u→h'.get? b=some u) (heo:∃ u,h'.get? e=some u):Un fs ex H (upd H x o) h h':=by
  have hx:∀ b,H b=none→b≠x:=λ b n z=>by subst z;rw [n] at mu;exact mu
  have hb:∀ b,H b=none→b≠e:=λ b n z=>by
    subst z;rcases he with r | r
    · exact hx b n r
    · rw [n] at r;cases r
  have hm:∀ b u,H b=some u→¬ Mut (some u)→b≠x:=λ b u q nm z=>by subst z;rw [q] at mu;exact nm mu
  refine ⟨λ b u q n _ _=>k b u (hb b n) q,λ b u q n _ _=>⟨u.slots,k b u (hb b n) q⟩,λ b u q n _=>by rw [upd_ne (hx b n)];exact n,λ b u q _=>?_,
    λ b xs q=>by rw [upd_ne (hm b _ q λ z=>z)];exact q,λ b u xs q=>by rw [upd_ne (hm b _ q λ z=>z)];exact q,λ b ps q=>⟨#[],by rw [upd_ne (hm b _ q λ z=>z),q];simp⟩⟩
  by_cases hbe:b=e
  · subst hbe;exact heo
  · exact ⟨u,k b u hbe q⟩
end
noncomputable def trk (h:Heap) (H:Hp):List Addr:=(List.range h.objs.size).filter λ a=>(H a).isSome
noncomputable def hidT (h:Heap) (H:Hp):Heap:=PySem.W.hideAll h (trk h H)
theorem hidT_size (h:Heap) (H:Hp):(hidT h H).objs.size=h.objs.size:=PySem.W.hideAll_size _ _
theorem hidT_get {h:Heap} {H:Hp} {b:Addr} {o:Obj} (e:h.get? b=some o) (n:H b=none):(hidT h H).get? b=some o :=
  PySem.W.hideAll_get _ e λ hm=>by
    have q:(H b).isSome=true:=(List.mem_filter.mp hm).2;rw [n] at q;simp at q
theorem of_hidT {h:Heap} {H:Hp} {b:Addr} {o:Obj} (e:(hidT h H).get? b=some o):h.get? b=some o∧H b=none:=by
  have e':h.get? b=some o:=PySem.W.of_hideAll (trk h H) e;refine ⟨e',?_⟩;cases q:H b with
  | none=>rfl
  | some x =>
    have hm:b∈trk h H:=List.mem_filter.mpr ⟨List.mem_range.mpr (Heap.lt_size e'),by simp [q]⟩;have z:(hidT h H).get? b=none:=PySem.W.hideAll_none (trk h H) hm;rw [z] at e;cases e
end L2
namespace L2
open PySem PySem.Spec PyProof.Rows
structure Mod (K:PySem.W.Frag) (mg:Str→Option Value) (base:Heap):Prop where
  kin:K.In base
  glob:base.Ns mainGlobals mg
  blt:∃ mb,base.Ns builtinsNs mb∧∀ x:Str,x≠"__name__"→mb x=bootBuiltins x
  nolimit:base.NoLimit
structure Cx where
  prog:Program
  w:World
  K:PySem.W.Frag
  mg:Str→Option Value
  base:Heap
  A:Around
  N:List Str
  s₀:Shared
  H₀:Hp
  env:Env
  outer:List Env
  stack:List Env
  ex:List Addr
  fn:Str→Bool
  calm:Bool
  pn:List (Addr×Obj)
  xe:Value→Shared→Prop
noncomputable def frs (l:List Env):List Addr:=l.filterMap (·.frame)
noncomputable abbrev Cx.fs (X:Cx):List Addr:=frs X.outer
noncomputable def Vis (sc:Scope) (x:Str):Prop:=sc.names.lookup x=some .local∨sc.names.lookup x=some .cell∨sc.names.lookup x=some .free
noncomputable def Loc (sc:Scope) (x:Str):Prop:=sc.names.lookup x=some .local∨sc.names.lookup x=some .cell
noncomputable def Look (env:Env) (h:Heap) (m:Str→Option Value) (x:Str) (u:Value):Prop :=
  (env.kindOf x=some .local∧m x=some u)∨((env.kindOf x=some .cell∨env.kindOf x=some .free)∧∃ c,env.cells.lookup x=some c∧h.IsCell c (some u))
structure Cx.Ok (X:Cx):Prop where
  mod:Mod X.K X.mg X.base
  kind:X.env.scope.kind = .function
  glob:X.env.globals=mainGlobals
  blt:X.env.builtins=builtinsNs
  above:X.s₀.heap.objs.size≤X.env.locals
  inj:∀ x y c,X.env.cells.lookup x=some c→X.env.cells.lookup y=some c→x=y
  has:∀ x,(X.env.kindOf x=some .cell∨X.env.kindOf x=some .free)→∃ c,X.env.cells.lookup x=some c
  cab:∀ x c,X.fn x=true→X.env.cells.lookup x=some c→X.s₀.heap.objs.size≤c
  hd:X.calm=true→X.A.handled=none
  frames:X.A.frames=some X.stack
  stk:X.stack=X.outer∨(X.stack=X.env :: X.outer∧X.env.frame=some X.env.locals)
  exf:∀ b∈X.ex,b≠X.env.locals∧∀ x c,X.env.cells.lookup x=some c→c≠b
  bs:∀ b o,X.base.get? b=some o→X.s₀.heap.get? b=some o∧X.H₀ b=none
  bsz:X.base.objs.size≤X.s₀.heap.objs.size
  noex:∀ b o,X.base.get? b=some o→b∉X.ex
  exfs:∀ b∈X.ex,b∉X.fs
  funs:X.s₀.heap.FunFrames X.base X.outer
  frf:∀ b∈X.fs,X.H₀ b=none
structure Inv (X:Cx) (pins:List (Addr×Obj)) (σ:List (Option V)) (H:Hp) (s:Shared):Prop where
  ok:X.Ok
  os:s.os=X.s₀.os
  bare:AllBare s.gens
  base:Un X.fs X.ex X.H₀ H X.s₀.heap s.heap
  loc:∃ m,s.heap.Ns X.env.locals m∧∀ (i:Nat) (x:Str) (v:V),X.N[i]?=some x→σ[i]?=some (some v)→Vis X.env.scope x→∃ u,RelV v u∧Look X.env s.heap m x u
  cell:∀ x c,X.env.cells.lookup x=some c→∃ v,s.heap.IsCell c v
  free:H X.env.locals=none
  freeC:∀ x c,X.env.cells.lookup x=some c→H c=none
  pin:∀ p∈X.pn ++ pins,s.heap.get? p.1=some p.2∧H p.1=none∧p.1≠X.env.locals∧p.1∉X.fs∧∀ v,p.2.data≠.cell v
  hok:HOk X.prog X.w H s.heap
  len:σ.length=X.N.length
section
variable {X:Cx} {pins:List (Addr×Obj)} {σ:List (Option V)} {H H':Hp} {s:Shared} {h':Heap}
theorem Cx.Ok.nofr (ok:X.Ok) {b:Addr} {o:Obj} (e:X.base.get? b=some o):b∉X.fs:=λ hb=>by
  have:=(ok.funs.mem hb).1;rw [e] at this;cases this
theorem Inv.bs (I:Inv X pins σ H s):∀ b o,X.base.get? b=some o→s.heap.get? b=some o∧H b=none:=λ b o e =>
  ⟨I.base.keep b o (I.ok.bs b o e).1 (I.ok.bs b o e).2 (I.ok.nofr e) (I.ok.noex b o e),I.base.free b o (I.ok.bs b o e).1 (I.ok.bs b o e).2 (I.ok.noex b o e)⟩
theorem Inv.bk (I:Inv X pins σ H s):∀ b o,X.base.get? b=some o→s.heap.get? b=some o:=λ b o e=>(I.bs b o e).1
theorem Inv.mod (I:Inv X pins σ H s):Mod X.K X.mg X.base:=I.ok.mod
theorem Inv.kIn (I:Inv X pins σ H s):X.K.In s.heap:=I.ok.mod.kin.keeps I.bk
theorem Inv.lt (I:Inv X pins σ H s):X.env.locals < s.heap.objs.size:=let ⟨_,hn,_⟩:=I.loc;hn.lt
theorem Inv.sz (I:Inv X pins σ H s):X.s₀.heap.objs.size≤s.heap.objs.size:=Nat.le_trans I.ok.above (Nat.le_of_lt I.lt)
theorem Inv.nofs (I:Inv X pins σ H s) {a:Addr} (h:s.heap.objs.size≤a):a∉X.fs:=λ hb=>by
  obtain ⟨_,o,ho,_⟩:=I.ok.funs.mem hb;exact absurd (Nat.lt_of_lt_of_le (Heap.lt_size ho) (Nat.le_trans I.sz h)) (Nat.lt_irrefl _)
theorem Inv.cne (I:Inv X pins σ H s):∀ x c,X.env.cells.lookup x=some c→c≠X.env.locals:=λ x c e z=>by
  obtain ⟨v,o,ho,hd⟩:=I.cell x c e;obtain ⟨m,⟨o',es,ep,ho',hd',_⟩,_⟩:=I.loc;rw [z,ho'] at ho;cases ho;rw [hd'] at hd;cases hd
theorem Inv.funs (I:Inv X pins σ H s):s.heap.FunFrames X.base X.outer:=by
  have all:∀ (l:List Env),(∀ b∈frs l,b∈X.fs)→X.s₀.heap.FunFrames X.base l→s.heap.FunFrames X.base l:=by
    intro l
    induction l with
    | nil=>intro _ _;trivial
    | cons env r ih =>
      intro hs hl;obtain ⟨hk,⟨L,o,hf,hn,ho,hd⟩,hr⟩:=hl;have hL:L∈X.fs:=hs L (by unfold frs;rw [List.filterMap_cons,hf];exact List.mem_cons_self);obtain ⟨sl,e⟩:=I.base.slot L o ho (I.ok.frf L hL) hL λ z=>I.ok.exfs L z hL;exact ⟨hk,⟨L,_,hf,hn,e,hd⟩,ih (λ b hb=>hs b (by unfold frs;rw [List.filterMap_cons,hf];exact List.mem_cons_of_mem _ hb)) hr⟩
  exact all X.outer (λ _ hb=>hb) I.ok.funs
theorem Inv.stack (I:Inv X pins σ H s):s.heap.FunFrames X.base X.stack:=by
  rcases I.ok.stk with e | ⟨e,hf⟩
  · rw [e];exact I.funs
  · rw [e];obtain ⟨m,hn,_⟩:=I.loc;refine .cons (by rw [I.ok.kind];decide) hf hn ?_ I.funs;exact Heap.get?_none_of_le (Nat.le_trans I.ok.bsz I.ok.above)
theorem Inv.stkSub (I:Inv X pins σ H s):∀ b∈frs X.stack,b∈X.env.locals :: X.fs:=λ b hb=>by
  rcases I.ok.stk with e | ⟨e,hf⟩
  · rw [e] at hb;exact List.mem_cons_of_mem _ hb
  · rw [e] at hb;unfold frs at hb;rw [List.filterMap_cons,hf] at hb;exact hb
theorem Inv.stkFree (I:Inv X pins σ H s):∀ b∈frs X.stack,H b=none:=λ b hb=>by
  rcases List.mem_cons.mp (I.stkSub b hb) with e | hb
  · rw [e];exact I.free
  · obtain ⟨_,o,ho,_⟩:=I.ok.funs.mem hb;exact I.base.free b o ho (I.ok.frf b hb) λ z=>I.ok.exfs b z hb
theorem Inv.step {g':Array GenState} {t':Nat} {d':Drawn} {ch:List Addr} (I:Inv X pins σ H s)
    (hch:∀ b∈ch,(b∈X.ex∨X.s₀.heap.objs.size≤b)∧b≠X.env.locals∧(∀ x c,X.env.cells.lookup x=some c→c≠b)∧∀ p∈X.pn ++ pins,p.1≠b)
    (keep:∀ b o,b≠X.env.locals→b∉X.fs→b∉ch→s.heap.get? b=some o→H b=none→h'.get? b=some o)
    (slot:∀ b o,b≠X.env.locals→b∈X.fs→b∉ch→s.heap.get? b=some o→H b=none→∃ sl,h'.get? b=some { o with slots:=sl }) (free:∀ b o,b∉ch→s.heap.get? b=some o→H b=none→H' b=none)
    (there:∀ b o,b∉ch→s.heap.get? b=some o→∃ o',h'.get? b=some o')
    (tups:∀ b xs,H b=some (.tup xs)→H' b=some (.tup xs)) (frzs:∀ b o u,H b=some (.frz o u)→H' b=some (.frz o u)) (tbls:∀ b ps,H b=some (.tbl ps)→∃ more,H' b=some (.tbl (ps ++ more)))
    (ns:∀ m,s.heap.Ns X.env.locals m→h'.Ns X.env.locals m) (hok:HOk X.prog X.w H' h') (hg:AllBare g') :
    Inv X pins σ H' { s with heap:=h',gens:=g',drawn:=d',toks:=t' }:=by
  have neL:∀ b o,X.s₀.heap.get? b=some o→b≠X.env.locals:=λ b o e=>Nat.ne_of_lt (Nat.lt_of_lt_of_le (Heap.lt_size e) I.ok.above);have neC:∀ b o,X.s₀.heap.get? b=some o→b∉X.ex→b∉ch:=λ b o e hx hb=>by
    rcases (hch b hb).1 with z | z
    · exact hx z
    · exact absurd (Nat.lt_of_lt_of_le (Heap.lt_size e) z) (Nat.lt_irrefl _)
  have cellK:∀ x c,X.env.cells.lookup x=some c→∀ v,s.heap.IsCell c v→h'.IsCell c v:=λ x c e v ⟨o,ho,hd⟩=>by
    have nch:c∉ch:=λ z=>(hch c z).2.2.1 x c e rfl
    by_cases hc:c∈X.fs
    · obtain ⟨sl,q⟩:=slot c o (I.cne x c e) hc nch ho (I.freeC x c e);exact ⟨_,q,hd⟩
    · exact ⟨o,keep c o (I.cne x c e) hc nch ho (I.freeC x c e),hd⟩
  refine ⟨I.ok,I.os,hg,⟨λ b o e n hb hx=>?_,λ b o e n hb hx=>?_,λ b o e n hx=>?_,λ b o e hx=>?_,λ b xs e=>tups b xs (I.base.tups b xs e),λ b o xs e=>frzs b o xs (I.base.frzs b o xs e),λ b ps e=>?_⟩,?_,λ x c e=>?_,?_,λ x c e=>?_,λ p hp=>?_,hok,I.len⟩
  · exact keep b o (neL b o e) hb (neC b o e hx) (I.base.keep b o e n hb hx) (I.base.free b o e n hx)
  · obtain ⟨sl,e1⟩:=I.base.slot b o e n hb hx;obtain ⟨sl',e2⟩:=slot b _ (neL b o e) hb (neC b o e hx) e1 (I.base.free b o e n hx);exact ⟨sl',e2⟩
  · obtain ⟨o',e1⟩:=I.base.there b o e hx;exact free b o' (neC b o e hx) e1 (I.base.free b o e n hx)
  · obtain ⟨o',e1⟩:=I.base.there b o e hx;exact there b o' (neC b o e hx) e1
  · obtain ⟨m1,e1⟩:=I.base.tbls b ps e;obtain ⟨m2,e2⟩:=tbls b _ e1;exact ⟨m1 ++ m2,by rw [e2,Array.append_assoc]⟩
  · obtain ⟨m,hn,hl⟩:=I.loc;refine ⟨m,ns m hn,λ i x v e1 e2 e3=>?_⟩;obtain ⟨u,r,l⟩:=hl i x v e1 e2 e3;refine ⟨u,r,?_⟩;rcases l with l | ⟨k,c,e,z⟩
    · exact .inl l
    · exact .inr ⟨k,c,e,cellK x c e _ z⟩
  · obtain ⟨v,z⟩:=I.cell x c e;exact ⟨v,cellK x c e v z⟩
  · obtain ⟨m,⟨o,_,_,ho,_⟩,_⟩:=I.loc;exact free _ o (λ z=>(hch _ z).2.1 rfl) ho I.free
  · obtain ⟨v,o,ho,hd⟩:=I.cell x c e;exact free c o (λ z=>(hch c z).2.2.1 x c e rfl) ho (I.freeC x c e)
  · obtain ⟨e,n,ne,nf,d⟩:=I.pin p hp;have nch:p.1∉ch:=λ z=>(hch p.1 z).2.2.2 p hp rfl;exact ⟨keep p.1 p.2 ne nf nch e n,free p.1 p.2 nch e n,ne,nf,d⟩
theorem Inv.un {t':Nat} (I:Inv X pins σ H s) (u:Un X.fs [] H H' s.heap h') (hok:HOk X.prog X.w H' h'):Inv X pins σ H' { s with heap:=h',toks:=t' }:=by
  obtain ⟨m,⟨o,es,ep,ho,r⟩,_⟩:=id I.loc;obtain ⟨sl,hL⟩:=u.any ho I.free (by simp);exact I.step (g':=s.gens) (d':=s.drawn) (ch:=[]) (λ _ z=>nomatch z) (λ b o _ hb _ e n=>u.keep b o e n hb (by simp)) (λ b o _ hb _ e n=>u.slot b o e n hb (by simp)) (λ b o _ e n=>u.free b o e n (by simp)) (λ b o _ e=>u.there b o e (by simp)) u.tups u.frzs u.tbls (λ m' hm=>by
    obtain ⟨o',es',ep',ho',r'⟩:=hm;rw [ho] at ho';cases ho';exact ⟨_,es',ep',hL,r'⟩) hok I.bare
theorem Inv.call {g':Array GenState} {t':Nat} {d':Drawn} {ch:List Addr} (I:Inv X pins σ H s) (u:Un (frs X.stack) ch H H' s.heap h') (hok:HOk X.prog X.w H' h') (hg:AllBare g')
    (hch:∀ b∈ch,(b∈X.ex∨X.s₀.heap.objs.size≤b)∧b≠X.env.locals∧(∀ x c,X.env.cells.lookup x=some c→c≠b)∧∀ p∈X.pn ++ pins,p.1≠b) :
    Inv X pins σ H' { s with heap:=h',gens:=g',drawn:=d',toks:=t' }:=by
  obtain ⟨m,⟨o,es,ep,ho,r⟩,_⟩:=id I.loc;obtain ⟨sl,hL⟩:=u.any ho I.free λ z=>(hch _ z).2.1 rfl;exact I.step (ch:=ch) hch (λ b o hL hb hc e n=>u.keep b o e n (λ z=>(List.mem_cons.mp (I.stkSub b z)).elim hL hb) hc) (λ b o _ _ hc e n=>u.any e n hc) (λ b o hc e n=>u.free b o e n hc) (λ b o hc e=>u.there b o e hc) u.tups u.frzs u.tbls (λ m' hm=>by
    obtain ⟨o',es',ep',ho',r'⟩:=hm;rw [ho] at ho';cases ho';exact ⟨_,es',ep',hL,r'⟩) hok hg
theorem Inv.turned {t':Nat} {it:Addr} (I:Inv X pins σ H s) (k:∀ b o,b≠it→s.heap.get? b=some o→h'.get? b=some o) (hn:H it=none) (hL:it≠X.env.locals)
    (h1:it∈X.ex∨X.s₀.heap.objs.size≤it) (h2:∀ x c,X.env.cells.lookup x=some c→c≠it) (h3:∀ p∈X.pn ++ pins,p.1≠it):Inv X pins σ H { s with heap:=h',toks:=t' }:=by
  have nit:∀ b u,H b=some u→b≠it:=λ b u e z=>by rw [z,hn] at e;cases e
  refine I.step (g':=s.gens) (d':=s.drawn) (ch:=[it]) (λ b hb=>?_) (λ b o _ _ hc e _=>k b o (λ z=>hc (by simp [z])) e) (λ b o _ _ hc e _=>⟨o.slots,k b o (λ z=>hc (by simp [z])) e⟩) (λ _ _ _ _ n=>n)
    (λ b o hc e=>⟨o,k b o (λ z=>hc (by simp [z])) e⟩) (λ _ _ e=>e) (λ _ _ _ e=>e) (λ b ps e=>⟨#[],by rw [e];simp⟩) (λ m hm=>?_) (λ b u e=>?_) I.bare
  · have e:b=it:=by simpa using hb
    subst e;exact ⟨h1,hL,h2,h3⟩
  · obtain ⟨o,es,ep,ho,r⟩:=hm;exact ⟨o,es,ep,k _ o (Ne.symm hL) ho,r⟩
  · refine (I.hok b u e).stay (λ c v hc q=>k c v ?_ q) (λ _ q=>q) λ _ _ q=>q;rcases hc with z | z
    · rw [z];exact nit b u e
    · exact nit c _ z
theorem Inv.tok (I:Inv X pins σ H s) (t:Nat):Inv X pins σ H { s with toks:=t }:=I.un (h':=s.heap) (t':=t) Un.refl I.hok
theorem Inv.kept {t':Nat} (I:Inv X pins σ H s) (k:∀ b u,s.heap.get? b=some u→h'.get? b=some u):Inv X pins σ H { s with heap:=h',toks:=t' }:=I.un (Un.kept k) (I.hok.kept k)
theorem Inv.laid {a:Addr} {o:HO} {t':Nat} (I:Inv X pins σ H s) (k:∀ b u,s.heap.get? b=some u→h'.get? b=some u) (hp:s.heap.objs.size≤a) (new:ObjOk X.prog X.w (upd H a o) h' a o) :
    Inv X pins σ (upd H a o) { s with heap:=h',toks:=t' }:=I.un (Un.laid k hp (I.hok.fresh hp)) (I.hok.laid k hp new)
theorem Inv.write {x e:Addr} {o:HO} {t':Nat} (I:Inv X pins σ H s) (mu:Mut (H x)) (he:e=x∨H e=some (.own x)) (k:∀ b u,b≠e→s.heap.get? b=some u→h'.get? b=some u) (heo:∃ u,h'.get? e=some u)
    (new:ObjOk X.prog X.w (upd H x o) h' x o):Inv X pins σ (upd H x o) { s with heap:=h',toks:=t' }:=I.un (Un.write mu he k heo) (I.hok.write mu he k heo new)
theorem Inv.pins_of {pins':List (Addr×Obj)} (I:Inv X pins σ H s) (h:∀ p∈pins',s.heap.get? p.1=some p.2∧H p.1=none∧p.1≠X.env.locals∧p.1∉X.fs∧∀ v,p.2.data≠.cell v):Inv X pins' σ H s :=
  ⟨I.ok,I.os,I.bare,I.base,I.loc,I.cell,I.free,I.freeC,λ p hp=>(List.mem_append.mp hp).elim (λ z=>I.pin p (List.mem_append_left _ z)) (h p),I.hok,I.len⟩
theorem nodup_ix {N:List Str} (hN:N.Nodup) {i j:Nat} {x:Str} (a:N[i]?=some x) (b:N[j]?=some x):i=j:=by
  obtain ⟨h1,e1⟩:=List.getElem?_eq_some_iff.mp a;obtain ⟨h2,e2⟩:=List.getElem?_eq_some_iff.mp b;exact (List.getElem_inj hN).mp (e1.trans e2.symm)
theorem store_ok2 {M:Model} {A:Around} {E:Value→Shared→Prop} {i:Nat} {x:Str} {v:V} {u:Value} {Q:Unit→Shared→Prop} (I:Inv X pins σ H s) (hN:X.N.Nodup) (hi:X.N[i]?=some x) (hx:Loc X.env.scope x) (r:RelV v u)
    (h:∀ s',Inv X pins (σ.set i (some v)) H s'→(∃ a,Heap.SameBut a s.heap s'.heap∧(a=X.env.locals∨X.env.cells.lookup x=some a))→Q () s') (hf:X.fn x=true∨X.env.scope.names.lookup x=some .local:=by first | exact .inl rfl | exact .inr rfl | assumption):wpAny M A (storeName X.env x u) Q E s:=by
  obtain ⟨m,hn,hl⟩:=id I.loc;have hcls:(X.env.scope.kind == .class || (X.env.scope.kind == .module && X.env.locals != X.env.globals))=false:=by rw [I.ok.kind];rfl
  have hiσ:i < σ.length:=by rw [I.len];exact (List.getElem?_eq_some_iff.mp hi).1
  have cne:=I.cne;have tracked:∀ {a:Addr} {h':Heap},(∃ o,s.heap.get? a=some o∧H a=none)→Heap.SameBut a s.heap h'→HOk X.prog X.w H h':=λ {a h'} ha hs b ob e=>by
    obtain ⟨_,_,hfree⟩:=ha;refine (I.hok b ob e).stay (λ c w' hc q=>(hs.2 c ?_).trans q) (λ _ q=>q) λ _ _ q=>q;rintro rfl;rcases hc with rfl | hc
    · rw [hfree] at e;cases e
    · rw [hfree] at hc;cases hc
  rcases hx with hk | hk
  · refine wpAny_storeName_local hk hn (λ h' hn' hs=>?_) hcls;obtain ⟨oL,_,_,hoL,_⟩:=id hn;refine h _ ⟨I.ok,I.os,I.bare,⟨λ b o e n hb hx=>?_,λ b o e n hb hx=>?_,I.base.free,λ b o e hx=>?_,I.base.tups,I.base.frzs,I.base.tbls⟩,⟨_,hn',λ j y v' e1 e2 e3=>?_⟩,λ y c e=>?_,I.free,I.freeC,λ p hp=>?_,tracked ⟨oL,hoL,I.free⟩ hs,by simpa using I.len⟩ ⟨_,hs,.inl rfl⟩
    · exact (hs.2 b (Nat.ne_of_lt (Nat.lt_of_lt_of_le (Heap.lt_size e) I.ok.above))).trans (I.base.keep b o e n hb hx)
    · obtain ⟨sl,e1⟩:=I.base.slot b o e n hb hx;exact ⟨sl,(hs.2 b (Nat.ne_of_lt (Nat.lt_of_lt_of_le (Heap.lt_size e) I.ok.above))).trans e1⟩
    · obtain ⟨o',e1⟩:=I.base.there b o e hx;exact ⟨o',(hs.2 b (Nat.ne_of_lt (Nat.lt_of_lt_of_le (Heap.lt_size e) I.ok.above))).trans e1⟩
    · by_cases hj:j=i
      · subst hj;rw [hi] at e1;cases e1;rw [List.getElem?_set_self hiσ] at e2;cases e2;exact ⟨u,r,.inl ⟨hk,by simp⟩⟩
      · rw [List.getElem?_set_ne (Ne.symm hj)] at e2;obtain ⟨u',r',q⟩:=hl j y v' e1 e2 e3;refine ⟨u',r',?_⟩;rcases q with ⟨k,e⟩ | ⟨k,c,e,z⟩
        · refine .inl ⟨k,?_⟩;have:y≠x:=λ e=>hj (nodup_ix hN e1 (e ▸ hi));simp [this,e]
        · exact .inr ⟨k,c,e,z.sameBut hs (cne y c e)⟩
    · obtain ⟨w',z⟩:=I.cell y c e;exact ⟨w',z.sameBut hs (cne y c e)⟩
    · obtain ⟨e,n,ne,nf,d⟩:=I.pin p hp;exact ⟨(hs.2 p.1 ne).trans e,n,ne,nf,d⟩
  · have hfn:X.fn x=true:=by
      rcases hf with z | z
      · exact z
      · rw [z] at hk;cases hk
    obtain ⟨c,hc⟩:=I.ok.has x (.inl hk);obtain ⟨w',z⟩:=I.cell x c hc;refine wpAny_storeName_cell I.ok.kind hk hc z (λ h' hc' hs=>?_);obtain ⟨oc,hoc,hocd⟩:=id z;refine h { s with heap:=h' } ⟨I.ok,I.os,I.bare,⟨λ b o e n hb hx=>?_,λ b o e n hb hx=>?_,I.base.free,λ b o e hx=>?_,I.base.tups,I.base.frzs,I.base.tbls⟩,⟨m,hn.sameBut hs (Ne.symm (cne x c hc)),λ j y v' e1 e2 e3=>?_⟩,λ y c' e=>?_,I.free,I.freeC,λ p hp=>?_,tracked ⟨oc,hoc,I.freeC x c hc⟩ hs,by simpa using I.len⟩ ⟨c,hs,.inr hc⟩
    · exact (hs.2 b (Nat.ne_of_lt (Nat.lt_of_lt_of_le (Heap.lt_size e) (I.ok.cab x c hfn hc)))).trans (I.base.keep b o e n hb hx)
    · obtain ⟨sl,e1⟩:=I.base.slot b o e n hb hx;exact ⟨sl,(hs.2 b (Nat.ne_of_lt (Nat.lt_of_lt_of_le (Heap.lt_size e) (I.ok.cab x c hfn hc)))).trans e1⟩
    · obtain ⟨o',e1⟩:=I.base.there b o e hx;exact ⟨o',(hs.2 b (Nat.ne_of_lt (Nat.lt_of_lt_of_le (Heap.lt_size e) (I.ok.cab x c hfn hc)))).trans e1⟩
    · by_cases hj:j=i
      · subst hj;rw [hi] at e1;cases e1;rw [List.getElem?_set_self hiσ] at e2;cases e2;exact ⟨u,r,.inr ⟨.inl hk,c,hc,hc'⟩⟩
      · rw [List.getElem?_set_ne (Ne.symm hj)] at e2;obtain ⟨u',r',q⟩:=hl j y v' e1 e2 e3;refine ⟨u',r',?_⟩;rcases q with q | ⟨k,c',e,z'⟩
        · exact .inl q
        · refine .inr ⟨k,c',e,z'.sameBut hs ?_⟩;rintro rfl;exact hj (nodup_ix hN e1 (I.ok.inj _ _ _ e hc ▸ hi))
    · by_cases hcc:c'=c
      · subst hcc;exact ⟨_,hc'⟩
      · obtain ⟨w2,z2⟩:=I.cell y c' e;exact ⟨w2,z2.sameBut hs hcc⟩
    · obtain ⟨e,n,ne,nf,d⟩:=I.pin p hp;refine ⟨(hs.2 p.1 ?_).trans e,n,ne,nf,d⟩;intro q;rw [q,hoc] at e;have q':oc=p.2:=Option.some.inj e;exact d w' (by rw [← q'];exact hocd)
theorem store_ok {M:Model} {A:Around} {E:Value→Shared→Prop} {i:Nat} {x:Str} {v:V} {u:Value} {Q:Unit→Shared→Prop} (I:Inv X pins σ H s) (hN:X.N.Nodup) (hi:X.N[i]?=some x) (hx:Loc X.env.scope x) (r:RelV v u)
    (h:∀ s',Inv X pins (σ.set i (some v)) H s'→Q () s') (hf:X.fn x=true∨X.env.scope.names.lookup x=some .local:=by first | exact .inl rfl | exact .inr rfl | assumption):wpAny M A (storeName X.env x u) Q E s :=
  store_ok2 I hN hi hx r (λ s' I' _=>h s' I') hf
theorem Inv.call' {s':Shared} {ch:List Addr} (I:Inv X pins σ H s) (ho:s'.os=s.os) (u:Un (frs X.stack) ch H H' s.heap s'.heap) (hok:HOk X.prog X.w H' s'.heap) (hg:AllBare s'.gens)
    (hch:∀ b∈ch,(b∈X.ex∨X.s₀.heap.objs.size≤b)∧b≠X.env.locals∧(∀ x c,X.env.cells.lookup x=some c→c≠b)∧∀ p∈X.pn ++ pins,p.1≠b):Inv X pins σ H' s':=by
  obtain ⟨h',g',d',t',o'⟩:=s';have e:o'=s.os:=ho;subst e;exact I.call (g':=g') (t':=t') (d':=d') u hok hg hch
end
noncomputable abbrev XK:=Value→Option Addr→Hp→Prop
noncomputable abbrev St:=List (Option V)
noncomputable abbrev VK:=V→Hp→Prop
noncomputable abbrev TE:=St→Hp→VK→Prop
noncomputable abbrev TT:=St→Hp→(Bool→Hp→Prop)→Prop
noncomputable abbrev TA:=St→Hp→(List V→Hp→Prop)→Prop
structure Ends where
  nx:St→Hp→Prop
  rt:VK
  bk:St→Hp→Prop:=λ _ _=>False
  ct:St→Hp→Prop:=λ _ _=>False
noncomputable abbrev TS:=Ends→St→Hp→Prop
noncomputable def EP (X:Cx) (pins:List (Addr×Obj)) (σ:St) (Q:VK) (u:Value) (s':Shared):Prop:=∃ v H',Inv X pins σ H' s'∧RelV v u∧Q v H'
noncomputable def TP (X:Cx) (pins:List (Addr×Obj)) (σ:St) (Q:Bool→Hp→Prop) (b:Bool) (s':Shared):Prop:=∃ H',Inv X pins σ H' s'∧Q b H'
noncomputable def AP (X:Cx) (pins:List (Addr×Obj)) (σ:St) (Q:List V→Hp→Prop) (us:List Value) (s':Shared):Prop:=∃ vs H',Inv X pins σ H' s'∧Vals vs us∧Q vs H'
noncomputable def SP (X:Cx) (pins:List (Addr×Obj)) (D:Ends) (f:Flow) (s':Shared):Prop :=
  match f with
  | .next=>∃ σ' H',Inv X pins σ' H' s'∧D.nx σ' H'
  | .brk=>∃ σ' H',Inv X pins σ' H' s'∧D.bk σ' H'
  | .cont=>∃ σ' H',Inv X pins σ' H' s'∧D.ct σ' H'
  | .ret u=>∃ v σ' H',Inv X pins σ' H' s'∧RelV v u∧D.rt v H'
noncomputable def PE (X:Cx) (e:Expr) (t:TE):Prop :=
  ∀ (pins:List (Addr×Obj)) (s:Shared) (σ:St) (H:Hp) (Q:VK),Inv X pins σ H s→t σ H Q→wpAny (model X.prog X.w) X.A (eval e X.env) (EP X pins σ Q) X.xe s
noncomputable def PT (X:Cx) (e:Expr) (t:TT):Prop :=
  ∀ (pins:List (Addr×Obj)) (s:Shared) (σ:St) (H:Hp) (Q:Bool→Hp→Prop),Inv X pins σ H s→t σ H Q→wpAny (model X.prog X.w) X.A (isTrue e X.env (eval e X.env)) (TP X pins σ Q) X.xe s
noncomputable def PW (X:Cx) (e:Expr) (t:TT):Prop :=
  ∀ (whole:Sem Value) (pins:List (Addr×Obj)) (s:Shared) (σ:St) (H:Hp) (Q:Bool→Hp→Prop),Inv X pins σ H s→t σ H Q→wpAny (model X.prog X.w) X.A (isTrue e X.env whole) (TP X pins σ Q) X.xe s
theorem PW.pt {X:Cx} {e:Expr} {t:TT} (h:PW X e t):PT X e t:=h _
noncomputable def PA (X:Cx) (es:List Expr) (t:TA):Prop :=
  ∀ (pos:Pos) (pins:List (Addr×Obj)) (s:Shared) (σ:St) (H:Hp) (Q:List V→Hp→Prop),Inv X pins σ H s→t σ H Q→wpAny (model X.prog X.w) X.A (spliced (backTo pos (starEach es X.env))) (AP X pins σ Q) X.xe s
noncomputable def PS (X:Cx) (st:Stmt) (t:TS):Prop :=
  ∀ (pins:List (Addr×Obj)) (s:Shared) (σ:St) (H:Hp) (D:Ends),Inv X pins σ H s→t D σ H→wpAny (model X.prog X.w) X.A (exec st X.env) (SP X pins D) X.xe s
noncomputable def PSs (X:Cx) (st:List Stmt) (t:TS):Prop :=
  ∀ (pins:List (Addr×Obj)) (s:Shared) (σ:St) (H:Hp) (D:Ends),Inv X pins σ H s→t D σ H→wpAny (model X.prog X.w) X.A (execs st X.env) (SP X pins D) X.xe s
theorem thn {α:Type} {t:Sem α} {Q Q':α→Shared→Prop} {M:Model} {A:Around} {E:Value→Shared→Prop} {s:Shared} (h:wpAny M A t Q E s) (hQ:∀ a s,Q a s→Q' a s):wpAny M A t Q' E s:=wpAny_mono h hQ λ _ _ x=>x
end L2
namespace L2
open PySem PySem.Spec PyProof.Rows
section
variable {X:Cx}
noncomputable def tVar (i:Nat):TE:=λ σ H Q=>∃ v,σ[i]?=some (some v)∧Q v H
noncomputable def tC (v:V):TE:=λ _ H Q=>Q v H
theorem pe_var {i:Nat} {x:Str} {pos:Pos} (hN:X.N[i]?=some x) (hv:Vis X.env.scope x) (hd:(x == ("__debug__":Str))=false:=by decide) (hcd:(x == ("__classdict__":Str))=false:=by decide):PE X (.Name x pos) (tVar i):=by
  intro pins s σ H Q I h;obtain ⟨v,e,h⟩:=h;obtain ⟨m,hn,hl⟩:=I.loc;obtain ⟨u,r,l⟩:=hl i x v hN e hv;have fin:EP X pins σ Q u s:=⟨v,H,I,r,h⟩;rcases l with ⟨hk,hm⟩ | ⟨hk,c,hc,hcell⟩
  · exact wpAny_Name (wpAny_loadName_local I.ok.kind hk hn hm fin) hd
  · rcases hk with hk | hk
    · exact wpAny_Name (wpAny_loadName_cell I.ok.kind hk hc hcell fin) hd
    · exact wpAny_Name (wpAny_loadName_free I.ok.kind hk hc hcell fin hcd) hd
theorem pe_int {i j pos}:PE X (.Constant (.int i) j pos) (tC (.int i)):=λ _ _ _ H _ I h=>wpAny_Constant_int ⟨.int i,H,I.tok _,⟨_,rfl⟩,h⟩
theorem pe_bl {b j pos}:PE X (.Constant (.bool b) j pos) (tC (.bl b)):=λ _ _ _ H _ I h=>Constant_bool ⟨.bl b,H,I,rfl,h⟩
theorem pe_non {j pos}:PE X (.Constant .none j pos) (tC .non):=λ _ _ _ H _ I h=>Constant_none ⟨.non,H,I,rfl,h⟩
theorem pe_str {x j pos}:PE X (.Constant (.str x) j pos) (tC (.str x)):=λ _ _ _ H _ I h=>Calls.Constant_str ⟨.str x,H,I.tok _,⟨_,rfl⟩,h⟩
noncomputable def Gl (X:Cx) (x:Str):Prop:=X.env.kindOf x=some .globalImplicit
theorem ld_glob {E:Value→Shared→Prop} {pins:List (Addr×Obj)} {s:Shared} {σ:St} {H:Hp} {x:Str} {u:Value} {pos:Pos} {Q:Value→Shared→Prop} (I:Inv X pins σ H s) (hg:Gl X x) (hm:X.mg x=some u) (h:Q u s)
    (hd:(x == ("__debug__":Str))=false:=by decide):wpAny (model X.prog X.w) X.A (eval (.Name x pos) X.env) Q E s :=
  Calls.Name_function_global I.ok.kind hg (Calls.loadGlobal_global (by rw [I.ok.glob];exact I.mod.glob.keeps I.bk) hm h) hd
theorem ld_blt {E:Value→Shared→Prop} {pins:List (Addr×Obj)} {s:Shared} {σ:St} {H:Hp} {x:Str} {u:Value} {pos:Pos} {Q:Value→Shared→Prop} (I:Inv X pins σ H s) (hg:Gl X x) (hm:X.mg x=none) (hv:bootBuiltins x=some u) (h:Q u s)
    (hn:x≠"__name__":=by decide) (hd:(x == ("__debug__":Str))=false:=by decide):wpAny (model X.prog X.w) X.A (eval (.Name x pos) X.env) Q E s:=by
  obtain ⟨mb,h1,h2⟩:=I.mod.blt;exact Calls.Name_function_global I.ok.kind hg (Calls.loadGlobal_builtin (by rw [I.ok.glob];exact I.mod.glob.keeps I.bk) hm (by rw [I.ok.blt];exact h1.keeps I.bk) ((h2 x hn).trans hv) h) hd
theorem pe_bltn {x:Str} {v:V} {u:Value} {pos:Pos} (hg:Gl X x) (hm:X.mg x=none) (hv:bootBuiltins x=some u) (r:RelV v u) (hn:x≠"__name__":=by decide) (hd:(x == ("__debug__":Str))=false:=by decide):PE X (.Name x pos) (tC v) :=
  λ _ _ _ H _ I h=>ld_blt I hg hm hv ⟨v,H,I,r,h⟩ hn hd
variable {a b:Expr} {ta tb:TE} {pos:Pos}
noncomputable def tB (t:TE):TT:=λ σ H Q=>t σ H λ x H1=>∃ c,x = .bl c∧Q c H1
theorem pt_val {e:Expr} {t:TE} (h:PE X e t) (he:∀ whole,isTrue e X.env whole=(do let v ← whole;standAt e.pos;holding [v] (truthy v)):=by intro _;rfl):PT X e (tB t):=by
  intro pins s σ H Q I hw;refine isTrue_plain (thn (h pins s σ H _ I hw) λ v s1 ⟨x,H1,I1,r1,q1⟩=>?_) (he _);obtain ⟨d,rfl,q⟩:=q1;cases r1;exact wpAny_truthy_bool ⟨H1,I1,q⟩
variable {tA tB':TT} {rest:List Expr}
noncomputable def tAnd (t u:TT):TT:=λ σ H Q=>t σ H λ c H1=>if c=true then u σ H1 Q else Q false H1
noncomputable def tOr (t u:TT):TT:=λ σ H Q=>t σ H λ c H1=>if c=true then Q true H1 else u σ H1 Q
noncomputable def tNot (t:TT):TT:=λ σ H Q=>t σ H λ c H1=>Q (!c) H1
theorem pw_and1 (ha:PT X a tA):PW X (.BoolOp .And [a] pos) tA:=by
  intro wh pins s σ H Q I h;refine isTrue_and (thn (ha pins s σ H Q I h) λ c s1 e=>?_);cases c with
  | true=>exact isTrue_and_nil e
  | false=>exact e
theorem pw_or1 (ha:PT X a tA):PW X (.BoolOp .Or [a] pos) tA:=by
  intro wh pins s σ H Q I h;refine isTrue_or (thn (ha pins s σ H Q I h) λ c s1 e=>?_);cases c with
  | false=>exact isTrue_or_nil e
  | true=>exact e
theorem pw_and (ha:PT X a tA) (hb:PW X (.BoolOp .And (b :: rest) pos) tB'):PW X (.BoolOp .And (a :: b :: rest) pos) (tAnd tA tB'):=by
  intro wh pins s σ H Q I h;refine isTrue_and (thn (ha pins s σ H _ I h) λ c s1 ⟨H1,I1,q1⟩=>?_);cases c with
  | true=>exact hb wh pins s1 σ H1 Q I1 q1
  | false=>exact ⟨H1,I1,q1⟩
theorem pw_or (ha:PT X a tA) (hb:PW X (.BoolOp .Or (b :: rest) pos) tB'):PW X (.BoolOp .Or (a :: b :: rest) pos) (tOr tA tB'):=by
  intro wh pins s σ H Q I h;refine isTrue_or (thn (ha pins s σ H _ I h) λ c s1 ⟨H1,I1,q1⟩=>?_);cases c with
  | true=>exact ⟨H1,I1,q1⟩
  | false=>exact hb wh pins s1 σ H1 Q I1 q1
theorem pt_not (ha:PT X a tA):PT X (.UnaryOp .Not a pos) (tNot tA):=by
  intro pins s σ H Q I h;exact isTrue_not (ha pins s σ H (λ c H1=>Q (!c) H1) I h)
noncomputable def tAndV (ta tb:TE):TE:=λ σ H Q=>ta σ H λ x H1=>∃ c,x = .bl c∧if c=true then tb σ H1 Q else Q (.bl false) H1
noncomputable def tNotV (ta:TE):TE:=λ σ H Q=>ta σ H λ x H1=>∃ c,x = .bl c∧Q (.bl (!c)) H1
theorem pe_one {op} {t:TE} (h:PE X a t):PE X (.BoolOp op [a] pos) t:=λ pins s σ H Q I hw=>BoolOp_one (h pins s σ H Q I hw)
theorem pe_and (ha:PE X a ta) (hb:PE X (.BoolOp .And (b :: rest) pos) tb):PE X (.BoolOp .And (a :: b :: rest) pos) (tAndV ta tb):=by
  intro pins s σ H Q I h;refine BoolOp_and (thn (ha pins s σ H _ I h) λ v s1 ⟨x,H1,I1,r1,q1⟩=>?_);obtain ⟨c,rfl,q1⟩:=q1;cases r1;refine wpAny_truthy_bool ?_;cases c with
  | true=>exact hb pins s1 σ H1 Q I1 q1
  | false=>exact ⟨.bl false,H1,I1,rfl,q1⟩
theorem pe_not (ha:PE X a ta):PE X (.UnaryOp .Not a pos) (tNotV ta):=by
  intro pins s σ H Q I h;refine UnaryOp_ (thn (ha pins s σ H _ I h) λ v s1 ⟨x,H1,I1,r1,q1⟩=>?_);obtain ⟨c,rfl,q1⟩:=q1;cases r1;exact not_of (wpAny_truthy_bool ⟨.bl (!c),H1,I1,rfl,q1⟩)
noncomputable def tIf (t:TT) (ta tb:TE):TE:=λ σ H Q=>t σ H λ c H1=>if c=true then ta σ H1 Q else tb σ H1 Q
theorem pe_ifExp {c:Expr} (hc:PT X c tA) (ha:PE X a ta) (hb:PE X b tb):PE X (.IfExp c a b pos) (tIf tA ta tb):=by
  intro pins s σ H Q I h;refine wpAny_IfExp (thn (hc pins s σ H _ I h) λ d s1 ⟨H1,I1,q1⟩=>?_);cases d with
  | true=>exact ha pins s1 σ H1 Q I1 q1
  | false=>exact hb pins s1 σ H1 Q I1 q1
end
end L2
namespace L2
open PySem PySem.Spec PyProof.Rows
noncomputable def SqL (K:PySem.W.Frag) (H:Hp) (a:Addr) (xs:List V):Prop :=
  Rd H a (.lst xs) ∨
    ∃ (o:Obj) (its:Array Value) (n:Nat),K.lookup a=some o∧o.cls = .type "list"∧o.dict=none∧o.data = .seq its n∧its.size≤sizeLine∧Vals xs its.toList
noncomputable def SqT (K:PySem.W.Frag) (H:Hp) (a:Addr) (xs:List V):Prop :=
  Rd H a (.tup xs) ∨
    ∃ (o:Obj) (its:Array Value) (n:Nat),K.lookup a=some o∧o.cls = .type "tuple"∧o.data = .seq its n∧its.size≤sizeLine∧Vals xs its.toList
noncomputable def absV:Value→Option V
  | .none=>some .non
  | .bool b=>some (.bl b)
  | .int i _=>some (.int i)
  | .str x _=>some (.str x)
  | .bytes b _=>some (.byt b)
  | .float b _=>some (.flt b)
  | .ref a=>some (.ref a)
  | .type n=>some (.ty n)
  | _=>none
theorem RelV.abs {x:V} {u:Value} (r:RelV x u):absV u=some x:=by
  cases x with
  | non=>cases r;rfl
  | bl _=>cases r;rfl
  | int _=>obtain ⟨t,rfl⟩:=r;rfl
  | str _=>obtain ⟨t,rfl⟩:=r;rfl
  | byt _=>obtain ⟨t,rfl⟩:=r;rfl
  | flt _=>obtain ⟨t,rfl⟩:=r;rfl
  | ref _=>cases r;rfl
  | ty _=>cases r;rfl
theorem RelV.inj {x y:V} {u:Value} (r:RelV x u) (q:RelV y u):x=y:=Option.some.inj (r.abs.symm.trans q.abs)
theorem Vals.inj:∀ {xs ys:List V} {us:List Value},Vals xs us→Vals ys us→xs=ys
  | _,_,_,.nil,.nil=>rfl
  | _,_,_,.cons r t,.cons r' t'=>by rw [r.inj r',Vals.inj t t']
section
variable {X:Cx} {pins:List (Addr×Obj)} {σ:St} {H:Hp} {s:Shared} {a:Addr} {xs ys:List V}
theorem SqL.of {K:PySem.W.Frag} (h:H a=some (.lst xs)):SqL K H a xs:=.inl (.inl h)
theorem SqT.of {K:PySem.W.Frag} (h:H a=some (.tup xs)):SqT K H a xs:=.inl (.inl h)
theorem Inv.list (I:Inv X pins σ H s) (h:SqL X.K H a xs):∃ its:List Value,Vals xs its∧PlainL s.heap a its.toArray∧xs.length≤sizeLine:=by
  rcases h with h | ⟨o,its,n,hk,hc,hd,hs,hz,r⟩
  · obtain ⟨z,its,n,r,e⟩:=h.ok I.hok;exact ⟨its,r,⟨_,n,e,rfl,rfl,rfl⟩,z⟩
  · refine ⟨its.toList,r,⟨o,n,I.kIn a o hk,hc,hd,by simpa using hs⟩,?_⟩;have e:=r.length;simp only [Array.length_toList] at e;omega
theorem Inv.tuple (I:Inv X pins σ H s) (h:SqT X.K H a xs):∃ its:List Value,Vals xs its∧IsTup s.heap a its.toArray∧xs.length≤sizeLine:=by
  rcases h with h | ⟨o,its,n,hk,hc,hs,hz,r⟩
  · obtain ⟨z,its,r,p⟩:=h.ok I.hok;exact ⟨its,r,p,z⟩
  · refine ⟨its.toList,r,⟨o,I.kIn a o hk,hc,n,by simpa using hs⟩,?_⟩;have e:=r.length;simp only [Array.length_toList] at e;omega
theorem Inv.list_inj (I:Inv X pins σ H s) (h:SqL X.K H a xs) (h':SqL X.K H a ys):xs=ys:=by
  obtain ⟨its,r,⟨o,n,e,_,_,d⟩,_⟩:=I.list h;obtain ⟨its',r',⟨o',n',e',_,_,d'⟩,_⟩:=I.list h';rw [e] at e';cases e';rw [d] at d';injection d' with d1 _;have:its=its':=by simpa using congrArg Array.toList d1
  subst this;exact r.inj r'
end
noncomputable abbrev Cx.wish (X:Cx) (E:Value→Shared→Prop):Cx:={ X with xe:=E }
noncomputable abbrev Cx.nox (X:Cx):Cx:=X.wish λ _ _=>False
theorem Cx.Ok.wish {X:Cx} (ok:X.Ok) (E:Value→Shared→Prop):(X.wish E).Ok :=
  ⟨ok.mod,ok.kind,ok.glob,ok.blt,ok.above,ok.inj,ok.has,ok.cab,ok.hd,ok.frames,ok.stk,ok.exf,ok.bs,ok.bsz,ok.noex,ok.exfs,ok.funs,ok.frf⟩
theorem Cx.Ok.unwish {X:Cx} {E:Value→Shared→Prop} (ok:(X.wish E).Ok):X.Ok :=
  ⟨ok.mod,ok.kind,ok.glob,ok.blt,ok.above,ok.inj,ok.has,ok.cab,ok.hd,ok.frames,ok.stk,ok.exf,ok.bs,ok.bsz,ok.noex,ok.exfs,ok.funs,ok.frf⟩
section
variable {X:Cx} {pins:List (Addr×Obj)} {σ:St} {H:Hp} {s:Shared} {E:Value→Shared→Prop}
theorem Inv.wish (I:Inv X pins σ H s) (E:Value→Shared→Prop):Inv (X.wish E) pins σ H s:=⟨I.ok.wish E,I.os,I.bare,I.base,I.loc,I.cell,I.free,I.freeC,I.pin,I.hok,I.len⟩
theorem Inv.unwish (I:Inv (X.wish E) pins σ H s):Inv X pins σ H s:=⟨I.ok.unwish,I.os,I.bare,I.base,I.loc,I.cell,I.free,I.freeC,I.pin,I.hok,I.len⟩
theorem SP.unwish {D:Ends} {f:Flow} {s':Shared} (h:SP (X.wish E) pins D f s'):SP X pins D f s':=by
  cases f with
  | next=>obtain ⟨σ',H',I,q⟩:=h;exact ⟨σ',H',I.unwish,q⟩
  | brk=>obtain ⟨σ',H',I,q⟩:=h;exact ⟨σ',H',I.unwish,q⟩
  | cont=>obtain ⟨σ',H',I,q⟩:=h;exact ⟨σ',H',I.unwish,q⟩
  | ret u=>obtain ⟨v,σ',H',I,r,q⟩:=h;exact ⟨v,σ',H',I.unwish,r,q⟩
theorem PSs.nox {st:List Stmt} {t:TS} (h:PSs X.nox st t):PSs X st t:=λ pins s σ H D I hw =>
  wpAny_mono (h pins s σ H D (I.wish _) hw) (λ _ _ q=>q.unwish) λ _ _ z=>False.elim z
end
section
variable {X:Cx} {st:Stmt} {rest:List Stmt} {t u:TS} {e:Expr} {te:TE} {pos:Pos}
noncomputable def tNext:TS:=λ D σ H=>D.nx σ H
noncomputable def tSeq (t u:TS):TS:=λ D σ H=>t { D with nx:=u D } σ H
theorem pss_nil:PSs X [] tNext:=λ _ _ σ H _ I h=>wpAny_execs_nil ⟨σ,H,I,h⟩
theorem pss_cons (h1:PS X st t) (h2:PSs X rest u):PSs X (st :: rest) (tSeq t u):=by
  intro pins s σ H D I h;refine wpAny_execs_cons (thn (h1 pins s σ H { D with nx:=u D } I h) λ f s1 q=>?_);cases f with
  | next =>
    obtain ⟨σ',H',I',q⟩:=q;exact h2 pins s1 σ' H' D I' q
  | ret v=>exact q
  | brk=>exact q
  | cont=>exact q
theorem pss_one (h1:PS X st t):PSs X [st] t:=by
  intro pins s σ H D I h;refine wpAny_execs_cons (thn (h1 pins s σ H D I h) λ f s1 q=>?_);cases f with
  | next=>exact wpAny_execs_nil q
  | ret v=>exact q
  | brk=>exact q
  | cont=>exact q
theorem Inv.quiet {pins:List (Addr×Obj)} {σ:St} {H:Hp} {s:Shared} (I:Inv X pins σ H s):interactive X.env=false:=by simp [interactive,I.ok.kind]
noncomputable def tDrop (te:TE):TS:=λ D σ H=>te σ H λ _ H1=>D.nx σ H1
theorem ps_expr (he:PE X e te) (hs:swapsWith e none pos.line X.env=pure false:=by rfl):PS X (.Expr e pos) (tDrop te):=by
  intro pins s σ H D I h;exact wpAny_Expr_any (thn (he pins s σ H _ I h) λ v s1 ⟨x,H1,I1,r1,q1⟩=>⟨σ,H1,I1,q1⟩) I.quiet hs
noncomputable def tRet (te:TE):TS:=λ D σ H=>te σ H D.rt
theorem ps_ret (he:PE X e te):PS X (.Return (some e) pos) (tRet te):=by
  intro pins s σ H D I h;exact wpAny_Return_some (thn (he pins s σ H _ I h) λ v s1 ⟨x,H1,I1,r1,q1⟩=>⟨x,σ,H1,I1,r1,q1⟩)
noncomputable def tIfS (c:TT) (t u:TS):TS:=λ D σ H=>c σ H λ b H1=>if b=true then t D σ H1 else u D σ H1
theorem ps_if {c:Expr} {a b:List Stmt} {tc:TT} (hc:PT X c tc) (ha:PSs X a t) (hb:PSs X b u):PS X (.If c a b pos) (tIfS tc t u):=by
  intro pins s σ H D I h;refine wpAny_If (thn (hc pins s σ H _ I h) λ d s1 ⟨H1,I1,q1⟩=>?_);cases d with
  | true=>exact ha pins s1 σ H1 D I1 q1
  | false=>exact hb pins s1 σ H1 D I1 q1
end
noncomputable abbrev TG:=V→St→Hp→(St→Hp→Prop)→Prop
noncomputable abbrev TGs:=List V→St→Hp→(St→Hp→Prop)→Prop
noncomputable def PG (X:Cx) (target:Expr) (t:TG):Prop :=
  ∀ (pins:List (Addr×Obj)) (s:Shared) (σ:St) (H:Hp) (v:V) (u:Value) (Q:St→Hp→Prop),Inv X pins σ H s→RelV v u→t v σ H Q →
    wpAny (model X.prog X.w) X.A (assign target X.env u) (λ _ s'=>∃ σ' H',Inv X pins σ' H' s'∧Q σ' H') X.xe s
noncomputable def PGs (X:Cx) (ts:List Expr) (t:TGs):Prop :=
  ∀ (pins:List (Addr×Obj)) (s:Shared) (σ:St) (H:Hp) (vs:List V) (us:List Value) (Q:St→Hp→Prop),Inv X pins σ H s→Vals vs us→t vs σ H Q →
    wpAny (model X.prog X.w) X.A (assignInOrder ((assignEach ts X.env).map (·.2)) us) (λ _ s'=>∃ σ' H',Inv X pins σ' H' s'∧Q σ' H') X.xe s
noncomputable abbrev TSet:=V→V→V→Hp→(Hp→Prop)→Prop
noncomputable def PSet (X:Cx) (t:TSet):Prop :=
  ∀ (pins:List (Addr×Obj)) (s:Shared) (σ:St) (H:Hp) (o i v:V) (ov iv u:Value) (Q:Hp→Prop),Inv X pins σ H s→RelV o ov→RelV i iv→RelV v u→t o i v H Q →
    wpAny (model X.prog X.w) X.A (setItem ov iv u) (λ _ s'=>∃ H',Inv X pins σ H' s'∧Q H') X.xe s
noncomputable abbrev TIp:=V→V→Hp→VK→Prop
noncomputable def PIp (X:Cx) (op:Operator) (t:TIp):Prop :=
  ∀ (pins:List (Addr×Obj)) (s:Shared) (σ:St) (H:Hp) (x y:V) (v u:Value) (Q:VK),Inv X pins σ H s→RelV x v→RelV y u→t x y H Q →
    wpAny (model X.prog X.w) X.A (inplaceOp op v u) (EP X pins σ Q) X.xe s
section
variable {X:Cx} {pos:Pos}
noncomputable def gName (i:Nat):TG:=λ v σ H Q=>Q (σ.set i (some v)) H
theorem pg_name {i:Nat} {x:Str} (hN:X.N.Nodup) (hi:X.N[i]?=some x) (hx:Loc X.env.scope x) (hf:X.fn x=true∨X.env.scope.names.lookup x=some .local:=by first | exact .inl rfl | exact .inr rfl | assumption):PG X (.Name x pos) (gName i):=by
  intro pins s σ H v u Q I r h;exact wpAny_assign_Name (store_ok I hN hi hx r (λ s' I'=>⟨_,H,I',h⟩) hf)
noncomputable def gNil:TGs:=λ vs σ H Q=>vs=[]∧Q σ H
noncomputable def gCons (t:TG) (u:TGs):TGs:=λ vs σ H Q=>∃ v r,vs=v :: r∧t v σ H λ σ' H'=>u r σ' H' Q
theorem pgs_nil:PGs X [] gNil:=by
  intro pins s σ H vs us Q I r h;obtain ⟨e,h⟩:=h;subst e;cases r;exact assignInOrder_nil ⟨σ,H,I,h⟩
theorem pgs_cons {e:Expr} {es:List Expr} {t:TG} {u:TGs} (h1:PG X e t) (h2:PGs X es u)
    (hs:(assignEach (e :: es) X.env).map (·.2)=assign e X.env :: (assignEach es X.env).map (·.2):=by rfl):PGs X (e :: es) (gCons t u):=by
  intro pins s σ H vs us Q I r h;obtain ⟨v,vr,e1,h⟩:=h;subst e1;cases r with
  | cons r rr =>
    rw [hs];refine assignInOrder_cons (thn (h1 pins s σ H _ _ _ I r h) λ _ s1 ⟨σ1,H1,I1,q1⟩=>?_);exact h2 pins s1 σ1 H1 _ _ Q I1 rr q1
noncomputable def gTup (K:PySem.W.Frag) (n:Nat) (t:TGs):TG:=λ v σ H Q=>∃ a xs,v = .ref a∧SqT K H a xs∧xs.length=n∧t xs σ H Q
theorem pg_tup {es:List Expr} {k:Nat} {t:TGs} {n:Nat} (hc:X.calm=true) (h:PGs X es t)
    (hn:(assignEach es X.env).length=n:=by rfl) (hst:(assignEach es X.env).findIdx? (·.1)=none:=by rfl):PG X (.Tuple es k pos) (gTup X.K n t):=by
  intro pins s σ H v u Q I r hw;obtain ⟨a,xs,e1,hq,hl,hw⟩:=hw;subst e1;cases r;obtain ⟨its,rv,ht,hz⟩:=I.tuple hq;refine assign_Tuple_tuple (I.ok.hd hc) ht (by simp [hn,← hl,rv.length]) hst λ h' hx=>?_;have I1:Inv X pins σ H { s with heap:=h' }:=I.kept (t':=s.toks) λ b o e=>hx b o (Nat.ne_of_lt (Heap.lt_size e)) e;exact h pins _ σ H xs _ Q I1 (by simpa using rv) hw
noncomputable def gSub (to ti:TE) (t:TSet):TG:=λ v σ H Q=>to σ H λ o H1=>ti σ H1 λ i H2=>t o i v H2 λ H3=>Q σ H3
theorem pg_sub {o i:Expr} {to ti:TE} {t:TSet} (ho:PE X o to) (hi:PE X i ti) (hs:PSet X t)
    (ha:∀ v,assign (.Subscript o i pos) X.env v=(do
      let ov ← holding [v] (eval o X.env)
      let iv ← holding [v,ov] (eval i X.env)
      standAt pos
      holding [v,ov,iv] (setItem ov iv v)
      release [v,ov,iv] []):=by intro _;rfl):PG X (.Subscript o i pos) (gSub to ti t):=by
  intro pins s σ H v u Q I r h;rw [ha];refine wpAny_bind (wpAny_holding (thn (ho pins s σ H _ I h) λ ov s1 ⟨x,H1,I1,r1,q1⟩=>?_));refine wpAny_bind (wpAny_holding (thn (hi pins s1 σ H1 _ I1 q1) λ iv s2 ⟨y,H2,I2,r2,q2⟩=>?_));refine wpAny_bind (wpAny_standAt (wpAny_bind (wpAny_holding (thn (hs pins s2 σ H2 x y v ov iv u _ I2 r1 r2 r q2) λ _ s3 ⟨H3,I3,q3⟩=>?_))));exact wpAny_release ⟨σ,H3,I3,q3⟩
noncomputable def tAsg (te:TE) (g:TG):TS:=λ D σ H=>te σ H λ x H1=>g x σ H1 D.nx
theorem ps_asg {tg e:Expr} {te:TE} {g:TG} (he:PE X e te) (hg:PG X tg g) (hs:swapsWithSole [tg] e pos.line X.env=pure false:=by rfl) (hw:swappedStores [tg] e X.env=pure none:=by rfl)
    (h1:(assignEach [tg] X.env).map (·.2)=[assign tg X.env]:=by rfl):PS X (.Assign [tg] e pos) (tAsg te g):=by
  intro pins s σ H D I h;refine wpAny_Assign_stores (thn (he pins s σ H _ I h) λ v s1 ⟨x,H1,I1,r1,q1⟩=>?_) hs hw;rw [h1];exact thn (hg pins s1 σ H1 x v _ I1 r1 q1) λ _ s2 q=>q
theorem ps_set {i:Nat} {x:Str} {e:Expr} {te:TE} {pos':Pos} (hN:X.N.Nodup) (hi:X.N[i]?=some x) (hx:Loc X.env.scope x) (he:PE X e te) (hs:swapsWith e (some (.Name x pos')) pos.line X.env=pure false:=by rfl) (hf:X.fn x=true∨X.env.scope.names.lookup x=some .local:=by first | exact .inl rfl | exact .inr rfl | assumption) :
    PS X (.Assign [.Name x pos'] e pos) (tAsg te (gName i)):=by
  intro pins s σ H D I h;refine wpAny_Assign_Name (thn (he pins s σ H _ I h) λ v s1 ⟨y,H1,I1,r1,q1⟩=>?_) hs;exact store_ok I1 hN hi hx r1 (λ s2 I2=>⟨_,H1,I2,q1⟩) hf
noncomputable def tPar (i j:Nat) (ta:TA):TS:=λ D σ H=>ta σ H λ vs H1=>∃ v w,vs=[v,w]∧D.nx ((σ.set i (some v)).set j (some w)) H1
theorem ps_par {i j:Nat} {x y:Str} {a b:Expr} {ta:TA} {px py pt:Pos} {kt k2 pt2} (hc:X.calm=true) (hN:X.N.Nodup) (hi:X.N[i]?=some x) (hj:X.N[j]?=some y) (hij:i≠j)
    (hx:X.env.scope.names.lookup x=some .local) (hy:X.env.scope.names.lookup y=some .local) (ha:PA X [a,b] ta)
    (hw:swappedStores [.Tuple [.Name x px,.Name y py] kt pt] (.Tuple [a,b] k2 pt2) X.env=pure (some [x,y]))
    (hs:swapsWithSole [.Tuple [.Name x px,.Name y py] kt pt] (.Tuple [a,b] k2 pt2) pos.line X.env=pure false:=by rfl) :
    PS X (.Assign [.Tuple [.Name x px,.Name y py] kt pt] (.Tuple [a,b] k2 pt2) pos) (tPar i j ta):=by
  intro pins s σ H D I h;rw [exec_Assign_arm];refine wpAny_bind (wpAny_standAt ?_);rw [hs];refine wpAny_bind (wpAny_pure ?_);rw [if_neg (by decide)];refine wpAny_bind (Tuple_ (thn (ha _ pins s σ H _ I h) λ us s1 ⟨vs,H1,I1,r1,q1⟩=>?_));obtain ⟨v,w,e1,q1⟩:=q1;subst e1;obtain ⟨u1,u2,rfl,rv,rw'⟩:∃ u1 u2,us=[u1,u2]∧RelV v u1∧RelV w u2:=by
    cases r1 with
    | cons p q =>
      cases q with
      | cons p' q' =>
        cases q';exact ⟨_,_,rfl,p,p'⟩
  refine wpAny_newObj_type ?_ (by show 2≤sizeLine;decide);have I2:Inv X pins σ H1 { s1 with heap:=s1.heap.push { cls:=.type "tuple",data:=.seq [u1,u2].toArray } }:=I1.kept (t':=s1.toks) λ b o e=>Heap.get?_push_of_some _ e;rw [hw];refine wpAny_bind (wpAny_pure ?_);show wpAny (model X.prog X.w) X.A (do rule "assign.swapped-stores";let items ← unpackItems (.ref s1.heap.objs.size) 2 none;assignInOrder [λ v=>bindName X.env y v,λ v=>bindName X.env x v] items.reverse;pure Flow.next) _ _ _
  refine wpAny_bind (wpAny_rule (wpAny_bind (unpackItems_tuple (items:=#[u1,u2]) (I.ok.hd hc) (IsTup.new s1.heap _) λ h' hx'=>?_)));have I3:=I2.kept (h':=h') (t':=s1.toks) λ b o e=>hx' b o (Nat.ne_of_lt (Heap.lt_size e)) e;show wpAny _ _ (assignInOrder [λ v=>bindName X.env y v,λ v=>bindName X.env x v] [u2,u1] >>= λ _=>pure Flow.next) _ _ _;refine wpAny_bind (assignInOrder_cons (wpAny_bindName (store_ok I3 hN hj (.inl hy) rw' (λ s2 I4=>?_) (.inr hy))));refine assignInOrder_cons (wpAny_bindName (store_ok I4 hN hi (.inl hx) rv (λ s3 I5=>assignInOrder_nil (wpAny_pure ?_)) (.inr hx)));rw [List.set_comm _ _ (Ne.symm hij)] at I5;exact ⟨_,H1,I5,q1⟩
noncomputable def tAug (i:Nat) (te:TE) (ti:TIp):TS:=λ D σ H=>∃ x,σ[i]?=some (some x)∧te σ H λ y H1=>ti x y H1 λ z H2=>D.nx (σ.set i (some z)) H2
theorem ps_aug {i:Nat} {x:Str} {e:Expr} {te:TE} {op:Operator} {ti:TIp} {pos':Pos} (hN:X.N.Nodup) (hi:X.N[i]?=some x) (hx:Loc X.env.scope x) (he:PE X e te) (ho:PIp X op ti) (hf:X.fn x=true∨X.env.scope.names.lookup x=some .local:=by first | exact .inl rfl | exact .inr rfl | assumption) :
    PS X (.AugAssign (.Name x pos') op e pos) (tAug i te ti):=by
  intro pins s σ H D I h;obtain ⟨v,e1,h⟩:=h;obtain ⟨m,hn,hl⟩:=I.loc;have vis:Vis X.env.scope x:=by rcases hx with k | k;exact .inl k;exact .inr (.inl k)
  obtain ⟨u,r,l⟩:=hl i x v hi e1 vis;refine wpAny_AugAssign_Name ?_;have go:wpAny (model X.prog X.w) X.A (eval e X.env) (λ w s₂=>wpAny (model X.prog X.w) X.A (inplaceOp op u w) (λ r s₃=>wpAny (model X.prog X.w) X.A (storeName X.env x r) (λ _=>SP X pins D .next) X.xe s₃) X.xe s₂) X.xe s:=by
    refine thn (he pins s σ H _ I h) λ w s1 ⟨y,H1,I1,r1,q1⟩=>?_;refine thn (ho pins s1 σ H1 v y u w _ I1 r r1 q1) λ z s2 ⟨zv,H2,I2,r2,q2⟩=>?_;exact store_ok I2 hN hi hx r2 (λ s3 I3=>⟨_,H2,I3,q2⟩) hf
  rcases l with ⟨hk,hm⟩ | ⟨hk,c,hc,hcell⟩
  · exact wpAny_loadName_local I.ok.kind hk hn hm go
  · rcases hk with hk | hk
    · exact wpAny_loadName_cell I.ok.kind hk hc hcell go
    · rcases hx with k | k
      · have:X.env.scope.names.lookup x=some .free:=hk;rw [k] at this;cases this
      · have:X.env.scope.names.lookup x=some .free:=hk;rw [k] at this;cases this
noncomputable def tAugS (to ti te:TE) (tget:V→V→Hp→VK→Prop) (tip:TIp) (tset:TSet):TS:=λ D σ H=>to σ H λ o H1=>ti σ H1 λ i H2=>tget o i H2 λ x H3=>te σ H3 λ y H4=>tip x y H4 λ z H5=>tset o i z H5 λ H6=>D.nx σ H6
noncomputable def PGet (X:Cx) (t:V→V→Hp→VK→Prop):Prop :=
  ∀ (pins:List (Addr×Obj)) (s:Shared) (σ:St) (H:Hp) (o i:V) (ov iv:Value) (Q:VK),Inv X pins σ H s→RelV o ov→RelV i iv→t o i H Q →
    wpAny (model X.prog X.w) X.A (getItem ov iv) (EP X pins σ Q) X.xe s
theorem ps_augS {o i e:Expr} {to ti te:TE} {tget:V→V→Hp→VK→Prop} {tip:TIp} {tset:TSet} {op:Operator} {tpos:Pos} (ho:PE X o to) (hi:PE X i ti) (hg:PGet X tget) (he:PE X e te) (hp:PIp X op tip) (hs:PSet X tset)
    (ha:∀ ov iv new,augStore i ov iv new=(do holding [new,ov,iv] (setItem ov iv new);release [new,ov,iv] [];pure .next):=by intros;rfl):PS X (.AugAssign (.Subscript o i tpos) op e pos) (tAugS to ti te tget tip tset):=by
  intro pins s σ H D I h;refine wpAny_AugAssign_SubscriptAny (thn (ho pins s σ H _ I h) λ ov s1 ⟨x1,H1,I1,r1,q1⟩=>?_) ha;refine thn (hi pins s1 σ H1 _ I1 q1) λ iv s2 ⟨x2,H2,I2,r2,q2⟩=>?_;refine thn (hg pins s2 σ H2 x1 x2 ov iv _ I2 r1 r2 q2) λ old s3 ⟨x3,H3,I3,r3,q3⟩=>?_;refine thn (he pins s3 σ H3 _ I3 q3) λ v s4 ⟨x4,H4,I4,r4,q4⟩=>?_;refine thn (hp pins s4 σ H4 x3 x4 old v _ I4 r3 r4 q4) λ new s5 ⟨x5,H5,I5,r5,q5⟩=>?_;exact thn (hs pins s5 σ H5 x1 x2 x5 ov iv new _ I5 r1 r2 r5 q5) λ _ s6 ⟨H6,I6,q6⟩=>⟨σ,H6,I6,q6⟩
noncomputable def ipI (f:Int→Int→Int):TIp:=λ x y H Q=>∃ i j,x = .int i∧y = .int j∧Q (.int (f i j)) H
theorem ip_add:PIp X .Add (ipI λ i j=>i + j):=by
  intro pins s σ H x y v u Q I r1 r2 h;obtain ⟨i,j,e1,e2,q⟩:=h;subst e1;subst e2;obtain ⟨t,rfl⟩:=r1;obtain ⟨t',rfl⟩:=r2;exact iadd_int ⟨.int _,H,I.tok _,⟨_,rfl⟩,q⟩
theorem ip_sub:PIp X .Sub (ipI λ i j=>i - j):=by
  intro pins s σ H x y v u Q I r1 r2 h;obtain ⟨i,j,e1,e2,q⟩:=h;subst e1;subst e2;obtain ⟨t,rfl⟩:=r1;obtain ⟨t',rfl⟩:=r2;exact isub_int ⟨.int _,H,I.tok _,⟨_,rfl⟩,q⟩
end
section
variable {X:Cx} {pos:Pos}
noncomputable def tWhile (c:TT) (tb:TS):TS:=λ D σ H=>∃ W:Nat→St→Hp→Prop,(∃ m,W m σ H)∧∀ m σ H,W m σ H →
  c σ H λ b H1=>if b=true then ∃ N:St→Hp→Prop,(∀ σ' H',N σ' H'→∃ m',m' < m∧W m' σ' H')∧tb { D with nx:=N,ct:=N,bk:=D.nx } σ H1 else D.nx σ H1
theorem ps_while {c:Expr} {body:List Stmt} {tc:TT} {tb:TS} (hp:PassesOwn (model X.prog X.w) X.A X.env X.xe) (hc:PT X c tc) (hb:PSs X body tb):PS X (.While c body [] pos) (tWhile tc tb):=by
  intro pins s σ H D I h;obtain ⟨W,⟨m0,w0⟩,turn⟩:=h;refine wpAny_While (codeAny_whileLoop (λ n s'=>∃ σ' H',Inv X pins σ' H' s'∧W n σ' H') ?_ m0 ⟨σ,H,I,w0⟩);rintro n s1 ⟨σ1,H1,I1,w1⟩;refine wpAny_passesOwn hp (thn (hc pins s1 σ1 H1 _ I1 (turn n σ1 H1 w1)) λ b s2 ⟨H2,I2,q2⟩=>?_);cases b with
  | true =>
    obtain ⟨N,hN,q2⟩:=q2;rw [if_pos rfl];refine wpAny_passesOwn hp (thn (hb pins s2 σ1 H2 _ I2 q2) λ f s3 q3=>?_);cases f with
    | next =>
      obtain ⟨σ3,H3,I3,n3⟩:=q3;obtain ⟨m',hm,w3⟩:=hN σ3 H3 n3;exact ⟨m',hm,σ3,H3,I3,w3⟩
    | cont =>
      obtain ⟨σ3,H3,I3,n3⟩:=q3;obtain ⟨m',hm,w3⟩:=hN σ3 H3 n3;exact ⟨m',hm,σ3,H3,I3,w3⟩
    | brk=>exact q3
    | ret v=>exact q3
  | false =>
    rw [if_neg Bool.false_ne_true];exact wpAny_execs_nil ⟨σ1,H2,I2,q2⟩
end
structure It where
  go:Nat→Hp→Prop
  yld:Nat→Hp→V→Hp→Prop
  stop:Nat→Hp→Prop
noncomputable def FpOk (X:Cx) (pins:List (Addr×Obj)) (H:Hp) (b:Addr):Prop :=
  H b=none∧b≠X.env.locals∧b∉X.fs∧(b∈X.ex∨X.s₀.heap.objs.size≤b)∧(∀ x c,X.env.cells.lookup x=some c→c≠b)∧∀ p∈X.pn ++ pins,p.1≠b
theorem Inv.fpOk {X:Cx} {pins:List (Addr×Obj)} {σ:St} {H H':Hp} {s:Shared} {b:Addr} (I:Inv X pins σ H s) (hb:s.heap.objs.size≤b) (hn:H' b=none):FpOk X pins H' b:=by
  refine ⟨hn,Nat.ne_of_gt (Nat.lt_of_lt_of_le I.lt hb),I.nofs hb,.inr (Nat.le_trans I.sz hb),λ x c e z=>?_,λ p hp z=>?_⟩
  · obtain ⟨v,q⟩:=I.cell x c e;exact absurd (Nat.lt_of_lt_of_le q.lt (by rw [z];exact hb)) (Nat.lt_irrefl _)
  · exact absurd (Nat.lt_of_lt_of_le (Heap.lt_size (I.pin p hp).1) (by rw [z];exact hb)) (Nat.lt_irrefl _)
structure Turn (P:Program) (w:World) (K:PySem.W.Frag) (tg:Expr) (J:It) (fp:List Addr) (it:Addr) (tn:Nat→Heap→Prop):Prop where
  mem:it∈fp
  obj:∀ i h,tn i h→∀ b∈fp,∃ o,h.get? b=some o∧∀ v,o.data≠.cell v
  keep:∀ i h h',tn i h→(∀ b∈fp,∀ o,h.get? b=some o→h'.get? b=some o)→tn i h'
  item:∀ (X:Cx),X.prog=P→X.w=w→X.K=K→X.calm=true→∀ (i:Nat) (pins:List (Addr×Obj)) (s:Shared) (σ:St) (H:Hp) (E:Value→Shared→Prop),Inv X pins σ H s→(∀ b∈fp,FpOk X pins H b)→tn i s.heap→J.go i H →
    wpAny (model P w) X.A (pyNext (.ref it)) (λ r s1=>∃ u,r=some u ∧
      wpAny (model P w) X.A (letOwnedTupleGo tg (.ref it) u) (λ _ s2=>∃ x H',Inv X pins σ H' s2∧RelV x u∧J.yld i H x H'∧tn (i + 1) s2.heap∧∀ b∈fp,H' b=none) E s1) E s
  done:∀ (X:Cx),X.prog=P→X.w=w→X.K=K→X.calm=true→∀ (i:Nat) (pins:List (Addr×Obj)) (s:Shared) (σ:St) (H:Hp) (E:Value→Shared→Prop),Inv X pins σ H s→(∀ b∈fp,FpOk X pins H b)→tn i s.heap→J.stop i H →
    wpAny (model P w) X.A (pyNext (.ref it)) (λ r s1=>r=none∧Inv X pins σ H s1) E s
  self:∀ (A:Around) (i:Nat) (s:Shared) (Q:Value→Shared→Prop) (E:Value→Shared→Prop),tn i s.heap→Q (.ref it) s→wpAny (model P w) A (pyIter (.ref it)) Q E s
noncomputable abbrev TI:=St→Hp→(It→Hp→Prop)→Prop
noncomputable def PIE (X:Cx) (pins:List (Addr×Obj)) (σ:St) (tg:Expr) (R:It→Hp→Prop) (itv:Value) (s2:Shared):Prop :=
  ∃ (it:Addr) (fp:List Addr) (tn:Nat→Heap→Prop) (J:It) (H':Hp),itv = .ref it∧Inv X pins σ H' s2∧Turn X.prog X.w X.K tg J fp it tn∧tn 0 s2.heap∧(∀ b∈fp,FpOk X pins H' b)∧R J H'
noncomputable def PI (X:Cx) (tg iter:Expr) (wi:TI):Prop :=
  ∀ (pins:List (Addr×Obj)) (s:Shared) (σ:St) (H:Hp) (R:It→Hp→Prop),Inv X pins σ H s→wi σ H R →
    wpAny (model X.prog X.w) X.A (eval iter X.env) (λ v s1=>wpAny (model X.prog X.w) X.A (pyIter v) (PIE X pins σ tg R) X.xe s1) X.xe s
theorem go_of {M:Model} {A:Around} {E:Value→Shared→Prop} {s:Shared} {tg:Expr} {it:Addr} {u:Value} {o:Obj} {n:String} {vs:Array Value} {Q:Unit→Shared→Prop} (ho:s.heap.get? it=some o) (hc:o.cls = .type n) (hd:o.data = .fields vs)
    (hn:["enumerate","zip","dict_itemiterator","dict_reverseitemiterator","odict_iterator","itertools.zip_longest","itertools.pairwise"].contains n=false) (hQ:Q () s):wpAny M A (letOwnedTupleGo tg (.ref it) u) Q E s:=by
  unfold letOwnedTupleGo;cases tg<;>first
    | exact wpAny_pure hQ
    | (cases u<;>first
        | exact wpAny_pure hQ
        | (refine wpAny_bind (wpAny_load ho ?_)
           rw [hc,hd];show wpAny M A (if (["enumerate","zip","dict_itemiterator","dict_reverseitemiterator","odict_iterator","itertools.zip_longest","itertools.pairwise"].contains n && vs[0]? == some (rawInt _))=true then _ else _) Q E s;rw [if_neg (by intro h;rw [hn,Bool.false_and] at h;cases h)];exact wpAny_pure hQ))
noncomputable def Itl (K:PySem.W.Frag) (a:Addr):It :=
  ⟨λ i H=>∃ xs x,SqL K H a xs∧xs[i]?=some x,λ i H x H'=>H'=H∧∀ xs,SqL K H a xs→xs[i]?=some x,λ i H=>∃ xs,SqL K H a xs∧xs.length≤i⟩
noncomputable def Itr (lo:Int) (n:Nat):It:=⟨λ i _=>i < n,λ i H x H'=>H'=H∧x = .int (lo + i),λ i _=>n≤i⟩
theorem turn_list {P:Program} {w:World} {K:PySem.W.Frag} {tg:Expr} (a it:Addr):Turn P w K tg (Itl K a) [it] it (λ i h=>h.IsListIter it a i) where
  mem:=by simp
  obj:=λ i h st b hb=>by
    have e:b=it:=by simpa using hb
    subst e;obtain ⟨o,e,c,d⟩:=st;exact ⟨o,e,λ v z=>by rw [d] at z;cases z⟩
  keep:=λ i h h' st k=>st.at λ o e=>k it (by simp) o e
  item:=by
    intro X hP hw hK hc i pins s σ H E I hf st hg;subst hP hw hK;obtain ⟨xs,x,hq,hx⟩:=hg;obtain ⟨its,rv,p,hz⟩:=I.list hq;obtain ⟨u,hu,ru⟩:=rv.get hx;obtain ⟨f0,f1,f2,f3,f4,f5⟩:=hf it (by simp);refine wpAny_pyNext_list_item st p.isList (x:=u) (by simpa using hu) λ h' st' sb=>?_;have I1:Inv X pins σ H { s with heap:=h' }:=I.turned (t':=s.toks) (λ b o hb e=>(sb.2 b hb).trans e) f0 f1 f3 f4 f5;obtain ⟨o,e,c,d⟩:=id st';exact ⟨u,rfl,go_of (s:={ s with heap:=h' }) e c d (by decide) ⟨x,H,I1,ru,⟨rfl,λ ys hy=>by rw [I.list_inj hy hq];exact hx⟩,st',λ b hb=>(hf b hb).1⟩⟩
  done:=by
    intro X hP hw hK hc i pins s σ H E I hf st hg;subst hP hw hK;obtain ⟨xs,hq,hx⟩:=hg;obtain ⟨its,rv,p,hz⟩:=I.list hq;obtain ⟨f0,f1,f2,f3,f4,f5⟩:=hf it (by simp);have hl:=rv.length;exact wpAny_pyNext_list_end (I.ok.hd hc) st p.isList (by simp;omega) λ h' eb=>⟨rfl,I.turned (t':=s.toks) (λ b o hb e=>eb b o hb e) f0 f1 f3 f4 f5⟩
  self:=λ _ _ _ _ _ st h=>wpAny_pyIter_listiter st h
theorem turn_range {P:Program} {w:World} {K:PySem.W.Frag} {tg:Expr} (it:Addr) (lo:Int) (n:Nat):Turn P w K tg (Itr lo n) [it] it (λ i h=>IsRangeIter h it (lo + (i:Nat) * 1) ((n:Int) - (i:Nat)) 1) where
  mem:=by simp
  obj:=λ i h st b hb=>by
    have e:b=it:=by simpa using hb
    subst e;exact ⟨_,st,λ v z=>by
      have z':Data.fields _=Data.cell v:=z;cases z'⟩
  keep:=λ i h h' st k=>k it (by simp) _ st
  item:=by
    intro X hP hw hK hc i pins s σ H E I hf st hg;subst hP hw hK;obtain ⟨f0,f1,f2,f3,f4,f5⟩:=hf it (by simp);have W:=Walks.range (prog:=X.prog) (w:=X.w) (I.ok.hd hc) it lo 1 n;refine W.item i s _ _ hg st λ v h' tk hv st' kk=>?_;obtain ⟨t,rfl⟩:=hv;have I1:Inv X pins σ H { s with heap:=h',toks:=tk }:=I.turned (λ b o hb e=>kk b o (by simpa using hb) e) f0 f1 f3 f4 f5;refine ⟨_,rfl,go_of (s:={ s with heap:=h',toks:=tk }) (n:="range_iterator") st' rfl rfl (by decide) ⟨.int (lo + i),H,I1,⟨t,?_⟩,⟨rfl,rfl⟩,st',λ b hb=>(hf b hb).1⟩⟩;rw [Int.mul_one]
  done:=by
    intro X hP hw hK hc i pins s σ H E I hf st hg;subst hP hw hK;obtain ⟨f0,f1,f2,f3,f4,f5⟩:=hf it (by simp);exact wpAny_pyNext_range_end (I.ok.hd hc) st (by have:n≤i:=hg;omega) λ h' eb=>⟨rfl,I.turned (t':=s.toks) (λ b o hb e=>eb b o hb e) f0 f1 f3 f4 f5⟩
  self:=λ _ _ _ _ _ st h=>wpAny_pyIter_rangeiter st h
end L2
namespace L2
open PySem PySem.Spec PyProof.Rows
section
variable {X:Cx} {tg:Expr}
noncomputable def iList (K:PySem.W.Frag) (tl:TE):TI:=λ σ H R=>tl σ H λ x H1=>∃ a,x = .ref a∧(∃ xs,SqL K H1 a xs)∧R (Itl K a) H1
theorem pi_list {l:Expr} {tl:TE} (hl:PE X l tl):PI X tg l (iList X.K tl):=by
  intro pins s σ H R I h;refine thn (hl pins s σ H _ I h) λ v s1 ⟨x,H1,I1,r1,q1⟩=>?_;obtain ⟨a,e,⟨xs,hq⟩,q⟩:=q1;subst e;cases r1;obtain ⟨its,rv,p,hz⟩:=I1.list hq;refine wpAny_pyIter_list p.isList ?_;refine ⟨s1.heap.objs.size,[s1.heap.objs.size],_,_,H1,rfl,I1.kept (t':=s1.toks) λ b o e=>Heap.get?_push_of_some _ e,turn_list a _,⟨_,Heap.get?_push_size _ rfl,rfl,rfl⟩,λ b hb=>?_,q⟩;have e:b=s1.heap.objs.size:=by simpa using hb
  subst e;exact I1.fpOk (Nat.le_refl _) (I1.hok.fresh (Nat.le_refl _))
theorem range_it {pins:List (Addr×Obj)} {σ:St} {H:Hp} {s:Shared} {R:It→Hp→Prop} {E:Value→Shared→Prop} {lo hi:Int} {t u v:Tok} {tk:Nat} (I:Inv X pins σ H s) (h1:-(2 ^ 62)≤lo) (h2:lo < 2 ^ 62) (h3:-(2 ^ 62)≤hi) (h4:hi < 2 ^ 62)
    (q:R (Itr lo (hi - lo).toNat) H):wpAny (model X.prog X.w) X.A (pyIter (.ref s.heap.objs.size)) (PIE X pins σ tg R) E { s with heap:=s.heap.push { cls:=.type "range",data:=.fields #[.int lo t,.int hi u,.int 1 v] },toks:=tk }:=by
  refine wpAny_pyIter_range (IsRange.new ..) (small_one h1 h2 h3 h4) ?_;have I1:Inv X pins σ H { s with heap:=s.heap.push { cls:=.type "range",data:=.fields #[.int lo t,.int hi u,.int 1 v] },toks:=tk }:=I.kept λ b o e=>Heap.get?_push_of_some _ e;refine ⟨(s.heap.push { cls:=.type "range",data:=.fields #[.int lo t,.int hi u,.int 1 v] }).objs.size,[(s.heap.push { cls:=.type "range",data:=.fields #[.int lo t,.int hi u,.int 1 v] }).objs.size],_,_,H,rfl,
    I1.kept (t':=tk) λ b o e=>Heap.get?_push_of_some _ e,turn_range _ lo (hi - lo).toNat,?_,λ b hb=>?_,q⟩
  · have e1:lo + ((0:Nat):Int) * 1=lo:=by simp
    have e2:(((hi - lo).toNat:Nat):Int) - ((0:Nat):Int)=Builtin.Range.rangeSize lo hi 1:=by rw [rangeSize_one];split<;>omega
    show IsRangeIter _ _ (lo + ((0:Nat):Int) * 1) ((((hi - lo).toNat:Nat):Int) - ((0:Nat):Int)) 1;rw [e1,e2];exact Heap.get?_push_size _ rfl
  · have e:b=(s.heap.push { cls:=.type "range",data:=.fields #[.int lo t,.int hi u,.int 1 v] }).objs.size:=by simpa using hb
    subst e;exact I1.fpOk (Nat.le_refl _) (I1.hok.fresh (Nat.le_refl _))
noncomputable def iRng1 (ta:TA):TI:=λ σ H R=>ta σ H λ vs H1=>∃ j:Int,vs=[.int j]∧-(2 ^ 62)≤j∧j < 2 ^ 62∧R (Itr 0 j.toNat) H1
theorem pi_range1 {a:Expr} {ta:TA} {p pos:Pos} (hg:Gl X "range") (hm:X.mg "range"=none) (ha:PA X [a] ta) (hs:starEach [a] X.env=[(false,eval a X.env)]:=by rfl):PI X tg (.Call (.Name "range" p) [a] [] pos) (iRng1 ta):=by
  intro pins s σ H R I h;refine Call_ (ld_blt I hg hm boot_range (PyProof.Rows.callWith_type1 (thn (ha pos pins s σ H _ I h) λ us s1 ⟨vs,H1,I1,r1,q1⟩=>?_) hs rfl));obtain ⟨j,e,q1,q2,q⟩:=q1;subst e;cases r1 with
  | cons r rr =>
    cases rr;obtain ⟨t,rfl⟩:=r;exact call_range_1 (range_it I1 (by omega) (by omega) q1 q2 (by simpa using q))
noncomputable def tFor (wi:TI) (g:TG) (tb:TS):TS:=λ D σ H=>wi σ H λ J H1=>∃ W:Nat→Nat→St→Hp→Prop,(∃ m,W 0 m σ H1)∧∀ i m σ H,W i m σ H →
  (J.stop i H∧D.nx σ H)∨(J.go i H∧∃ N:St→Hp→Prop,(∀ σ' H',N σ' H'→∃ m',m' < m∧W (i + 1) m' σ' H')∧∀ x H',J.yld i H x H'→g x σ H' λ σ2 H2=>tb { D with nx:=N,ct:=N,bk:=D.nx } σ2 H2)
noncomputable def pinsAt (fp:List Addr) (h:Heap):List (Addr×Obj):=fp.filterMap λ b=>(h.get? b).map λ o=>(b,o)
theorem mem_pinsAt {fp:List Addr} {h:Heap} {b:Addr} {o:Obj} (hb:b∈fp) (e:h.get? b=some o):(b,o)∈pinsAt fp h:=List.mem_filterMap.mpr ⟨b,hb,by rw [e];rfl⟩
theorem of_pinsAt {fp:List Addr} {h:Heap} {p:Addr×Obj} (hp:p∈pinsAt fp h):p.1∈fp∧h.get? p.1=some p.2:=by
  obtain ⟨b,hb,e⟩:=List.mem_filterMap.mp hp;cases q:h.get? b with
  | none=>rw [q] at e;cases e
  | some o =>
    rw [q] at e;have e':(b,o)=p:=Option.some.inj e;subst e';exact ⟨hb,q⟩
theorem Inv.pinned {pins:List (Addr×Obj)} {σ:St} {H:Hp} {s:Shared} {fp:List Addr} (I:Inv X pins σ H s) (hf:∀ b∈fp,FpOk X pins H b) (ho:∀ b∈fp,∃ o,s.heap.get? b=some o∧∀ v,o.data≠.cell v):Inv X (pins ++ pinsAt fp s.heap) σ H s :=
  I.pins_of λ p hp=>(List.mem_append.mp hp).elim (λ z=>I.pin p (List.mem_append_right _ z)) λ z=>by
    obtain ⟨hb,e⟩:=of_pinsAt z;obtain ⟨f0,f1,f2,_⟩:=hf p.1 hb;obtain ⟨o,e',d⟩:=ho p.1 hb;rw [e] at e';cases e';exact ⟨e,f0,f1,f2,d⟩
theorem Inv.unpinned {pins pl:List (Addr×Obj)} {σ:St} {H:Hp} {s:Shared} (I:Inv X (pins ++ pl) σ H s):Inv X pins σ H s:=I.pins_of λ p hp=>I.pin p (List.mem_append_right _ (List.mem_append_left _ hp))
theorem ps_for {iter:Expr} {body:List Stmt} {wi:TI} {g:TG} {tb:TS} {pos:Pos} (hp:PassesOwn (model X.prog X.w) X.A X.env X.xe) (hc:X.calm=true) (hi:PI X tg iter wi) (hg:PG X tg g) (hb:PSs X body tb)
    (hs:∀ x,foldedSetIterable iter X.env x=pure x:=by intro _;rfl):PS X (.For tg iter body [] pos) (tFor wi g tb):=by
  intro pins s σ H D I h;refine wpAny_For (thn (hi pins s σ H _ I h) λ v s1 h1=>thn h1 λ itv s2 h2=>?_) hs;obtain ⟨it,fp,tn,J,H2,e,I2,T,st2,f2,W,⟨m0,w0⟩,turn⟩:=h2;subst e;have stat:∀ {H':Hp},(∀ b∈fp,H' b=none)→∀ b∈fp,FpOk X pins H' b:=λ hn b hb=>⟨hn b hb,(f2 b hb).2⟩;refine codeAny_forLoop_any (λ n s'=>∃ i σ' H',Inv X pins σ' H' s'∧tn i s'.heap∧(∀ b∈fp,H' b=none)∧W i n σ' H') ?_ m0 ⟨0,σ,H2,I2,st2,λ b hb=>(f2 b hb).1,w0⟩;rintro n s3 ⟨i,σ3,H3,I3,st3,fr3,w3⟩;rcases turn i n σ3 H3 w3 with ⟨stop,qn⟩ | ⟨go,N,hN,step⟩
  · refine wpAny_passesOwn hp (thn (T.done X rfl rfl rfl hc i pins s3 σ3 H3 X.xe I3 (stat fr3) st3 stop) λ r s4 ⟨hr,I4⟩=>?_);subst hr;exact wpAny_execs_nil ⟨σ3,H3,I4,qn⟩
  · refine wpAny_passesOwn hp (thn (T.item X rfl rfl rfl hc i pins s3 σ3 H3 X.xe I3 (stat fr3) st3 go) λ r s4 ⟨u,hr,h4⟩=>?_);subst hr;refine wpAny_passesOwn hp (thn h4 λ _ s5 ⟨x,H5,I5,r5,y5,st5,fr5⟩=>?_);have I5':=I5.pinned (stat fr5) (T.obj _ _ st5);refine wpAny_passesOwn hp (thn (hg _ s5 σ3 H5 x u _ I5' r5 (step x H5 y5)) λ _ s6 ⟨σ6,H6,I6,q6⟩=>?_);refine wpAny_passesOwn hp (thn (hb _ s6 σ6 H6 _ I6 q6) λ f s7 q7=>?_);have again:∀ {σ7:St} {H7:Hp},Inv X (pins ++ pinsAt fp s5.heap) σ7 H7 s7→N σ7 H7→∃ m,m < n∧∃ i σ' H',Inv X pins σ' H' s7∧tn i s7.heap∧(∀ b∈fp,H' b=none)∧W i m σ' H':=λ {σ7 H7} I7 n7=>by
      obtain ⟨m',hm,w7⟩:=hN σ7 H7 n7;refine ⟨m',hm,i + 1,σ7,H7,I7.unpinned,T.keep _ _ _ st5 λ b hb o e=>(I7.pin (b,o) (List.mem_append_right _ (List.mem_append_right _ (mem_pinsAt hb e)))).1,λ b hb=>?_,w7⟩;obtain ⟨o,e,d⟩:=T.obj _ _ st5 b hb;exact (I7.pin (b,o) (List.mem_append_right _ (List.mem_append_right _ (mem_pinsAt hb e)))).2.1
    cases f with
    | next=>obtain ⟨σ7,H7,I7,n7⟩:=q7;exact again I7 n7
    | cont=>obtain ⟨σ7,H7,I7,n7⟩:=q7;exact again I7 n7
    | brk=>obtain ⟨σ7,H7,I7,q7⟩:=q7;exact ⟨σ7,H7,I7.unpinned,q7⟩
    | ret v=>obtain ⟨x7,σ7,H7,I7,r7,q7⟩:=q7;exact ⟨x7,σ7,H7,I7.unpinned,r7,q7⟩
end
end L2
namespace L2
open PySem PySem.Spec PyProof.Rows
noncomputable abbrev R2:=V→V→Hp→VK→Prop
noncomputable def OpR (X:Cx) (f:Value→Value→Sem Value) (r:R2):Prop :=
  ∀ (pins:List (Addr×Obj)) (s:Shared) (σ:St) (H:Hp) (x y:V) (v u:Value) (Q:VK),Inv X pins σ H s→RelV x v→RelV y u→r x y H Q →
    wpAny (model X.prog X.w) X.A (f v u) (EP X pins σ Q) X.xe s
noncomputable def UnR (X:Cx) (f:Value→Sem Value) (r:V→Hp→VK→Prop):Prop :=
  ∀ (pins:List (Addr×Obj)) (s:Shared) (σ:St) (H:Hp) (x:V) (v:Value) (Q:VK),Inv X pins σ H s→RelV x v→r x H Q →
    wpAny (model X.prog X.w) X.A (f v) (EP X pins σ Q) X.xe s
noncomputable def CallR (X:Cx) (f:Value) (r:List V→Hp→VK→Prop):Prop :=
  ∀ (pins:List (Addr×Obj)) (s:Shared) (σ:St) (H:Hp) (xs:List V) (us:List Value) (Q:VK),Inv X pins σ H s→Vals xs us→r xs H Q →
    wpAny (model X.prog X.w) X.A (call f us) (EP X pins σ Q) X.xe s
noncomputable def tOp (r:R2) (ta tb:TE):TE:=λ σ H Q=>ta σ H λ x H1=>tb σ H1 λ y H2=>r x y H2 Q
noncomputable def tUn (r:V→Hp→VK→Prop) (ta:TE):TE:=λ σ H Q=>ta σ H λ x H1=>r x H1 Q
noncomputable def rI (C:Int→Int→Prop) (g:Int→Int→V):R2:=λ x y H Q=>∃ i j,x = .int i∧y = .int j∧C i j∧Q (g i j) H
noncomputable def rI0 (g:Int→Int→V):R2:=λ x y H Q=>∃ i j,x = .int i∧y = .int j∧Q (g i j) H
noncomputable def rU (g:Int→V):V→Hp→VK→Prop:=λ x H Q=>∃ i,x = .int i∧Q (g i) H
section
variable {X:Cx} {a b c:Expr} {ta tb tc:TE} {pos:Pos}
theorem binT (ha:PE X a ta) (hb:PE X b tb) {pins:List (Addr×Obj)} {s:Shared} {σ:St} {H:Hp} {R:V→V→Hp→Prop} (I:Inv X pins σ H s)
    (h:ta σ H λ x H1=>tb σ H1 λ y H2=>R x y H2) {Q:Value→Shared→Prop} {f:Value→Value→Sem Value}
    (hf:∀ v u s2 x y H2,Inv X pins σ H2 s2→RelV x v→RelV y u→R x y H2→wpAny (model X.prog X.w) X.A (f v u) Q X.xe s2) :
    wpAny (model X.prog X.w) X.A (eval a X.env) (λ v s₁=>wpAny (model X.prog X.w) X.A (eval b X.env) (λ u s₂=>wpAny (model X.prog X.w) X.A (f v u) Q X.xe s₂) X.xe s₁) X.xe s:=by
  refine thn (ha pins s σ H _ I h) λ v s1 ⟨x,H1,I1,r1,q1⟩=>?_;refine thn (hb pins s1 σ H1 _ I1 q1) λ u s2 ⟨y,H2,I2,r2,q2⟩=>?_;exact hf v u s2 x y H2 I2 r1 r2 q2
theorem pe_op {op:Operator} {r:R2} (ho:OpR X (binaryOp op) r) (ha:PE X a ta) (hb:PE X b tb):PE X (.BinOp a op b pos) (tOp r ta tb):=by
  intro pins s σ H Q I h;exact wpAny_BinOp (binT ha hb I h λ v u s2 x y H2 I2 rx ry q=>ho pins s2 σ H2 x y v u Q I2 rx ry q)
theorem pe_un {op:UnaryOp} {r:V→Hp→VK→Prop} (ho:UnR X (unaryOp op) r) (ha:PE X a ta):PE X (.UnaryOp op a pos) (tUn r ta):=by
  intro pins s σ H Q I h;exact UnaryOp_ (thn (ha pins s σ H _ I h) λ v s1 ⟨x,H1,I1,r1,q1⟩=>ho pins s1 σ H1 x v Q I1 r1 q1)
theorem opI {f:Value→Value→Sem Value} {C:Int→Int→Prop} {g:Int→Int→Int}
    (rule:∀ (i j:Int) (t u:Tok) (s:Shared) (Q:Value→Shared→Prop) (E:Value→Shared→Prop),C i j→Q (.int (g i j) s.toks) { s with toks:=s.toks + 1 }→wpAny (model X.prog X.w) X.A (f (.int i t) (.int j u)) Q E s) :
    OpR X f (rI C λ i j=>.int (g i j)):=by
  intro pins s σ H x y v u Q I rx ry h;obtain ⟨i,j,rfl,rfl,hc,q⟩:=h;obtain ⟨t,rfl⟩:=rx;obtain ⟨t',rfl⟩:=ry;exact rule i j t t' s _ _ hc ⟨.int (g i j),H,I.tok _,⟨_,rfl⟩,q⟩
theorem opI0 {f:Value→Value→Sem Value} {g:Int→Int→Int}
    (rule:∀ (i j:Int) (t u:Tok) (s:Shared) (Q:Value→Shared→Prop) (E:Value→Shared→Prop),Q (.int (g i j) s.toks) { s with toks:=s.toks + 1 }→wpAny (model X.prog X.w) X.A (f (.int i t) (.int j u)) Q E s) :
    OpR X f (rI0 λ i j=>.int (g i j)):=by
  intro pins s σ H x y v u Q I rx ry h;obtain ⟨i,j,rfl,rfl,q⟩:=h;obtain ⟨t,rfl⟩:=rx;obtain ⟨t',rfl⟩:=ry;exact rule i j t t' s _ _ ⟨.int (g i j),H,I.tok _,⟨_,rfl⟩,q⟩
theorem opB0 {f:Value→Value→Sem Value} {g:Int→Int→Bool}
    (rule:∀ (i j:Int) (t u:Tok) (s:Shared) (Q:Value→Shared→Prop) (E:Value→Shared→Prop),Q (.bool (g i j)) s→wpAny (model X.prog X.w) X.A (f (.int i t) (.int j u)) Q E s) :
    OpR X f (rI0 λ i j=>.bl (g i j)):=by
  intro pins s σ H x y v u Q I rx ry h;obtain ⟨i,j,rfl,rfl,q⟩:=h;obtain ⟨t,rfl⟩:=rx;obtain ⟨t',rfl⟩:=ry;exact rule i j t t' s _ _ ⟨.bl (g i j),H,I,rfl,q⟩
noncomputable def CDiv (i j:Int):Prop:=0 < j∧j < 1073741824
noncomputable def CPow (i j:Int):Prop:=0≤j∧j≤1000000∧i.natAbs < 2 ^ 64
noncomputable def CMul (i j:Int):Prop:=(-(2 ^ 64) < i∧i < 2 ^ 64)∨(-(2 ^ 64) < j∧j < 2 ^ 64)
theorem CMul.ok {i j:Int} (h:CMul i j):IntMulOk i j:=by
  rcases h with ⟨h1,h2⟩ | ⟨h1,h2⟩
  · exact .of_left (intBits_le_64 h1 h2)
  · exact .of_right (intBits_le_64 h1 h2)
theorem op_add:OpR X (binaryOp .Add) (rI0 λ i j=>.int (i + j)):=opI0 λ _ _ _ _ _ _ _ q=>add_int q
theorem op_sub:OpR X (binaryOp .Sub) (rI0 λ i j=>.int (i - j)):=opI0 λ _ _ _ _ _ _ _ q=>sub_int q
theorem op_mul:OpR X (binaryOp .Mult) (rI CMul λ i j=>.int (i * j)):=opI λ _ _ _ _ _ _ _ hc q=>mul_int q hc.ok
theorem op_fdiv:OpR X (binaryOp .FloorDiv) (rI CDiv λ i j=>.int (i / j)):=opI λ i j _ _ _ _ _ hc q=>by
  have h1:(0:Int) < j:=hc.1;have h2:j < 1073741824:=hc.2;exact floordiv_int (by omega) (by rw [Int.fdiv_eq_ediv_of_nonneg i (by omega)];exact q) (.inl (PyProof.noPylong_small (by omega)))
theorem op_mod:OpR X (binaryOp .Mod) (rI (λ _ j=>0 < j) λ i j=>.int (i % j)):=opI λ i j _ _ _ _ _ hc q=>by
  have h1:(0:Int) < j:=hc;exact mod_int' (by omega) (by rw [Int.fmod_eq_emod_of_nonneg i (by omega)];exact q)
theorem op_pow:OpR X (binaryOp .Pow) (rI CPow λ i j=>.int (i ^ j.toNat)):=opI λ _ _ _ _ _ _ _ hc q=>pow_int_small hc.1 hc.2.1 hc.2.2 q
theorem unI {f:Value→Sem Value} {g:Int→Int}
    (rule:∀ (i:Int) (t:Tok) (s:Shared) (Q:Value→Shared→Prop) (E:Value→Shared→Prop),Q (.int (g i) s.toks) { s with toks:=s.toks + 1 }→wpAny (model X.prog X.w) X.A (f (.int i t)) Q E s) :
    UnR X f (rU λ i=>.int (g i)):=by
  intro pins s σ H x v Q I rx h;obtain ⟨i,rfl,q⟩:=h;obtain ⟨t,rfl⟩:=rx;exact rule i t s _ _ ⟨.int (g i),H,I.tok _,⟨_,rfl⟩,q⟩
theorem un_neg:UnR X (unaryOp .USub) (rU λ i=>.int (-i)):=unI λ _ _ _ _ _ q=>neg_int q
end
noncomputable def scal:V→V→Bool
  | .non,.non=>true | .non,.int _=>true | .int _,.non=>true | .non,.bl _=>true | .bl _,.non=>true | .non,.str _=>true | .str _,.non=>true
  | .int _,.int _=>true | .bl _,.bl _=>true | .str _,.str _=>true | .byt _,.byt _=>true
  | .int _,.str _=>true | .str _,.int _=>true | .bl _,.str _=>true | .str _,.bl _=>true
  | _,_=>false
noncomputable def rEq:R2:=λ x y H Q=>scal x y=true∧Q (.bl (decide (x=y))) H
noncomputable def rNe:R2:=λ x y H Q=>scal x y=true∧Q (.bl (!decide (x=y))) H
theorem dec_int {i j:Int}:decide (V.int i=V.int j)=(i == j):=by
  rw [Bool.eq_iff_iff];simp
theorem dec_bl {i j:Bool}:decide (V.bl i=V.bl j)=(i == j):=by
  rw [Bool.eq_iff_iff];simp
theorem dec_str {i j:Str}:decide (V.str i=V.str j)=(i == j):=by
  rw [Bool.eq_iff_iff];simp
theorem dec_byt {i j:Array UInt8}:decide (V.byt i=V.byt j)=(i.toList == j.toList):=by
  rw [Bool.eq_iff_iff];cases i;cases j;simp
section
variable {X:Cx} {a b c:Expr} {ta tb tc:TE} {pos:Pos}
theorem fin_bl {pins:List (Addr×Obj)} {σ:St} {H:Hp} {s:Shared} {Q:VK} {k k':Bool} (I:Inv X pins σ H s) (q:Q (.bl k) H) (e:k=k'):EP X pins σ Q (.bool k') s:=by
  subst e;exact ⟨.bl k,H,I,rfl,q⟩
theorem op_eq:OpR X (compareOp .Eq) rEq:=by
  intro pins s σ H x y v u Q I rx ry h;obtain ⟨hs,q⟩:=h;cases x with
  | non =>
    cases rx;cases y with
    | non=>cases ry;exact PySem.EqNone.eq_none_none (fin_bl I q (by simp))
    | bl j=>cases ry;exact PySem.EqNone.eq_none_bool (fin_bl I q (by simp))
    | int j=>obtain ⟨t',rfl⟩:=ry;exact PySem.EqNone.eq_none_int (fin_bl I q (by simp))
    | str j=>obtain ⟨t',rfl⟩:=ry;exact PySem.EqNone.eq_none_str (fin_bl I q (by simp))
    | _=>exact absurd (show false=true from hs) Bool.false_ne_true
  | bl i =>
    cases rx;cases y with
    | non=>cases ry;exact PySem.EqNone.eq_bool_none (fin_bl I q (by simp))
    | bl j=>cases ry;exact eq_bool (fin_bl I q dec_bl)
    | str j=>obtain ⟨t',rfl⟩:=ry;exact PySem.EqMixed.eq_bool_str (fin_bl I q (by simp))
    | _=>exact absurd (show false=true from hs) Bool.false_ne_true
  | int i =>
    obtain ⟨t,rfl⟩:=rx;cases y with
    | non=>cases ry;exact PySem.EqNone.eq_int_none (fin_bl I q (by simp))
    | int j=>obtain ⟨t',rfl⟩:=ry;exact eq_int (fin_bl I q dec_int)
    | str j=>obtain ⟨t',rfl⟩:=ry;exact PySem.EqMixed.eq_int_str (fin_bl I q (by simp))
    | _=>exact absurd (show false=true from hs) Bool.false_ne_true
  | str i =>
    obtain ⟨t,rfl⟩:=rx;cases y with
    | non=>cases ry;exact PySem.EqNone.eq_str_none (fin_bl I q (by simp))
    | bl j=>cases ry;exact PySem.EqMixed.eq_str_bool (fin_bl I q (by simp))
    | int j=>obtain ⟨t',rfl⟩:=ry;exact PySem.EqMixed.eq_str_int (fin_bl I q (by simp))
    | str j=>obtain ⟨t',rfl⟩:=ry;exact eq_str (fin_bl I q dec_str)
    | _=>exact absurd (show false=true from hs) Bool.false_ne_true
  | byt i =>
    obtain ⟨t,rfl⟩:=rx;cases y with
    | byt j=>obtain ⟨t',rfl⟩:=ry;exact PySem.W.eq_bytes (fin_bl I q dec_byt)
    | _=>exact absurd (show false=true from hs) Bool.false_ne_true
  | _=>cases y<;>exact absurd (show false=true from hs) Bool.false_ne_true
theorem op_ne:OpR X (compareOp .NotEq) rNe:=by
  intro pins s σ H x y v u Q I rx ry h;obtain ⟨hs,q⟩:=h;cases x with
  | non =>
    cases rx;cases y with
    | non=>cases ry;exact PySem.EqNone.ne_none_none (fin_bl I q (by simp))
    | bl j=>cases ry;exact PySem.EqNone.ne_none_bool (fin_bl I q (by simp))
    | int j=>obtain ⟨t',rfl⟩:=ry;exact PySem.EqNone.ne_none_int (fin_bl I q (by simp))
    | str j=>obtain ⟨t',rfl⟩:=ry;exact PySem.EqNone.ne_none_str (fin_bl I q (by simp))
    | _=>exact absurd (show false=true from hs) Bool.false_ne_true
  | bl i =>
    cases rx;cases y with
    | non=>cases ry;exact PySem.EqNone.ne_bool_none (fin_bl I q (by simp))
    | bl j=>cases ry;exact ne_bool (fin_bl I q (congrArg not dec_bl))
    | str j=>obtain ⟨t',rfl⟩:=ry;exact PySem.EqMixed.ne_bool_str (fin_bl I q (by simp))
    | _=>exact absurd (show false=true from hs) Bool.false_ne_true
  | int i =>
    obtain ⟨t,rfl⟩:=rx;cases y with
    | non=>cases ry;exact PySem.EqNone.ne_int_none (fin_bl I q (by simp))
    | int j=>obtain ⟨t',rfl⟩:=ry;exact ne_int (fin_bl I q (congrArg not dec_int))
    | str j=>obtain ⟨t',rfl⟩:=ry;exact PySem.EqMixed.ne_int_str (fin_bl I q (by simp))
    | _=>exact absurd (show false=true from hs) Bool.false_ne_true
  | str i =>
    obtain ⟨t,rfl⟩:=rx;cases y with
    | non=>cases ry;exact PySem.EqNone.ne_str_none (fin_bl I q (by simp))
    | bl j=>cases ry;exact PySem.EqMixed.ne_str_bool (fin_bl I q (by simp))
    | int j=>obtain ⟨t',rfl⟩:=ry;exact PySem.EqMixed.ne_str_int (fin_bl I q (by simp))
    | str j=>obtain ⟨t',rfl⟩:=ry;exact ne_str (fin_bl I q (congrArg not dec_str))
    | _=>exact absurd (show false=true from hs) Bool.false_ne_true
  | byt i =>
    obtain ⟨t,rfl⟩:=rx;cases y with
    | byt j=>obtain ⟨t',rfl⟩:=ry;exact PySem.W.ne_bytes (fin_bl I q (congrArg not dec_byt))
    | _=>exact absurd (show false=true from hs) Bool.false_ne_true
  | _=>cases y<;>exact absurd (show false=true from hs) Bool.false_ne_true
theorem op_lt:OpR X (compareOp .Lt) (rI0 λ i j=>.bl (decide (i < j))):=opB0 λ _ _ _ _ _ _ _ q=>lt_int q
theorem op_le:OpR X (compareOp .LtE) (rI0 λ i j=>.bl (decide (i≤j))):=opB0 λ _ _ _ _ _ _ _ q=>le_int q
theorem op_gt:OpR X (compareOp .Gt) (rI0 λ i j=>.bl (decide (j < i))):=opB0 λ _ _ _ _ _ _ _ q=>gt_int q
theorem op_ge:OpR X (compareOp .GtE) (rI0 λ i j=>.bl (decide (j≤i))):=opB0 λ _ _ _ _ _ _ _ q=>ge_int q
theorem op_notN:OpR X (compareOp .IsNot) (λ x y H Q=>y = .non∧Q (.bl (!decide (x = .non))) H):=by
  intro pins s σ H x y v u Q I rx ry h;obtain ⟨rfl,q⟩:=h;cases ry;refine isnot_none_gen (fin_bl I q ?_);cases x<;>first
    | (cases rx;rfl)
    | (obtain ⟨t,rfl⟩:=rx;rfl)
theorem nomark (b:Expr) {op:CmpOp} (h:op≠.In:=by decide) (h2:op≠.NotIn:=by decide):behindInMarks op b=false:=by
  have e1:(op == CmpOp.In)=false:=by cases op<;>first | rfl | exact absurd rfl h
  have e2:(op == CmpOp.NotIn)=false:=by cases op<;>first | rfl | exact absurd rfl h2
  cases b<;>simp [behindInMarks,e1,e2]
theorem pe_cmpR {op:CmpOp} {r:R2} (ho:OpR X (compareOp op) r) (ha:PE X a ta) (hb:PE X b tb) (hm:behindInMarks op b=false):PE X (.Compare a [op] [b] pos) (tOp r ta tb):=by
  intro pins s σ H Q I h;exact wpAny_Compare1 (binT ha hb I h λ v u s2 x y H2 I2 rx ry q=>ho pins s2 σ H2 x y v u Q I2 rx ry q) hm
noncomputable def tTest (t:TE):TT:=λ σ H Q=>t σ H λ x H'=>∃ k,x = .bl k∧Q k H'
theorem pt_cmpR {op:CmpOp} {r:R2} (ho:OpR X (compareOp op) r) (ha:PE X a ta) (hb:PE X b tb) (hm:behindInMarks op b=false):PT X (.Compare a [op] [b] pos) (tTest (tOp r ta tb)):=by
  intro pins s σ H Q I h;refine wpAny_isTrue_Compare1 (thn (ha pins s σ H _ I h) λ v s1 ⟨x,H1,I1,r1,q1⟩=>thn (hb pins s1 σ H1 _ I1 q1) λ u s2 ⟨y,H2,I2,r2,q2⟩ =>
    thn (ho pins s2 σ H2 x y v u _ I2 r1 r2 q2) λ c s3 ⟨z,H3,I3,r3,k,e,q3⟩=>?_) hm
  subst e;cases r3;exact wpAny_truthy_bool ⟨H3,I3,q3⟩
noncomputable def tChain (r r':R2) (ta tb tc:TE):TE:=λ σ H Q=>ta σ H λ x H1=>tb σ H1 λ y H2=>r x y H2 λ z H3=>∃ k,z = .bl k ∧
  (if k=true then tc σ H3 λ w' H4=>r' y w' H4 Q else Q (.bl false) H3)
theorem pe_chain {op op':CmpOp} {r r':R2} (ho:OpR X (compareOp op) r) (ho':OpR X (compareOp op') r') (ha:PE X a ta) (hb:PE X b tb) (hc:PE X c tc)
    (hm:lastMarks [op,op'] [b,c]=false:=by with_unfolding_all rfl):PE X (.Compare a [op,op'] [b,c] pos) (tChain r r' ta tb tc):=by
  intro pins s σ H Q I h;refine Compare_chain (thn (ha pins s σ H _ I h) λ v s1 ⟨x,H1,I1,r1,q1⟩=>chain_link (thn (hb pins s1 σ H1 _ I1 q1) λ u s2 ⟨y,H2,I2,r2,q2⟩ =>
    thn (ho pins s2 σ H2 x y v u _ I2 r1 r2 q2) λ d s3 ⟨z,H3,I3,r3,k,e,q3⟩=>?_)) hm
  subst e;cases r3;refine wpAny_truthy_bool ?_;cases k with
  | false=>exact ite_ff ⟨.bl false,H3,I3,rfl,q3⟩
  | true=>exact ite_tt (chain_last (thn (hc pins s3 σ H3 _ I3 q3) λ w' s4 ⟨z',H4,I4,r4,q4⟩=>ho' pins s4 σ H4 y z' u w' Q I4 r2 r4 q4))
theorem pt_chain {op op':CmpOp} {r r':R2} (ho:OpR X (compareOp op) r) (ho':OpR X (compareOp op') r') (ha:PE X a ta) (hb:PE X b tb) (hc:PE X c tc)
    (hm:lastMarks [op,op'] [b,c]=false:=by with_unfolding_all rfl):PT X (.Compare a [op,op'] [b,c] pos) (tTest (tChain r r' ta tb tc)):=by
  intro pins s σ H Q I h;refine isTrue_chain (thn (ha pins s σ H _ I h) λ v s1 ⟨x,H1,I1,r1,q1⟩=>test_link (thn (hb pins s1 σ H1 _ I1 q1) λ u s2 ⟨y,H2,I2,r2,q2⟩ =>
    thn (ho pins s2 σ H2 x y v u _ I2 r1 r2 q2) λ d s3 ⟨z,H3,I3,r3,k,e,q3⟩=>?_)) hm
  subst e;cases r3;refine wpAny_truthy_bool ?_;cases k with
  | false =>
    obtain ⟨k',e',q'⟩:=q3;cases e';exact ite_ff ⟨H3,I3,q'⟩
  | true =>
    refine ite_tt (test_last (thn (hc pins s3 σ H3 _ I3 q3) λ w' s4 ⟨z',H4,I4,r4,q4⟩=>thn (ho' pins s4 σ H4 y z' u w' _ I4 r2 r4 q4) λ d' s5 ⟨z2,H5,I5,r5,k2,e2,q5⟩=>?_));subst e2;cases r5;exact wpAny_truthy_bool ⟨H5,I5,q5⟩
theorem line63:(sizeLine:Nat) < 2 ^ 63:=by rw [sizeLine_eq];decide
theorem vals1 {x:V} {us:List Value} (r:Vals [x] us):∃ u,us=[u]∧RelV x u:=by
  cases r with
  | cons r1 r2=>cases r2;exact ⟨_,rfl,r1⟩
theorem vals2 {x y:V} {us:List Value} (r:Vals [x,y] us):∃ u w',us=[u,w']∧RelV x u∧RelV y w':=by
  cases r with
  | cons r1 r2 =>
    cases r2 with
    | cons r3 r4=>cases r4;exact ⟨_,_,rfl,r1,r3⟩
theorem call_max2 (hc:X.calm=true):CallR X (.builtin "max") (λ xs H Q=>∃ i j,xs=[.int i,.int j]∧Q (.int (if j > i then j else i)) H):=by
  intro pins s σ H xs us Q I r h;obtain ⟨i,j,rfl,q⟩:=h;obtain ⟨u,w',rfl,⟨t,rfl⟩,⟨t',rfl⟩⟩:=vals2 r;refine max_two_ints (I.ok.hd hc) λ h' tk k=>⟨_,H,I.kept k,?_,q⟩
  by_cases hj:j > i
  · rw [if_pos hj,if_pos hj];exact ⟨_,rfl⟩
  · rw [if_neg hj,if_neg hj];exact ⟨_,rfl⟩
end
end L2
namespace L2
open PySem PySem.Spec PyProof.Rows
structure ObjM (h:Heap) (x dx C:Addr) (mA:Str→Option Value):Prop where
  obj:h.get? x=some (PySem.W.instObj C dx)
  ns:h.Ns1 dx mA
  ne:dx≠x
theorem lookIn_ns {h:Heap} {dx:Addr} {mA:Str→Option Value} (n:h.Ns1 dx mA):∃ od,h.get? dx=some od∧∀ name,PySem.W.lookIn name od=some (mA name):=by
  obtain ⟨o,es,ep,ho,hd,hk,_,hm⟩:=n;refine ⟨o,ho,λ name=>?_⟩;have e:=hm name;unfold nsFind findBy at e;rw [← Array.find?_toList] at e;unfold PySem.W.lookIn;rw [hd];dsimp only;split
  · rename_i y q
    rw [q] at e;exact congrArg some e
  · rename_i q
    rw [q] at e;have a:es.toList.any (·.refKey)=false:=by
      rw [List.any_eq_false];intro y hy;obtain ⟨z,t,hkey⟩:=hk y (Array.mem_toList_iff.mp hy);simp [DictEntry.refKey,hkey]
    have a':¬ es.toList.any (·.refKey)=true:=by rw [a];exact Bool.false_ne_true
    rw [if_neg a'];exact congrArg some e
theorem ObjM.look {h:Heap} {x dx C:Addr} {mA:Str→Option Value} (I:ObjM h x dx C mA):∃ od,PySem.W.InstAt h x (PySem.W.instObj C dx) C (some od)∧∀ name,PySem.W.lookIn name od=some (mA name) :=
  let ⟨od,ho,hl⟩:=lookIn_ns I.ns
  ⟨od,⟨I.obj,rfl,rfl,ho⟩,hl⟩
section
variable {prog:Program} {w:World} {A:Around} {E:Value→Shared→Prop} {s:Shared} {K:PySem.W.Frag} {x dx C f:Addr} {mA:Str→Option Value} {name:Str} {v:Value}
theorem get_map {expr:Bool} {Q:Value→Shared→Prop} (X:K.In s.heap) (I:ObjM s.heap x dx C mA) (hg:PySem.W.plainGet K C name=true) (hh:PySem.W.hasDictIn K C=true)
    (ha:PySem.W.findIn K (.ref C) name=some none) (hv:mA name=some v) (hv':PySem.W.handedIn v=true) (h:Q v { s with toks:=s.toks + 1 }) :
    wpAny (model prog w) A (getAttr (.ref x) name expr) Q E s:=by
  obtain ⟨od,J,hl⟩:=I.look;exact PySem.W.get_value X J (PySem.W.plainGet_of hg).1 (PySem.W.findObj_own hh ha rfl (by rw [hl,hv])) hv' h
theorem get_meth {pl:Sem Bool} {Q:Value×List Value→Shared→Prop} (X:K.In s.heap) (I:ObjM s.heap x dx C mA) (hg:PySem.W.plainGet K C name=true)
    (hf:PySem.W.findIn K (.ref C) name=some (some (.ref f))) (ht:PySem.W.isFn K (.ref f)=true) (hv:mA name=none) (h:Q (.ref f,[.ref x]) s) :
    wpAny (model prog w) A (getMethod (.ref x) name pl) Q E s:=by
  obtain ⟨od,J,hl⟩:=I.look;exact PySem.W.method_fn X J (PySem.W.plainGet_of hg).1 (PySem.W.plainGet_of hg).2 hf (beq_iff_eq.mp ht) (by show (PySem.W.lookIn name od).map (·.isSome)=some false;rw [hl,hv];rfl) h
theorem set_map {ns:List Str} {Q:Unit→Shared→Prop} (X:K.In s.heap) (I:ObjM s.heap x dx C mA)
    (hs:PySem.W.findIn K (.ref C) "__setattr__"=some (some (.builtin "object.__setattr__"))) (hp:PySem.W.plainOver K C=true) (ht:PySem.W.takerIn K C name=some none) (hh:PySem.W.hasDictIn K C=true)
    (hw:PySem.Within mA ns) (hsz:ns.length≤sizeLine)
    (h:∀ h',ObjM h' x dx C (λ y=>if y=name then some v else mA y)→Heap.SameBut dx s.heap h'→Q () { s with heap:=h',toks:=s.toks + 2 }) :
    wpAny (model prog w) A (setAttr (.ref x) name v) Q E s:=by
  obtain ⟨od,J,hl⟩:=I.look;refine PySem.W.set_plain X J hs (PySem.W.osa_open (s:={ s with toks:=s.toks + 1 }) (r:=none) X J hp ht λ b=>?_);obtain ⟨cd,hc,hd'⟩:=PySem.W.any_some hh;have hx:s.heap.get? x=some ⟨.ref C,some dx,.plain,#[]⟩:=I.obj;refine wpAny_bind (wpAny_pure (wpAny_bind (wpAny_bind (wpAny_loadPart hx (wpAny_bind (PySem.W.Looks.here (s:={ s with toks:=s.toks + 1 }) (PySem.W.looks_clsIn X hc) ?_))))));rw [hd'];refine wpAny_pure (a:=some dx) (wpAny_bind (wpAny_pure (wpAny_bind ?_)));refine wpAny_nsSet1 (s:={ s with toks:=s.toks + 1 }) I.ns λ h' hn2 hs2=>?_;obtain ⟨oD,esD,epD,hoD,hdD,hcD⟩:=hn2.count (PySem.Within.cons name v hw);refine wpAny_bind (wpAny_lookBehind hoD (by rw [hdD];exact pastItsLine_dict (Nat.le_trans hcD (by rw [List.length_cons];omega))) ?_);exact wpAny_pure (h _ ⟨(hs2.2 _ (Ne.symm I.ne)).trans I.obj,hn2,I.ne⟩ hs2)
theorem make_map {R:Result→Shared→Prop} {vs:List Value} {kw:List (Str×Value)} (X:K.In s.heap) (hm:PySem.W.makesIn K C=true)
    (hi:PySem.W.findIn K (.ref C) "__init__"=some (some (.ref f))) (hf:PySem.W.typeIn K (.ref f)=some (.type "function"))
    (h:codeAny (model prog w) (A.under (.builtin "type.__call__" ⟨.ref C :: vs,kw⟩)) (.call (.ref f) ⟨.ref (s.heap.objs.size + 1) :: vs,kw⟩) (PySem.W.InitBack (s.heap.objs.size + 1) R)
      { s with heap:=(s.heap.push PySem.W.emptyDict).push (PySem.W.instObj C s.heap.objs.size) }) :
    codeAny (model prog w) A (.call (.ref C) ⟨vs,kw⟩) R s:=by
  obtain ⟨hh,g,d,t,os⟩:=s;exact PySem.W.make_core (PySem.W.makes_of X hm) (PySem.W.looks_findIn X hi) (λ self=>PySem.W.bind_fn X self hf) (.inl rfl) h
end
noncomputable def putF (f:Str) (v:V):List (Str×V)→List (Str×V)
  | []=>[(f,v)]
  | (g,x) :: r=>if g=f then (g,v) :: r else (g,x) :: putF f v r
theorem lookup_putF (f g:Str) (v:V):∀ fs:List (Str×V),(putF f v fs).lookup g=if g=f then some v else fs.lookup g
  | []=>by
    show List.lookup g [(f,v)]=_
    by_cases h:g=f
    · have hb:(g == f)=true:=beq_iff_eq.mpr h;simp only [List.lookup,hb,if_pos h]
    · have hb:(g == f)=false:=beq_eq_false_iff_ne.mpr h;simp only [List.lookup,hb,if_neg h]
  | (k,x) :: r=>by
    have ih:=lookup_putF f g v r;rw [show putF f v ((k,x) :: r)=(if k=f then (k,v) :: r else (k,x) :: putF f v r) from rfl]
    by_cases hk:k=f
    · rw [if_pos hk]
      by_cases h:g=k
      · have hb:(g == k)=true:=beq_iff_eq.mpr h;simp only [List.lookup,hb,if_pos (h.trans hk)]
      · have hb:(g == k)=false:=beq_eq_false_iff_ne.mpr h;simp only [List.lookup,hb,if_neg (λ e:g=f=>h (e.trans hk.symm))]
    · rw [if_neg hk]
      by_cases h:g=k
      · have hb:(g == k)=true:=beq_iff_eq.mpr h;simp only [List.lookup,hb,if_neg (λ e:g=f=>hk (h.symm.trans e))]
      · have hb:(g == k)=false:=beq_eq_false_iff_ne.mpr h;simp only [List.lookup,hb];exact ih
theorem keys_putF (f:Str) (v:V):∀ fs:List (Str×V),f∈(putF f v fs).map (·.1)∧∀ g,g∈fs.map (·.1)→g∈(putF f v fs).map (·.1)
  | []=>⟨by simp [putF],λ g h=>by simp at h⟩
  | (k,x) :: r=>by
    obtain ⟨i1,i2⟩:=keys_putF f v r;rw [show putF f v ((k,x) :: r)=(if k=f then (k,v) :: r else (k,x) :: putF f v r) from rfl]
    by_cases hk:k=f
    · rw [if_pos hk];subst hk;exact ⟨by simp,λ g h=>by simpa using h⟩
    · rw [if_neg hk];refine ⟨?_,λ g h=>?_⟩
      · rw [List.map_cons];exact List.mem_cons_of_mem _ i1
      · rw [List.map_cons] at h ⊢;rcases List.mem_cons.mp h with e | e
        · exact List.mem_cons.mpr (.inl e)
        · exact List.mem_cons_of_mem _ (i2 g e)
theorem length_putF (f:Str) (v:V):∀ fs:List (Str×V),(putF f v fs).length≤fs.length + 1
  | []=>by simp [putF]
  | (k,x) :: r=>by
    have ih:=length_putF f v r;rw [show putF f v ((k,x) :: r)=(if k=f then (k,v) :: r else (k,x) :: putF f v r) from rfl]
    by_cases hk:k=f
    · rw [if_pos hk,List.length_cons,List.length_cons];omega
    · rw [if_neg hk,List.length_cons,List.length_cons];omega
theorem RelO.some_of {v:V} {o:Option Value} (r:RelO (some v) o):∃ u,o=some u∧RelV v u:=by
  cases o with
  | none=>exact (show False from r).elim
  | some u=>exact ⟨u,rfl,r⟩
theorem RelO.none_of {o:Option Value} (r:RelO none o):o=none:=by
  cases o with
  | none=>rfl
  | some u=>exact (show False from r).elim
theorem handed_of {v:V} {u:Value} (r:RelV v u):PySem.W.handedIn u=true:=by
  cases v with
  | non=>cases (show u=Value.none from r);rfl
  | bl b=>cases (show u=Value.bool b from r);rfl
  | int i=>obtain ⟨t,e⟩:=(show ∃ t,u=Value.int i t from r);cases e;rfl
  | str x=>obtain ⟨t,e⟩:=(show ∃ t,u=Value.str x t from r);cases e;rfl
  | byt b=>obtain ⟨t,e⟩:=(show ∃ t,u=Value.bytes b t from r);cases e;rfl
  | flt b=>obtain ⟨t,e⟩:=(show ∃ t,u=Value.float b t from r);cases e;rfl
  | ref a=>cases (show u=Value.ref a from r);rfl
  | ty n=>cases (show u=Value.type n from r);rfl
section
variable {P:Program} {w:World} {H H':Hp} {h h':Heap} {a C dx:Addr} {fs fs':List (Str×V)}
theorem ins_get (hok:HOk P w H h) (e:H a=some (.ins C dx fs)):∃ mA,ObjM h a dx C mA∧(∀ f,RelO (fs.lookup f) (mA f))∧PySem.Within mA (fs.map (·.1))∧fs.length≤1000∧H dx=some (.own a):=by
  obtain ⟨d,z,ne,ob,mA,n,r,q⟩:=(show ObjOk P w H h a (.ins C dx fs) from hok a _ e);exact ⟨mA,⟨ob,n,ne⟩,r,q,z,d⟩
end
structure Cls (K:PySem.W.Frag) (C:Addr):Prop where
  pg:PySem.W.plainGet K C Str.empty=true
  hd:PySem.W.hasDictIn K C=true
  po:PySem.W.plainOver K C=true
  sa:PySem.W.findIn K (.ref C) "__setattr__"=some (some (.builtin "object.__setattr__"))
theorem Cls.get {K:PySem.W.Frag} {C:Addr} (c:Cls K C) (f:Str):PySem.W.plainGet K C f=true:=c.pg
noncomputable def NoAttr (K:PySem.W.Frag) (C:Addr) (f:Str):Prop:=PySem.W.findIn K (.ref C) f=some none
theorem NoAttr.taker {K:PySem.W.Frag} {C:Addr} {f:Str} (n:NoAttr K C f):PySem.W.takerIn K C f=some none:=by
  unfold PySem.W.takerIn;rw [show PySem.W.findIn K (.ref C) f=some none from n];rfl
structure Meth (K:PySem.W.Frag) (C:Addr) (m:Str) (f:Addr):Prop where
  at_:PySem.W.findIn K (.ref C) m=some (some (.ref f))
  fn:PySem.W.isFn K (.ref f)=true
  kp:PySem.W.keepIn K (.ref f)=true
section
variable {X:Cx} {pins:List (Addr×Obj)} {σ:St} {H:Hp} {s:Shared} {a C dx:Addr} {fs:List (Str×V)} {f:Str} {v:V} {A:Around} {E:Value→Shared→Prop}
theorem getattr_ok {b:Bool} {Q:Value→Shared→Prop} (I:Inv X pins σ H s) (e:H a=some (.ins C dx fs)) (c:Cls X.K C) (n:NoAttr X.K C f) (l:fs.lookup f=some v)
    (h:∀ u s',Inv X pins σ H s'→RelV v u→Q u s'):wpAny (model X.prog X.w) A (getAttr (.ref a) f b) Q E s:=by
  obtain ⟨mA,O,r,_,_,_⟩:=ins_get I.hok e;obtain ⟨u,hu,ru⟩:=RelO.some_of (v:=v) (o:=mA f) (by rw [← l];exact r f);exact get_map I.kIn O (c.get f) c.hd n hu (handed_of ru) (h u _ (I.tok _) ru)
theorem getmeth_ok {m:Str} {g:Addr} {pl:Sem Bool} {Q:Value×List Value→Shared→Prop} (I:Inv X pins σ H s) (e:H a=some (.ins C dx fs)) (c:Cls X.K C) (k:Meth X.K C m g) (l:fs.lookup m=none)
    (h:Q (.ref g,[.ref a]) s):wpAny (model X.prog X.w) A (getMethod (.ref a) m pl) Q E s:=by
  obtain ⟨mA,O,r,_,_,_⟩:=ins_get I.hok e;have hn:mA m=none:=RelO.none_of (by rw [← l];exact r m);exact get_meth I.kIn O (c.get m) k.at_ k.fn hn h
theorem setattr_ok {y:V} {u:Value} {Q:Unit→Shared→Prop} (I:Inv X pins σ H s) (e:H a=some (.ins C dx fs)) (c:Cls X.K C) (n:NoAttr X.K C f) (hl:fs.length < 1000) (ry:RelV y u)
    (h:∀ s',Inv X pins σ (upd H a (.ins C dx (putF f y fs))) s'→Q () s'):wpAny (model X.prog X.w) A (setAttr (.ref a) f u) Q E s:=by
  obtain ⟨mA,O,r,wi,_,ho⟩:=ins_get I.hok e;have hz:(fs.map (·.1)).length≤sizeLine:=by rw [List.length_map,sizeLine_eq];omega
  refine set_map I.kIn O c.sa c.po n.taker c.hd wi hz λ h' O' sb=>h _ ?_;have hd:∃ o,h'.get? dx=some o:=let ⟨o,_,_,e',_⟩:=O'.ns;⟨o,e'⟩
  refine I.write (x:=a) (e:=dx) (by rw [e];exact True.intro) (.inr ho) (λ b q hb z=>(sb.2 b hb).trans z) hd ?_;refine ⟨by rw [upd_ne O.ne];exact ho,?_,O.ne,O'.obj,_,O'.ns,λ g=>?_,λ g hg=>?_⟩
  · have:=length_putF f y fs;omega
  · show RelO ((putF f y fs).lookup g) (if g=f then some u else mA g);rw [lookup_putF]
    by_cases q:g=f
    · rw [if_pos q,if_pos q];exact ry
    · rw [if_neg q,if_neg q];exact r g
  · by_cases q:g=f
    · rw [q];exact (keys_putF f y fs).1
    · refine (keys_putF f y fs).2 g (wi g λ z=>hg ?_);show (if g=f then some u else mA g)=none;rw [if_neg q];exact z
theorem Inv.made (I:Inv X pins σ H s):Inv X pins σ (upd (upd H s.heap.objs.size (.own (s.heap.objs.size + 1))) (s.heap.objs.size + 1) (.ins C s.heap.objs.size []))
    { s with heap:=(s.heap.push PySem.W.emptyDict).push (PySem.W.instObj C s.heap.objs.size) }:=by
  have e1:(s.heap.push PySem.W.emptyDict).get? s.heap.objs.size=some PySem.W.emptyDict:=Heap.get?_push_size s.heap rfl;have e2:((s.heap.push PySem.W.emptyDict).push (PySem.W.instObj C s.heap.objs.size)).get? (s.heap.objs.size + 1)=some (PySem.W.instObj C s.heap.objs.size):=by
    have:=Heap.get?_push_size (s.heap.push PySem.W.emptyDict) (o:=PySem.W.instObj C s.heap.objs.size) rfl
    rwa [Heap.size_push] at this
  have e3:(s.heap.push PySem.W.emptyDict).Ns s.heap.objs.size (λ _=>none):=⟨PySem.W.emptyDict,#[],_,e1,rfl,(λ e he=>absurd he (by simp)),λ _=>rfl⟩;have I1:=I.laid (a:=s.heap.objs.size) (o:=.own (s.heap.objs.size + 1)) (h':=s.heap.push PySem.W.emptyDict) (t':=s.toks) (λ b u q=>Heap.get?_push_of_some _ q) (Nat.le_refl _) ⟨_,e1⟩;refine I1.laid (a:=s.heap.objs.size + 1) (o:=.ins C s.heap.objs.size []) (t':=s.toks) (λ b u q=>Heap.get?_push_of_some _ q) (Nat.le_of_eq (Heap.size_push _ _)) ?_;have ne:s.heap.objs.size≠s.heap.objs.size + 1:=Nat.ne_of_lt (Nat.lt_succ_self _);refine ⟨by rw [upd_ne ne,upd_same],Nat.zero_le _,ne,e2,λ _=>none,(Heap.Ns1.of_empty e3).at λ o q=>Heap.get?_push_of_some _ q,λ _=>True.intro,λ y hy=>absurd rfl hy⟩
theorem attr_of {prog:Program} {w:World} {env:Env} {e:Expr} {f:Str} {pos:Pos} {s:Shared} {Q:Value→Shared→Prop} (hb:attributeBase e f env (eval e env)=eval e env)
    (h:wpAny (model prog w) A (eval e env) (λ o s₁=>wpAny (model prog w) A (getAttr o f true) Q E s₁) E s):wpAny (model prog w) A (eval (.Attribute e f pos) env) Q E s :=
  Attribute_any_ h (by rw [arm_eval_Attribute,hb])
end
noncomputable def tFld (K:PySem.W.Frag) (ta:TE) (f:Str):TE:=λ σ H Q=>ta σ H λ x H1=>∃ a C dx fs v,x = .ref a∧H1 a=some (.ins C dx fs)∧Cls K C∧NoAttr K C f∧fs.lookup f=some v∧Q v H1
theorem rdF {K:PySem.W.Frag} {f:Str} {H:Hp} {a C dx:Addr} {fs:List (Str×V)} {v:V} {o:Option (Option V)} {Q:V→Prop} (hi:H a=some (.ins C dx fs)) (hc:Cls K C) (hn:NoAttr K C f) (hl:fs.lookup f=some v) (q:Q v) (e:o=some (some (.ref a)):=by rfl):∃ u,o=some (some u)∧∃ a C dx fs v,u=.ref a∧H a=some (.ins C dx fs)∧Cls K C∧NoAttr K C f∧fs.lookup f=some v∧Q v:=⟨_,e,a,C,dx,fs,v,rfl,hi,hc,hn,hl,q⟩
noncomputable def sFld (K:PySem.W.Frag) (ta tv:TE) (f:Str):TS:=λ D σ H=>tv σ H λ y H1=>ta σ H1 λ x H2=>∃ a C dx fs,x = .ref a∧H2 a=some (.ins C dx fs)∧Cls K C∧NoAttr K C f∧fs.length < 1000 ∧
  D.nx σ (upd H2 a (.ins C dx (putF f y fs)))
noncomputable def InOp (X:Cx) (op:Operator) (rd:V→V→Hp→VK→Prop):Prop :=
  ∀ (pins:List (Addr×Obj)) (s:Shared) (σ:St) (H:Hp) (x y:V) (u v:Value) (Q:VK),Inv X pins σ H s→RelV x u→RelV y v→rd x y H Q→wpAny (model X.prog X.w) X.A (inplaceOp op u v) (EP X pins σ Q) X.xe s
noncomputable def sFldAug (K:PySem.W.Frag) (ta tv:TE) (rd:V→V→Hp→VK→Prop) (f:Str):TS:=λ D σ H=>ta σ H λ x H1=>∃ a C dx fs v,x = .ref a∧H1 a=some (.ins C dx fs)∧Cls K C∧NoAttr K C f∧fs.lookup f=some v ∧
  tv σ H1 λ y H2=>rd v y H2 λ z H3=>∃ dx' fs',H3 a=some (.ins C dx' fs')∧fs'.length < 1000∧D.nx σ (upd H3 a (.ins C dx' (putF f z fs')))
section
variable {X:Cx} {o e value:Expr} {f:Str} {pos pos' tpos:Pos} {ta tv:TE}
theorem pe_fld (he:PE X e ta) (hb:attributeBase e f X.env (eval e X.env)=eval e X.env):PE X (.Attribute e f pos) (tFld X.K ta f):=by
  intro pins s σ H Q I h;refine attr_of hb (thn (he pins s σ H _ I h) λ u s1 ⟨x,H1,I1,rx,a,C,dx,fs,v,ex,ea,c,n,l,q⟩=>?_);subst ex;obtain rfl:u=Value.ref a:=rx;exact getattr_ok I1 ea c n l λ u' s2 I2 ru=>⟨v,H1,I2,ru,q⟩
theorem ps_fld (ha:PE X o ta) (hv:PE X value tv) (hs:swapsWith value (some (.Attribute o f pos')) pos.line X.env=pure false):PS X (.Assign [.Attribute o f pos'] value pos) (sFld X.K ta tv f):=by
  intro pins s σ H D I h;refine plainObj_wpAny_Assign_Attribute (thn (hv pins s σ H _ I h) λ u s1 ⟨y,H1,I1,ry,q⟩=>thn (ha pins s1 σ H1 _ I1 q) λ ov s2 ⟨x,H2,I2,rx,a,C,dx,fs,ex,ea,c,n,l,q2⟩=>?_) hs;subst ex;obtain rfl:ov=Value.ref a:=rx;exact setattr_ok I2 ea c n l ry λ s3 I3=>⟨σ,_,I3,q2⟩
theorem ps_fldaug {op:Operator} {rd:V→V→Hp→VK→Prop} (ha:PE X o ta) (hv:PE X value tv) (hop:InOp X op rd):PS X (.AugAssign (.Attribute o f tpos) op value pos) (sFldAug X.K ta tv rd f):=by
  intro pins s σ H D I h;refine wpAny_AugAssign_AttributeAny (thn (ha pins s σ H _ I h) λ ov s1 ⟨x,H1,I1,rx,a,C,dx,fs,v,ex,ea,c,n,l,q⟩=>?_);subst ex;obtain rfl:ov=Value.ref a:=rx;refine getattr_ok I1 ea c n l λ u s2 I2 ru=>thn (hv pins s2 σ H1 _ I2 q) λ w3 s3 ⟨y,H2,I3,ry,q3⟩=>thn (hop pins s3 σ H2 v y u w3 _ I3 ru ry q3) λ w4 s4 ⟨z,H3,I4,rz,dx',fs',ea',l',q4⟩=>?_;exact setattr_ok I4 ea' c n l' rz λ s5 I5=>⟨σ,_,I5,q4⟩
noncomputable def rAdd:V→V→Hp→VK→Prop:=λ x y H Q=>∃ i j,x = .int i∧y = .int j∧Q (.int (i + j)) H
theorem in_add:InOp X .Add rAdd:=by
  rintro pins s σ H x y u v Q I rx ry ⟨i,j,rfl,rfl,q⟩;obtain ⟨t,rfl⟩:=(show ∃ t,u=Value.int i t from rx);obtain ⟨t',rfl⟩:=(show ∃ t',v=Value.int j t' from ry);exact PyProof.Rows.iadd_int ⟨.int (i + j),H,I.tok _,⟨_,rfl⟩,q⟩
end
section
variable {X:Cx} {pins:List (Addr×Obj)} {σ:St} {H:Hp} {s:Shared} {A:Around} {E:Value→Shared→Prop} {Q:Value→Shared→Prop} {c:Value} {b:Bool}
inductive TyOf (K:PySem.W.Frag) (H:Hp):V→Value→Prop where
  | non:TyOf K H .non (.type "NoneType")
  | bl (x:Bool):TyOf K H (.bl x) (.type "bool")
  | int (i:Int):TyOf K H (.int i) (.type "int")
  | str (x:Str):TyOf K H (.str x) (.type "str")
  | flt (x:UInt64):TyOf K H (.flt x) (.type "float")
  | lst {a:Addr} {xs:List V} (e:H a=some (.lst xs)):TyOf K H (.ref a) (.type "list")
  | frz {a:Addr} {o:Obj} {xs:List V} (e:H a=some (.frz o (.lst xs))):TyOf K H (.ref a) (.type "list")
  | tup {a:Addr} {xs:List V} (e:H a=some (.tup xs)):TyOf K H (.ref a) (.type "tuple")
  | dK {a:Addr} {kvs:List (Key×V)} (e:H a=some (.dK kvs)):TyOf K H (.ref a) (.type "dict")
  | dT {a:Addr} {kvs:List (List Key×V)} (e:H a=some (.dT kvs)):TyOf K H (.ref a) (.type "dict")
  | ins {a C dx:Addr} {fs:List (Str×V)} (e:H a=some (.ins C dx fs)) (cl:Cls K C) (ha:PySem.W.findIn K (.ref C) "__class__"=some (some (.builtin "object.__class__")))
      (hn:PySem.W.specialIn K (.builtin "object.__class__") "__get__"=some (some (.builtin "getset_descriptor.__get__"))) (htk:PySem.W.takesIn K (.builtin "object.__class__")=some true)
      (hm:PySem.W.mroIn K C (.type "object")=some true):TyOf K H (.ref a) (.ref C)
theorem isinst_ok {x:V} {u t:Value} (I:Inv X pins σ H s) (rx:RelV x u) (ty:TyOf X.K H x t) (e:PySem.W.kitOne X.K t c=some b) (h:∀ tk,Q (.bool b) { s with toks:=tk }) :
    wpAny (model X.prog X.w) A (call (.builtin "isinstance") [u,c]) Q E s:=by
  cases ty with
  | non=>cases (show u=Value.none from rx);exact PySem.W.kia_one PySem.W.kitx_none I.kIn True.intro e (λ z=>nomatch z) h
  | bl y=>cases (show u=Value.bool y from rx);exact PySem.W.kia_one PySem.W.kitx_bool I.kIn True.intro e (λ z=>nomatch z) h
  | int i=>obtain ⟨t,q⟩:=(show ∃ t,u=Value.int i t from rx);cases q;exact PySem.W.kia_one PySem.W.kitx_int I.kIn True.intro e (λ z=>nomatch z) h
  | str y=>obtain ⟨t,q⟩:=(show ∃ t,u=Value.str y t from rx);cases q;exact PySem.W.kia_one PySem.W.kitx_str I.kIn True.intro e (λ z=>nomatch z) h
  | flt y=>obtain ⟨t,q⟩:=(show ∃ t,u=Value.float y t from rx);cases q;exact PySem.W.kia_one PySem.W.kitx_float I.kIn True.intro e (λ z=>nomatch z) h
  | @lst a xs ea =>
    cases (show u=Value.ref a from rx);obtain ⟨_,_,n,_,h1⟩:=(show ObjOk X.prog X.w H s.heap a (.lst xs) from I.hok a _ ea);exact PySem.W.kia_one PySem.W.kitx_list I.kIn ⟨_,h1,rfl⟩ e (λ z=>nomatch z) h
  | @frz a ob xs ea =>
    cases (show u=Value.ref a from rx);obtain ⟨_,_,_,n,_,h1⟩:=(show ObjOk X.prog X.w H s.heap a (.frz ob (.lst xs)) from I.hok a _ ea);exact PySem.W.kia_one PySem.W.kitx_list I.kIn ⟨_,h1,rfl⟩ e (λ z=>nomatch z) h
  | @tup a xs ea =>
    cases (show u=Value.ref a from rx);obtain ⟨_,_,_,p⟩:=(show ObjOk X.prog X.w H s.heap a (.tup xs) from I.hok a _ ea);obtain ⟨o,h1,h2,_⟩:=p;exact PySem.W.kia_one PySem.W.kitx_tuple I.kIn ⟨o,h1,h2⟩ e (λ z=>nomatch z) h
  | @dK a kvs ea =>
    cases (show u=Value.ref a from rx);obtain ⟨_,_,vs,_,p⟩:=(show ObjOk X.prog X.w H s.heap a (.dK kvs) from I.hok a _ ea);obtain ⟨o,es,ep,h1,h2,_⟩:=p;exact PySem.W.kia_one PySem.W.kitx_dict I.kIn ⟨o,h1,h2.1⟩ e (λ z=>nomatch z) h
  | @dT a kvs ea =>
    cases (show u=Value.ref a from rx);obtain ⟨_,_,xs,_,o,es,ep,h1,h2,_⟩:=(show ObjOk X.prog X.w H s.heap a (.dT kvs) from I.hok a _ ea);exact PySem.W.kia_one PySem.W.kitx_dict I.kIn ⟨o,h1,h2.1⟩ e (λ z=>nomatch z) h
  | @ins a C dx fs ea cl ha hn htk hm =>
    cases (show u=Value.ref a from rx);obtain ⟨mA,O,_⟩:=ins_get I.hok ea;obtain ⟨od,J,_⟩:=O.look;exact PySem.W.kia_one (PySem.W.kitx_own (cl.get _) cl.hd ha hn htk hm) I.kIn J e (λ z=>nomatch z) h
end
end L2
namespace L2
open PySem PySem.Spec PyProof.Rows
structure Room (k:Nat) (A:Around):Prop where
  hd:A.handled=none
  dp:A.depth + 3 * k + 5 < recursionLimit
  un:A.units + 16 * k + 200 < cLine
theorem Room.mono {j k:Nat} {A:Around} (r:Room k A) (h:j≤k):Room j A:=⟨r.hd,by have:=r.dp;omega,by have:=r.un;omega⟩
theorem Room.deeper {k:Nat} {A:Around} (r:Room (k + 1) A) (env:Env):Room k (A.deeper env) :=
  ⟨r.hd,by have:=r.dp;show A.depth + 1 + 3 * k + 5 < _;omega,by have:=r.un;show A.units + 3 + 16 * k + 200 < _;omega⟩
theorem Room.in1 {k:Nat} {A:Around} (r:Room (k + 1) A):Room k A.in1 :=
  ⟨r.hd,by have:=r.dp;show A.depth + 3 * k + 5 < _;omega,by have:=r.un;show A.units + 1 + 16 * k + 200 < _;omega⟩
theorem make_depth {A:Around} {C:Addr} {us:List Value} {kw:List (Str×Value)}:(A.under (.builtin "type.__call__" ⟨.ref C :: us,kw⟩)).depth=A.depth + 1:=by
  first | rfl | simp [Around.under,Code.weight,Code.isCreation,Code.isGuard,Code.isCaller,Code.frames,Code.isFrame,guardIds]
theorem make_units {A:Around} {C:Addr} {us:List Value} {kw:List (Str×Value)}:(A.under (.builtin "type.__call__" ⟨.ref C :: us,kw⟩)).units=A.units + 1:=by
  first | rfl | simp [Around.under,Code.cUnits,Code.frames,Code.isFrame]
theorem Room.make {k:Nat} {A:Around} (r:Room (k + 1) A) (C:Addr) (us:List Value) (kw:List (Str×Value)):Room k (A.under (.builtin "type.__call__" ⟨.ref C :: us,kw⟩)) :=
  ⟨r.hd,by have:=r.dp;rw [make_depth];omega,by have:=r.un;rw [make_units];omega⟩
theorem Room.depth {k:Nat} {A:Around} (r:Room k A):A.depth < recursionLimit:=by have:=r.dp;omega
theorem Room.units {k:Nat} {A:Around} (r:Room k A):A.units + 64 < cLine:=by have:=r.un;omega
noncomputable def tNil:TA:=λ _ H Q=>Q [] H
noncomputable def tCons (ta:TE) (tr:TA):TA:=λ σ H Q=>ta σ H λ x H1=>tr σ H1 λ xs H2=>Q (x :: xs) H2
section
variable {X:Cx} {e:Expr} {es:List Expr} {te:TE} {t:TA} {pos:Pos}
theorem pa_nil:PA X [] tNil:=λ _ _ _ _ H Q I h=>Calls.spliced_nil ⟨[],H,I,.nil,h⟩
theorem pa_cons (ha:PE X e te) (hr:PA X es t) (hs:starEach (e :: es) X.env=(false,eval e X.env) :: starEach es X.env:=by rfl):PA X (e :: es) (tCons te t):=by
  intro pos pins s σ H Q I h;rw [hs];show wpAny _ _ (spliced ((false,eval e X.env) :: backTo pos (starEach es X.env))) _ _ s;refine Calls.spliced_cons (thn (ha pins s σ H _ I h) λ u s1 ⟨x,H1,I1,r1,q1⟩=>?_);exact thn (hr pos pins s1 σ H1 _ I1 q1) λ us s2 ⟨xs,H2,I2,r2,q2⟩=>⟨x :: xs,H2,I2,.cons r1 r2,q2⟩
noncomputable def tTup (t:TA):TE:=λ σ H Q=>t σ H λ xs H1=>xs.length≤sizeLine∧∀ p,H1 p=none→Q (.ref p) (upd H1 p (.tup xs))
noncomputable def tLst (t:TA):TE:=λ σ H Q=>t σ H λ xs H1=>xs.length≤sizeLine∧∀ p,H1 p=none→Q (.ref p) (upd H1 p (.lst xs))
theorem pe_tup {x1} (h:PA X es t):PE X (.Tuple es x1 pos) (tTup t):=by
  intro pins s σ H Q I hq;refine wpAny_Tuple_spliced (thn (h pos pins s σ H _ I hq) λ us s1 ⟨xs,H1,I1,r,z,q⟩=>⟨by rw [← r.length];exact z,?_⟩);have hf:H1 s1.heap.objs.size=none:=I1.hok.fresh (Nat.le_refl _);refine ⟨.ref s1.heap.objs.size,upd H1 s1.heap.objs.size (.tup xs),I1.laid (t':=s1.toks) (λ b u e=>Heap.get?_push_of_some _ e) (Nat.le_refl _) ?_,rfl,q _ hf⟩;exact ⟨z,us,r,⟨_,Heap.get?_push_size _ rfl,rfl,_,rfl⟩⟩
theorem pe_lst (h:PA X es t):PE X (.List es pos) (tLst t):=by
  intro pins s σ H Q I hq;refine wpAny_List_spliced (thn (h pos pins s σ H _ I hq) λ us s1 ⟨xs,H1,I1,r,z,q⟩=>⟨by rw [← r.length];exact z,?_⟩);have hf:H1 s1.heap.objs.size=none:=I1.hok.fresh (Nat.le_refl _);refine ⟨.ref s1.heap.objs.size,upd H1 s1.heap.objs.size (.lst xs),I1.laid (t':=s1.toks) (λ b u e=>Heap.get?_push_of_some _ e) (Nat.le_refl _) ?_,rfl,q _ hf⟩;exact ⟨z,us,0,r,Heap.get?_push_size _ rfl⟩
end
noncomputable abbrev Sp:=List V→Hp→VK→XK→Prop
noncomputable abbrev CXT:=List Env→Hp→Shared→XK→Value→Shared→Prop
structure Env0 (P:Program) (w:World) (K:PySem.W.Frag) (mg:Str→Option Value) (base:Heap) (A:Around) (outer:List Env) (s:Shared) (H:Hp):Prop where
  frames:A.frames=some outer
  mod:Mod K mg base
  bs:∀ b o,base.get? b=some o→s.heap.get? b=some o∧H b=none
  bsz:base.objs.size≤s.heap.objs.size
  funs:s.heap.FunFrames base outer
  frf:∀ b∈frs outer,H b=none
  hok:HOk P w H s.heap
  bare:AllBare s.gens
noncomputable def CE (outer:List Env) (P:Program) (w:World) (H:Hp) (s:Shared) (Q:VK) (u:Value) (s':Shared):Prop :=
  ∃ v H',s'.os=s.os∧AllBare s'.gens∧Un (frs outer) [] H H' s.heap s'.heap∧HOk P w H' s'.heap∧RelV v u∧Q v H'
noncomputable def CR (CX:CXT) (outer:List Env) (P:Program) (w:World) (H:Hp) (s:Shared) (Q:VK) (E:XK) (r:Result) (s':Shared):Prop :=
  match r with
  | .ok (.ret u)=>CE outer P w H s Q u s'
  | .ok _=>False
  | .error e=>CX outer H s E e s'
structure FnOk (P:Program) (w:World) (K:PySem.W.Frag) (mg:Str→Option Value) (base:Heap) (CX:CXT) (k:Nat) (f:Addr) (fd:FuncData) (ps:List Str) (sp:Sp):Prop where
  len:∀ vs H Q E,sp vs H Q E→vs.length=ps.length
  run:∀ (A:Around) (outer:List Env) (s:Shared) (H:Hp) (args:Args) (us:List Value) (vs:List V) (Q:VK) (E:XK),Room k A→Env0 P w K mg base A outer s H→BindsTo s fd args (ps.zip us)→Vals vs us→sp vs H Q E →
    codeAny (model P w) A (.call (.ref f) args) (CR CX outer P w H s Q E) s
theorem Env0.make {P:Program} {w:World} {K:PySem.W.Frag} {mg:Str→Option Value} {base:Heap} {A:Around} {outer:List Env} {s:Shared} {H:Hp} (e:Env0 P w K mg base A outer s H) (C:Addr) (us:List Value) (kw:List (Str×Value)) :
    Env0 P w K mg base (A.under (.builtin "type.__call__" ⟨.ref C :: us,kw⟩)) outer s H:=⟨by first | exact e.frames | (simpa [Around.under,Code.envs,Code.isFrame,pushEnvs] using e.frames),e.mod,e.bs,e.bsz,e.funs,e.frf,e.hok,e.bare⟩
theorem Env0.in1 {P:Program} {w:World} {K:PySem.W.Frag} {mg:Str→Option Value} {base:Heap} {A:Around} {outer:List Env} {s:Shared} {H:Hp} (e:Env0 P w K mg base A outer s H) :
    Env0 P w K mg base A.in1 outer s H:=⟨e.frames,e.mod,e.bs,e.bsz,e.funs,e.frf,e.hok,e.bare⟩
section
variable {X:Cx} {pins:List (Addr×Obj)} {σ:St} {H:Hp} {s s':Shared}
theorem Inv.env0 (I:Inv X pins σ H s):Env0 X.prog X.w X.K X.mg X.base X.A X.stack s H :=
  ⟨I.ok.frames,I.ok.mod,I.bs,Nat.le_trans I.ok.bsz I.sz,I.stack,I.stkFree,I.hok,I.bare⟩
theorem Inv.after {Q:VK} {u:Value} (I:Inv X pins σ H s) (h:CE X.stack X.prog X.w H s Q u s'):EP X pins σ Q u s':=by
  obtain ⟨v,H',os,bare,un,hok,r,q⟩:=h;obtain ⟨hh,g,d,t,os'⟩:=s';obtain rfl:os'=s.os:=os;exact ⟨v,H',I.call (h':=hh) (g':=g) (d':=d) (t':=t) (ch:=[]) un hok bare (λ b z=>absurd z (by simp)),r,q⟩
end
noncomputable def tCall (sp:Sp) (dvs:List V) (E:XK) (t:TA):TE:=λ σ H Q=>t σ H λ vs H1=>sp (vs ++ dvs) H1 Q E
noncomputable def tMeth (C:Addr) (m:Str) (sp:Sp) (dvs:List V) (E:XK) (ta:TE) (t:TA):TE:=λ σ H Q=>ta σ H λ x H1=>∃ a dx fs,x = .ref a∧H1 a=some (.ins C dx fs)∧fs.lookup m=none ∧
  t σ H1 λ vs H2=>sp (x :: (vs ++ dvs)) H2 Q E
noncomputable def tMake (C:Addr) (sp:Sp) (dvs:List V) (E:XK) (t:TA):TE:=λ σ H Q=>t σ H λ vs H1=>∀ x dx,H1 x=none→H1 dx=none→dx≠x →
  sp (.ref x :: (vs ++ dvs)) (upd (upd H1 dx (.own x)) x (.ins C dx [])) (λ v H2=>v = .non∧Q (.ref x) H2) E
noncomputable def Binds (K:PySem.W.Frag) (fd:FuncData) (ps:List Str) (ds:List Value):Prop :=
  ∀ (s:Shared) (us:List Value),K.In s.heap→(us ++ ds).length=ps.length→BindsTo s fd ⟨us,[]⟩ (ps.zip (us ++ ds))
theorem Binds.all {K:PySem.W.Frag} {fd:FuncData} {ps:List Str} (h:∀ us:List Value,us.length=ps.length→bindArgs fd ⟨us,[]⟩=pure (ps.zip us)):Binds K fd ps []:=λ s us _ hl=>by
  rw [List.append_nil] at hl ⊢;exact .of_eq (h us hl)
noncomputable def Passes (CX:CXT) (X:Cx) (E:XK):Prop:=∀ (pins:List (Addr×Obj)) (σ:St) (H:Hp) (s:Shared) (e:Value) (s':Shared),Inv X pins σ H s→CX X.stack H s E e s'→X.xe e s'
section
variable {X:Cx} {CX:CXT} {k:Nat} {f C:Addr} {fd:FuncData} {ps:List Str} {sp:Sp} {dvs:List V} {ds:List Value} {E:XK} {x m:Str} {p pos apos:Pos} {e o:Expr} {es:List Expr} {ta:TE} {t:TA}
theorem run_fn {pins:List (Addr×Obj)} {σ:St} {H:Hp} {s:Shared} {Q:VK} {us:List Value} {vs:List V} (F:FnOk X.prog X.w X.K X.mg X.base CX k f fd ps sp) (hr:Room k X.A) (hb:Binds X.K fd ps ds) (hd:Vals dvs ds) (hx:Passes CX X E)
    (I:Inv X pins σ H s) (r:Vals vs us) (h:sp (vs ++ dvs) H Q E):wpAny (model X.prog X.w) X.A (call (.ref f) us) (EP X pins σ Q) X.xe s:=by
  have r2:Vals (vs ++ dvs) (us ++ ds):=r.append hd;have hl:(us ++ ds).length=ps.length:=by rw [← r2.length];exact F.len _ _ _ _ h
  refine wpAny_call (codeAny_mono (F.run X.A X.stack s H ⟨us,[]⟩ (us ++ ds) (vs ++ dvs) Q E hr I.env0 (hb s us I.kIn hl) r2 h) λ r s' hq=>?_);cases r with
  | error e=>exact hx pins σ H s e s' I hq
  | ok fl =>
    cases fl with
    | ret u=>exact I.after hq
    | next=>exact False.elim hq
    | brk=>exact False.elim hq
    | cont=>exact False.elim hq
theorem pe_call (F:FnOk X.prog X.w X.K X.mg X.base CX k f fd ps sp) (hr:Room k X.A) (hg:Gl X x) (hm:X.mg x=some (.ref f)) (hk:PySem.W.keepIn X.K (.ref f)=true) (hb:Binds X.K fd ps ds) (hd:Vals dvs ds) (hx:Passes CX X E)
    (ha:PA X (e :: es) t) (hdb:(x == ("__debug__":Str))=false:=by decide) (he:starEach (e :: es) X.env=(false,eval e X.env) :: starEach es X.env:=by rfl) (hpl:(backTo pos (starEach es X.env)).any (·.1)=false:=by rfl) :
    PE X (.Call (.Name x p) (e :: es) [] pos) (tCall sp dvs E t):=by
  intro pins s σ H Q I h;refine wpAny_Call_Name_kw (ld_glob I hg hm ?_ hdb);refine PySem.W.callWith_K (h₀:=X.base) I.ok.mod.kin hk (thn (ha pos pins s σ H _ I h) λ us s1 ⟨vs,H1,I1,r,q⟩=>⟨I1.kIn,?_⟩) he hpl;exact run_fn F hr hb hd hx I1 r q
theorem pe_meth0 {pl:Sem Bool} (he:PE X o ta) (c:Cls X.K C) (hm:Meth X.K C m f) (F:FnOk X.prog X.w X.K X.mg X.base CX k f fd ps sp) (hr:Room k X.A) (hb:Binds X.K fd ps ds) (hd:Vals dvs ds) (hx:Passes CX X E)
    (ht:eval (.Call (.Attribute o m apos) [] [] pos) X.env=(do
      let ov ← eval o X.env
      standAt apos.atName
      let (f,first) ← holding [ov] (getMethod ov m pl)
      callWith pos f first (backTo pos (starEach [] X.env)) (backToKw pos (keywordEach [] X.env))):=by rfl) :
    PE X (.Call (.Attribute o m apos) [] [] pos) (tMeth C m sp dvs E ta tNil):=by
  intro pins s σ H Q I h;refine PySem.W.methodCall_KW (pl:=pl) (thn (he pins s σ H _ I h) λ u s1 ⟨x,H1,I1,rx,a,dx,fs,ex,ea,l,q⟩=>?_) ht;subst ex;obtain rfl:u=Value.ref a:=rx;refine getmeth_ok I1 ea c hm l ?_;exact PySem.W.callWith_K0 (first:=[.ref a]) I1.kIn hm.kp (run_fn (us:=[.ref a]) (vs:=[.ref a]) F hr hb hd hx I1 (.cons rfl .nil) q)
structure Mk (K:PySem.W.Frag) (C f:Addr):Prop where
  makes:PySem.W.makesIn K C=true
  init:PySem.W.findIn K (.ref C) "__init__"=some (some (.ref f))
  fn:PySem.W.isFn K (.ref f)=true
  kp:PySem.W.keepIn K (.ref C)=true
theorem run_make {pins:List (Addr×Obj)} {σ:St} {H:Hp} {s:Shared} {Q:VK} {us:List Value} {vs:List V} (M:Mk X.K C f) (F:FnOk X.prog X.w X.K X.mg X.base CX k f fd ps sp) (hr:Room (k + 1) X.A) (hb:Binds X.K fd ps ds) (hd:Vals dvs ds)
    (hx:Passes CX X E) (I:Inv X pins σ H s) (r:Vals vs us)
    (h:∀ x dx,H x=none→H dx=none→dx≠x→sp (.ref x :: (vs ++ dvs)) (upd (upd H dx (.own x)) x (.ins C dx [])) (λ v H2=>v = .non∧Q (.ref x) H2) E) :
    wpAny (model X.prog X.w) X.A (call (.ref C) us) (EP X pins σ Q) X.xe s:=by
  have hq:=h (s.heap.objs.size + 1) s.heap.objs.size (I.hok.fresh (Nat.le_succ _)) (I.hok.fresh (Nat.le_refl _)) (Nat.ne_of_lt (Nat.lt_succ_self _));have I2:=Inv.made (C:=C) I;have r2:Vals (V.ref (s.heap.objs.size + 1) :: (vs ++ dvs)) (Value.ref (s.heap.objs.size + 1) :: (us ++ ds)):=.cons rfl (r.append hd);have hl:(Value.ref (s.heap.objs.size + 1) :: us ++ ds).length=ps.length:=by
    have e:=r2.length;rw [F.len _ _ _ _ hq] at e;exact e.symm
  refine wpAny_call (make_map (f:=f) I.kIn M.makes M.init (beq_iff_eq.mp M.fn) (codeAny_mono (F.run _ X.stack _ _ ⟨Value.ref (s.heap.objs.size + 1) :: us,[]⟩ (Value.ref (s.heap.objs.size + 1) :: (us ++ ds)) _ _ E (hr.make C us [])
    (I2.env0.make C us []) (hb _ (Value.ref (s.heap.objs.size + 1) :: us) I2.kIn hl) r2 hq) λ r s' hq'=>?_))
  cases r with
  | error e=>exact hx pins σ _ _ e s' I2 hq'
  | ok fl =>
    cases fl with
    | ret u =>
      obtain ⟨v,H',I3,rv,ev,q3⟩:=I2.after hq';subst ev;exact ⟨rv,⟨V.ref (s.heap.objs.size + 1),H',I3,rfl,q3⟩⟩
    | next=>exact False.elim hq'
    | brk=>exact False.elim hq'
    | cont=>exact False.elim hq'
theorem pe_make (M:Mk X.K C f) (F:FnOk X.prog X.w X.K X.mg X.base CX k f fd ps sp) (hr:Room (k + 1) X.A) (hg:Gl X x) (hm:X.mg x=some (.ref C)) (hb:Binds X.K fd ps ds) (hd:Vals dvs ds) (hx:Passes CX X E)
    (ha:PA X (e :: es) t) (hdb:(x == ("__debug__":Str))=false:=by decide) (he:starEach (e :: es) X.env=(false,eval e X.env) :: starEach es X.env:=by rfl) (hpl:(backTo pos (starEach es X.env)).any (·.1)=false:=by rfl) :
    PE X (.Call (.Name x p) (e :: es) [] pos) (tMake C sp dvs E t):=by
  intro pins s σ H Q I h;refine wpAny_Call_Name_kw (ld_glob I hg hm ?_ hdb);refine PySem.W.callWith_K (h₀:=X.base) I.ok.mod.kin M.kp (thn (ha pos pins s σ H _ I h) λ us s1 ⟨vs,H1,I1,r,q⟩=>⟨I1.kIn,?_⟩) he hpl;exact run_make M F hr hb hd hx I1 r q
end
noncomputable def PK (X:Cx) (kws:List Keyword) (t:TA):Prop :=
  ∀ (pos:Pos) (pins:List (Addr×Obj)) (s:Shared) (σ:St) (H:Hp) (Q:List V→Hp→Prop),Inv X pins σ H s→t σ H Q→wpAny (model X.prog X.w) X.A (evalAll ((backToKw pos (keywordEach kws X.env)).map (·.2))) (AP X pins σ Q) X.xe s
section
variable {X:Cx} {CX:CXT} {k:Nat} {f C:Addr} {fd:FuncData} {ps ks:List Str} {sp:Sp} {E:XK} {x m:Str} {p pos apos kpos:Pos} {e o:Expr} {es:List Expr} {kws:List Keyword} {te ta:TE} {t tk:TA} {nm:Option Str}
theorem pk_nil:PK X [] tNil:=λ _ _ _ _ H Q I h=>wpAny_evalAll_nil ⟨[],H,I,.nil,h⟩
theorem pk_cons (ha:PE X e te) (hr:PK X kws t):PK X (⟨nm,e,kpos⟩ :: kws) (tCons te t):=by
  intro pos pins s σ H Q I h;show wpAny _ _ (evalAll ((do let v ← eval e X.env;standAt pos;pure v) :: (backToKw pos (keywordEach kws X.env)).map (·.2))) _ _ s
  refine wpAny_evalAll_cons (wpAny_bind (thn (ha pins s σ H _ I h) λ u s1 ⟨x,H1,I1,r1,q1⟩=>wpAny_bind (wpAny_standAt (wpAny_pure ?_))));exact thn (hr pos pins s1 σ H1 _ I1 q1) λ us s2 ⟨xs,H2,I2,r2,q2⟩=>⟨x :: xs,H2,I2,.cons r1 r2,q2⟩
variable {g:List Value→List Value→List Value} {gV:List V→List V→List V}
end
structure FnScope (N P:List Str) (sc:Scope):Prop where
  kind:sc.kind = .function
  co:sc.isCoroutine=false
  gen:sc.isGenerator=false
  nd:N.Nodup
  pre:N.take P.length=P
  par:∀ x∈P,sc.names.lookup x=some .local∨sc.names.lookup x=some .cell
  nofree:∀ y∈sc.names,y.2≠.free
theorem bindL_out {kindOf:Str→Option NameKind} {x:Str}:∀ {binds:List (Str×Value)} {m:Str→Option Value},(∀ v,(x,v)∉binds)→bindL kindOf binds m x=m x
  | [],_,_=>rfl
  | (n,v) :: r,m,h=>by
    unfold bindL;rw [bindL_out λ w hw=>h w (List.mem_cons_of_mem _ hw)];split
    · have:x≠n:=by rintro rfl;exact h v List.mem_cons_self
      simp [this]
    · rfl
theorem bindC_out {kindOf:Str→Option NameKind} {x:Str}:∀ {binds:List (Str×Value)} {m:Str→Option Value},(∀ v,(x,v)∉binds)→bindC kindOf binds m x=m x
  | [],_,_=>rfl
  | (n,v) :: r,m,h=>by
    unfold bindC;rw [bindC_out λ w hw=>h w (List.mem_cons_of_mem _ hw)];split
    · rfl
    · have:x≠n:=by rintro rfl;exact h v List.mem_cons_self
      simp [this]
theorem bindL_get {kindOf:Str→Option NameKind} {x:Str} {v:Value}:∀ {P:List Str} {vs:List Value} {i:Nat} {m:Str→Option Value},P.Nodup→P[i]?=some x→vs[i]?=some v→kindOf x=some .local →
    bindL kindOf (P.zip vs) m x=some v
  | [],_,_,_,_,h,_,_=>by simp at h
  | _ :: _,[],_,_,_,_,h,_=>by simp at h
  | p :: P,w :: vs,0,m,nd,h1,h2,hk=>by
    simp at h1 h2;subst h1;subst h2;show bindL kindOf ((p,w) :: P.zip vs) m p=_;unfold bindL;rw [bindL_out λ v hv=>(List.nodup_cons.mp nd).1 (List.of_mem_zip hv).1,if_pos hk];simp
  | p :: P,w :: vs,i + 1,m,nd,h1,h2,hk=>by
    show bindL kindOf ((p,w) :: P.zip vs) m x=_;unfold bindL;exact bindL_get (i:=i) (List.nodup_cons.mp nd).2 (by simpa using h1) (by simpa using h2) hk
theorem bindC_get {kindOf:Str→Option NameKind} {x:Str} {v:Value}:∀ {P:List Str} {vs:List Value} {i:Nat} {m:Str→Option Value},P.Nodup→P[i]?=some x→vs[i]?=some v→kindOf x≠some .local →
    bindC kindOf (P.zip vs) m x=some v
  | [],_,_,_,_,h,_,_=>by simp at h
  | _ :: _,[],_,_,_,_,h,_=>by simp at h
  | p :: P,w :: vs,0,m,nd,h1,h2,hk=>by
    simp at h1 h2;subst h1;subst h2;show bindC kindOf ((p,w) :: P.zip vs) m p=_;unfold bindC;rw [bindC_out λ v hv=>(List.nodup_cons.mp nd).1 (List.of_mem_zip hv).1,if_neg hk];simp
  | p :: P,w :: vs,i + 1,m,nd,h1,h2,hk=>by
    show bindC kindOf ((p,w) :: P.zip vs) m x=_;unfold bindC;exact bindC_get (i:=i) (List.nodup_cons.mp nd).2 (by simpa using h1) (by simpa using h2) hk
noncomputable def start (N:List Str) (vs:List V):St:=vs.map some ++ List.replicate (N.length - vs.length) none
noncomputable def cxOf (CX:CXT) (P:Program) (w:World) (K:PySem.W.Frag) (mg:Str→Option Value) (base:Heap) (N:List Str) (qual:Str) (scope:Scope) (f:Addr) (cd:Value) (A:Around) (outer:List Env) (s:Shared) (H:Hp) (E:XK):Cx where
  prog:=P
  w:=w
  K:=K
  mg:=mg
  base:=base
  A:=A.deeper (envOfC qual scope s.heap.objs.size f cd)
  N:=N
  s₀:=s
  H₀:=H
  env:=envOfC qual scope s.heap.objs.size f cd
  outer:=outer
  stack:=envOfC qual scope s.heap.objs.size f cd :: outer
  ex:=[]
  calm:=true
  fn:=λ _=>true
  pn:=[]
  xe:=λ e s'=>wpAny (model P w) (A.deeper (envOfC qual scope s.heap.objs.size f cd)) (leaving (envOfC qual scope s.heap.objs.size f cd) e) (λ _ s''=>CX outer H s E e s'') (λ e' s''=>CX outer H s E e' s'') s'
theorem cell_has {sc:Scope} {n:Nat} {x:Str} (h:sc.names.lookup x=some .cell):∃ c,(cellsFrom n sc.names []).lookup x=some c:=by
  have q:=PySem.W.cellsFrom_some sc.names n [] (.inl h);exact Option.isSome_iff_exists.mp q
theorem inv_start {CX:CXT} {P:Program} {w:World} {K:PySem.W.Frag} {mg:Str→Option Value} {base:Heap} {N ps:List Str} {qual:Str} {scope:Scope} {f:Addr} {cd:Value} {A:Around} {outer:List Env} {s s1:Shared} {H:Hp} {E:XK} {us:List Value} {vs:List V}
    (S:FnScope N ps scope) (hd:A.handled=none) (e0:Env0 P w K mg base A outer s H) (hl:vs.length=ps.length) (r:Vals vs us)
    (x:InCallC s s.heap.objs.size (bindL (envOfC qual scope s.heap.objs.size f cd).kindOf (ps.zip us) λ _=>none) (cellsFrom (s.heap.objs.size + 1) scope.names []) (bindC (envOfC qual scope s.heap.objs.size f cd).kindOf (ps.zip us) λ _=>none) s1) :
    Inv (cxOf CX P w K mg base N qual scope f cd A outer s H E) [] (start N vs) H s1:=by
  have hpl:ps.length≤N.length:=by have:=congrArg List.length S.pre;rw [List.length_take] at this;omega
  obtain ⟨h1,tk,rfl,hk⟩:=x.done;have noA:∀ b:Addr,b∉(cxOf CX P w K mg base N qual scope f cd A outer s H E).ex:=λ b z=>absurd (show b∈([]:List Addr) from z) (by simp);refine ⟨⟨e0.mod,S.kind,rfl,rfl,Nat.le_refl _,λ y z c h1 h2=>?_,λ y hy=>?_,λ y c _ h=>?_,λ _=>hd,Around.frames_deeper e0.frames,.inr ⟨rfl,rfl⟩,λ b z=>absurd z (noA b),e0.bs,e0.bsz,λ b _ _=>noA b,λ b z=>absurd z (noA b),e0.funs,e0.frf⟩,
    rfl,e0.bare,Un.kept hk,⟨_,x.toInCall.ns,λ i y v h1 h2 h3=>?_⟩,λ y c h=>⟨_,x.cell y c h⟩,e0.hok.fresh (Nat.le_refl _),λ y c h=>?_,λ p hp=>absurd (show p∈([]:List (Addr×Obj)) from hp) (by simp),e0.hok.kept hk,?_⟩
  · exact name_of_addr x.apart (PySem.mem_of_lookup h1) (PySem.mem_of_lookup h2)
  · have hy:scope.names.lookup y=some .cell∨scope.names.lookup y=some .free:=hy;rcases hy with hy | hy
    · exact cell_has hy
    · exact absurd rfl (S.nofree _ (PySem.mem_of_lookup hy))
  · exact Nat.le_of_lt (x.above y c (PySem.mem_of_lookup h))
  · have hi:i < vs.length:=by
      unfold start at h2
      by_cases hi:i < vs.length
      · exact hi
      · rw [List.getElem?_append_right (by simpa using hi)] at h2;rw [List.getElem?_replicate] at h2;split at h2<;>cases h2
    have ha:vs[i]?=some v:=by
      unfold start at h2;rw [List.getElem?_append_left (by simpa using hi),List.getElem?_map] at h2;cases e:vs[i]? with
      | none=>rw [e] at h2;cases h2
      | some a=>rw [e] at h2;cases h2;rfl
    obtain ⟨u,hu,rv⟩:=r.get ha;have hp:ps[i]?=some y:=by
      rw [← S.pre,List.getElem?_take_of_lt (by omega)];exact h1
    have ndP:ps.Nodup:=by rw [← S.pre];exact S.nd.sublist (List.take_sublist _ _)
    refine ⟨u,rv,?_⟩;rcases S.par y (List.mem_of_getElem? hp) with k | k
    · exact .inl ⟨k,bindL_get ndP hp hu k⟩
    · obtain ⟨c,e⟩:=cell_has (n:=s.heap.objs.size + 1) k;refine .inr ⟨.inl k,c,e,?_⟩;have q:=x.cell y c e;rw [bindC_get ndP hp hu (by show scope.names.lookup y≠_;rw [k];decide)] at q;exact q
  · exact e0.hok.fresh (Nat.le_of_lt (x.above y c (PySem.mem_of_lookup h)))
  · unfold start;show _=N.length;rw [List.length_append,List.length_map,List.length_replicate];omega
theorem fn_of {CX:CXT} {P:Program} {w:World} {K:PySem.W.Frag} {mg:Str→Option Value} {base:Heap} {k:Nat} {f:Addr} {name qual:Str} {params:Arguments} {body:List Stmt} {scope:Scope} {dV kV doc pm cdv ct oc:Value} {an od:Option Addr}
    {osl:Array (Option Value)} {N ps:List Str} {sp:Sp} (lk:K.lookup f=some ⟨oc,od,.func (PySem.W.fnOf name qual params body scope dV kV doc pm an cdv ct),osl⟩) (hcd:PySem.W.codeIn K cdv qual=true) (S:FnScope N ps scope)
    (len:∀ vs H Q E,sp vs H Q E→vs.length=ps.length)
    (hbody:∀ (A:Around) (outer:List Env) (s:Shared) (H:Hp) (vs:List V) (Q:VK) (E:XK),Room k (A.deeper (envOfC qual scope s.heap.objs.size f cdv))→sp vs H Q E →
      ∃ t,PSs (cxOf CX P w K mg base N qual scope f cdv A outer s H E) body t∧t { nx:=λ _ H'=>Q .non H',rt:=Q } (start N vs) H) :
    FnOk P w K mg base CX (k + 1) f (PySem.W.fnOf name qual params body scope dV kV doc pm an cdv ct) ps sp:=by
  refine ⟨len,λ A outer s H args us vs Q E hr e0 hb r hsp=>?_⟩;have hl:=len _ _ _ _ hsp;have KX:K.In s.heap:=e0.mod.kin.keeps λ b o e=>(e0.bs b o e).1;have lim:s.heap.NoLimit:=e0.mod.nolimit.keeps λ b o e=>(e0.bs b o e).1;have hkind:∀ y∈ps.zip us,scope.names.lookup y.1=some .local∨(scope.names.lookup y.1=some .cell∧((cellsFrom (s.heap.objs.size + 1) scope.names []).lookup y.1).isSome=true):=λ ⟨n,v⟩ hy=>by
    rcases S.par n (List.of_mem_zip hy).1 with q | q
    · exact .inl q
    · exact .inr ⟨q,PySem.W.cellsFrom_some _ _ _ (.inl q)⟩
  refine codeAny_call_function hr.depth (KX _ _ lk) rfl S.co S.gen rfl (PySem.W.codeRec_of KX hcd) (hb _ _ _ _ ?_);refine wpAny_newFunctionEnv_cells S.kind hkind λ env he s1 x=>?_;subst he;refine ⟨lim.keeps x.toInCall.keep,codeAny_func ?_⟩;obtain ⟨t,ht,hq⟩:=hbody A outer s H vs Q E (hr.deeper _) hsp;have I:Inv (cxOf CX P w K mg base N qual scope f cdv A outer s H E) [] (start N vs) H s1:=inv_start S hr.hd e0 hl r x;refine wpAny_mono (ht [] s1 (start N vs) H _ I hq) (λ fl s' hs=>?_) λ e s' hs=>hs;have fin:∀ {σ':St} {H':Hp} {v:V} {u:Value},Inv (cxOf CX P w K mg base N qual scope f cdv A outer s H E) [] σ' H' s'→RelV v u→Q v H'→CE outer P w H s Q u s' :=
    λ {σ' H' v u} J rv q=>⟨v,H',J.os,J.bare,J.base,J.hok,rv,q⟩
  cases fl with
  | ret u =>
    obtain ⟨v,σ',H',J,rv,q⟩:=hs;exact fin J rv q
  | next =>
    obtain ⟨σ',H',J,q⟩:=hs;exact fin (v:=V.non) (u:=Value.none) J rfl q
  | brk =>
    obtain ⟨_,_,_,q⟩:=hs;exact False.elim q
  | cont =>
    obtain ⟨_,_,_,q⟩:=hs;exact False.elim q
end L2
namespace L2
open PySem PySem.Spec PyProof.Rows
section
variable {X:Cx} {x:Str} {p pos:Pos} {e:Expr} {es:List Expr} {t:TA} {id T:String} {r:List V→Hp→VK→Prop}
noncomputable def tCB (r:List V→Hp→VK→Prop) (t:TA):TE:=λ σ H Q=>t σ H λ vs H1=>r vs H1 Q
theorem pe_callB (hc:CallR X (.builtin id) r) (hg:Gl X x) (hm:X.mg x=none) (hv:bootBuiltins x=some (.builtin id)) (ha:PA X (e :: es) t) (hn:x≠"__name__":=by decide) (hdb:(x == ("__debug__":Str))=false:=by decide)
    (he:starEach (e :: es) X.env=(false,eval e X.env) :: starEach es X.env:=by rfl) (hpl:(backTo pos (starEach es X.env)).any (·.1)=false:=by rfl):PE X (.Call (.Name x p) (e :: es) [] pos) (tCB r t):=by
  intro pins s σ H Q I h;refine wpAny_Call_Name_kw (ld_blt I hg hm hv ?_ hn hdb);exact PyProof.Rows.callWith_builtin1 (thn (ha pos pins s σ H _ I h) λ us s1 ⟨vs,H1,I1,r1,q1⟩=>hc pins s1 σ H1 vs us Q I1 r1 q1) he hpl
theorem pe_callTy (hc:CallR X (.type T) r) (hg:Gl X x) (hm:X.mg x=none) (hv:bootBuiltins x=some (.type T)) (ha:PA X (e :: es) t) (hn:x≠"__name__":=by decide) (hdb:(x == ("__debug__":Str))=false:=by decide)
    (he:starEach (e :: es) X.env=(false,eval e X.env) :: starEach es X.env:=by rfl) (hpl:(backTo pos (starEach es X.env)).any (·.1)=false:=by rfl):PE X (.Call (.Name x p) (e :: es) [] pos) (tCB r t):=by
  intro pins s σ H Q I h;refine wpAny_Call_Name_kw (ld_blt I hg hm hv ?_ hn hdb);exact PyProof.Rows.callWith_type1 (thn (ha pos pins s σ H _ I h) λ us s1 ⟨vs,H1,I1,r1,q1⟩=>hc pins s1 σ H1 vs us Q I1 r1 q1) he hpl
end
end L2
namespace HT
open PySem PyProof.Rows
section
open PySem.SeqAt
open PySem.AutoSeq1 (wpAny_loadPart')
open PySem.MeetsSeq PySem.MeetsSeq2 PySem.MeetsSeq3
end
section
variable {prog:Program} {w:World} {A:Around} {E:Value→Shared→Prop} {s:Shared}
noncomputable def sIx (n d:Nat):Option Int→Nat
  | none=>d
  | some v=>if v < 0 then (v + (n:Int)).toNat else min v.toNat n
theorem sIx_none (n d:Nat):sIx n d none=d:=rfl
theorem sIx_nat (n d k:Nat):sIx n d (some (k:Int))=min k n:=by
  show (if (k:Int) < 0 then ((k:Int) + (n:Int)).toNat else min (k:Int).toNat n)=min k n;rw [if_neg (by omega),Int.toNat_natCast]
end
end HT
namespace L2
open PySem PySem.Spec PyProof.Rows
noncomputable abbrev TO:=St→Hp→(Option Int→Hp→Prop)→Prop
noncomputable def PO (X:Cx) (e:Option Expr) (t:TO):Prop :=
  ∀ (pins:List (Addr×Obj)) (s:Shared) (σ:St) (H:Hp) (Q:Option Int→Hp→Prop),Inv X pins σ H s→t σ H Q →
    wpAny (model X.prog X.w) X.A (evalPart e X.env) (λ u s'=>∃ o H',Inv X pins σ H' s'∧IsPart u o∧Q o H') X.xe s
noncomputable def tNoPart:TO:=λ _ H Q=>Q none H
noncomputable def tPart (t:TE):TO:=λ σ H Q=>t σ H λ x H1=>∃ i,x = .int i∧Q (some i) H1
theorem intsAre_of {ns:List Int}:∀ {us:List Value},Vals (ns.map V.int) us→IntsAre us ns:=by
  induction ns with
  | nil=>intro us r;rw [List.map_nil] at r;cases r;exact .nil
  | cons n ns ih =>
    intro us r;rw [List.map_cons] at r;cases r with
    | cons r1 r2 =>
      obtain ⟨t,e⟩:=r1;subst e;exact .cons n t (ih r2)
section
variable {X:Cx} {e:Expr} {te:TE} {lo hi:Option Expr} {tl th:TO} {pos p2:Pos}
theorem po_none:PO X none tNoPart:=by
  intro pins s σ H Q I h;rw [evalPart_none];exact wpAny_pure ⟨none,H,I,.none,h⟩
theorem po_some (h:PE X e te):PO X (some e) (tPart te):=by
  intro pins s σ H Q I hw;rw [evalPart_some];refine thn (h pins s σ H _ I hw) λ u s1 ⟨x,H1,I1,r1,q1⟩=>?_;obtain ⟨i,rfl,q⟩:=q1;obtain ⟨t,rfl⟩:=r1;exact ⟨some i,H1,I1,.int i t,q⟩
noncomputable def SlR (X:Cx) (r:V→Option Int→Option Int→Hp→VK→Prop):Prop :=
  ∀ (pins:List (Addr×Obj)) (s:Shared) (σ:St) (H:Hp) (x:V) (v vl vu:Value) (lo hi:Option Int) (sl:Addr) (Q:VK),Inv X pins σ H s→RelV x v→s.heap.IsSliceOf sl vl vu .none→IsPart vl lo→IsPart vu hi→r x lo hi H Q →
    ∃ T id,typeLookup (.type T) "__getitem__"=pure (some (.builtin id))∧s.TypeIs v T∧wpAny (model X.prog X.w) X.A (getItem v (.ref sl)) (EP X pins σ Q) X.xe s
noncomputable def tSl (r:V→Option Int→Option Int→Hp→VK→Prop) (te:TE) (tl th:TO):TE:=λ σ H Q=>te σ H λ x H1=>tl σ H1 λ l H2=>th σ H2 λ u H3=>r x l u H3 Q
theorem pe_slice {r:V→Option Int→Option Int→Hp→VK→Prop} (hr:SlR X r) (he:PE X e te) (hl:PO X lo tl) (hu:PO X hi th):PE X (.Subscript e (.Slice lo hi none p2) pos) (tSl r te tl th):=by
  intro pins s σ H Q I h;refine Subscript_ (thn (he pins s σ H _ I h) λ v s1 ⟨x,H1,I1,r1,q1⟩=>?_);refine wpAny_Slice (thn (hl pins s1 σ H1 _ I1 q1) λ vl s2 ⟨l,H2,I2,pl,q2⟩=>thn (hu pins s2 σ H2 _ I2 q2) λ vu s3 ⟨u,H3,I3,pu,q3⟩=>?_);rw [evalPart_none];refine wpAny_pure ?_;have I4:Inv X pins σ H3 { s3 with heap:=s3.heap.push { cls:=.type "slice",data:=.fields #[vl,vu,.none] } }:=I3.kept (t':=s3.toks) λ b ob q=>Heap.get?_push_of_some _ q;obtain ⟨T,id,hT,ht,hg⟩:=hr pins { s3 with heap:=s3.heap.push { cls:=.type "slice",data:=.fields #[vl,vu,.none] } } σ H3 x v vl vu l u s3.heap.objs.size Q I4 r1 (Heap.IsSliceOf.new ..) pl pu q3;show wpAny (model X.prog X.w) X.A (subscriptTail e (.Slice lo hi none p2) v (.ref s3.heap.objs.size)) (EP X pins σ Q) X.xe { s3 with heap:=s3.heap.push { cls:=.type "slice",data:=.fields #[vl,vu,.none] } };exact tail_any (ops:=[.ref s3.heap.objs.size,v]) ht hT hg (by with_unfolding_all rfl)
noncomputable def cutV (xs:List V) (lo hi:Option Int):List V:=(xs.drop (HT.sIx xs.length 0 lo)).take (HT.sIx xs.length xs.length hi - HT.sIx xs.length 0 lo)
theorem cutV_length (xs:List V) (lo hi:Option Int):(cutV xs lo hi).length≤xs.length:=by
  unfold cutV;rw [List.length_take,List.length_drop];omega
end
end L2
namespace L2
open PySem PySem.Spec PyProof.Rows
noncomputable def ixN (n:Nat) (i:Int):Option Nat:=if 0≤i then (if i < n then some i.toNat else none) else if -(n:Int)≤i then some (i + n).toNat else none
noncomputable def atI {α:Type} (xs:List α) (i:Int):Option α:=(ixN xs.length i).bind λ j=>xs[j]?
theorem ixN_seq {n:Nat} {i:Int} {j:Nat} (h:ixN n i=some j):seqIndex? i n=some j∧j < n∧-(n:Int)≤i∧i < n:=by
  unfold ixN at h
  by_cases h0:0≤i
  · rw [if_pos h0] at h
    by_cases h1:i < n
    · rw [if_pos h1] at h;have e:i.toNat=j:=Option.some.inj h;exact ⟨by rw [seqIndex_of h0 h1,e],by omega,by omega,h1⟩
    · rw [if_neg h1] at h;cases h
  · rw [if_neg h0] at h
    by_cases h1:-(n:Int)≤i
    · rw [if_pos h1] at h;have e:(i + n).toNat=j:=Option.some.inj h;exact ⟨by rw [seqIndex_neg (by omega) h1,e],by omega,h1,by omega⟩
    · rw [if_neg h1] at h;cases h
theorem atI_get {α:Type} {xs:List α} {i:Int} {v:α} (h:atI xs i=some v):∃ j,seqIndex? i xs.length=some j∧xs[j]?=some v∧j < xs.length∧-(xs.length:Int)≤i∧i < xs.length:=by
  unfold atI at h;cases e:ixN xs.length i with
  | none=>rw [e] at h;cases h
  | some j =>
    rw [e] at h;obtain ⟨h1,h2,h3,h4⟩:=ixN_seq e;exact ⟨j,h1,h,h2,h3,h4⟩
theorem atI_nat {α:Type} {xs:List α} {j:Nat} {v:α} (h:xs[j]?=some v):atI xs (j:Int)=some v:=by
  have hj:j < xs.length:=(List.getElem?_eq_some_iff.mp h).1;have e:ixN xs.length (j:Int)=some j:=by
    unfold ixN;rw [if_pos (by omega),if_pos (by omega)];simp
  unfold atI;rw [e];exact h
theorem atI_last {α:Type} (xs:List α) (v:α):atI (xs ++ [v]) (-1)=some v:=by
  have hl:(xs ++ [v]).length=xs.length + 1:=by simp
  have e:ixN (xs ++ [v]).length (-1)=some xs.length:=by
    unfold ixN;rw [hl,if_neg (by decide),if_pos (by omega)];congr 1;omega
  unfold atI;rw [e];show (xs ++ [v])[xs.length]?=some v;simp
noncomputable def PlainIx (b:Expr):Prop:=∀ o i,subscripted b false o i=operate [o,i] (getItem o i)
noncomputable def IxR (X:Cx) (r:R2):Prop :=
  ∀ (value slice:Expr) (pins:List (Addr×Obj)) (s:Shared) (σ:St) (H:Hp) (x y:V) (v u:Value) (Q:VK),Inv X pins σ H s→RelV x v→RelV y u→r x y H Q →
    subscripted slice false v u=operate [v,u] (getItem v u)→wpAny (model X.prog X.w) X.A (subscriptTail value slice v u) (EP X pins σ Q) X.xe s
noncomputable def MtR (X:Cx) (id:String) (r:V→List V→Hp→VK→Prop):Prop :=
  ∀ (pins:List (Addr×Obj)) (s:Shared) (σ:St) (H:Hp) (x:V) (xs:List V) (v:Value) (us:List Value) (Q:VK),Inv X pins σ H s→RelV x v→Vals xs us→r x xs H Q →
    wpAny (model X.prog X.w) X.A (call (.builtin id) (v :: us)) (EP X pins σ Q) X.xe s
section
variable {X:Cx} {a b:Expr} {ta tb:TE} {pos:Pos}
theorem pe_ix {r:R2} (hr:IxR X r) (ha:PE X a ta) (hb:PE X b tb) (hs:PlainIx b):PE X (.Subscript a b pos) (tOp r ta tb):=by
  intro pins s σ H Q I h;exact Subscript_ (binT ha hb I h λ v u s2 x y H2 I2 rx ry q=>hr a b pins s2 σ H2 x y v u Q I2 rx ry q (hs _ _))
noncomputable def rIxL (K:PySem.W.Frag):R2:=λ x y H Q=>∃ p xs i v,x = .ref p∧y = .int i∧SqL K H p xs∧atI xs i=some v∧Q v H
noncomputable def rIxT (K:PySem.W.Frag):R2:=λ x y H Q=>∃ p xs i v,x = .ref p∧y = .int i∧SqT K H p xs∧atI xs i=some v∧Q v H
theorem ix_list:IxR X (rIxL X.K):=by
  intro value slice pins s σ H x y v u Q I rx ry h hs;obtain ⟨p,xs,i,z,rfl,rfl,hq,he,q⟩:=h;cases rx;obtain ⟨t,rfl⟩:=ry;obtain ⟨its,r,pl,hz⟩:=I.list hq;obtain ⟨j,h1,h2,h3,h4,h5⟩:=atI_get he;obtain ⟨w,ew,rw'⟩:=r.get h2;have hl:=r.length;have hn:=line63;have fin:EP X pins σ Q w s:=⟨z,H,I,rw',q⟩
  by_cases h0:0≤i
  · have hj:i.toNat=j:=by
      rw [seqIndex_of h0 h5] at h1;exact Option.some.inj h1
    exact item_listR pl.isList h0 (by omega) (by rw [hj];simpa using ew) fin hs
  · have hj:(i + (its.toArray.size:Int)).toNat=j:=by
      rw [seqIndex_neg (by omega) h4] at h1;rw [List.size_toArray,← hl];exact Option.some.inj h1
    exact subscriptTail_builtinR (x:=w) pl.isList.typeIs slot_list_getitem.lookup
      (wpAny_getItem_list_neg (Q:=λ r s'=>r=w∧EP X pins σ Q r s') pl.isList (by omega) (by rw [List.size_toArray]<;>omega) (by omega) (by rw [hj];simpa using ew) ⟨rfl,fin⟩) hs
theorem ix_tup:IxR X (rIxT X.K):=by
  intro value slice pins s σ H x y v u Q I rx ry h hs;obtain ⟨p,xs,i,z,rfl,rfl,hq,he,q⟩:=h;cases rx;obtain ⟨t,rfl⟩:=ry;obtain ⟨its,r,pl,hz⟩:=I.tuple hq;obtain ⟨j,h1,h2,h3,h4,h5⟩:=atI_get he;obtain ⟨w,ew,rw'⟩:=r.get h2;have hl:=r.length;have hn:=line63;have fin:EP X pins σ Q w s:=⟨z,H,I,rw',q⟩;exact subscriptTail_builtinR (x:=w) pl.typeIs slot_tuple_getitem.lookup
    (getItem_tuple (j:=j) (Q:=λ r s'=>r=w∧EP X pins σ Q r s') pl (by omega) (by omega) (by rw [List.size_toArray,← hl];exact h1) (by simpa using ew) ⟨rfl,fin⟩) hs
theorem mapSeq_set (its:List Value) (n j:Nat) (u:Value):Obj.mapSeq (·.setIfInBounds j u) { cls:=.type "list",data:=.seq its.toArray n } = { cls:=.type "list",data:=.seq (its.set j u).toArray n }:=by
  simp [Obj.mapSeq]
theorem Inv.lst {pins:List (Addr×Obj)} {σ:St} {H:Hp} {s:Shared} {p:Addr} {xs:List V} (I:Inv X pins σ H s) (h:H p=some (.lst xs)) :
    ∃ (its:List Value) (n:Nat),Vals xs its∧s.heap.get? p=some { cls:=.type "list",data:=.seq its.toArray n }∧xs.length≤sizeLine:=by
  obtain ⟨z,its,n,r,e⟩:=I.hok p _ h;exact ⟨its,n,r,e,z⟩
theorem Inv.lstUpd {pins:List (Addr×Obj)} {σ:St} {H:Hp} {s:Shared} {p:Addr} {xs ys:List V} {its its':List Value} {n n':Nat} {f:Obj→Obj} (I:Inv X pins σ H s) (h:H p=some (.lst xs))
    (ho:s.heap.get? p=some { cls:=.type "list",data:=.seq its.toArray n }) (hf:f { cls:=.type "list",data:=.seq its.toArray n } = { cls:=.type "list",data:=.seq its'.toArray n' }) (r:Vals ys its') (hz:ys.length≤sizeLine) (t:Nat) :
    Inv X pins σ (upd H p (.lst ys)) { s with heap:=s.heap.update p f,toks:=t }:=by
  have e:(s.heap.update p f).get? p=some { cls:=.type "list",data:=.seq its'.toArray n' }:=by
    rw [Heap.get?_update_self f ho (by rw [hf]<;>rfl),hf]
  refine I.write (x:=p) (e:=p) (by rw [h];trivial) (.inl rfl) (λ b u hb q=>(Heap.get?_update_other _ _ (Ne.symm hb)).trans q) ⟨_,e⟩ ?_;exact ⟨hz,its',n',r,e⟩
noncomputable def rSetL:V→V→V→Hp→(Hp→Prop)→Prop:=λ o i v H Q=>∃ p xs k j,o = .ref p∧i = .int k∧H p=some (.lst xs)∧ixN xs.length k=some j∧Q (upd H p (.lst (xs.set j v)))
theorem set_list:PSet X rSetL:=by
  intro pins s σ H o i v ov iv u Q I ro ri rv h;obtain ⟨p,xs,k,j,rfl,rfl,hp,hj,q⟩:=h;cases ro;obtain ⟨t,rfl⟩:=ri;obtain ⟨its,n,r,ho,hz⟩:=I.lst hp;obtain ⟨h1,h2,h3,h4⟩:=ixN_seq hj;have hl:=r.length;have hn:=line63;have I':Inv X pins σ (upd H p (.lst (xs.set j v))) { s with heap:=s.heap.update p (Obj.mapSeq (·.setIfInBounds j u)) } :=
    I.lstUpd hp ho (mapSeq_set its n j u) (r.set rv j) (by rw [List.length_set];exact hz) s.toks
  by_cases h0:0≤k
  · have hk:k.toNat=j:=by
      rw [seqIndex_of h0 h4] at h1;exact Option.some.inj h1
    exact PySem.W.ki_setAt ho h0 (by omega) (by rw [List.size_toArray,← hl];exact h4) (by rw [hk];exact ⟨_,I',q⟩)
  · have hk:(k + (its.toArray.size:Int)).toNat=j:=by
      rw [seqIndex_neg (by omega) h3] at h1;rw [List.size_toArray,← hl];exact Option.some.inj h1
    exact PySem.W.ki_setBack ho (by omega) (by rw [List.size_toArray,← hl];exact h3) (by omega) (by rw [hk];exact ⟨_,I',q⟩)
theorem slice_bounds (lo hi:Option Int) (n:Nat):(sliceBounds lo hi none n).1=((HT.sIx n 0 lo:Nat):Int)∧(sliceBounds lo hi none n).2.1=((HT.sIx n n hi:Nat):Int)∧(sliceBounds lo hi none n).2.2=1:=by
  refine ⟨?_,?_,rfl⟩
  · cases lo with
    | none=>simp [sliceBounds,HT.sIx]
    | some i =>
      simp only [sliceBounds,HT.sIx,Option.getD_none,show (1:Int) > 0 by decide,if_true]
      by_cases h:i < 0
      · simp only [h,if_true]<;>omega
      · simp only [h,if_false]<;>omega
  · cases hi with
    | none=>simp [sliceBounds,HT.sIx]
    | some i =>
      simp only [sliceBounds,HT.sIx,Option.getD_none,show (1:Int) > 0 by decide,if_true]
      by_cases h:i < 0
      · simp only [h,if_true]<;>omega
      · simp only [h,if_false]<;>omega
theorem slicePick_cut (its:List Value) (lo hi:Option Int):slicePick its.toArray lo hi none=((its.drop (HT.sIx its.length 0 lo)).take (HT.sIx its.length its.length hi - HT.sIx its.length 0 lo)).toArray:=by
  obtain ⟨h1,h2,h3⟩:=slice_bounds lo hi its.toArray.size;unfold slicePick;rw [h1,h2,h3];simp only [sliceRange_one,pick_run,List.size_toArray]<;>rfl
noncomputable def rSlL (K:PySem.W.Frag):V→Option Int→Option Int→Hp→VK→Prop:=λ x lo hi H Q=>∃ a xs,x = .ref a∧SqL K H a xs∧∀ p,H p=none→Q (.ref p) (upd H p (.lst (cutV xs lo hi)))
theorem sl_list:SlR X (rSlL X.K):=by
  intro pins s σ H x v vl vu lo hi sl Q I rx hs pl pu h;obtain ⟨a,xs,rfl,hx,q⟩:=h;cases rx;obtain ⟨its,r,ht,hz⟩:=I.list hx;have hlen:=r.length;refine ⟨"list",_,slot_list_getitem.lookup,ht.isList.typeIs,?_⟩;refine wpAny_getItem_list_slice ht.isList hs pl pu .none (by simp) ?_ (by rw [List.size_toArray]<;>omega);rw [slicePick_cut,← hlen];refine ⟨.ref s.heap.objs.size,_,I.laid (t':=s.toks) (o:=.lst (cutV xs lo hi)) (λ b ob q=>Heap.get?_push_of_some _ q) (Nat.le_refl _) ?_,rfl,q _ (I.hok.fresh (Nat.le_refl _))⟩;exact ⟨Nat.le_trans (cutV_length xs lo hi) hz,_,0,(r.drop (HT.sIx xs.length 0 lo)).take (HT.sIx xs.length xs.length hi - HT.sIx xs.length 0 lo),Heap.get?_push_size _ rfl⟩
noncomputable def flatV:V→Bool
  | .non=>true
  | .bl _=>true
  | .int _=>true
  | .str _=>true
  | _=>false
noncomputable def eqV:V→V→Bool
  | .non,.non=>true
  | .bl a,.bl b=>a == b
  | .bl a,.int b=>(if a then 1 else 0) == b
  | .int a,.bl b=>a == (if b then 1 else 0)
  | .int a,.int b=>a == b
  | .str a,.str b=>a == b
  | _,_=>false
theorem eqAt_V {A:Around} {s:Shared} {y x:V} {u v:Value} (ry:RelV y u) (rx:RelV x v) (fy:flatV y=true) (fx:flatV x=true):SeqAt.EqAt A s u v (eqV y x):=by
  cases y with
  | non =>
    cases ry;cases x with
    | non=>cases rx;exact SeqAt.EqAt.same _
    | bl b=>cases rx;exact SeqAt.EqAt.none_bool b
    | int b=>obtain ⟨t,rfl⟩:=rx;exact SeqAt.EqAt.none_int b t
    | str b=>obtain ⟨t,rfl⟩:=rx;exact SeqAt.EqAt.none_str b t
    | _=>exact absurd (show false=true from fx) Bool.false_ne_true
  | bl a =>
    cases ry;cases x with
    | non=>cases rx;exact SeqAt.EqAt.bool_none a
    | bl b=>cases rx;exact SeqAt.EqAt.bool_bool a b
    | int b=>obtain ⟨t,rfl⟩:=rx;exact SeqAt.EqAt.bool_int a b t
    | str b=>obtain ⟨t,rfl⟩:=rx;exact SeqAt.EqAt.bool_str a b t
    | _=>exact absurd (show false=true from fx) Bool.false_ne_true
  | int a =>
    obtain ⟨t',rfl⟩:=ry;cases x with
    | non=>cases rx;exact SeqAt.EqAt.int_none a t'
    | bl b=>cases rx;exact SeqAt.EqAt.int_bool a t' b
    | int b=>obtain ⟨t,rfl⟩:=rx;exact SeqAt.EqAt.int_int a t' b t
    | str b=>obtain ⟨t,rfl⟩:=rx;exact SeqAt.EqAt.int_str a t' b t
    | _=>exact absurd (show false=true from fx) Bool.false_ne_true
  | str a =>
    obtain ⟨t',rfl⟩:=ry;cases x with
    | non=>cases rx;exact SeqAt.EqAt.str_none a t'
    | bl b=>cases rx;exact SeqAt.EqAt.str_bool a t' b
    | int b=>obtain ⟨t,rfl⟩:=rx;exact SeqAt.EqAt.str_int a t' b t
    | str b=>obtain ⟨t,rfl⟩:=rx;exact SeqAt.EqAt.str_str a t' b t
    | _=>exact absurd (show false=true from fx) Bool.false_ne_true
  | _=>exact absurd (show false=true from fy) Bool.false_ne_true
theorem call_len_seq:CallR X (.builtin "len") (λ xs H Q=>∃ p ys,xs=[.ref p]∧(SqL X.K H p ys∨SqT X.K H p ys)∧Q (.int ys.length) H):=by
  intro pins s σ H xs us Q I r h;obtain ⟨p,ys,rfl,hq,q⟩:=h;obtain ⟨u,rfl,rx⟩:=vals1 r;cases rx;have hn:=line63;rcases hq with hq | hq
  · obtain ⟨its,r',pl,hz⟩:=I.list hq;have hlen:=r'.length;exact Calls.call_len_list pl.isList (by simp only [List.size_toArray]<;>omega) ⟨.int ys.length,H,I.tok _,⟨s.toks + 1,by rw [List.size_toArray,hlen]⟩,q⟩
  · obtain ⟨its,r',pl,hz⟩:=I.tuple hq;have hlen:=r'.length;exact len_tuple pl (by simp only [List.size_toArray]<;>omega) ⟨.int ys.length,H,I.tok _,⟨s.toks + 1,by rw [List.size_toArray,hlen]⟩,q⟩
theorem call_list_of:CallR X (.type "list") (λ xs H Q=>∃ p ys,xs=[.ref p]∧(SqL X.K H p ys∨SqT X.K H p ys)∧∀ l,H l=none→Q (.ref l) (upd H l (.lst ys))):=by
  intro pins s σ H xs us Q I r h;obtain ⟨p,ys,rfl,hq,q⟩:=h;obtain ⟨u,rfl,rx⟩:=vals1 r;cases rx;have fin:∀ (its:List Value),Vals ys its→ys.length≤sizeLine→∀ (h':Heap) (c':Nat),(∀ b o',s.heap.get? b=some o'→h'.get? b=some o') →
      h'.get? s.heap.objs.size=some { cls:=.type "list",dict:=none,data:=.seq its.toArray c',slots:=#[] }→EP X pins σ Q (.ref s.heap.objs.size) { s with heap:=h' }:=λ its r' hz h' c' kp e =>
    ⟨.ref s.heap.objs.size,_,I.laid (t':=s.toks) kp (Nat.le_refl _) (show ObjOk X.prog X.w _ h' _ (.lst ys) from ⟨hz,its,c',r',e⟩),rfl,q _ (I.hok.fresh (Nat.le_refl _))⟩
  rcases hq with hq | hq
  · obtain ⟨its,r',pl,hz⟩:=I.list hq;have hlen:=r'.length;obtain ⟨o,ho,hc,n,hd⟩:=pl.isList;exact call_list_seq p (.inl rfl) ho hc hd (λ h' c' kp e=>fin its r' hz h' c' kp e) (by simp only [List.size_toArray]<;>omega)
  · obtain ⟨its,r',pl,hz⟩:=I.tuple hq;have hlen:=r'.length;obtain ⟨o,ho,hc,n,hd⟩:=pl;exact call_list_seq p (.inr rfl) ho hc hd (λ h' c' kp e=>fin its r' hz h' c' kp e) (by simp only [List.size_toArray]<;>omega)
noncomputable def tyV (K:PySem.W.Frag) (T:String) (x:V) (H:Hp):Prop:=match x with
  | .str _=>T = "str"
  | .int _=>T = "int"
  | .ref p=>(T = "list"∧∃ xs,SqL K H p xs)∨(T = "tuple"∧∃ o,K.lookup p=some o∧o.cls = .type "tuple"∧o.dict=none) ∨
      (T = "dict"∧((∃ kvs,H p=some (.dK kvs))∨∃ kvs,H p=some (.dT kvs)))∨(T = "set"∧∃ S n,H p=some (.set S n))
  | _=>False
theorem tyV_is {pins:List (Addr×Obj)} {σ:St} {H:Hp} {s:Shared} {T:String} {x:V} {v:Value} (I:Inv X pins σ H s) (r:RelV x v) (ty:tyV X.K T x H) :
    s.TypeIs v T∧∀ a,v = .ref a→∃ ob,s.heap.get? a=some ob∧ob.dict=none:=by
  cases x with
  | str z =>
    obtain ⟨t,rfl⟩:=r;cases (show T = "str" from ty);exact ⟨typeIs_str s z t,λ _ e=>nomatch e⟩
  | int i =>
    obtain ⟨t,rfl⟩:=r;cases (show T = "int" from ty);exact ⟨typeIs_int s i t,λ _ e=>nomatch e⟩
  | ref p =>
    cases r;rcases ty with ⟨rfl,xs,hq⟩ | ⟨rfl,o,hk,hc,hd⟩ | ⟨rfl,hk⟩ | ⟨rfl,S,n,hk⟩
    · obtain ⟨its,_,pl,_⟩:=I.list hq;refine ⟨pl.isList.typeIs,λ a e=>?_⟩;cases e;obtain ⟨o,n,e,c,hd,_⟩:=pl;exact ⟨o,e,hd⟩
    · refine ⟨⟨o,I.kIn p o hk,hc⟩,λ a e=>?_⟩;cases e;exact ⟨o,I.kIn _ o hk,hd⟩
    · have z:∃ o,s.heap.get? p=some o∧o.ExactDict:=by
        rcases hk with ⟨kvs,hk⟩ | ⟨kvs,hk⟩
        · obtain ⟨_,_,_,_,o,_,_,e,ex,_⟩:=I.hok p _ hk;exact ⟨o,e,ex⟩
        · obtain ⟨_,_,_,_,o,_,_,e,ex,_⟩:=I.hok p _ hk;exact ⟨o,e,ex⟩
      obtain ⟨o,e,ex⟩:=z;refine ⟨⟨o,e,ex.1⟩,λ a e2=>?_⟩;cases e2;exact ⟨o,e,ex.2.1⟩
    · obtain ⟨o,_,_,_,e,ex,_⟩:=I.hok p _ hk;refine ⟨⟨o,e,ex.1⟩,λ a e2=>?_⟩;cases e2;exact ⟨o,e,ex.2.1⟩
  | _=>exact False.elim ty
noncomputable def tBM (K:PySem.W.Frag) (T:String) (r:V→List V→Hp→VK→Prop) (to:TE) (t:TA):TE:=λ σ H Q=>to σ H λ x H1=>tyV K T x H1∧t σ H1 λ xs H2=>r x xs H2 Q
variable {o e:Expr} {es:List Expr} {to:TE} {t:TA} {name:Str} {apos cpos:Pos} {T id:String} {r:V→List V→Hp→VK→Prop}
theorem pe_bm (pa:PlainAttrs T) (slot:Slot T name id) (hty:typeOf (.builtin id)=pure (.type "method_descriptor")) (hm:MtR X id r) (ho:PE X o to) (ha:PA X (e :: es) t)
    (hbase:attributeBase o name X.env (eval o X.env)=eval o X.env:=by rfl)
    (hfew:((backTo cpos (starEach (e :: es) X.env)).all (λ x=>!x.1) && (backToKw cpos (keywordEach [] X.env)).all (λ x=>x.1.isSome)
      && decide ((e :: es).length + ([]:List Keyword).length + (if ([]:List Keyword).isEmpty then 0 else 1) < 30))=true:=by rfl)
    (hline:(apos.endLine == cpos.line)=true:=by rfl) (hs:starEach (e :: es) X.env=(false,eval e X.env) :: starEach es X.env:=by rfl) (hplain:(backTo cpos (starEach es X.env)).any (·.1)=false:=by rfl) :
    PE X (.Call (.Attribute o name apos) (e :: es) [] cpos) (tBM X.K T r to t):=by
  intro pins s σ H Q I h;refine wpAny_Call_method_late hbase hfew hline rfl (thn (ho pins s σ H _ I h) λ v s1 ⟨x,H1,I1,r1,ty,q1⟩=>?_);obtain ⟨h1,h2⟩:=tyV_is I1 r1 ty;refine ⟨T,id,pa,slot,hty,h1,h2,?_⟩;have hA:=ha cpos pins s1 σ H1 _ I1 q1;rw [hs] at hA ⊢;refine Calls.callWith_builtin (by show (false || (backTo cpos (starEach es X.env)).any (·.1))=false;rw [hplain]<;>rfl) (Calls.evalArgs_plain ?_);exact thn hA λ us s2 ⟨vs,H2,I2,r2,q2⟩=>hm pins s2 σ H2 x vs v us Q I2 r1 r2 q2
/- xs.append(e),list.index on a module's tuple .. are MtR facts of 06m -/
end
end L2
namespace L2
open PySem PySem.Spec PyProof.Rows
noncomputable def MtM (X:Cx) (id:String) (r:V→List V→Hp→VK→Prop):Prop :=
  ∀ (pins:List (Addr×Obj)) (s:Shared) (σ:St) (H:Hp) (x:V) (xs:List V) (v:Value) (us:List Value) (Q:VK),Inv X pins σ H s→RelV x v→Vals xs us→r x xs H Q →
    wpAny (model X.prog X.w) X.A (call (.builtin id) (v :: us)) (EP X pins σ Q) X.xe s
theorem Vals.one:∀ {x:V} {us:List Value},Vals [x] us→∃ u,us=[u]∧RelV x u
  | _,_,.cons r .nil=>⟨_,rfl,r⟩
theorem Vals.rep {xs:List V} {us:List Value} (h:Vals xs us):∀ k:Nat,Vals (List.replicate k xs).flatten (List.replicate k us).flatten
  | 0=>.nil
  | k + 1=>by
    rw [List.replicate_succ,List.replicate_succ,List.flatten_cons,List.flatten_cons];exact Vals.append h (Vals.rep h k)
theorem foldl_rep (its:List Value):∀ (k:Nat) (acc:List Value),
    List.foldl (λ x1 x2=>x1 ++ x2) acc.toArray (List.replicate k its.toArray)=(acc ++ (List.replicate k its).flatten).toArray
  | 0,acc=>by simp
  | k + 1,acc=>by
    have e:acc.toArray ++ its.toArray=(acc ++ its).toArray:=by simp
    have e2:(acc ++ its) ++ (List.replicate k its).flatten=acc ++ (List.replicate (k + 1) its).flatten:=by
      rw [List.replicate_succ,List.flatten_cons,List.append_assoc]
    rw [← e2,← foldl_rep its k (acc ++ its),← e,List.replicate_succ,List.foldl_cons]
section
variable {X:Cx} {pins:List (Addr×Obj)} {σ:St} {H:Hp} {s:Shared} {l b:Addr} {xs ys zs:List V}
theorem Inv.lset {its its':List Value} {n:Nat} {f:Array Value→Array Value} {t':Nat} (I:Inv X pins σ H s) (hH:H l=some (.lst xs))
    (e:s.heap.get? l=some { cls:=.type "list",data:=.seq its.toArray n }) (hf:f its.toArray=its'.toArray) (hv:Vals ys its') (hz:ys.length≤sizeLine) :
    Inv X pins σ (upd H l (.lst ys)) { s with heap:=s.heap.update l (Obj.mapSeq f),toks:=t' }:=by
  have q:=PySem.IsL.update e f;rw [hf] at q;refine I.write (x:=l) (e:=l) (by rw [hH];exact trivial) (.inl rfl) (λ b' u hb hu=>(Heap.get?_update_other s.heap (Obj.mapSeq f) (Ne.symm hb)).trans hu) ⟨_,q⟩ ?_;exact ⟨hz,its',_,hv,q⟩
theorem Inv.lnew {its:List Value} {t':Nat} (I:Inv X pins σ H s) (hv:Vals ys its) (hz:ys.length≤sizeLine) :
    Inv X pins σ (upd H s.heap.objs.size (.lst ys)) { s with heap:=s.heap.push { cls:=.type "list",data:=.seq its.toArray },toks:=t' } :=
  I.laid (λ _ _ q=>Heap.get?_push_of_some _ q) (Nat.le_refl _) ⟨hz,its,0,hv,Heap.get?_push_size _ rfl⟩
theorem Inv.fresh (I:Inv X pins σ H s):H s.heap.objs.size=none:=I.hok.fresh (Nat.le_refl _)
theorem Inv.lstM (I:Inv X pins σ H s) (hH:H l=some (.lst xs)):xs.length≤sizeLine∧∃ (its:List Value) (n:Nat),Vals xs its∧xs.length=its.length∧s.heap.get? l=some { cls:=.type "list",data:=.seq its.toArray n }:=by
  obtain ⟨z,its,n,r,e⟩:=I.hok l _ hH;exact ⟨z,its,n,r,r.length,e⟩
theorem notLongL {n:Nat} (h:n≤sizeLine):Builtin.List.listTooLong n=false:=by
  unfold Builtin.List.listTooLong;exact decide_eq_false (by omega)
end
section
variable {X:Cx}
noncomputable def rAppend:V→List V→Hp→VK→Prop:=λ x vs H Q=>∃ l xs y,x = .ref l∧vs=[y]∧H l=some (.lst xs)∧xs.length < sizeLine∧Q .non (upd H l (.lst (xs ++ [y])))
theorem mt_append:MtM X "list.append" rAppend:=by
  intro pins s σ H x vs v us Q I rx rv h;obtain ⟨l,xs,y,rfl,rfl,hH,hz,q⟩:=h;cases rx;obtain ⟨u,rfl,ru⟩:=rv.one;obtain ⟨z,its,n,r,hl,e⟩:=I.lstM hH;refine call_meets F.slot_list_append ⟨_,e,rfl⟩ F.entry_list_append (F.args_list_append_2 _ _) (PySem.list_append l its.toArray n u (by rw [List.size_toArray];omega)) ⟨e,?_⟩;refine ⟨.non,_,I.lset (its':=its ++ [u]) hH e (by simp) (r.append (.cons ru .nil)) ?_,rfl,q⟩;rw [List.length_append,List.length_singleton];omega
noncomputable def rCat:R2:=λ x y H Q=>∃ l b xs zs,x = .ref l∧y = .ref b∧H l=some (.lst xs)∧H b=some (.lst zs)∧xs.length + zs.length≤sizeLine∧∀ p,H p=none→Q (.ref p) (upd H p (.lst (xs ++ zs)))
theorem op_cat:OpR X (binaryOp .Add) rCat:=by
  intro pins s σ H x y v u Q I rx ry h;obtain ⟨l,b,xs,zs,rfl,rfl,hH,hB,hz,q⟩:=h;cases rx;cases ry;obtain ⟨z,its,n,r,hl,e⟩:=I.lstM hH;obtain ⟨z2,its2,n2,r2,hl2,e2⟩:=I.lstM hB;refine PySem.P.add_list e e2 ?_ (by rw [List.size_toArray,List.size_toArray];omega);have ea:its.toArray ++ its2.toArray=(its ++ its2).toArray:=by simp
  rw [ea];exact ⟨.ref _,_,I.lnew (t':=s.toks) (r.append r2) (by rw [List.length_append];omega),rfl,q _ I.fresh⟩
noncomputable def rRep:R2:=λ x y H Q=>∃ l k xs,x = .ref l∧y = .int k∧H l=some (.lst xs)∧-(2 ^ 63)≤k∧k < 2 ^ 63∧xs.length * k.toNat≤sizeLine ∧
  ∀ p,H p=none→Q (.ref p) (upd H p (.lst (List.replicate k.toNat xs).flatten))
theorem len_rep {α:Type} (xs:List α) (k:Nat):(List.replicate k xs).flatten.length=k * xs.length:=by
  induction k with
  | zero=>simp
  | succ k ih=>rw [List.replicate_succ,List.flatten_cons,List.length_append,ih,Nat.succ_mul,Nat.add_comm]
theorem op_rep:OpR X (binaryOp .Mult) rRep:=by
  intro pins s σ H x y v u Q I rx ry h;obtain ⟨l,k,xs,rfl,rfl,hH,h1,h2,hz,q⟩:=h;cases rx;obtain ⟨t,rfl⟩:=ry;obtain ⟨z,its,n,r,hl,e⟩:=I.lstM hH;have hlen:its.toArray.size * k.toNat≤sizeLine:=by rw [List.size_toArray,← hl];exact hz
  have hcap:¬ its.toArray.size * k.toNat > (2 ^ 63 - 1) / 8:=by
    have:(sizeLine:Nat)≤(2 ^ 63 - 1) / 8:=by decide
    omega
  have hfit:¬ (!Builtin.List.listFitsIndex k)=true:=by
    rw [fitsIndex_both h1 h2];exact Bool.false_ne_true
  have hlong:¬ Builtin.List.listTooLong (its.toArray.size * k.toNat)=true:=by
    rw [notLongL hlen];exact Bool.false_ne_true
  have hnew:List.foldl (λ x1 x2=>x1 ++ x2) #[] (List.replicate (if its.toArray.isEmpty=true then 0 else k.toNat) its.toArray)=(List.replicate k.toNat its).flatten.toArray:=by
    have f0:∀ m:Nat,List.foldl (λ x1 x2=>x1 ++ x2) #[] (List.replicate m its.toArray)=(List.replicate m its).flatten.toArray:=λ m=>by
      have:=foldl_rep its m [];rw [List.nil_append] at this;exact this
    rw [f0];cases its with
    | nil=>simp
    | cons a r'=>rw [if_neg (by simp)]
  refine wpAny_binaryOp_repeat_ref (T:="list") (U:="int") (by decide) ⟨_,e,rfl⟩ (λ s'=>typeIs_int s' k t) noFill_list_mul F.fills_int_mul F.slot_int_rmul repeat_list F.slot_int_index.lookup
    (call_meets F.slot_int_rmul (typeIs_int s k t) F.entry_int_rmul (F.args_int_rmul_2 _ _) (int___rmul___int_list k t l its.toArray n)
      ⟨e,rfl,⟨_,e,rfl⟩,call_meets F.slot_list_mul ⟨_,e,rfl⟩ F.entry_list_mul (F.args_list_mul_2 _ _) (AutoListH.list___mul___list_int_3 l its.toArray n k t hfit hcap hlong) ⟨e,?_⟩⟩)
  rw [hnew];exact ⟨.ref _,_,I.lnew (t':=s.toks) (r.rep k.toNat) (by rw [len_rep,Nat.mul_comm];exact hz),rfl,q _ I.fresh⟩
end
section
variable {prog:Program} {w:World} {A:Around} {E:Value→Shared→Prop} {s:Shared}
end
section
variable {X:Cx}
end
end L2
namespace Att
open PySem PySem.W PySem.Calls PyProof.Rows
theorem ints_of_wellAll {P:Params} {h:Heap}:∀ (ns:List Int) (vs:List Value),WellAll P h vs (ns.map WData.int)→IntsAre vs ns:=by
  intro ns
  induction ns with
  | nil =>
    intro vs w;rw [List.map_nil] at w;cases w;exact .nil
  | cons n ns ih =>
    intro vs w;rw [List.map_cons] at w;cases w with
    | cons a b =>
      cases a;exact .cons _ _ (ih _ b)
theorem script_of {l:OpenLaw} {n:Nat} (hn:l.most=some n) {P:Params} {h:Heap} {args:List WData} {vals:List Value}
    (hpre:l.row.toRowW.claim.pre args=true) (hwl:WellAll P h vals args) :
    ∃ a vs ns,vals=[Value.ref a]∧args=[WData.list (ns.map WData.int)]∧h.get? a=some { cls:=.type "list",data:=.seq vs.toArray }∧IntsAre vs ns∧ns.length≤n:=by
  have hsh:WShape.hasAll [] args [.list .int]=true:=(pre_splitW hpre).1;have hc:l.pre.holds [] { args:=args }=true:=(pre_splitW hpre).2;obtain ⟨d,r,rfl,h1,h2⟩:=hasAllW_cons hsh;obtain rfl:=hasAllW_nil h2;obtain ⟨xs,rfl,h3⟩:=hasW_list h1;obtain ⟨ns,rfl⟩:=items_int h3;have hlen:ns.length≤n:=by
    unfold OpenLaw.pre at hc;have h4:(WTm.not (.lt (.lit (.int (n:Int))) (.len (.arg 0)))).holds [] { args:=[.list (ns.map .int)] }=true:=by
      have h4:=(holds_andW hc).1;rw [hn] at h4;exact h4
    have h5:=condW_of h4 (w_not (w_lt w_lit (w_len_list (w_arg rfl))));rw [List.length_map] at h5;refine Nat.le_of_not_lt λ q=>?_;have q':(n:Int) < ((ns.length:Nat):Int):=by omega
    first
      | (rw [decide_eq_true q'] at h5;exact absurd h5 (by decide))
      | (simp at h5;omega)
  cases hwl with
  | cons w1 w2 =>
    cases w2;cases w1 with
    | list ho hall=>exact ⟨_,_,ns,rfl,rfl,ho,ints_of_wellAll ns _ hall,hlen⟩
theorem post_true (l:OpenLaw) (args:List WData):l.row.toRowW.claim.post args (.bool true) args=true :=
  postW_of (r:=l.row.toRowW) (X:=(true == true))
    (show WShape.has [] (.bool true) .bool=true by first | rfl | decide | simp [WShape.has,WShape.arms,WShape.armsAll])
    (show (WTm.eq .res (.lit (.bool true))).value [] { args:=args,res:=some (.bool true),after:=args }=some (.bool (true == true)) from w_eq_bool (w_res rfl) w_lit) rfl
theorem attach_call {l:OpenLaw} {n:Nat} {q:Program} {loose:List Str} {XP:(Str→Option Value)→Heap→Prop} {YP:World→Heap→Prop} {d:DefRec}
    (hn:l.most=some n) (hdf:d.params.defaults=[])
    (call:∀ (w:World) (s₀ s₁:Shared) (mg mb:Str→Option Value) (fa:Addr) (o:Obj) (pm cd doc:Value) (a:Addr) (vs:List Value) (ns:List Int),
      Ground q loose [] XP w s₀ mg mb s₁.heap→YP w s₁.heap →
      s₁.heap.get? fa=some o→o.data = .func (docDef d.name d.params d.body d.scope pm cd doc)→s₁.heap.CodeRec cd d.name→mg d.name=some (.ref fa) →
      s₁.heap.get? a=some { cls:=.type "list",data:=.seq vs.toArray }→IntsAre vs ns→ns.length≤n→s₁.gens = #[] →
      codeAny (model l.prog w) callerA (.call (.ref fa) ⟨[.ref a],[]⟩) (λ r s'=>r = .ok (.ret (.bool true))∧OldK s₁.heap s'.heap∧s'.os=s₁.os∧AllBare s'.gens) s₁) :
    WalkO q loose XP YP l.row.toRowW d [] (λ f vs=>PySem.call f vs):=by
  intro w s₀ s₁ mg mb G Y fa o pm cd doc dV kV ho hd hcd hD hmg hg args vals as hpre hlay hrd hwl hlo;obtain rfl:dV = .none:=Dflts.none hD hdf;obtain rfl:kV = .none:=Dflts.noKw hD;obtain ⟨a,vs,ns,rfl,rfl,hobj,hints,hlen⟩:=script_of hn hpre hwl;refine enter_call (codeAny_mono (call w s₀ s₁ mg mb fa o pm cd doc a vs ns G Y ho (fd_plain hd) hcd hmg hobj hints hlen hg) λ r s' hq=>?_);obtain ⟨rfl,h2,h3,h4⟩:=hq;exact ⟨.inl ⟨.bool true,.bool true,[],rfl,λ _=>rfl,.bool true,post_true l _,λ _=>⟨List.Pairwise.nil,λ _ hm=>(nomatch hm)⟩⟩,h2,h3,h4⟩
section
variable {prog:Program} {w:World} {A:Around} {E:Value→Shared→Prop} {s:Shared} {K:Frag}
end
end Att
namespace L2
open PySem PySem.Spec PyProof.Rows
theorem vals_ints:∀ {vs:List Value} {ns:List Int},IntsAre vs ns→Vals (ns.map V.int) vs
  | _,_,.nil=>.nil
  | _,_,.cons n t h=>.cons ⟨t,rfl⟩ (vals_ints h)
end L2
namespace L2
open PySem PySem.Spec PyProof.Rows
end L2
namespace L2
open PySem PySem.Spec PyProof.Rows
noncomputable def inClass (s:Stmt) (j:Nat):Stmt:=match s with
  | .ClassDef _ _ _ body _ _ _ _ _ _ _=>body.getD j (.Pass ⟨0,0,0,0⟩)
  | _=>.Pass ⟨0,0,0,0⟩
noncomputable def defArgs (s:Stmt):Arguments:=match s with
  | .FunctionDef _ a _ _ _ _ _ _ _ _=>a
  | _=>{ posonlyargs:=[],args:=[],vararg:=none,kwonlyargs:=[],kw_defaults:=[],kwarg:=none,defaults:=[] }
noncomputable def defBody (s:Stmt):List Stmt:=match s with
  | .FunctionDef _ _ b _ _ _ _ _ _ _=>b
  | _=>[]
noncomputable def defScope (s:Stmt):Scope:=match s with
  | .FunctionDef _ _ _ _ _ _ sc _ _ _=>sc
  | _=>{ kind:=.function,names:=[],isGenerator:=false,isCoroutine:=false }
noncomputable abbrev CX0:CXT:=λ _ _ _ _ _ _=>False
noncomputable abbrev E0:XK:=λ _ _ _=>False
theorem pass0 {X:Cx}:Passes CX0 X E0:=λ _ _ _ _ _ _ _ h=>h.elim
structure Fun (K:PySem.W.Frag) (x qual:Str) (st:Stmt) (f:Addr) (fd:FuncData):Prop where
  ex:∃ (oc:Value) (od:Option Addr) (kV doc pm:Value) (an:Option Addr) (cdv ct:Value) (osl:Array (Option Value)),
    fd=PySem.W.fnOf x qual (defArgs st) (defBody st) (defScope st) .none kV doc pm an cdv ct∧K.lookup f=some ⟨oc,od,.func fd,osl⟩∧PySem.W.codeIn K cdv qual=true
  kp:PySem.W.keepIn K (.ref f)=true
section
variable {P:Program} {w:World} {K:PySem.W.Frag} {mg:Str→Option Value} {base:Heap}
theorem Fun.ok {x qual:Str} {st:Stmt} {f:Addr} {fd:FuncData} {N ps:List Str} {k:Nat} {sp:Sp} (F:Fun K x qual st f fd) (S:FnScope N ps (defScope st)) (len:∀ vs H Q E,sp vs H Q E→vs.length=ps.length)
    (hbody:∀ (cdv:Value) (A:Around) (outer:List Env) (s:Shared) (H:Hp) (vs:List V) (Q:VK) (E:XK),Room k (A.deeper (envOfC qual (defScope st) s.heap.objs.size f cdv))→sp vs H Q E →
      ∃ t,PSs (cxOf CX0 P w K mg base N qual (defScope st) f cdv A outer s H E).nox (defBody st) t∧t { nx:=λ _ H'=>Q .non H',rt:=Q } (start N vs) H):FnOk P w K mg base CX0 (k + 1) f fd ps sp:=by
  obtain ⟨oc,od,kV,doc,pm,an,cdv,ct,osl,rfl,lk,hcd⟩:=F.ex;refine fn_of lk hcd S len λ A outer s H vs Q E hr hsp=>?_;obtain ⟨t,h,q⟩:=hbody cdv A outer s H vs Q E hr hsp;exact ⟨t,h.nox,q⟩
theorem Fun.binds {x qual:Str} {st:Stmt} {f:Addr} {fd:FuncData} {ps:List Str} (F:Fun K x qual st f fd)
    (h:∀ (kV doc pm:Value) (an:Option Addr) (cdv ct:Value) (us:List Value),us.length=ps.length→bindArgs (PySem.W.fnOf x qual (defArgs st) (defBody st) (defScope st) .none kV doc pm an cdv ct) ⟨us,[]⟩=pure (ps.zip us)):Binds K fd ps []:=by
  obtain ⟨oc,od,kV,doc,pm,an,cdv,ct,osl,rfl,lk,hcd⟩:=F.ex;exact .all (h kV doc pm an cdv ct)
theorem fun_mk {x qual:Str} {st:Stmt} {f:Addr} {oc:Value} {od an:Option Addr} {osl:Array (Option Value)} {kV doc pm cdv ct:Value} (l:K.lookup f=some ⟨oc,od,.func (PySem.W.fnOf x qual (defArgs st) (defBody st) (defScope st) .none kV doc pm an cdv ct),osl⟩)
    (c:PySem.W.codeIn K cdv qual=true) (k:PySem.W.keepIn K (.ref f)=true):Fun K x qual st f (PySem.W.fnOf x qual (defArgs st) (defBody st) (defScope st) .none kV doc pm an cdv ct):=⟨⟨oc,od,kV,doc,pm,an,cdv,ct,osl,rfl,l,c⟩,k⟩
end
theorem hu_of {A:Around} {k:Nat} (hr:Room k A):A.units + 1 < cLine:=Nat.lt_of_le_of_lt (Nat.add_le_add_left (by decide:1≤64) _) hr.units
theorem small1000 {n:Nat} (h:n≤1000):n < sizeLine:=Nat.lt_of_le_of_lt h (by decide)
section
variable {X:Cx}
theorem pv (i:Nat) {x:Str} {pos:Pos} (hN:X.N[i]?=some x:=by rfl) (hv:Vis X.env.scope x:=by first | exact Or.inl rfl | exact Or.inr (Or.inl rfl) | exact Or.inr (Or.inr rfl)) (hd:(x == ("__debug__":Str))=false:=by decide)
    (hcd:(x == ("__classdict__":Str))=false:=by decide):PE X (.Name x pos) (tVar i):=pe_var hN hv hd hcd
end
theorem iteF {A B:Prop} (h:B):if false=true then A else B:=by
  rw [if_neg Bool.false_ne_true];exact h
theorem iteT {A B:Prop} (h:A):if true=true then A else B:=by
  rw [if_pos rfl];exact h
theorem ite2 {c A B:Prop} [Decidable c] (h1:c→A) (h2:¬ c→B):if c then A else B:=by
  by_cases h:c
  · rw [if_pos h];exact h1 h
  · rw [if_neg h];exact h2 h
noncomputable def Same (H H':Hp):Prop:=∀ b o,H b=some o→H' b=some o
theorem Same.refl (H:Hp):Same H H:=λ _ _ h=>h
theorem Same.trans {H H1 H2:Hp} (a:Same H H1) (b:Same H1 H2):Same H H2:=λ c o h=>b c o (a c o h)
theorem Same.seq {K:PySem.W.Frag} {H H':Hp} {a:Addr} {xs:List V} (e:Same H H') (h:SqL K H a xs):SqL K H' a xs:=by
  rcases h with (h | ⟨o,h⟩) | h
  · exact .inl (.inl (e _ _ h))
  · exact .inl (.inr ⟨o,e _ _ h⟩)
  · exact .inr h
end L2
namespace L2
open PySem PySem.Spec PyProof.Rows
section
variable {κ:Type} [DecidableEq κ]
noncomputable def valV (kvs:List (κ×V)) (k:κ):Option V:=(kvs.find? λ kv=>decide (kv.1=k)).map (·.2)
noncomputable def putK (kvs:List (κ×V)) (k:κ) (v:V):List (κ×V) :=
  if (kvs.any λ kv=>decide (kv.1=k))=true then kvs.map (λ kv=>if kv.1=k then (kv.1,v) else kv) else kvs ++ [(k,v)]
theorem valV_pos {p:κ×V} {r:List (κ×V)} {k:κ} (e:p.1=k):valV (p :: r) k=some p.2:=by simp [valV,List.find?_cons,e]
theorem valV_neg {p:κ×V} {r:List (κ×V)} {k:κ} (e:¬ p.1=k):valV (p :: r) k=valV r k:=by simp [valV,List.find?_cons,e]
theorem valV_any (k:κ):∀ kvs:List (κ×V),(kvs.any λ kv=>decide (kv.1=k))=(valV kvs k).isSome
  | []=>rfl
  | p :: r=>by
    rw [List.any_cons]
    by_cases e:p.1=k
    · simp only [valV_pos e,decide_eq_true e,Bool.true_or,Option.isSome_some]
    · rw [valV_neg e,decide_eq_false e,Bool.false_or];exact valV_any k r
theorem valV_map (k j:κ) (y:V):∀ kvs:List (κ×V),valV (kvs.map λ kv=>if kv.1=k then (kv.1,y) else kv) j=(valV kvs j).map λ x=>if j=k then y else x
  | []=>rfl
  | p :: r=>by
    have ih:=valV_map k j y r;rw [List.map_cons]
    by_cases h:p.1=k
    · rw [if_pos h]
      by_cases e:p.1=j
      · rw [valV_pos (p:=(p.1,y)) e,valV_pos e,Option.map_some,if_pos (e.symm.trans h)]
      · rw [valV_neg (p:=(p.1,y)) e,valV_neg e,ih]
    · rw [if_neg h]
      by_cases e:p.1=j
      · rw [valV_pos (p:=p) e,valV_pos e,Option.map_some,if_neg (λ z=>h (e.trans z))]
      · rw [valV_neg (p:=p) e,valV_neg e,ih]
theorem valV_snoc (k j:κ) (y:V):∀ kvs:List (κ×V),valV kvs k=none→valV (kvs ++ [(k,y)]) j=if j=k then some y else valV kvs j
  | [],_=>by
    by_cases e:k=j
    · rw [if_pos e.symm];exact valV_pos (p:=(k,y)) e
    · rw [if_neg (λ z=>e z.symm)];exact valV_neg (p:=(k,y)) e
  | p :: r,hn=>by
    rw [List.cons_append];have hk:¬ p.1=k:=λ z=>by rw [valV_pos z] at hn;cases hn
    rw [valV_neg hk] at hn;have ih:=valV_snoc k j y r hn
    by_cases e:p.1=j
    · rw [valV_pos e,valV_pos e,if_neg (λ z=>hk (e.trans z))]
    · rw [valV_neg e,valV_neg e,ih]
theorem valV_put (kvs:List (κ×V)) (k j:κ) (y:V):valV (putK kvs k y) j=if j=k then some y else valV kvs j:=by
  unfold putK
  by_cases a:(kvs.any λ kv=>decide (kv.1=k))=true
  · rw [if_pos a,valV_map];rw [valV_any] at a
    by_cases e:j=k
    · obtain ⟨x,hx⟩:=Option.isSome_iff_exists.mp a;rw [if_pos e,e,hx,Option.map_some,if_pos rfl]
    · rw [if_neg e];cases valV kvs j with
      | none=>rfl
      | some x=>rw [Option.map_some,if_neg e]
  · rw [if_neg a];refine valV_snoc k j y kvs ?_;rw [valV_any] at a;cases q:valV kvs k with
    | none=>rfl
    | some x=>rw [q] at a;exact (a rfl).elim
theorem length_putK (kvs:List (κ×V)) (k:κ) (v:V):(putK kvs k v).length≤kvs.length + 1:=by
  unfold putK;split
  · rw [List.length_map];omega
  · rw [List.length_append,List.length_cons,List.length_nil];omega
theorem KV.val {kvs:List (κ×V)} {vs:List (κ×Value)} (r:KV kvs vs) (k:κ):RelO (valV kvs k) (valueAt vs k):=by
  unfold KV at r
  induction r with
  | nil=>exact True.intro
  | @cons p q ps qs h t ih =>
    obtain ⟨h1,h2⟩:=h
    by_cases e:p.1=k
    · have e':q.1=k:=h1.symm.trans e;have b:valueAt (q :: qs) k=some q.2:=by simp [valueAt,List.find?_cons,e']
      rw [valV_pos e,b];exact h2
    · have e':¬ q.1=k:=λ z=>e (h1.trans z);have b:valueAt (q :: qs) k=valueAt qs k:=by simp [valueAt,List.find?_cons,e']
      rw [valV_neg e,b];exact ih
theorem KV.any {kvs:List (κ×V)} {vs:List (κ×Value)} (r:KV kvs vs) (k:κ):(kvs.any λ kv=>decide (kv.1=k))=vs.any λ kv=>decide (kv.1=k):=by
  unfold KV at r
  induction r with
  | nil=>rfl
  | cons h t ih=>rw [List.any_cons,List.any_cons,ih,h.1]
theorem KV.repl {kvs:List (κ×V)} {vs:List (κ×Value)} (r:KV kvs vs) (k:κ) {y:V} {u:Value} (ry:RelV y u) :
    KV (kvs.map λ kv=>if kv.1=k then (kv.1,y) else kv) (vs.map λ kv=>if kv.1=k then (kv.1,u) else kv):=by
  unfold KV at r ⊢
  induction r with
  | nil=>exact .nil
  | @cons p q ps qs h t ih =>
    rw [List.map_cons,List.map_cons];refine .cons ?_ ih;obtain ⟨h1,h2⟩:=h
    by_cases e:p.1=k
    · rw [if_pos e,if_pos (h1.symm.trans e)];exact ⟨h1,ry⟩
    · rw [if_neg e,if_neg (λ z=>e (h1.trans z))];exact ⟨h1,h2⟩
theorem KV.put {kvs:List (κ×V)} {vs:List (κ×Value)} (r:KV kvs vs) (k:κ) {y:V} {u:Value} (ry:RelV y u):KV (putK kvs k y) (stored vs k u):=by
  unfold putK stored;rw [r.any k]
  by_cases e:(vs.any λ kv=>decide (kv.1=k))=true
  · rw [if_pos e,if_pos e];exact r.repl k ry
  · rw [if_neg e,if_neg e];exact Paired.snoc r ⟨rfl,ry⟩
end
theorem kV_is {P:Program} {w:World} {k:Key} {u:Value} (r:RelV (kV k) u):(mixKind P w).is k u=true:=by
  cases k with
  | inl i=>obtain ⟨t,e⟩:=(show ∃ t,u=Value.int i t from r);subst e;exact mixKind_int P w i t
  | inr x=>obtain ⟨t,e⟩:=(show ∃ t,u=Value.str x t from r);subst e;exact mixKind_str P w x t
theorem items_are {P:Program} {w:World}:∀ {ks:List Key} {us:List Value},Vals (ks.map kV) us→ItemsAre (mixKind P w) ks us
  | [],_,r=>by rw [List.map_nil] at r;cases r;exact .nil
  | k :: ks,_,r=>by
    rw [List.map_cons] at r;cases r with
    | cons h t=>exact .cons (kV_is h) (items_are t)
noncomputable abbrev KT (H:Hp):List (List Key×V)→List (List Key×Addr×Value)→Prop:=Paired λ p q=>p.1=q.1∧H q.2.1=some (.tup (p.1.map kV))∧RelV p.2 q.2.2
theorem KT.val {H:Hp} {kvs:List (List Key×V)} {xs:List (List Key×Addr×Value)} (r:KT H kvs xs) (k:List Key):RelO (valV kvs k) ((atKey xs k).map (·.2)):=by
  induction r with
  | nil=>exact True.intro
  | @cons p q ps qs h t ih =>
    obtain ⟨h1,_,h2⟩:=h
    by_cases e:p.1=k
    · have e':q.1=k:=h1.symm.trans e;have b:atKey (q :: qs) k=some q.2:=by simp [atKey,List.find?_cons,e']
      rw [valV_pos e,b];exact h2
    · have e':¬ q.1=k:=λ z=>e (h1.trans z);have b:atKey (q :: qs) k=atKey qs k:=by simp [atKey,List.find?_cons,e']
      rw [valV_neg e,b];exact ih
section
variable {P:Program} {w:World} {H:Hp} {h:Heap} {a:Addr}
theorem rd_of {u:HO} (ok:HOk P w H h) (e:Rd H a u):ObjOk P w H h a u:=e.ok ok
theorem dk_rd {kvs:List (Key×V)} (ok:HOk P w H h) (e:Rd H a (.dK kvs)):kvs.length≤sizeLine∧(a == sysModules)=false∧∃ vs,KV kvs vs∧h.DictOf (mixKind P w) a vs :=
  show ObjOk P w H h a (.dK kvs) from rd_of ok e
theorem key_of {ks:List Key} (ok:HOk P w H h) (e:H a=some (.tup (ks.map kV))):(tupleKind (mixKind P w)).is h ks a:=by
  obtain ⟨_,its,r,o,h1,h2,n,h3⟩:=(show ObjOk P w H h a (.tup (ks.map kV)) from ok a _ e);exact ⟨o,its.toArray,n,h1,h2,h3,by simpa using items_are r⟩
theorem dt_rd {kvs:List (List Key×V)} (ok:HOk P w H h) (e:Rd H a (.dT kvs)):kvs.length≤sizeLine∧(a == sysModules)=false ∧
    ∃ xs,KT H kvs xs∧h.DictOfH (tupleKind (mixKind P w)) a xs:=by
  obtain ⟨z,y,xs,r,o,es,ep,h1,h2,h3,h4,h5⟩:=(show ObjOk P w H h a (.dT kvs) from rd_of ok e);refine ⟨z,y,xs,r,o,es,ep,h1,h2,h3,h4,λ x hx=>?_,h5⟩;have all:∀ {l:List (List Key×V)} {m:List (List Key×Addr×Value)},KT H l m→∀ x∈m,(tupleKind (mixKind P w)).is h x.1 x.2.1:=by
    intro l m q
    induction q with
    | nil=>intro x hx;exact nomatch hx
    | @cons p q ps qs hq t ih =>
      intro x hx;rcases List.mem_cons.mp hx with e | hx
      · subst e;exact key_of ok (by rw [← hq.1];exact hq.2.1)
      · exact ih x hx
  exact all r x hx
end
noncomputable def DGet (H:Hp) (a:Addr) (y:V) (r:Option V):Prop :=
  (∃ kvs k,Rd H a (.dK kvs)∧y=kV k∧r=valV kvs k)∨∃ kvs k b,Rd H a (.dT kvs)∧y = .ref b∧H b=some (.tup (k.map kV))∧r=valV kvs k
theorem DGet.k {H:Hp} {a:Addr} {kvs:List (Key×V)} {k:Key} (e:H a=some (.dK kvs)):DGet H a (kV k) (valV kvs k):=.inl ⟨kvs,k,.inl e,rfl,rfl⟩
section
variable {X:Cx} {pins:List (Addr×Obj)} {σ:St} {H:Hp} {s:Shared} {a:Addr} {y v:V} {u r:Value} {o:Option V} {A:Around} {E:Value→Shared→Prop}
theorem Inv.big (I:Inv X pins σ H s):sysModules < s.heap.objs.size:=by
  have h:mainGlobals < s.heap.objs.size:=(I.mod.glob.keeps I.bk).lt;exact Nat.lt_trans (by decide) h
theorem d_getItem {Q:Value→Shared→Prop} (hu:A.units + 1 < cLine) (I:Inv X pins σ H s) (g:DGet H a y (some v)) (ry:RelV y u) (h:∀ w' s',Inv X pins σ H s'→RelV v w'→Q w' s') :
    wpAny (model X.prog X.w) A (getItem (.ref a) u) Q E s:=by
  rcases g with ⟨kvs,k,e,ey,l⟩ | ⟨kvs,k,b,e,ey,eb,l⟩
  · subst ey;obtain ⟨z,hd,vs,rel,dd⟩:=dk_rd I.hok e;obtain ⟨w',hw,rw'⟩:=RelO.some_of (v:=v) (o:=valueAt vs k) (by rw [l];exact rel.val k);exact wpAny_getItem_of (kV_is ry) dd.mapOf hw (h w' _ (I.tok _) rw')
  · subst ey;cases (show u=Value.ref b from ry);obtain ⟨z,hd,xs,rel,dd⟩:=dt_rd I.hok e;obtain ⟨w',hw,rw'⟩:=RelO.some_of (v:=v) (o:=(atKey xs k).map (·.2)) (by rw [l];exact rel.val k);obtain ⟨p,hp,hp2⟩:=Option.map_eq_some_iff.mp hw;refine wpAny_getItem_heap (tupleKind_room_in1 hu) (key_of I.hok eb) dd hp ?_;rw [hp2];exact h w' _ (I.tok _) rw'
end
section
variable {X:Cx} {pins:List (Addr×Obj)} {σ:St} {H:Hp} {s:Shared} {a:Addr} {kvs:List (Key×V)} {k:Key} {u:Value} {A:Around} {E:Value→Shared→Prop}
end
noncomputable def NoSl (i:Expr):Prop:=∀ ov iv,subscripted i false ov iv=operate [ov,iv] (getItem ov iv)
theorem subD_of {prog:Program} {w:World} {A:Around} {E:Value→Shared→Prop} {s:Shared} {env:Env} {value slice:Expr} {pos:Pos} {T id:String} {Q:Value→Shared→Prop}
    (hl:typeLookup (.type T) "__getitem__"=pure (some (.builtin id))) (hs:NoSl slice)
    (h:wpAny (model prog w) A (eval value env) (λ o s₁=>wpAny (model prog w) A (eval slice env) (λ i s₂=>s₂.TypeIs o T∧wpAny (model prog w) A (getItem o i) Q E s₂) E s₁) E s) :
    wpAny (model prog w) A (eval (.Subscript value slice pos) env) Q E s:=by
  refine Subscript_ (wpAny_mono h (λ o s₁ h₁=>wpAny_mono h₁ (λ i s₂ h₂=>?_) λ _ _ x=>x) λ _ _ x=>x);obtain ⟨hT,h₂⟩:=h₂;unfold subscriptTail;refine wpAny_bind ?_;rw [getitemInPython_of_ne hT.not_modules];refine wpAny_bind (wpAny_specialOf hT hl ?_);have fin:wpAny (model prog w) A (subscripted slice false o i) (λ r s₃=>wpAny (model prog w) A (letTemporaryGo value o r >>= λ _=>pure r) Q E s₃) E s₂:=by
    rw [hs o i];exact wpAny_operating (wpAny_mono h₂ (λ r s₃ h₃=>wpAny_bind (wpAny_letTemporaryGo (wpAny_pure h₃))) λ _ _ x=>x)
  first
    | exact wpAny_pure (wpAny_bind fin)
    | exact wpAny_bind (wpAny_pure (wpAny_bind fin))
    | exact wpAny_bind fin
theorem dict_typeIs {X:Cx} {pins:List (Addr×Obj)} {σ:St} {H:Hp} {s:Shared} {a:Addr} {y:V} {o:Option V} (I:Inv X pins σ H s) (g:DGet H a y o):s.TypeIs (.ref a) "dict":=by
  rcases g with ⟨kvs,k,e,_,_⟩ | ⟨kvs,k,b,e,_,_,_⟩
  · obtain ⟨_,_,vs,_,dd⟩:=dk_rd I.hok e;exact dd.typeIs
  · obtain ⟨_,_,xs,_,dd⟩:=dt_rd I.hok e;exact dd.typeIs
noncomputable def tDGet (td ty:TE):TE:=λ σ H Q=>td σ H λ x H1=>ty σ H1 λ y H2=>∃ a v,x = .ref a∧DGet H2 a y (some v)∧Q v H2
section
variable {X:Cx} {o i e value:Expr} {pos pos' tpos:Pos} {td ty tv:TE}
theorem pe_dget (hu:X.A.units + 1 < cLine) (ho:PE X o td) (hi:PE X i ty) (hs:NoSl i):PE X (.Subscript o i pos) (tDGet td ty):=by
  intro pins s σ H Q I h;refine subD_of PySem.F.slot_dict_getitem.lookup hs (thn (ho pins s σ H _ I h) λ u s1 ⟨x,H1,I1,rx,q1⟩=>thn (hi pins s1 σ H1 _ I1 q1) λ iv s2 ⟨y,H2,I2,ry,a,v,ex,g,q2⟩=>?_);subst ex;obtain rfl:u=Value.ref a:=rx;exact ⟨dict_typeIs I2 g,d_getItem hu I2 g ry λ w' s3 I3 rw'=>⟨v,H2,I3,rw',q2⟩⟩
end
section
variable {X:Cx} {pos:Pos}
end
noncomputable def mergeK (kvs more:List (Key×V)):List (Key×V):=more.foldl (λ acc kv=>putK acc kv.1 kv.2) kvs
theorem KV.merge:∀ {more:List (Key×V)} {rs:List (Key×Value)} {kvs:List (Key×V)} {vs:List (Key×Value)},KV more rs→KV kvs vs→KV (mergeK kvs more) (merged vs rs):=by
  intro more rs kvs vs r;unfold KV at r
  induction r generalizing kvs vs with
  | nil=>intro q;exact q
  | @cons p q ps qs h t ih =>
    intro r0;have e:KV (putK kvs p.1 p.2) (stored vs q.1 q.2):=by
      have:=r0.put p.1 h.2;rw [← h.1];exact this
    exact ih e
theorem length_mergeK:∀ (more kvs:List (Key×V)),(mergeK kvs more).length≤kvs.length + more.length
  | [],kvs=>by show kvs.length≤kvs.length + 0;omega
  | p :: r,kvs=>by
    have h1:=length_mergeK r (putK kvs p.1 p.2);have h2:=length_putK kvs p.1 p.2;show (mergeK (putK kvs p.1 p.2) r).length≤_;rw [List.length_cons];omega
section
variable {X:Cx} {pins:List (Addr×Obj)} {σ:St} {H:Hp} {s:Shared} {a:Addr} {y d:V} {u r:Value} {o:Option V} {A:Around} {E:Value→Shared→Prop}
end
section
variable {X:Cx} {o e f:Expr} {apos cpos:Pos} {td ty tx:TE}
end
section
variable {X:Cx} {pins:List (Addr×Obj)} {σ:St} {H:Hp} {s:Shared} {a:Addr} {kvs:List (Key×V)} {A:Around} {E:Value→Shared→Prop}
end
section
variable {X:Cx} {pins:List (Addr×Obj)} {σ:St} {H:Hp} {s:Shared} {a:Addr} {y:V} {u:Value} {A:Around} {E:Value→Shared→Prop}
end
end L2
set_option maxHeartbeats 4000000
namespace L2
open PySem PySem.Spec PyProof.Rows
noncomputable def capS (n:Nat) (cap:List Nat) (σ:St):St:=List.replicate n none ++ cap.map λ j=>(σ[j]?).getD none
noncomputable def capN (NX:List Str) (own:List Str) (cap:List Nat):List Str:=own ++ cap.map λ j=>(NX[j]?).getD Str.empty
noncomputable def compCx (X:Cx) (scope:Scope) (cl:List (Str×Addr)) (N:List Str) (s:Shared) (H:Hp) (fp:List Addr) (C:Addr):Cx where
  prog:=X.prog
  w:=X.w
  K:=X.K
  mg:=X.mg
  base:=X.base
  A:=X.A
  N:=N
  s₀:=s
  H₀:=H
  env:=compEnvC scope cl C X.env
  outer:=X.stack
  stack:=X.stack
  ex:=fp
  fn:=λ _=>false
  calm:=X.calm
  pn:=[]
  xe:=λ _ _=>False
noncomputable def compOk (sc:Scope) (NX:List Str) (scope:Scope) (cap:List Nat):Bool :=
  decide (scope.kind = .function) &&
  scope.names.all (λ y=>!decide (y.2 = .cell) && (!decide (y.2 = .local) || decide (scope.names.lookup y.1=some .local)) &&
    (!decide (y.2 = .free) || decide (sc.names.lookup y.1=some .cell) || decide (sc.names.lookup y.1=some .free))) &&
  cap.all (λ j=>match NX[j]? with
    | some x=>decide (scope.names.lookup x=some .free)
    | none=>false)
structure CompOk (sc:Scope) (NX:List Str) (scope:Scope) (cap:List Nat):Prop where
  kind:scope.kind = .function
  nocell:∀ y∈scope.names,y.2≠.cell
  names:∀ y∈scope.names,y.2 = .local→scope.names.lookup y.1=some .local
  free:∀ y∈scope.names,y.2 = .free→sc.names.lookup y.1=some .cell∨sc.names.lookup y.1=some .free
  capf:∀ j∈cap,∃ x,NX[j]?=some x∧scope.names.lookup x=some .free
theorem compOk_of {sc:Scope} {NX:List Str} {scope:Scope} {cap:List Nat} (h:compOk sc NX scope cap=true):CompOk sc NX scope cap:=by
  unfold compOk at h;rw [Bool.and_eq_true,Bool.and_eq_true,decide_eq_true_eq,List.all_eq_true,List.all_eq_true] at h;obtain ⟨⟨h1,h2⟩,h3⟩:=h;refine ⟨h1,λ y hy e=>?_,λ y hy e=>?_,λ y hy e=>?_,λ j hj=>?_⟩
  · have q:=h2 y hy;simp [e] at q
  · have q:=h2 y hy;simpa [e] using q
  · have q:=h2 y hy;simpa [e] using q
  · have q:=h3 j hj;cases e:NX[j]? with
    | none=>rw [e] at q;cases q
    | some x=>rw [e] at q;exact ⟨x,rfl,by simpa using q⟩
theorem lookup_relabel {env:Env} {x:Str}:∀ {names:List (Str×NameKind)},
    (names.map λ (n,k)=>if (k == NameKind.free && env.scope.kind == .function && env.kindOf n == some .cell) then (n,NameKind.cell) else (n,k)).lookup x =
      (names.lookup x).map λ k=>if (k == NameKind.free && env.scope.kind == .function && env.kindOf x == some .cell) then NameKind.cell else k
  | []=>rfl
  | (n,k) :: r=>by
    have ih:=@lookup_relabel env x r;show List.lookup x ((if (k == NameKind.free && env.scope.kind == .function && env.kindOf n == some .cell)=true then (n,NameKind.cell) else (n,k)) :: _)=_
    by_cases hx:x=n
    · subst hx
      by_cases hc:(k == NameKind.free && env.scope.kind == .function && env.kindOf x == some .cell)=true
      · rw [if_pos hc];simp only [List.lookup_cons,beq_self_eq_true,Option.map_some];rw [if_pos hc]
      · rw [if_neg hc];simp only [List.lookup_cons,beq_self_eq_true,Option.map_some];rw [if_neg hc]
    · have hb:(x == n)=false:=by simpa using hx
      by_cases hc:(k == NameKind.free && env.scope.kind == .function && env.kindOf n == some .cell)=true
      · rw [if_pos hc];simp only [List.lookup_cons,hb];exact ih
      · rw [if_neg hc];simp only [List.lookup_cons,hb];exact ih
theorem relabel_free {scope:Scope} {env:Env} {x:Str} (h:scope.names.lookup x=some .free):(relabel scope env).names.lookup x=some .cell∨(relabel scope env).names.lookup x=some .free:=by
  have e:(relabel scope env).names.lookup x=_:=lookup_relabel;rw [e,h];show some (if _ then _ else _)=_∨some (if _ then _ else _)=_;split
  · exact .inl rfl
  · exact .inr rfl
theorem relabel_captured {scope:Scope} {env:Env} {x:Str} (nc:∀ y∈scope.names,y.2≠.cell) (h:(relabel scope env).names.lookup x=some .cell∨(relabel scope env).names.lookup x=some .free):scope.names.lookup x=some .free:=by
  have e:(relabel scope env).names.lookup x=_:=lookup_relabel;rw [e] at h;cases q:scope.names.lookup x with
  | none=>rw [q] at h;rcases h with h | h<;>cases h
  | some k =>
    have hk:k≠.cell:=nc _ (PySem.mem_of_lookup q);rw [q] at h;cases k<;>first | rfl | exact absurd rfl hk | (rcases h with h | h<;>simp at h)
theorem closure_of {scope:Scope} {env:Env} (h:∀ y∈scope.names,y.2 = .free→∃ c,env.cells.lookup y.1=some c) :
    ∃ cl,closureFor scope env=pure cl∧(∀ x c,cl.lookup x=some c→env.cells.lookup x=some c)∧∀ y∈scope.names,y.2 = .free→cl.lookup y.1=env.cells.lookup y.1:=by
  unfold closureFor;have go:∀ (names:List (Str×NameKind)) (cs:List (Str×Addr)),(∀ y∈names,y.2 = .free→∃ c,env.cells.lookup y.1=some c)→(∀ x c,cs.lookup x=some c→env.cells.lookup x=some c) →
      ∃ cl,(forIn names cs λ (p:Str×NameKind) (r:List (Str×Addr))=>(match p with
          | (name,kind)=>if (kind == NameKind.free)=true then do let c ← cellOf env name;pure (ForInStep.yield ((name,c) :: r)) else pure (ForInStep.yield r):Sem (ForInStep (List (Str×Addr)))))=pure cl ∧
        (∀ x c,cl.lookup x=some c→env.cells.lookup x=some c)∧(∀ x c,cs.lookup x=some c→cl.lookup x=env.cells.lookup x)∧∀ y∈names,y.2 = .free→cl.lookup y.1=env.cells.lookup y.1:=by
    intro names
    induction names with
    | nil=>intro cs _ hc;exact ⟨cs,rfl,hc,λ x c e=>by rw [e,hc x c e],λ y hy=>nomatch hy⟩
    | cons p r ih =>
      intro cs hn hc;obtain ⟨n,k⟩:=p
      by_cases hk:k = .free
      · subst hk;obtain ⟨c,ec⟩:=hn (n,.free) List.mem_cons_self rfl;have ecell:cellOf env n=pure c:=by unfold cellOf;rw [ec]
        have hc':∀ x c',((n,c) :: cs).lookup x=some c'→env.cells.lookup x=some c':=λ x c' e=>by
          by_cases hx:x=n
          · subst hx;simp only [List.lookup_cons,beq_self_eq_true] at e;rw [ec];exact e
          · have hb:(x == n)=false:=by simpa using hx
            simp only [List.lookup_cons,hb] at e;exact hc x c' e
        obtain ⟨cl,e1,e2,e3,e4⟩:=ih ((n,c) :: cs) (λ y hy=>hn y (List.mem_cons_of_mem _ hy)) hc';refine ⟨cl,?_,e2,λ x c' e=>?_,λ y hy hf=>?_⟩
        · rw [List.forIn_cons];simp only [beq_self_eq_true,if_true,ecell,pure_bind];exact e1
        · by_cases hx:x=n
          · subst hx;exact e3 x c (by simp only [List.lookup_cons,beq_self_eq_true])
          · have hb:(x == n)=false:=by simpa using hx
            exact e3 x c' (by simp only [List.lookup_cons,hb];exact e)
        · rcases List.mem_cons.mp hy with rfl | hy
          · exact e3 n c (by simp only [List.lookup_cons,beq_self_eq_true])
          · exact e4 y hy hf
      · obtain ⟨cl,e1,e2,e3,e4⟩:=ih cs (λ y hy=>hn y (List.mem_cons_of_mem _ hy)) hc;refine ⟨cl,?_,e2,e3,λ y hy hf=>?_⟩
        · rw [List.forIn_cons];have hb:(k == NameKind.free)=false:=by simpa using hk
          simp only [hb,Bool.false_eq_true,if_false,pure_bind];exact e1
        · rcases List.mem_cons.mp hy with rfl | hy
          · exact absurd hf hk
          · exact e4 y hy hf
  obtain ⟨cl,e1,e2,_,e4⟩:=go scope.names [] h (λ x c e=>by simp at e);refine ⟨cl,?_,e2,e4⟩;show (forIn scope.names [] _ >>= λ cs=>pure cs)=pure cl;rw [bind_pure];exact e1
noncomputable def PTs (X:Cx) (ifs:List Expr) (t:TT):Prop :=
  ∀ (pins:List (Addr×Obj)) (s:Shared) (σ:St) (H:Hp) (Q:Bool→Hp→Prop),Inv X pins σ H s→t σ H Q →
    wpAny (model X.prog X.w) X.A (forIn ifs true λ c r=>if r=true then do let ok ← isTrue c X.env (eval c X.env);pure (ForInStep.yield ok) else pure (ForInStep.yield r)) (TP X pins σ Q) X.xe s
noncomputable def tYes:TT:=λ _ H Q=>Q true H
section
variable {X:Cx}
theorem pts_nil:PTs X [] tYes:=λ _ _ _ H _ I h=>wpAny_tests_nil ⟨H,I,h⟩
theorem pts_one {c:Expr} {t:TT} (h:PT X c t):PTs X [c] t:=λ pins s σ H Q I q=>wpAny_tests_one (h pins s σ H Q I q)
theorem Inv.turnedL {t':Nat} {its:List Addr} {pins:List (Addr×Obj)} {σ:St} {H:Hp} {s:Shared} {h':Heap} (I:Inv X pins σ H s) (k:∀ b o,b∉its→s.heap.get? b=some o→h'.get? b=some o)
    (hf:∀ b∈its,FpOk X pins H b):Inv X pins σ H { s with heap:=h',toks:=t' }:=by
  have nit:∀ b u,H b=some u→b∉its:=λ b u e z=>by rw [(hf b z).1] at e;cases e
  refine I.step (g':=s.gens) (d':=s.drawn) (ch:=its) (λ b hb=>?_) (λ b o _ _ hc e _=>k b o hc e) (λ b o _ _ hc e _=>⟨o.slots,k b o hc e⟩) (λ _ _ _ _ n=>n)
    (λ b o hc e=>⟨o,k b o hc e⟩) (λ _ _ e=>e) (λ _ _ _ e=>e) (λ b ps e=>⟨#[],by rw [e];simp⟩) (λ m hm=>?_) (λ b u e=>?_) I.bare
  · obtain ⟨_,f1,_,f3,f4,f5⟩:=hf b hb;exact ⟨f3,f1,f4,f5⟩
  · obtain ⟨o,es,ep,ho,r⟩:=hm;exact ⟨o,es,ep,k _ o (λ z=>(hf _ z).2.1 rfl) ho,r⟩
  · refine (I.hok b u e).stay (λ c v hc q=>k c v ?_ q) (λ _ q=>q) λ _ _ q=>q;rcases hc with z | z
    · rw [z];exact nit b u e
    · exact nit c _ z
noncomputable def tComp (n:Nat) (cap:List Nat) (wi:TI) (g:TG) (tt:TT) (te:TE):TE:=λ σ H Q=>wi σ H λ J H1=>∀ D,H1 D=none →
  ∃ W:Nat→Nat→List V→St→Hp→Prop,(∃ m,W 0 m [] (capS n cap σ) (upd H1 D (.lst [])))∧∀ i m ys σ' H',W i m ys σ' H' →
    (J.stop i H'∧Q (.ref D) H')∨(J.go i H'∧∃ N:List V→St→Hp→Prop,(∀ zs σ2 H2,N zs σ2 H2→∃ m',m' < m∧W (i + 1) m' zs σ2 H2)∧∀ x H2,J.yld i H' x H2→g x σ' H2 λ σ3 H3=>tt σ3 H3 λ b H4 =>
      if b=true then te σ3 H4 λ y H5=>H5 D=some (.lst ys)∧ys.length < sizeLine∧N (ys ++ [y]) σ3 (upd H5 D (.lst (ys ++ [y])))
      else N ys σ3 H4)
theorem compStart_inv {scope:Scope} {cl:List (Str×Addr)} {own:List Str} {cap:List Nat} {pins:List (Addr×Obj)} {σ:St} {H:Hp} {s:Shared} {fp:List Addr} {h₁:Heap} {m₁:Str→Option Value} {tk:Nat} (I:Inv X pins σ H s)
    (S:CompOk X.env.scope X.N scope cap) (c2:∀ x c,cl.lookup x=some c→X.env.cells.lookup x=some c) (c3:∀ y∈scope.names,y.2 = .free→cl.lookup y.1=X.env.cells.lookup y.1)
    (hf:∀ b∈fp,FpOk X pins H b) (hfo:∀ b∈fp,b < s.heap.objs.size) (old:∀ b o,s.heap.get? b=some o→h₁.get? b=some o)
    (hD:h₁.get? s.heap.objs.size=some { cls:=.type "list",data:=.seq #[] 0 }) (hC:h₁.Ns (s.heap.objs.size + 1) m₁) :
    Inv (compCx X scope cl (capN X.N own cap) s H fp (s.heap.objs.size + 1)) [] (capS own.length cap σ) (upd H s.heap.objs.size (.lst [])) { s with heap:=h₁,toks:=tk }:=by
  have newD:ObjOk X.prog X.w (upd H s.heap.objs.size (.lst [])) h₁ s.heap.objs.size (.lst []):=⟨Nat.zero_le _,[],0,.nil,hD⟩;have I':Inv X pins σ (upd H s.heap.objs.size (.lst [])) { s with heap:=h₁,toks:=tk }:=I.laid old (Nat.le_refl _) newD;have hfr:∀ a,s.heap.objs.size≤a→H a=none:=λ a ha=>I.hok.fresh ha;refine ⟨⟨I.ok.mod,S.kind,I.ok.glob,I.ok.blt,Nat.le_succ _,λ x y c e1 e2=>I.ok.inj x y c (c2 _ _ e1) (c2 _ _ e2),λ x hx=>?_,λ x c z=>absurd z (by intro q;cases q),I.ok.hd,I.ok.frames,.inl rfl,λ b hb=>?_,I.bs,Nat.le_trans I.ok.bsz I.sz,λ b o e hb=>?_,λ b hb=>?_,I.stack,I.stkFree⟩,
    rfl,I.bare,Un.laid old (Nat.le_refl _) (hfr _ (Nat.le_refl _)),⟨m₁,hC,λ i x v e1 e2 e3=>?_⟩,λ x c e=>I'.cell x c (c2 _ _ e),?_,λ x c e=>I'.freeC x c (c2 _ _ e),λ p hp=>absurd (show p∈([]:List (Addr×Obj)) from hp) (by simp),I'.hok,?_⟩
  · have hx':(relabel scope X.env).names.lookup x=some .cell∨(relabel scope X.env).names.lookup x=some .free:=hx;have hfree:=relabel_captured S.nocell hx';have hm:=PySem.mem_of_lookup hfree;obtain ⟨c,ec⟩:=I.ok.has x (S.free _ hm rfl);exact ⟨c,(c3 _ hm rfl).trans ec⟩
  · obtain ⟨f0,f1,f2,f3,f4,f5⟩:=hf b hb;exact ⟨Nat.ne_of_lt (Nat.lt_succ_of_lt (hfo b hb)),λ x c e=>f4 x c (c2 _ _ e)⟩
  · obtain ⟨f0,f1,f2,f3,f4,f5⟩:=hf b hb;rcases f3 with z | z
    · exact I.ok.noex b o e z
    · exact absurd (Nat.lt_of_lt_of_le (Heap.lt_size (I.ok.bs b o e).1) z) (Nat.lt_irrefl _)
  · obtain ⟨f0,f1,f2,f3,f4,f5⟩:=hf b hb;intro z;rcases List.mem_cons.mp (I.stkSub b z) with q | q
    · exact f1 q
    · exact f2 q
  · have e2':(List.replicate own.length none ++ cap.map λ j=>(σ[j]?).getD none)[i]?=some (some v):=e2;have e1':(own ++ cap.map λ j=>(X.N[j]?).getD Str.empty)[i]?=some x:=e1
    by_cases hi:i < own.length
    · rw [List.getElem?_append_left (by simpa using hi),List.getElem?_replicate] at e2';split at e2'<;>cases e2'
    · rw [List.getElem?_append_right (by simpa using Nat.le_of_not_lt hi)] at e2';rw [List.getElem?_append_right (Nat.le_of_not_lt hi)] at e1';simp only [List.length_replicate,List.getElem?_map] at e2';simp only [List.getElem?_map] at e1';cases ej:cap[i - own.length]? with
      | none=>rw [ej] at e1';cases e1'
      | some j =>
        rw [ej] at e1' e2';obtain ⟨x',hx',hfree⟩:=S.capf j (List.mem_of_getElem? ej);have ex:x'=x:=by
          have q:some ((X.N[j]?).getD Str.empty)=some x:=e1';rw [hx'] at q;exact Option.some.inj q
        subst ex;have eσ:σ[j]?=some (some v):=by
          have q:some ((σ[j]?).getD none)=some (some v):=e2';cases eq:σ[j]? with
          | none=>rw [eq] at q;cases q
          | some o=>rw [eq] at q;rw [← Option.some.inj q];rfl
        have hm:=PySem.mem_of_lookup hfree;have hvis:Vis X.env.scope x':=.inr (S.free _ hm rfl);obtain ⟨m,_,hl⟩:=I'.loc;obtain ⟨u,r,l⟩:=hl j x' v hx' eσ hvis;refine ⟨u,r,.inr ⟨relabel_free hfree,?_⟩⟩;rcases l with ⟨k,_⟩ | ⟨_,c,ec,z⟩
        · rcases S.free _ hm rfl with q | q
          · have k':X.env.scope.names.lookup x'=some .local:=k;rw [q] at k';cases k'
          · have k':X.env.scope.names.lookup x'=some .local:=k;rw [q] at k';cases k'
        · exact ⟨c,(c3 _ hm rfl).trans ec,z⟩
  · show upd H s.heap.objs.size (.lst []) (s.heap.objs.size + 1)=none;rw [upd_ne (Nat.succ_ne_self _)];exact hfr _ (Nat.le_succ _)
  · show (List.replicate own.length none ++ cap.map λ j=>(σ[j]?).getD none).length=(own ++ cap.map λ j=>(X.N[j]?).getD Str.empty).length;simp
theorem comp_back {scope:Scope} {cl:List (Str×Addr)} {N:List Str} {pins:List (Addr×Obj)} {σ σ':St} {H H':Hp} {s s':Shared} {fp:List Addr} {C:Addr} (I:Inv X pins σ H s) (hf:∀ b∈fp,FpOk X pins H b)
    (IY:Inv (compCx X scope cl N s H fp C) [] σ' H' s'):Inv X pins σ H' s' :=
  I.call' (ch:=fp) IY.os IY.base IY.hok IY.bare λ b hb=>by
    obtain ⟨f0,f1,f2,f3,f4,f5⟩:=hf b hb;exact ⟨f3,f1,f4,f5⟩
theorem codeAny_compLoop_gen {prog:Program} {w:World} {A:Around} {R:Result→Shared→Prop} {s:Shared} {elt target iter:Expr} {ifs:List Expr} {scope:Scope} {pos:Pos} {it acc:Value} {env:Env} (I:Nat→Shared→Prop)
    (turn:∀ n s,I n s→wpAny (model prog w) A (pyNext it) (λ r s₁=>match r with
      | none=>R (.ok .next) s₁
      | some v=>wpAny (model prog w) A (letOwnedTupleGo target it v) (λ _ s₁=>wpAny (model prog w) A (assign target env v) (λ _ s₂ =>
          wpAny (model prog w) A (forIn ifs true λ c r=>if r=true then do let ok ← isTrue c env (eval c env);pure (ForInStep.yield ok) else pure (ForInStep.yield r)) (λ ok s₃ =>
            if ok=true then wpAny (model prog w) A (eval elt env) (λ x s₄ =>
              wpAny (model prog w) A (call (.builtin "list.append") [acc,x]) (λ _ s₅=>∃ m,m < n∧I m s₅) (λ _ _=>False) s₄) (λ _ _=>False) s₃
            else ∃ m,m < n∧I m s₃) (λ _ _=>False) s₂) (λ _ _=>False) s₁) (λ _ _=>False) s₁) (λ _ _=>False) s)
    (n:Nat) (h:I n s) :
    codeAny (model prog w) A (.compLoop (.ListComp elt [⟨target,iter,ifs,0⟩] scope pos) 0 it acc env) R s:=by
  refine codeAny_loop rfl I (λ n s hI=>?_) n h;show wpAny _ A ((compTurn (.ListComp elt [⟨target,iter,ifs,0⟩] scope pos) 0 it acc env).onRaise (λ x=>do noteFrame x env;theTreesLotGoes x)) _ _ s
  refine wpAny_noted ?_;rw [compTurn_list];refine wpAny_bind (wpAny_standAt (wpAny_bind (wpAny_mono (turn n s hI) (λ r s₁ h₁=>?_) λ _ _ h'=>h'.elim)));cases r with
  | none=>exact wpAny_pure h₁
  | some v =>
    refine wpAny_bind (wpAny_mono h₁ (λ _ s₁' h₁'=>?_) λ _ _ h'=>h'.elim);refine wpAny_bind (wpAny_mono h₁' (λ _ s₂ h₂=>wpAny_bind (wpAny_mono h₂ (λ ok s₃ h₃=>?_) λ _ _ h'=>h'.elim)) λ _ _ h'=>h'.elim);cases ok with
    | false=>exact wpAny_pure ⟨rfl,h₃⟩
    | true =>
      exact wpAny_bind (wpAny_bind (wpAny_mono h₃ (λ x s₄ h₄=>wpAny_bind (wpAny_mono h₄ (λ _ s₅ h₅=>wpAny_pure (wpAny_pure ⟨rfl,h₅⟩)) λ _ _ h'=>h'.elim)) λ _ _ h'=>h'.elim))
theorem comp_block {elt tg iter:Expr} {ifs:List Expr} {scope:Scope} {cl:List (Str×Addr)} {pos:Pos} {own:List Str} {cap:List Nat} {g:TG} {tt:TT} {te:TE} {E:Value→Shared→Prop}
    {pins:List (Addr×Obj)} {σ:St} {H:Hp} {s:Shared} {it:Addr} {fp:List Addr} {tn:Nat→Heap→Prop} {J:It} {Q:VK} {RR:Value→Addr→Result→Shared→Prop}
    (hc:X.calm=true) (S:CompOk X.env.scope X.N scope cap) (c2:∀ x c,cl.lookup x=some c→X.env.cells.lookup x=some c) (c3:∀ y∈scope.names,y.2 = .free→cl.lookup y.1=X.env.cells.lookup y.1)
    (hb:∀ cl s H fp C,PG (compCx X scope cl (capN X.N own cap) s H fp C) tg g∧PTs (compCx X scope cl (capN X.N own cap) s H fp C) ifs tt∧PE (compCx X scope cl (capN X.N own cap) s H fp C) elt te)
    (I:Inv X pins σ H s) (T:Turn X.prog X.w X.K tg J fp it tn) (st:tn 0 s.heap) (hf:∀ b∈fp,FpOk X pins H b)
    (R:∀ D,H D=none→∃ W:Nat→Nat→List V→St→Hp→Prop,(∃ m,W 0 m [] (capS own.length cap σ) (upd H D (.lst [])))∧∀ i m ys σ' H',W i m ys σ' H' →
      (J.stop i H'∧Q (.ref D) H')∨(J.go i H'∧∃ N:List V→St→Hp→Prop,(∀ zs σ2 H2,N zs σ2 H2→∃ m',m' < m∧W (i + 1) m' zs σ2 H2)∧∀ x H2,J.yld i H' x H2→g x σ' H2 λ σ3 H3=>tt σ3 H3 λ b H4 =>
        if b=true then te σ3 H4 λ y H5=>H5 D=some (.lst ys)∧ys.length < sizeLine∧N (ys ++ [y]) σ3 (upd H5 D (.lst (ys ++ [y])))
        else N ys σ3 H4))
    (hRR:∀ D C H' s' m,Inv X pins σ H' s'→s'.heap.Ns C m→FpOk X pins H' C→Q (.ref D) H'→RR (.ref D) C (.ok .next) s') :
    wpAny (model X.prog X.w) X.A (newList []) (λ acc s₃=>wpAny (model X.prog X.w) X.A (newFunctionEnv scope X.env.globals cl [] X.env.qual none .none (some X.env)) (λ cenv s₄ =>
      codeAny (model X.prog X.w) X.A (.compStart (.ListComp elt [⟨tg,iter,ifs,0⟩] scope pos) 0 (.ref it) acc { cenv with scope:=relabel scope X.env }) (RR acc cenv.locals) s₄) E s₃) E s:=by
  refine wpAny_newObj_type (wpAny_newFunctionEnv S.nocell (by intro y hy;simp at hy) (λ h₁ hns₁ hsb₁=>?_) S.kind);dsimp only at hns₁ hsb₁ ⊢;generalize hH2:s.heap.push { cls:=.type "list",dict:=none,data:=.seq ([]:List Value).toArray }=H2 at hns₁ hsb₁ ⊢;have hC:H2.objs.size=s.heap.objs.size + 1:=by rw [← hH2,Heap.size_push]
  have hfo:∀ b∈fp,b < s.heap.objs.size:=λ b hb=>by obtain ⟨o,e,_⟩:=T.obj _ _ st b hb;exact Heap.lt_size e
  have old:∀ b o,s.heap.get? b=some o→h₁.get? b=some o:=λ b o e =>
    hsb₁.extBut b o (by rw [hC];exact Nat.ne_of_lt (Nat.lt_succ_of_lt (Heap.lt_size e))) (Heap.get?_push_of_some _ (hH2 ▸ Heap.get?_push_of_some _ e))
  have hDl:h₁.get? s.heap.objs.size=some { cls:=.type "list",data:=.seq #[] 0 } :=
    hsb₁.extBut _ _ (by rw [hC];exact Nat.ne_of_lt (Nat.lt_succ_self _)) (Heap.get?_push_of_some _ (hH2 ▸ Heap.get?_push_size _ rfl))
  rw [hC] at hns₁;have hfr:H s.heap.objs.size=none:=I.hok.fresh (Nat.le_refl _);obtain ⟨W,⟨m0,w0⟩,turn⟩:=R s.heap.objs.size hfr;have IY:=compStart_inv (own:=own) (tk:=s.toks + ([]:List (Str×Value)).length) I S c2 c3 hf hfo old hDl hns₁;have e0:(newEnv scope H2.objs.size X.env.globals cl X.env.qual none Value.none (some X.env) builtinsNs).locals=s.heap.objs.size + 1:=hC;obtain ⟨hg,ht,he⟩:=hb cl s H fp (s.heap.objs.size + 1);have stat:∀ {H':Hp},(∀ b∈fp,H' b=none)→∀ b∈fp,FpOk (compCx X scope cl (capN X.N own cap) s H fp (s.heap.objs.size + 1)) [] H' b:=λ {H'} hn b hb=>by
    obtain ⟨f0,f1,f2,f3,f4,f5⟩:=hf b hb;refine ⟨hn b hb,Nat.ne_of_lt (Nat.lt_succ_of_lt (hfo b hb)),λ z=>?_,.inl hb,λ x c e=>f4 x c (c2 _ _ e),λ p hp=>absurd (show p∈([]:List (Addr×Obj)) from hp) (by simp)⟩;rcases List.mem_cons.mp (I.stkSub b z) with q | q
    · exact f1 q
    · exact f2 q
  have fpn:∀ b∈fp,upd H s.heap.objs.size (.lst []) b=none:=λ b hb=>by
    rw [upd_ne (Nat.ne_of_lt (hfo b hb))];exact (hf b hb).1
  have hCfp:∀ {H':Hp} {σ':St} {s':Shared},Inv (compCx X scope cl (capN X.N own cap) s H fp (s.heap.objs.size + 1)) [] σ' H' s'→FpOk X pins H' (s.heap.objs.size + 1):=λ {H' σ' s'} I3=>by
    exact I.fpOk (Nat.le_succ _) I3.free
  have loop:∀ s₃:Shared,s₃ = { s with heap:=h₁,toks:=s.toks + ([]:List (Str×Value)).length } →
      codeAny (model X.prog X.w) X.A (.compLoop (.ListComp elt [⟨tg,iter,ifs,0⟩] scope pos) 0 (.ref it) (.ref s.heap.objs.size) (compEnvC scope cl (s.heap.objs.size + 1) X.env))
        (RR (.ref s.heap.objs.size) (s.heap.objs.size + 1)) s₃:=by
    rintro s₃ rfl;refine codeAny_compLoop_gen (λ n s'=>∃ i ys σ' H',Inv (compCx X scope cl (capN X.N own cap) s H fp (s.heap.objs.size + 1)) [] σ' H' s'∧tn i s'.heap∧(∀ b∈fp,H' b=none)∧W i n ys σ' H') ?_ m0
      ⟨0,[],_,_,IY,T.keep _ _ _ st (λ b _ o e=>old b o e),fpn,w0⟩
    rintro n s3 ⟨i,ys,σ3,H3,I3,st3,fr3,w3⟩;rcases turn i n ys σ3 H3 w3 with ⟨stop,q⟩ | ⟨go,Nx,hNx,step⟩
    · refine thn (T.done (compCx X scope cl (capN X.N own cap) s H fp (s.heap.objs.size + 1)) rfl rfl rfl hc i [] s3 σ3 H3 (λ _ _=>False) I3 (stat fr3) st3 stop) λ r s4 ⟨hr,I4⟩=>?_;subst hr;obtain ⟨m4,hn4,_⟩:=I4.loc;exact hRR _ _ H3 s4 m4 (comp_back I hf I4) hn4 (hCfp I4) q
    · refine thn (T.item (compCx X scope cl (capN X.N own cap) s H fp (s.heap.objs.size + 1)) rfl rfl rfl hc i [] s3 σ3 H3 (λ _ _=>False) I3 (stat fr3) st3 go) λ r s4 ⟨u,hr,h4⟩=>?_;subst hr;refine thn h4 λ _ s5 ⟨x,H5,I5,r5,y5,st5,fr5⟩=>?_;have I5':=I5.pinned (stat fr5) (T.obj _ _ st5);refine thn (hg _ s5 σ3 H5 x u _ I5' r5 (step x H5 y5)) λ _ s6 ⟨σ6,H6,I6,q6⟩=>?_;refine thn (ht _ s6 σ6 H6 _ I6 q6) λ ok s7 ⟨H7,I7,q7⟩=>?_;have back:∀ {σ8:St} {H8:Hp} {s8:Shared},Inv (compCx X scope cl (capN X.N own cap) s H fp (s.heap.objs.size + 1)) ([] ++ pinsAt fp s5.heap) σ8 H8 s8→tn (i + 1) s8.heap∧∀ b∈fp,H8 b=none:=λ {σ8 H8 s8} I8=>by
        refine ⟨T.keep _ _ _ st5 λ b hb o e=>(I8.pin (b,o) (List.mem_append_right _ (List.mem_append_right _ (mem_pinsAt hb e)))).1,λ b hb=>?_⟩;obtain ⟨o,e,d⟩:=T.obj _ _ st5 b hb;exact (I8.pin (b,o) (List.mem_append_right _ (List.mem_append_right _ (mem_pinsAt hb e)))).2.1
      cases ok with
      | false =>
        rw [if_neg Bool.false_ne_true] at q7 ⊢;obtain ⟨m',hm,w7⟩:=hNx _ _ _ q7;exact ⟨m',hm,i + 1,ys,σ6,H7,I7.unpinned,(back I7).1,(back I7).2,w7⟩
      | true =>
        rw [if_pos rfl] at q7 ⊢;refine thn (he _ s7 σ6 H7 _ I7 q7) λ y s8 ⟨z,H8,I8,r8,q8⟩=>?_;obtain ⟨hD8,hz8,q8⟩:=q8;obtain ⟨m',hm,w8⟩:=hNx _ _ _ q8;refine thn (mt_append _ s8 σ6 H8 (.ref s.heap.objs.size) [z] (.ref s.heap.objs.size) [y] (λ _ H9=>H9=upd H8 s.heap.objs.size (.lst (ys ++ [z]))) I8 rfl (.cons r8 .nil) ⟨_,ys,z,rfl,rfl,hD8,hz8,rfl⟩) λ _ s9 ⟨_,H9,I9,_,q9⟩=>?_;subst q9;exact ⟨m',hm,i + 1,ys ++ [z],σ6,_,I9.unpinned,(back I9).1,(back I9).2,w8⟩
  show codeAny (model X.prog X.w) X.A (.compStart (.ListComp elt [⟨tg,iter,ifs,0⟩] scope pos) 0 (.ref it) (.ref s.heap.objs.size) (compEnvC scope cl H2.objs.size X.env)) (RR (.ref s.heap.objs.size) H2.objs.size) _;rw [hC];exact codeAny_compStart_list (loop _ rfl) (T.self _ 0 _ _ _ (T.keep _ _ _ st (λ b _ o e=>old b o e)) (loop _ rfl))
theorem pe_comp {elt tg iter:Expr} {ifs:List Expr} {scope:Scope} {pos:Pos} {wi:TI} {g:TG} {tt:TT} {te:TE} (own:List Str) (cap:List Nat) (hc:X.calm=true) (hi:PI X tg iter wi)
    (hb:∀ cl s H fp C,PG (compCx X scope cl (capN X.N own cap) s H fp C) tg g∧PTs (compCx X scope cl (capN X.N own cap) s H fp C) ifs tt∧PE (compCx X scope cl (capN X.N own cap) s H fp C) elt te)
    (hS:compOk X.env.scope X.N scope cap=true:=by kernel_rfl) (hs:∀ x,foldedSetIterable iter X.env x=pure x:=by intro _;rfl) :
    PE X (.ListComp elt [⟨tg,iter,ifs,0⟩] scope pos) (tComp own.length cap wi g tt te):=by
  intro pins s σ H Q I h;have S:=compOk_of hS;obtain ⟨cl,c1,c2,c3⟩:=closure_of (scope:=scope) (env:=X.env) λ y hy hf=>I.ok.has y.1 (S.free y hy hf);rw [eval_ListComp];refine wpAny_comprehension_free (use:=none) rfl hs c1 S.kind S.names (thn (hi pins s σ H _ I h) λ v s1 h1=>thn h1 λ itv s2 h2=>?_);obtain ⟨it,fp,tn,J,H2,e,I2,T,st2,f2,R⟩:=h2;subst e;refine comp_block (Q:=Q) (RR:=λ acc C=>compPost (model X.prog X.w) X.A X.xe none (EP X pins σ Q) acc C) hc S c2 c3 hb I2 T st2 f2 R ?_;intro D C H' s' m I' hn hC q;refine ⟨m,hn,λ h' hs'=>⟨.ref D,H',?_,rfl,q⟩⟩;exact I'.turnedL (t':=s'.toks) (its:=[C]) (λ b o hb e=>hs'.extBut b o (by simpa using hb) e) (λ b hb=>by rw [List.mem_singleton.mp hb];exact hC)
theorem ps_setC {elt tg iter:Expr} {ifs:List Expr} {scope:Scope} {pos pos' spos:Pos} {wi:TI} {g:TG} {tt:TT} {te:TE} {i:Nat} {x:Str} (hN:X.N.Nodup) (hx:X.N[i]?=some x) (own:List Str) (cap:List Nat) (hc:X.calm=true) (hi:PI X tg iter wi)
    (hb:∀ cl s H fp C,PG (compCx X scope cl (capN X.N own cap) s H fp C) tg g∧PTs (compCx X scope cl (capN X.N own cap) s H fp C) ifs tt∧PE (compCx X scope cl (capN X.N own cap) s H fp C) elt te)
    (hl:X.env.scope.names.lookup x=some .local:=by rfl)
    (hsw:swapsWith (.ListComp elt [⟨tg,iter,ifs,0⟩] scope pos) (some (.Name x pos')) spos.line X.env=pure true:=by rfl)
    (hS:compOk X.env.scope X.N scope cap=true:=by kernel_rfl) (hs:∀ x,foldedSetIterable iter X.env x=pure x:=by intro _;rfl) :
    PS X (.Assign [.Name x pos'] (.ListComp elt [⟨tg,iter,ifs,0⟩] scope pos) spos) (tAsg (tComp own.length cap wi g tt te) (gName i)):=by
  intro pins s σ H D I h;have S:=compOk_of hS;obtain ⟨cl,c1,c2,c3⟩:=closure_of (scope:=scope) (env:=X.env) λ y hy hf=>I.ok.has y.1 (S.free y hy hf);rw [exec_Assign_Name_used _ _ _ _ hsw];refine wpAny_bind (wpAny_standAt (wpAny_bind ?_));show wpAny _ X.A (do let _ ← comprehension (.ListComp elt [⟨tg,iter,ifs,0⟩] scope pos) scope X.env _ (newList []) false (eval iter X.env) (some (assign (.Name x pos') X.env))) _ _ s
  refine wpAny_bind (wpAny_mono (wpAny_comprehension_free (use:=some (assign (.Name x pos') X.env)) (Q:=λ _ s'=>SP X pins D .next s') rfl hs c1 S.kind S.names (thn (hi pins s σ H _ I h) λ v s1 h1=>thn h1 λ itv s2 h2=>?_)) (λ _ s' hq=>wpAny_pure (wpAny_pure hq)) λ _ _ e=>e);obtain ⟨it,fp,tn,J,H2,e,I2,T,st2,f2,R⟩:=h2;subst e;refine comp_block (Q:=λ v H1=>D.nx (σ.set i (some v)) H1) (RR:=λ acc C=>compPost (model X.prog X.w) X.A X.xe (some (assign (.Name x pos') X.env)) (λ _ s'=>SP X pins D .next s') acc C) hc S c2 c3 hb I2 T st2 f2 R ?_;intro D' C H' s' m I' hn hC q;show wpAny _ X.A (assign (.Name x pos') X.env (.ref D')) _ _ _;refine wpAny_assign_Name (store_ok2 I' hN hx (.inl hl) (v:=.ref D') (u:=.ref D') rfl (λ s2 I2 ⟨a,hsb,ha⟩=>?_) (.inr hl));have hCa:C≠a:=by
    rcases ha with z | z
    · rw [z];exact hC.2.1
    · intro q';exact hC.2.2.2.2.1 x a z q'.symm
  refine ⟨m,hn.sameBut hsb hCa,λ h' hs'=>⟨σ.set i (some (.ref D')),H',?_,q⟩⟩;exact I2.turnedL (t':=s2.toks) (its:=[C]) (λ b o hb e=>hs'.extBut b o (by simpa using hb) e) (λ b hb=>by rw [List.mem_singleton.mp hb];exact hC)
end
end L2
namespace L2
open PySem PySem.Spec PyProof.Rows
section
variable {X:Cx}
theorem boolsAre_of:∀ {bs:List Bool} {us:List Value},Vals (bs.map V.bl) us→LSm.BoolsAre us bs
  | [],_,.nil=>.nil
  | b :: bs,_,.cons r t=>by
    cases (show _=Value.bool b from r);exact .cons b (boolsAre_of t)
theorem call_all_bools (hc:X.calm=true):CallR X (.builtin "all") (λ xs H Q=>∃ (p:Addr) (bs:List Bool),xs=[.ref p]∧SqL X.K H p (bs.map V.bl)∧Q (.bl (bs.all id)) H):=by
  intro pins s σ H xs us Q I r h;obtain ⟨p,bs,rfl,hq,q⟩:=h;obtain ⟨u,rfl,rx⟩:=vals1 r;cases rx;obtain ⟨its,rv,pl,hz⟩:=I.list hq;have hl:s.heap.IsList p its.toArray:=pl.isList;have hb:LSm.BoolsAre its bs:=boolsAre_of rv;have hlt:p < s.heap.objs.size:=by obtain ⟨_,e,_⟩:=hl;exact Heap.lt_size e
  refine call_all_walk (wpAny_pyIter_list hl ?_);refine ⟨s.heap.objs.size,[s.heap.objs.size,p],[s.heap.objs.size],its.toArray.size,_,_,λ i=>(bs[i]?).getD true,rfl,Walks.list (A:=X.A.in1) (I.ok.hd hc) _ p (Nat.ne_of_lt hlt) its.toArray,
    ⟨⟨_,Heap.get?_push_size _ rfl,rfl,rfl⟩,hl.push _⟩,λ i v s' Q' E' hP hQ=>?_,λ h' tk hk=>?_⟩
  · obtain ⟨b,e,rfl⟩:=hb.get i v (by simpa using hP);simp only [e,Option.getD_some] at hQ;exact wpAny_truthy_bool hQ
  · have e:((List.range its.toArray.size).all λ i=>(bs[i]?).getD true)=bs.all id:=by rw [List.size_toArray,hb.length];exact LSm.range_all bs
    rw [e];exact ⟨.bl _,H,I.kept (LSm.kept_iter hk),rfl,q⟩
theorem call_any_bools (hc:X.calm=true):CallR X (.builtin "any") (λ xs H Q=>∃ (p:Addr) (bs:List Bool),xs=[.ref p]∧SqL X.K H p (bs.map V.bl)∧Q (.bl (bs.any id)) H):=by
  intro pins s σ H xs us Q I r h;obtain ⟨p,bs,rfl,hq,q⟩:=h;obtain ⟨u,rfl,rx⟩:=vals1 r;cases rx;obtain ⟨its,rv,pl,hz⟩:=I.list hq;have hl:s.heap.IsList p its.toArray:=pl.isList;have hb:LSm.BoolsAre its bs:=boolsAre_of rv;have hlt:p < s.heap.objs.size:=by obtain ⟨_,e,_⟩:=hl;exact Heap.lt_size e
  refine call_any_walk (wpAny_pyIter_list hl ?_);refine ⟨s.heap.objs.size,[s.heap.objs.size,p],[s.heap.objs.size],its.toArray.size,_,_,λ i=>(bs[i]?).getD false,rfl,Walks.list (A:=X.A.in1) (I.ok.hd hc) _ p (Nat.ne_of_lt hlt) its.toArray,
    ⟨⟨_,Heap.get?_push_size _ rfl,rfl,rfl⟩,hl.push _⟩,λ i v s' Q' E' hP hQ=>?_,λ h' tk hk=>?_⟩
  · obtain ⟨b,e,rfl⟩:=hb.get i v (by simpa using hP);simp only [e,Option.getD_some] at hQ;exact wpAny_truthy_bool hQ
  · have e:((List.range its.toArray.size).any λ i=>(bs[i]?).getD false)=bs.any id:=by rw [List.size_toArray,hb.length];exact LSm.range_any bs
    rw [e];exact ⟨.bl _,H,I.kept (LSm.kept_iter hk),rfl,q⟩
theorem call_sum_ints (hc:X.calm=true):CallR X (.builtin "sum") (λ xs H Q=>∃ (p:Addr) (ns:List Int),xs=[.ref p]∧SqL X.K H p (ns.map V.int)∧Q (.int ns.sum) H):=by
  intro pins s σ H xs us Q I r h;obtain ⟨p,ns,rfl,hq,q⟩:=h;obtain ⟨u,rfl,rx⟩:=vals1 r;cases rx;obtain ⟨its,rv,pl,hz⟩:=I.list hq;have hi:IntsAre its ns:=intsAre_of rv;obtain ⟨ys,hx⟩:=hi.allInts.items;have hl':s.heap.IsList p (intItems ys):=hx ▸ pl.isList;refine sum_intListG (I.ok.hd hc) hl' λ h' tk t' hk=>?_;have e1:ns=ys.toList.map (·.1):=by
    rw [← nums_intItems,← hx];exact (show numsOf its.toArray.toList=ns from hi.numsOf).symm
  have e2:preSum (numAt ys) ys.size=ns.sum:=by
    rw [preSum_eq,List.take_of_length_le (by simp),e1]
  rw [e2];exact ⟨.int ns.sum,H,I.kept hk,⟨_,rfl⟩,q⟩
theorem call_isinst:CallR X (.builtin "isinstance") (λ xs H Q=>∃ x c t u b,xs=[x,c]∧(RelV c u∧∀ v,RelV c v→v=u)∧TyOf X.K H x t∧PySem.W.kitOne X.K t u=some b∧Q (.bl b) H):=by
  intro pins s σ H xs us Q I r h;obtain ⟨x,c,t,u,b,rfl,⟨rc,ru⟩,ty,hk,q⟩:=h;obtain ⟨v,w',rfl,rx,rc'⟩:=vals2 r;have e:=ru w' rc';subst e;exact isinst_ok I rx ty hk λ tk=>⟨.bl b,H,I.tok _,rfl,q⟩
noncomputable def Itr3 (lo c:Int) (n:Nat):It:=⟨λ i _=>i < n,λ i H x H'=>H'=H∧x = .int (lo + i * c),λ i _=>n≤i⟩
theorem turn_range3 {P:Program} {w:World} {K:PySem.W.Frag} {tg:Expr} (it:Addr) (lo c:Int) (n:Nat):Turn P w K tg (Itr3 lo c n) [it] it (λ i h=>IsRangeIter h it (lo + (i:Nat) * c) ((n:Int) - (i:Nat)) c) where
  mem:=by simp
  obj:=λ i h st b hb=>by
    have e:b=it:=by simpa using hb
    subst e;exact ⟨_,st,λ v z=>by
      have z':Data.fields _=Data.cell v:=z;cases z'⟩
  keep:=λ i h h' st k=>k it (by simp) _ st
  item:=by
    intro X hP hw hK hc i pins s σ H E I hf st hg;subst hP hw hK;obtain ⟨f0,f1,f2,f3,f4,f5⟩:=hf it (by simp);have W:=Walks.range (prog:=X.prog) (w:=X.w) (I.ok.hd hc) it lo c n;refine W.item i s _ _ hg st λ v h' tk hv st' kk=>?_;obtain ⟨t,rfl⟩:=hv;have I1:Inv X pins σ H { s with heap:=h',toks:=tk }:=I.turned (λ b o hb e=>kk b o (by simpa using hb) e) f0 f1 f3 f4 f5;exact ⟨_,rfl,go_of (s:={ s with heap:=h',toks:=tk }) (n:="range_iterator") st' rfl rfl (by decide) ⟨.int (lo + i * c),H,I1,⟨t,rfl⟩,⟨rfl,rfl⟩,st',λ b hb=>(hf b hb).1⟩⟩
  done:=by
    intro X hP hw hK hc i pins s σ H E I hf st hg;subst hP hw hK;obtain ⟨f0,f1,f2,f3,f4,f5⟩:=hf it (by simp);exact wpAny_pyNext_range_end (I.ok.hd hc) st (by have:n≤i:=hg;omega) λ h' eb=>⟨rfl,I.turned (t':=s.toks) (λ b o hb e=>eb b o hb e) f0 f1 f3 f4 f5⟩
  self:=λ _ _ _ _ _ st h=>wpAny_pyIter_rangeiter st h
noncomputable def steps (a b c:Int):Nat:=(Builtin.Range.rangeSize a b c).toNat
theorem small_three {a b c:Int} (ha:-(2 ^ 40)≤a) (ha':a < 2 ^ 40) (hb:-(2 ^ 40)≤b) (hb':b < 2 ^ 40) (hc:0 < c) (hc':c < 2 ^ 40):Builtin.Range.small a b c=true∧0≤Builtin.Range.rangeSize a b c:=by
  unfold Builtin.Range.small;have e:Builtin.Range.rangeSize a b c=if a < b then (b - a - 1) / c + 1 else 0:=by
    unfold Builtin.Range.rangeSize;rw [if_pos hc]
  have q:a < b→0≤(b - a - 1) / c∧(b - a - 1) / c≤b - a - 1:=λ h =>
    ⟨Int.ediv_nonneg (by omega) (by omega),Int.ediv_le_self _ (by omega)⟩
  rw [e];simp only [Builtin.Range.rangeFitsLong,Bool.and_eq_true,Bool.or_eq_true,decide_eq_true_eq,beq_iff_eq,if_pos hc]
  by_cases h:a < b
  · have:=q h;rw [if_pos h];omega
  · rw [if_neg h];omega
noncomputable def iRng3 (ta:TA):TI:=λ σ H R=>ta σ H λ vs H1=>∃ i j c:Int,vs=[.int i,.int j,.int c]∧(-(2 ^ 40)≤i∧i < 2 ^ 40∧-(2 ^ 40)≤j∧j < 2 ^ 40∧0 < c∧c < 1000000)∧R (Itr3 i c (steps i j c)) H1
theorem pi_range3 {tg a b c:Expr} {ta:TA} {p pos:Pos} (hg:Gl X "range") (hm:X.mg "range"=none) (ha:PA X [a,b,c] ta) (hs:starEach [a,b,c] X.env=[(false,eval a X.env),(false,eval b X.env),(false,eval c X.env)]:=by rfl)
    (hs2:starEach [b,c] X.env=[(false,eval b X.env),(false,eval c X.env)]:=by rfl):PI X tg (.Call (.Name "range" p) [a,b,c] [] pos) (iRng3 ta):=by
  intro pins s σ H R I h;refine Call_ (ld_blt I hg hm boot_range (PyProof.Rows.callWith_type1 (thn (ha pos pins s σ H _ I h) λ us s1 ⟨vs,H1,I1,r1,q1⟩=>?_) (by rw [hs,hs2]) (by rw [hs2];rfl)));obtain ⟨i,j,k,e,⟨q1,q2,q3,q4,q5,q6⟩,q⟩:=q1;subst e;cases r1 with
  | cons r rr =>
    cases rr with
    | cons r' rr =>
      cases rr with
      | cons r'' rr =>
        cases rr;obtain ⟨t,rfl⟩:=r;obtain ⟨t',rfl⟩:=r';obtain ⟨t'',rfl⟩:=r'';obtain ⟨sm,nn⟩:=small_three q1 q2 q3 q4 q5 (by omega:k < 2 ^ 40);refine call_range_3 (by omega) ?_ (.inl (PyProof.noPylong_small (by omega)));refine wpAny_pyIter_range (IsRange.new ..) sm ?_;have I2:Inv X pins σ H1 { s1 with heap:=s1.heap.push { cls:=.type "range",data:=.fields #[.int i t,.int j t',.int k t''] },toks:=s1.toks }:=I1.kept λ b o e=>Heap.get?_push_of_some _ e;refine ⟨(s1.heap.push { cls:=.type "range",data:=.fields #[.int i t,.int j t',.int k t''] }).objs.size,[(s1.heap.push { cls:=.type "range",data:=.fields #[.int i t,.int j t',.int k t''] }).objs.size],_,_,H1,rfl,
          I2.kept (t':=s1.toks) λ b o e=>Heap.get?_push_of_some _ e,turn_range3 _ i k (steps i j k),?_,λ b hb=>?_,q⟩
        · have e1:i + ((0:Nat):Int) * k=i:=by simp
          have e2:((steps i j k:Nat):Int) - ((0:Nat):Int)=Builtin.Range.rangeSize i j k:=by unfold steps;omega
          show IsRangeIter _ _ (i + ((0:Nat):Int) * k) (((steps i j k:Nat):Int) - ((0:Nat):Int)) k;rw [e1,e2];exact Heap.get?_push_size _ rfl
        · have e:b=(s1.heap.push { cls:=.type "range",data:=.fields #[.int i t,.int j t',.int k t''] }).objs.size:=by simpa using hb
          subst e;exact I2.fpOk (Nat.le_refl _) (I2.hok.fresh (Nat.le_refl _))
noncomputable def Itz (K:PySem.W.Frag) (a b:Addr):It :=
  ⟨λ i H=>∃ xs ys x y,SqL K H a xs∧SqL K H b ys∧xs[i]?=some x∧ys[i]?=some y,
   λ i H v H'=>∃ T x y,H T=none∧v = .ref T∧H'=upd H T (.tup [x,y])∧(∀ xs,SqL K H a xs→xs[i]?=some x)∧∀ ys,SqL K H b ys→ys[i]?=some y,
   λ i H=>∃ xs ys,SqL K H a xs∧SqL K H b ys∧(xs.length≤i∨ys.length≤i)⟩
theorem turn_zip {P:Program} {w:World} {K:PySem.W.Frag} {es:List Expr} {k:Nat} {tp:Pos} {z TI TO i1 i2:Addr} (a b:Addr) (D:ZipApart z TI TO i1 i2 a b) :
    Turn P w K (.Tuple es k tp) (Itz K a b) [z,TI,TO,i1,i2] z (λ i h=>IsZip h z TI TO .none∧IsPair h TI (.ref i1) (.ref i2)∧(∃ u v,IsPair h TO u v)∧h.IsListIter i1 a i∧h.IsListIter i2 b i) where
  mem:=by simp
  obj:=λ i h st c hc=>by
    obtain ⟨hz,hTI,⟨u,v,hTO⟩,⟨o1,e1,c1,d1⟩,⟨o2,e2,c2,d2⟩⟩:=st;simp only [List.mem_cons,List.not_mem_nil,or_false] at hc;rcases hc with rfl | rfl | rfl | rfl | rfl
    · exact ⟨_,hz,λ v q=>by have q':Data.fields _=Data.cell v:=q;cases q'⟩
    · exact ⟨_,hTI,λ v q=>by have q':Data.seq _ _=Data.cell v:=q;cases q'⟩
    · exact ⟨_,hTO,λ v q=>by have q':Data.seq _ _=Data.cell v:=q;cases q'⟩
    · exact ⟨o1,e1,λ v q=>by rw [d1] at q;cases q⟩
    · exact ⟨o2,e2,λ v q=>by rw [d2] at q;cases q⟩
  keep:=λ i h h' st k=>by
    obtain ⟨hz,hTI,⟨u,v,hTO⟩,h1,h2⟩:=st;exact ⟨k z (by simp) _ hz,k TI (by simp) _ hTI,⟨u,v,k TO (by simp) _ hTO⟩,h1.at λ o e=>k i1 (by simp) o e,h2.at λ o e=>k i2 (by simp) o e⟩
  item:=by
    intro X hP hw hK hc i pins s σ H E I hf st hg;subst hP hw hK;obtain ⟨hz,hTI,⟨u,v,hTO⟩,h1,h2⟩:=st;obtain ⟨xs,ys,x,y,qa,qb,hx,hy⟩:=hg;obtain ⟨its,rv,pl,hzl⟩:=I.list qa;obtain ⟨jts,rw',pl',hzl'⟩:=I.list qb;obtain ⟨ux,hux,rux⟩:=rv.get hx;obtain ⟨uy,huy,ruy⟩:=rw'.get hy;refine wpAny_pyNext_zip_item D hz hTI hTO h1 h2 pl.isList pl'.isList (x:=ux) (y:=uy) (by simpa using hux) (by simpa using huy) λ h' a1 a2 a3 a4 a5 a6 hk=>?_;have nin:∀ b,b∉[z,TI,TO,i1,i2]→b≠z∧b≠TO∧b≠i1∧b≠i2:=λ b hb=>by
      simp only [List.mem_cons,List.not_mem_nil,or_false,not_or] at hb;exact ⟨hb.1,hb.2.2.1,hb.2.2.2.1,hb.2.2.2.2⟩
    have I1:Inv X pins σ H { s with heap:=h',toks:=s.toks }:=I.turnedL (its:=[z,TI,TO,i1,i2]) (λ b o hb e=>hk b o (nin b hb).1 (nin b hb).2.1 (nin b hb).2.2.1 (nin b hb).2.2.2 e) hf;have ht':H s.heap.objs.size=none:=I.hok.fresh (Nat.le_refl _);refine ⟨.ref s.heap.objs.size,rfl,wpAny_letOwnedTupleGo_zip a1 λ h'' hz' hs'=>?_⟩;have neq:s.heap.objs.size≠z:=Nat.ne_of_gt (Heap.lt_size hz);have I2:Inv X pins σ H { s with heap:=h'',toks:=s.toks }:=I1.turnedL (its:=[z,TI,TO,i1,i2]) (λ b o hb e=>hs'.extBut b o (nin b hb).1 e) hf;have hT2:IsPair h'' s.heap.objs.size ux uy:=hs'.extBut _ _ neq a5;refine ⟨.ref s.heap.objs.size,upd H s.heap.objs.size (.tup [x,y]),?_,rfl,⟨_,x,y,ht',rfl,rfl,λ xs' q=>by rw [I.list_inj q qa];exact hx,λ ys' q=>by rw [I.list_inj q qb];exact hy⟩,
      ⟨hz',hs'.extBut _ _ D.TIz (hk _ _ D.TIz D.TITO D.TIi1 D.TIi2 hTI),⟨_,_,hs'.extBut _ _ D.TOz a2⟩,a3.extBut hs'.extBut D.i1z,a4.extBut hs'.extBut D.i2z⟩,λ b hb=>?_⟩
    · -- from s,in one step: the pair is new there
      have old:∀ b o,b∉[z,TI,TO,i1,i2]→s.heap.get? b=some o→h''.get? b=some o:=λ b o hb e=>hs'.extBut b o (nin b hb).1 (hk b o (nin b hb).1 (nin b hb).2.1 (nin b hb).2.2.1 (nin b hb).2.2.2 e);have new:ObjOk X.prog X.w (upd H s.heap.objs.size (.tup [x,y])) h'' s.heap.objs.size (.tup [x,y]) :=
        ⟨by show 2≤sizeLine;rw [sizeLine_eq];decide,[ux,uy],.cons rux (.cons ruy .nil),⟨_,hT2,rfl,0,rfl⟩⟩
      have nit:∀ b u,H b=some u→b∉[z,TI,TO,i1,i2]:=λ b u e q=>by rw [(hf b q).1] at e;cases e
      have nT:∀ b o,s.heap.get? b=some o→b≠s.heap.objs.size:=λ b o e=>Nat.ne_of_lt (Heap.lt_size e);have nH:∀ b u,H b=some u→b≠s.heap.objs.size:=λ b u e q=>by rw [q,ht'] at e;cases e
      suffices J:Inv X pins σ (upd H s.heap.objs.size (.tup [x,y])) { s with heap:=h'',gens:=s.gens,drawn:=s.drawn,toks:=s.toks } from J
      refine I.step (g':=s.gens) (d':=s.drawn) (t':=s.toks) (ch:=[z,TI,TO,i1,i2]) (λ b hb=>?_) (λ b o _ _ hc' e _=>old b o hc' e) (λ b o _ _ hc' e _=>⟨o.slots,old b o hc' e⟩) (λ b o _ e n=>by rw [upd_ne (nT b o e)];exact n)
        (λ b o hc' e=>⟨o,old b o hc' e⟩) (λ b xs' e=>by rw [upd_ne (nH b _ e)];exact e) (λ b o u' e=>by rw [upd_ne (nH b _ e)];exact e) (λ b ps e=>⟨#[],by rw [upd_ne (nH b _ e),e];simp⟩) (λ m hm=>?_) (λ b u' e=>?_) I.bare
      · obtain ⟨_,f1,_,f3,f4,f5⟩:=hf b hb;exact ⟨f3,f1,f4,f5⟩
      · obtain ⟨o,es',ep,ho,r⟩:=hm;exact ⟨o,es',ep,old _ o (λ q=>(hf _ q).2.1 rfl) ho,r⟩
      · by_cases hb:b=s.heap.objs.size
        · subst hb;rw [upd_same] at e;cases e;exact new
        · rw [upd_ne hb] at e;refine (I.hok b u' e).stay (λ c v' hc' q=>old c v' ?_ q) (λ c q=>by rw [upd_ne (nH c _ q)];exact q) λ c xs' q=>by rw [upd_ne (nH c _ q)];exact q
          rcases hc' with q' | q'
          · rw [q'];exact nit b u' e
          · exact nit c _ q'
    · have hb':b≠s.heap.objs.size:=by
        intro q;have ol:=hf b hb;rw [q] at hb;simp only [List.mem_cons,List.not_mem_nil,or_false] at hb;have l1:=Heap.lt_size hz;have l2:=Heap.lt_size hTI;have l3:=Heap.lt_size hTO;obtain ⟨_,l4,_⟩:=h1;obtain ⟨_,l5,_⟩:=h2;have l4':=Heap.lt_size l4;have l5':=Heap.lt_size l5;rcases hb with q | q | q | q | q
        · exact Nat.ne_of_gt l1 q
        · exact Nat.ne_of_gt l2 q
        · exact Nat.ne_of_gt l3 q
        · exact Nat.ne_of_gt l4' q
        · exact Nat.ne_of_gt l5' q
      rw [upd_ne hb'];exact (hf b hb).1
  done:=by
    intro X hP hw hK hc i pins s σ H E I hf st hg;subst hP hw hK;obtain ⟨hz,hTI,⟨u,v,hTO⟩,h1,h2⟩:=st;obtain ⟨xs,ys,qa,qb,hend⟩:=hg;obtain ⟨its,rv,pl,hzl⟩:=I.list qa;obtain ⟨jts,rw',pl',hzl'⟩:=I.list qb;have la:=rv.length;have lb:=rw'.length;refine wpAny_pyNext_zip_end (I.ok.hd hc) D hz hTI hTO h1 h2 pl.isList pl'.isList ?_ λ h' hk=>⟨rfl,?_⟩
    · rcases hend with q | q
      · exact .inl (by rw [List.getElem?_toArray];exact List.getElem?_eq_none (by omega))
      · exact .inr (by rw [List.getElem?_toArray];exact List.getElem?_eq_none (by omega))
    · refine I.turnedL (t':=s.toks) (its:=[z,TI,TO,i1,i2]) (λ b o hb e=>?_) hf;simp only [List.mem_cons,List.not_mem_nil,or_false,not_or] at hb;exact hk b o hb.1 hb.2.2.1 hb.2.2.2.1 hb.2.2.2.2 e
  self:=λ _ _ _ _ _ st h=>wpAny_pyIter_zip st.1 h
theorem zip_apart (n a b:Nat) (ha:a < n) (hb:b < n):ZipApart (n + 4) (n + 2) (n + 3) n (n + 1) a b:=by
  constructor<;>(intro q;have q':@Eq Nat _ _:=q;omega)
noncomputable def iZip (K:PySem.W.Frag) (ta:TA):TI:=λ σ H R=>ta σ H λ vs H1=>∃ a b,vs=[.ref a,.ref b]∧(∃ xs,SqL K H1 a xs)∧(∃ ys,SqL K H1 b ys)∧R (Itz K a b) H1
theorem pi_zip {es:List Expr} {k:Nat} {tp:Pos} {a b:Expr} {ta:TA} {p pos:Pos} (hg:Gl X "zip") (hm:X.mg "zip"=none) (ha:PA X [a,b] ta) (hs:starEach [a,b] X.env=[(false,eval a X.env),(false,eval b X.env)]:=by rfl)
    (hs2:starEach [b] X.env=[(false,eval b X.env)]:=by rfl):PI X (.Tuple es k tp) (.Call (.Name "zip" p) [a,b] [] pos) (iZip X.K ta):=by
  intro pins s σ H R I h;refine Call_ (ld_blt I hg hm boot_zip (PyProof.Rows.callWith_type1 (thn (ha pos pins s σ H _ I h) λ us s1 ⟨vs,H1,I1,r1,q1⟩=>?_) (by rw [hs,hs2]) (by rw [hs2];rfl)));obtain ⟨a,b,e,⟨xs,qa⟩,⟨ys,qb⟩,q⟩:=q1;subst e;cases r1 with
  | cons r rr =>
    cases rr with
    | cons r' rr =>
      cases rr;cases r;cases r';obtain ⟨its,rv,pl,hzl⟩:=I1.list qa;obtain ⟨jts,rw',pl',hzl'⟩:=I1.list qb;have la:a < s1.heap.objs.size:=by obtain ⟨_,e,_⟩:=pl.isList;exact Heap.lt_size e
      have lb:b < s1.heap.objs.size:=by obtain ⟨_,e,_⟩:=pl'.isList;exact Heap.lt_size e
      have D:ZipApart (s1.heap.objs.size + 4) (s1.heap.objs.size + 2) (s1.heap.objs.size + 3) s1.heap.objs.size (s1.heap.objs.size + 1) a b:=zip_apart _ _ _ la lb;refine call_zip_2 pl.isList pl'.isList λ h' hz hTI hTO h1 h2 hsz hk=>wpAny_pyIter_zip hz ?_;have I2:Inv X pins σ H1 { s1 with heap:=h' }:=I1.kept (t':=s1.toks) hk;refine ⟨s1.heap.objs.size + 4,[s1.heap.objs.size + 4,s1.heap.objs.size + 2,s1.heap.objs.size + 3,s1.heap.objs.size,s1.heap.objs.size + 1],_,_,H1,rfl,I2,turn_zip a b D,⟨hz,hTI,⟨_,_,hTO⟩,h1,h2⟩,λ c hc=>?_,q⟩;have hge:s1.heap.objs.size≤c:=by
        simp only [List.mem_cons,List.not_mem_nil,or_false] at hc;rcases hc with rfl | rfl | rfl | rfl | rfl<;>omega
      exact I1.fpOk hge (I1.hok.fresh hge)
end
end L2
namespace L2
open PySem PySem.Spec PyProof.Rows
noncomputable def C2 (h:Heap) (e:Addr):Prop:=∃ o vs,h.get? e=some o∧o.data = .fields vs∧vs[2]?=some Value.none
noncomputable def HC (B:Heap) (l:List Env) (e:Addr) (k a0 fl:Value) (h:Heap):Prop:=(B.StaysIn h∧B.get? e=none∧h.FunFrames B l∧h.TracedAtW B e k a0 fl)∧C2 h e
theorem HC.tail {B:Heap} {env:Env} {l:List Env} {e:Addr} {k a0 fl:Value} {h:Heap} (x:HC B (env :: l) e k a0 fl h):HC B l e k a0 fl h:=⟨⟨x.1.1,x.1.2.1,x.1.2.2.1.2.2,x.1.2.2.2⟩,x.2⟩
theorem C2.at_ {h h':Heap} {e:Addr} (c:C2 h e) (k:∀ o,h.get? e=some o→h'.get? e=some o):C2 h' e:=by
  obtain ⟨o,vs,h1,h2⟩:=c;exact ⟨o,vs,k o h1,h2⟩
theorem turn_other {h:Heap} {T:Addr} {oT:Obj} {ts:Array Value} (hT:h.get? T=some oT) (dT:oT.data = .fields ts) (f:Array Value→Array Value) {b:Addr} {o:Obj} (hb:h.get? b=some o) (nf:∀ vs,o.data≠.fields vs):(h.update T (Obj.mapFields f)).get? b=some o:=by
  have ne:T≠b:=λ q=>by
    rw [q,hb] at hT;cases hT;exact nf ts dT
  exact (Heap.get?_update_other _ _ ne).trans hb
section
variable {M:Model} {A:Around} {E:Value→Shared→Prop} {s:Shared} {B:Heap} {env:Env} {outer l:List Env} {L e:Addr} {k a0 fl:Value} {Q:Unit→Shared→Prop}
theorem flightC (x:Option Addr) (hh:HC B l e k a0 fl s.heap) (hQ:∀ h',HC B l e k a0 (x.elim Value.none λ f=>rawInt f) h'→s.heap.UpToSlots h'→Q () { s with heap:=h' }):wpAny M A (setFlight (.ref e) x) Q E s:=by
  obtain ⟨⟨kb,en,ff,oe,vs,T,oT,ts,he,hk,dE,e1,nT,tE,hT,dT,t3⟩,c⟩:=hh;have z3:3 < ts.size:=(Array.getElem?_eq_some_iff.mp t3).1;unfold setFlight;refine wpAny_bind (wpAny_field he dE e1 ?_);rw [if_pos (by simp:(Value.ref T != Value.none)=true)];refine wpAny_setField hT dT z3 (hQ _ ?_ λ b o hb nf=>⟨o.slots,turn_other hT dT _ hb nf⟩);have oth:∀ b,b≠T→(s.heap.update T (Obj.mapFields (·.setIfInBounds 3 (x.elim Value.none λ f=>rawInt f)))).get? b=s.heap.get? b:=λ b hb=>Heap.get?_update_other _ _ (Ne.symm hb);refine ⟨⟨λ b o hb=>(oth b ?_).trans (kb b o hb),en,ff.of_keeps λ b o hb nf=>⟨o,turn_other hT dT _ hb nf,rfl⟩,
    ⟨oe,vs,T,_,_,(oth e (Ne.symm tE)).trans he,hk,dE,e1,nT,tE,Heap.get?_update_self _ hT (Obj.isFreed_of_fields (Obj.data_mapFields dT _)),Obj.data_mapFields dT _,by simp [z3]⟩⟩,c.at_ λ o q=>(oth e (Ne.symm tE)).trans q⟩
  rintro rfl;rw [nT] at hb;cases hb
theorem entryC {oe:Obj} {vs:Array Value} {hd:Value} {hn:Bool} (hfr:A.frames=some (env :: outer)) (hf:env.frame=some L) (kb:B.StaysIn s.heap) (en:B.get? e=none) (ff:s.heap.FunFrames B (env :: outer))
    (he:s.heap.get? e=some oe) (dE:oe.data = .fields vs) (z0:vs[0]?=some a0) (z2:vs[2]?=some Value.none) (hQ:∀ h',HC B (env :: outer) e oe.cls a0 (rawInt L) h'→s.heap.UpToSlots h'→Q () { s with heap:=h' }) :
    wpAny M A (do let a ← frameOf env;let pl ← entryPlaceOf L hn;let b ← EntryCells.newEntry hd a .none (rawInt L) .none pl;setField (.ref e) 1 b) Q E s:=by
  have nfr:e∉(env :: outer).filterMap (·.frame):=λ m=>by
    obtain ⟨_,o,q,d⟩:=ff.mem m;rw [he] at q;cases q;exact d vs dE
  refine wpAny_bind (wpAny_frameOf_fun hfr ff hf λ g sg=>wpAny_bind (wpAny_entryPlaceOf λ pl hpl=>?_));have zs:2 < vs.size:=(Array.getElem?_eq_some_iff.mp z2).1;unfold EntryCells.newEntry newFields;refine wpAny_bind (wpAny_newObj_type ?_ (hpl.sizeOk5 _ _ _ _ _));have dtb:([hd,Value.ref L,Value.none,rawInt L,Value.none] ++ (if pl.isEmpty then List.replicate 6 Value.none else pl)).toArray[3]?=some (rawInt L):=by
    simp
  dsimp only;generalize ([hd,Value.ref L,Value.none,rawInt L,Value.none] ++ (if pl.isEmpty then List.replicate 6 Value.none else pl)).toArray=ts at dtb ⊢;have ge:g.get? e=some oe:=(sg.2.1 e nfr).trans he;have gT:g.objs.size≠e:=Nat.ne_of_gt (Heap.lt_size ge);have gB:B.StaysIn g:=λ b o q=>(sg.2.1 b λ m=>by rw [(ff.mem m).1] at q;cases q).trans (kb b o q);refine wpAny_setField (Heap.get?_push_of_some _ ge) dE (by omega) (hQ _ ?_ λ b o hb nf=>?_)
  · have keep:∀ b o,b≠e→g.get? b=some o→((g.push { cls:=.type "traceback",dict:=none,data:=.fields ts }).update e (Obj.mapFields (·.setIfInBounds 1 (Value.ref g.objs.size)))).get? b=some o:=λ b o hb q =>
      (Heap.get?_update_other _ _ (Ne.symm hb)).trans (Heap.get?_push_of_some _ q)
    have dm:=Obj.data_mapFields dE (·.setIfInBounds 1 (Value.ref g.objs.size));have self:=Heap.get?_update_self (Obj.mapFields (·.setIfInBounds 1 (Value.ref g.objs.size))) (Heap.get?_push_of_some { cls:=.type "traceback",dict:=none,data:=.fields ts } ge) (Obj.isFreed_of_fields dm);refine ⟨⟨λ b o q=>keep b o (λ z=>by rw [z,en] at q;cases q) (gB b o q),en,ff.of_keeps λ b o hb nf=>?_,⟨_,_,g.objs.size,{ cls:=.type "traceback",dict:=none,data:=.fields ts },ts,self,⟨Obj.cls_mapFields _ _,?_⟩,dm,?_,gB.fresh,gT,?_,rfl,dtb⟩⟩,⟨_,_,self,dm,?_⟩⟩
    · obtain ⟨sl,q⟩:=sg.2.2 b o hb;refine ⟨_,keep b _ (λ z=>?_) q,rfl⟩;rw [z,he] at hb;cases hb;exact nf vs dE
    · rw [Array.getElem?_setIfInBounds_ne (by decide)];exact z0
    · rw [Array.getElem?_setIfInBounds_self_of_lt (by omega)]
    · exact (Heap.get?_update_other _ _ (Ne.symm gT)).trans (Heap.get?_push_size _ rfl)
    · rw [Array.getElem?_setIfInBounds_ne (by decide)];exact z2
  · obtain ⟨sl,q⟩:=sg.2.2 b o hb;have nb:b≠e:=λ z=>by
      rw [z,he] at hb;cases hb;exact nf vs dE
    exact ⟨sl,(Heap.get?_update_other _ _ (Ne.symm nb)).trans (Heap.get?_push_of_some _ q)⟩
theorem leave_newC {h:Heap} {vs:List Value} (hfr:A.frames=some (env :: outer)) (hf:env.frame=some L) (kb:B.StaysIn h) (ff:h.FunFrames B (env :: outer)) (hx:Heap.MadeExcOf h s.heap e k vs)
    (hQ:∀ h' t,HC B outer e k (.ref t) .none h'→s.heap.UpToSlots h'→Q () { s with heap:=h' }):wpAny M A (leaving env (.ref e)) Q E s:=by
  obtain ⟨t,he,_,_⟩:=hx.there;have en:B.get? e=none:=PySem.W.fresh_of_stays kb hx.new;unfold leaving;refine wpAny_bind ?_;unfold noteFrame;simp only [hf];refine wpAny_bind (wpAny_field he rfl (x:=Value.none) rfl ?_);rw [if_neg (by decide)];exact entryC (a0:=.ref t) hfr hf (λ b o q=>hx.keeps b o (kb b o q)) en (ff.of_keeps λ b o q _=>⟨o,hx.keeps b o q,rfl⟩) he rfl rfl rfl λ h1 x1 u1 =>
    flightC (s:={ s with heap:=h1 }) none x1 λ h2 x2 u2=>hQ h2 t x2.tail (u1.trans u2)
end
end L2
namespace L2
open PySem PySem.Spec PyProof.Rows
theorem ObjOk.ex {P:Program} {w:World} {H:Hp} {h:Heap} {a:Addr} {o:HO} (x:ObjOk P w H h a o):∃ ob,h.get? a=some ob:=by
  cases o with
  | lst xs=>obtain ⟨_,_,_,_,e⟩:=x;exact ⟨_,e⟩
  | tup xs=>obtain ⟨_,_,_,ob,e,_⟩:=x;exact ⟨ob,e⟩
  | dK kvs=>obtain ⟨_,_,_,_,o,_,_,e,_⟩:=x;exact ⟨o,e⟩
  | dT kvs=>obtain ⟨_,_,_,_,o,_,_,e,_⟩:=x;exact ⟨o,e⟩
  | set S n=>obtain ⟨o,_,_,_,e,_⟩:=x;exact ⟨o,e⟩
  | ins C dx fs=>obtain ⟨_,_,_,e,_⟩:=x;exact ⟨_,e⟩
  | own y=>exact x
  | xd fs=>obtain ⟨_,⟨o,_,_,e,_⟩,_⟩:=x;exact ⟨o,e⟩
  | rng lo hi=>obtain ⟨_,_,_,e⟩:=x;exact ⟨_,e⟩
  | frz ob u=>obtain ⟨e,_⟩:=x;exact ⟨_,e⟩
  | tbl ps=>exact ⟨_,(show h.get? a=some _ from x)⟩
  | met f y=>exact ⟨_,(show h.get? a=some _ from x)⟩
  | ext φ=>obtain ⟨_,e,_⟩:=x;exact e
structure Fly (P:Program) (w:World) (outer:List Env) (H:Hp) (s:Shared) (C:Addr) (e:Value) (H':Hp) (s':Shared):Prop where
  os:s'.os=s.os
  bare:AllBare s'.gens
  un:Un (frs outer) [] H H' s.heap s'.heap
  hok:HOk P w H' s'.heap
  fl:∃ (ea t:Addr) (B:Heap),e = .ref ea∧HC B outer ea (.ref C) (.ref t) .none s'.heap∧(∀ b o,s.heap.get? b=some o→b∉frs outer→∃ o',B.get? b=some o') ∧
    ∀ b u,H' b=some u→∃ o,B.get? b=some o
noncomputable abbrev CXE (P:Program) (w:World):CXT:=λ outer H s E e s'=>∃ C H',Fly P w outer H s C e H' s'∧E (.ref C) none H'
section
variable {X:Cx} {M:Model} {pins:List (Addr×Obj)} {σ:St} {H H':Hp} {s s':Shared} {C:Addr} {Q:Unit→Shared→Prop} {E':Value→Shared→Prop}
theorem Inv.notStack (I:Inv X pins σ H s) {b:Addr} {o:Obj} (e:X.s₀.heap.get? b=some o) (hb:b∉X.fs):b∉frs X.stack:=λ z=>by
  rcases List.mem_cons.mp (I.stkSub b z) with q | q
  · exact absurd (Nat.lt_of_lt_of_le (Heap.lt_size e) I.ok.above) (by rw [q];exact Nat.lt_irrefl _)
  · exact hb q
theorem Inv.frData (I:Inv X pins σ H s) {b:Addr} (hb:b∈frs X.stack):∃ o,s.heap.get? b=some o∧∀ vs,o.data≠.fields vs:=(I.stack.mem hb).2
theorem fly_made {h':Heap} {e:Addr} {vs:List Value} (I:Inv X pins σ H s) (hst:X.stack=X.env :: X.outer) (hfr:X.env.frame=some X.env.locals) (hex:X.ex=[]) (hx:Heap.MadeExcOf s.heap h' e (.ref C) vs)
    (hQ:∀ h'',Fly X.prog X.w X.outer X.H₀ X.s₀ C (.ref e) H { s with heap:=h'' }→Q () { s with heap:=h'' }):wpAny M X.A (leaving X.env (.ref e)) Q E' { s with heap:=h' }:=by
  have hfrm:X.A.frames=some (X.env :: X.outer):=by rw [← hst];exact I.ok.frames
  have nex:∀ b:Addr,b∉X.ex:=λ b z=>by rw [hex] at z;cases z
  have sub:∀ b,b∈X.fs→b∈frs X.stack:=λ b hb=>by
    have hb':b∈X.outer.filterMap (·.frame):=hb;show b∈X.stack.filterMap (·.frame);rw [hst,List.filterMap_cons,hfr];exact List.mem_cons_of_mem _ hb'
  have hkb:(PySem.W.hideAll s.heap (frs X.stack)).StaysIn s.heap:=λ b o q=>PySem.W.of_hideAll _ q;have hl:s.heap.FunFrames (PySem.W.hideAll s.heap (frs X.stack)) (X.env :: X.outer):=by
    rw [← hst];exact PySem.W.funFrames_hide I.stack λ env he a ha=>List.mem_filterMap.mpr ⟨env,he,ha⟩
  refine leave_newC (s:={ s with heap:=h' }) hfrm hfr hkb hl hx λ h'' t fl ups=>hQ h'' ?_;have toB:∀ b o,s.heap.get? b=some o→b∉frs X.stack→h''.get? b=some o:=λ b o q n=>fl.1.1 b o (PySem.W.hideAll_get _ q n);have toS:∀ b o,s.heap.get? b=some o→b∈frs X.stack→∃ sl,h''.get? b=some { o with slots:=sl }:=λ b o q m=>by
    obtain ⟨o',q',d⟩:=I.frData m;rw [q] at q';cases q';exact ups b o (hx.keeps b o q) d
  have trk:∀ b u,H b=some u→b∉frs X.stack:=λ b u q m=>by rw [I.stkFree b m] at q;cases q
  refine ⟨I.os,I.bare,⟨λ b o q n hb _=>?_,λ b o q n hb _=>?_,λ b o q n _=>I.base.free b o q n (nex b),λ b o q _=>?_,I.base.tups,I.base.frzs,I.base.tbls⟩,λ b u q=>?_,e,t,_,rfl,fl,λ b o q hb=>?_,λ b u q=>?_⟩
  · exact toB b o (I.base.keep b o q n hb (nex b)) (I.notStack q hb)
  · obtain ⟨sl,q1⟩:=I.base.slot b o q n hb (nex b);obtain ⟨sl',q2⟩:=toS b _ q1 (sub b hb);exact ⟨sl',q2⟩
  · obtain ⟨o',q1⟩:=I.base.there b o q (nex b)
    by_cases m:b∈frs X.stack
    · obtain ⟨sl,q2⟩:=toS b o' q1 m;exact ⟨_,q2⟩
    · exact ⟨o',toB b o' q1 m⟩
  · refine (I.hok b u q).stay (λ c v hc r=>toB c v r ?_) (λ _ r=>r) λ _ _ r=>r;rcases hc with z | z
    · rw [z];exact trk b u q
    · exact trk c _ z
  · obtain ⟨o',q1⟩:=I.base.there b o q (nex b);exact ⟨o',PySem.W.hideAll_get _ q1 (I.notStack q hb)⟩
  · obtain ⟨ob,q1⟩:=(I.hok b u q).ex;exact ⟨ob,PySem.W.hideAll_get _ q1 (trk b u q)⟩
end
noncomputable def Raises (X:Cx) (C:Addr) (E:XK):Prop:=∀ (pins:List (Addr×Obj)) (σ:St) (H:Hp) (s:Shared) (h':Heap) (e:Addr) (vs:List Value),Inv X pins σ H s→Heap.MadeExcOf s.heap h' e (.ref C) vs→E (.ref C) none H→X.xe (.ref e) { s with heap:=h' }
theorem raiseE {P:Program} {w:World} {K:PySem.W.Frag} {mg:Str→Option Value} {base:Heap} {N:List Str} {qual:Str} {scope:Scope} {f:Addr} {cd:Value} {A:Around} {outer:List Env} {s:Shared} {H:Hp} {E:XK} {C:Addr} :
    Raises (cxOf (CXE P w) P w K mg base N qual scope f cd A outer s H E) C E:=by
  intro pins σ H1 s1 h' e vs I hx q;exact fly_made (X:=cxOf (CXE P w) P w K mg base N qual scope f cd A outer s H E) I rfl rfl rfl hx λ h'' F'=>⟨C,H1,F',q⟩
theorem exc_obj {K:PySem.W.Frag} {h:Heap} {C:Addr} {bmB:List Value} {newId:String} (X:K.In h) (q:PySem.W.excIn K C bmB newId=true) :
    ∃ bm N nm qn bs hdct sn sub ab col dd k0 k1 k2 k3 k5 mN,h.get? C=some (excClassObj nm qn C N bs bm hdct sn sub ab col dd k0 k1 k2 k3 k5 newId)∧h.Ns N mN∧mN "__init__"=none∧OwnTail h bmB bm:=by
  unfold PySem.W.excIn at q;split at q
  · rename_i dd cd sl ho
    split at q
    · rename_i C' bm k0 k1 k2 k3 n k5 hm hs
      simp only [Bool.and_eq_true,beq_iff_eq,Bool.not_eq_true'] at q;obtain ⟨⟨⟨⟨⟨rfl,rfl⟩,hdel⟩,ht⟩,hok⟩,hni⟩:=q;obtain ⟨nm,bs,mro,ns,qn,hd,sn,sub,ab,col,del⟩:=cd;dsimp only at hm hdel hok hni;subst hm hdel;have hsl:sl = #[k0,k1,k2,k3,some (.builtin n),k5]:=by
        obtain ⟨l⟩:=sl;simp only at hs;rw [hs]
      subst hsl;exact ⟨bm,ns,nm,qn,bs,hd,sn,sub,ab,col,dd,k0,k1,k2,k3,k5,_,X _ _ ho,.of_isNs (PySem.W.isNs_of_in X hok),PySem.W.nsMap_none_of_in X hok hni,PySem.W.tail_of_in X ht⟩
    · cases q
  · cases q
section
variable {X:Cx} {C:Addr} {bmB:List Value} {B newId initId:String} {x:Str} {np cpos pos:Pos} {e:Expr} {es:List Expr} {t:TA} {E:XK}
theorem ps_raise (FB:ExcBaseFacts B newId initId bmB) (hx:PySem.W.excIn X.K C bmB newId=true) (hc:X.calm=true) (hg:Gl X x) (hm:X.mg x=some (.ref C)) (ha:PA X (e :: es) t) (hR:Raises X C E)
    (hd:(x == ("__debug__":Str))=false:=by decide) (he:starEach (e :: es) X.env=(false,eval e X.env) :: starEach es X.env:=by rfl) (hpl:(backTo cpos (starEach es X.env)).any (·.1)=false:=by rfl) :
    PS X (.Raise (some (.Call (.Name x np) (e :: es) [] cpos)) none pos) (λ _ σ H=>t σ H λ vs H1=>vs.length≤sizeLine∧E (.ref C) none H1):=by
  intro pins s σ H D I h;obtain ⟨tl,N,nm,q,bs,hdct,sn,sub,ab,col,dd,k0,k1,k2,k3,k5,mN,hC,hN,hni,T⟩:=exc_obj (h:=X.base) I.mod.kin hx;refine wpAny_Raise_call_subT (C:=C) (nm:=nm) (q:=q) (N:=N) (bs:=bs) (bm:=tl) (hdct:=hdct) (sn:=sn) (sub:=sub) (ab:=ab) (col:=col) (dd:=dd) (k0:=k0) (k1:=k1) (k2:=k2) (k3:=k3) (k5:=k5)
    FB (mN:=mN) (T.hasType FB.hasBase) (I.ok.hd hc) (by rw [he];show (false || (backTo cpos (starEach es X.env)).any (·.1))=false;rw [hpl];rfl) hni (ld_glob I hg hm ⟨rfl,?_⟩ hd)
  have h0:=thn (ha cpos pins s σ H _ I h) (Q':=λ vs s₂=>vs.length≤sizeLine∧(∀ b o,X.base.get? b=some o→s₂.heap.get? b=some o)∧∀ h' e,Heap.MadeExcOf s₂.heap h' e (.ref C) vs→X.xe (.ref e) { s₂ with heap:=h' })
    λ us s1 ⟨vs,H1,I1,r1,q1,q2⟩=>⟨by rw [← r1.length];exact q1,I1.bk,λ h' e hx'=>hR pins σ H1 s1 h' e us I1 hx' q2⟩
  rw [he] at h0 ⊢;exact Calls.evalArgs_plain (wpAny_mono h0 (λ vs s₂ h₂=>⟨rfl,h₂.1,h₂.2.1 _ _ hC,hN.keeps h₂.2.1,T.keeps h₂.2.1,h₂.2.2⟩) λ _ _ y=>y)
end
theorem Fun.okE {P:Program} {w:World} {K:PySem.W.Frag} {mg:Str→Option Value} {base:Heap} {x qual:Str} {st:Stmt} {f:Addr} {fd:FuncData} {N ps:List Str} {k:Nat} {sp:Sp} (F:Fun K x qual st f fd) (S:FnScope N ps (defScope st)) (len:∀ vs H Q E,sp vs H Q E→vs.length=ps.length)
    (hbody:∀ (cdv:Value) (A:Around) (outer:List Env) (s:Shared) (H:Hp) (vs:List V) (Q:VK) (E:XK),Room k (A.deeper (envOfC qual (defScope st) s.heap.objs.size f cdv))→sp vs H Q E →
      ∃ t,PSs (cxOf (CXE P w) P w K mg base N qual (defScope st) f cdv A outer s H E) (defBody st) t∧t { nx:=λ _ H'=>Q .non H',rt:=Q } (start N vs) H):FnOk P w K mg base (CXE P w) (k + 1) f fd ps sp:=by
  obtain ⟨oc,od,kV,doc,pm,an,cdv,ct,osl,rfl,lk,hcd⟩:=F.ex;exact fn_of lk hcd S len λ A outer s H vs Q E hr hsp=>hbody cdv A outer s H vs Q E hr hsp
section
variable {X:Cx} {k:Nat} {f:Addr} {fd:FuncData} {ps:List Str} {sp:Sp} {dvs:List V} {ds:List Value} {x:Str} {p pos:Pos} {e:Expr} {es:List Expr} {t:TA}
end
end L2
namespace L2
open PySem PySem.Spec PyProof.Rows
noncomputable def EqD (X:Cx) (H:Hp) (n:Nat) (x y:V) (b:Bool):Prop :=
  ∀ (pins:List (Addr×Obj)) (σ:St) (s:Shared) (u v:Value) (A:Around),Inv X pins σ H s→RelV x u→RelV y v→A.units + n < cLine→SeqAt.EqAt A s u v b
section
variable {X:Cx} {H:Hp}
theorem eqd_flat {x y:V} (fx:flatV x=true) (fy:flatV y=true):EqD X H 0 x y (eqV x y):=λ _ _ _ _ _ _ _ rx ry _=>eqAt_V rx ry fx fy
theorem EqD.mono {m n:Nat} {x y:V} {b:Bool} (h:EqD X H m x y b) (hn:m≤n):EqD X H n x y b:=λ pins σ s u v A I rx ry hu=>h pins σ s u v A I rx ry (by omega)
theorem eqd_tup {n:Nat} {a b:Addr} {xs ys:List V} {e:Nat→Bool} (ha:SqT X.K H a xs) (hb:SqT X.K H b ys) (hl:xs.length=ys.length) (hs:a=b→∀ j,j < xs.length→e j=true)
    (he:∀ j x y,xs[j]?=some x→ys[j]?=some y→EqD X H n x y (e j)):EqD X H (n + 1) (.ref a) (.ref b) ((List.range xs.length).all e):=by
  intro pins σ s u v A I rx ry hu;cases rx;cases ry;obtain ⟨its,r,p,hz⟩:=I.tuple ha;obtain ⟨jts,r',p',hz'⟩:=I.tuple hb;have l1:=r.length;have l2:=r'.length
  by_cases hab:a=b
  · subst hab;have q:(List.range xs.length).all e=true:=List.all_eq_true.mpr λ j hj=>hs rfl j (List.mem_range.mp hj);rw [q];exact SeqAt.EqAt.same _
  · have R:=SeqAt.RcAt.tuples (A:=A) (e:=e) (show s.heap.IsTuple a its.toArray from p) (show s.heap.IsTuple b jts.toArray from p') (by omega) λ j h1 h2=>by
      have h1':j < its.length:=by simpa using h1
      have h2':j < jts.length:=by simpa using h2
      obtain ⟨x,ex⟩:∃ x,xs[j]?=some x:=⟨_,List.getElem?_eq_getElem (by omega)⟩;obtain ⟨y,ey⟩:∃ y,ys[j]?=some y:=⟨_,List.getElem?_eq_getElem (by omega)⟩;obtain ⟨ux,eu,ru⟩:=r.get ex;obtain ⟨uy,ev,rv⟩:=r'.get ey;have e1:its.toArray[j]=ux:=by
        have:=List.getElem?_eq_getElem h1';rw [eu] at this;simpa using (Option.some.inj this).symm
      have e2:jts.toArray[j]=uy:=by
        have:=List.getElem?_eq_getElem h2';rw [ev] at this;simpa using (Option.some.inj this).symm
      rw [e1,e2];exact he j x y ex ey pins σ s ux uy A.in1 I ru rv (by show A.units + 1 + n < cLine;omega)
    have q:((List.range (min its.toArray.size jts.toArray.size)).all e && its.toArray.size == jts.toArray.size)=(List.range xs.length).all e:=by
      have s1:its.toArray.size=xs.length:=by simp [l1]
      have s2:jts.toArray.size=xs.length:=by simp [← l2,hl]
      rw [s1,s2,Nat.min_self,beq_self_eq_true,Bool.and_true]
    rw [q] at R;exact .of_refs hab R
theorem lst_items {pins:List (Addr×Obj)} {σ:St} {s:Shared} {n:Nat} {xs ys:List V} {its jts:List Value} {A:Around} {e:Nat→Bool} (I:Inv X pins σ H s) (r:Vals xs its) (r':Vals ys jts) (hu:A.units + 1 + n < cLine)
    (he:∀ j x y,xs[j]?=some x→ys[j]?=some y→EqD X H n x y (e j)):∀ j (h1:j < its.toArray.size) (h2:j < jts.toArray.size),SeqAt.EqAt A.in1 s its.toArray[j] jts.toArray[j] (e j):=λ j h1 h2=>by
  have l1:=r.length;have l2:=r'.length;have h1':j < its.length:=by simpa using h1
  have h2':j < jts.length:=by simpa using h2
  obtain ⟨x,ex⟩:∃ x,xs[j]?=some x:=⟨_,List.getElem?_eq_getElem (by omega)⟩;obtain ⟨y,ey⟩:∃ y,ys[j]?=some y:=⟨_,List.getElem?_eq_getElem (by omega)⟩;obtain ⟨ux,eu,ru⟩:=r.get ex;obtain ⟨uy,ev,rv⟩:=r'.get ey;have e1:its.toArray[j]=ux:=by
    have:=List.getElem?_eq_getElem h1';rw [eu] at this;simpa using (Option.some.inj this).symm
  have e2:jts.toArray[j]=uy:=by
    have:=List.getElem?_eq_getElem h2';rw [ev] at this;simpa using (Option.some.inj this).symm
  rw [e1,e2];exact he j x y ex ey pins σ s ux uy A.in1 I ru rv (by show A.units + 1 + n < cLine;omega)
noncomputable def rEqL (X:Cx) (neg:Bool):R2:=λ x y H Q=>∃ a b xs ys,x = .ref a∧y = .ref b∧SqL X.K H a xs∧SqL X.K H b ys ∧
  ((xs.length=ys.length∧∃ e:Nat→Bool,(∀ j x y,xs[j]?=some x→ys[j]?=some y→EqD X H 8 x y (e j))∧Q (.bl (if neg then !(List.range xs.length).all e else (List.range xs.length).all e)) H) ∨
   (xs.length≠ys.length∧Q (.bl neg) H))
theorem op_eq_lst (hu:X.A.units + 64 < cLine):OpR X (compareOp .Eq) (rEqL X false):=by
  intro pins s σ H x y v u Q I rx ry h;obtain ⟨a,b,xs,ys,rfl,rfl,ha,hb,h⟩:=h;cases rx;cases ry;obtain ⟨its,r,p,hz⟩:=I.list ha;obtain ⟨jts,r',p',hz'⟩:=I.list hb;have l1:=r.length;have l2:=r'.length;rcases h with ⟨hl,e,he,q⟩ | ⟨hl,q⟩
  · refine SeqAt.eq_listAt (e:=e) p.isList p'.isList (by simp;omega) (by omega) (lst_items I r r' (by omega) he) ⟨.bl _,H,I,rfl,?_⟩;have s1:its.toArray.size=xs.length:=by simp [l1]
    rw [s1];exact q
  · exact SeqAt.eq_list_lengthsAt p.isList p'.isList (by simp;omega) (by omega) ⟨.bl false,H,I,rfl,q⟩
theorem op_ne_lst (hu:X.A.units + 64 < cLine):OpR X (compareOp .NotEq) (rEqL X true):=by
  intro pins s σ H x y v u Q I rx ry h;obtain ⟨a,b,xs,ys,rfl,rfl,ha,hb,h⟩:=h;cases rx;cases ry;obtain ⟨its,r,p,hz⟩:=I.list ha;obtain ⟨jts,r',p',hz'⟩:=I.list hb;have l1:=r.length;have l2:=r'.length;rcases h with ⟨hl,e,he,q⟩ | ⟨hl,q⟩
  · refine SeqAt.RcNeAt.lists (e:=e) p.isList p'.isList (by simp;omega) (by omega) (lst_items I r r' (by omega) he) X.prog X.w _ _ ⟨.bl _,H,I,rfl,?_⟩;have s1:its.toArray.size=xs.length:=by simp [l1]
    rw [s1];exact q
  · exact SeqAt.RcNeAt.lists_lengths p.isList p'.isList (by simp;omega) (by omega) X.prog X.w _ _ ⟨.bl true,H,I,rfl,q⟩
end
end L2
namespace L2
open PySem PySem.Spec PyProof.Rows
noncomputable def FnAt (K:PySem.W.Frag) (mg:Str→Option Value) (x:Str) (st:Stmt) (ps:List Str):Prop:=∃ f fd,mg x=some (.ref f)∧Fun K x x st f fd∧Binds K fd ps []
noncomputable def Def (P:Program) (w:World) (K:PySem.W.Frag) (mg:Str→Option Value) (base:Heap) (CX:CXT) (k:Nat) (x:Str) (ps:List Str) (sp:Sp):Prop :=
  ∃ f fd,mg x=some (.ref f)∧PySem.W.keepIn K (.ref f)=true∧Binds K fd ps []∧FnOk P w K mg base CX k f fd ps sp
section
variable {P:Program} {w:World} {K:PySem.W.Frag} {mg:Str→Option Value} {base:Heap} {x:Str} {st:Stmt} {N ps:List Str} {k:Nat} {sp:Sp}
theorem FnAt.ok (D:FnAt K mg x st ps) (S:FnScope N ps (defScope st)) (len:∀ vs H Q E,sp vs H Q E→vs.length=ps.length)
    (hbody:∀ (f:Addr) (cdv:Value) (A:Around) (outer:List Env) (s:Shared) (H:Hp) (vs:List V) (Q:VK) (E:XK),Room k (A.deeper (envOfC x (defScope st) s.heap.objs.size f cdv))→sp vs H Q E →
      ∃ t,PSs (cxOf CX0 P w K mg base N x (defScope st) f cdv A outer s H E).nox (defBody st) t∧t { nx:=λ _ H'=>Q .non H',rt:=Q } (start N vs) H):Def P w K mg base CX0 (k + 1) x ps sp:=by
  obtain ⟨f,fd,hm,F,b⟩:=D;exact ⟨f,fd,hm,F.kp,b,F.ok S len (hbody f)⟩
theorem FnAt.okE (D:FnAt K mg x st ps) (S:FnScope N ps (defScope st)) (len:∀ vs H Q E,sp vs H Q E→vs.length=ps.length)
    (hbody:∀ (f:Addr) (cdv:Value) (A:Around) (outer:List Env) (s:Shared) (H:Hp) (vs:List V) (Q:VK) (E:XK),Room k (A.deeper (envOfC x (defScope st) s.heap.objs.size f cdv))→sp vs H Q E →
      ∃ t,PSs (cxOf (CXE P w) P w K mg base N x (defScope st) f cdv A outer s H E) (defBody st) t∧t { nx:=λ _ H'=>Q .non H',rt:=Q } (start N vs) H):Def P w K mg base (CXE P w) (k + 1) x ps sp:=by
  obtain ⟨f,fd,hm,F,b⟩:=D;exact ⟨f,fd,hm,F.kp,b,F.okE S len (hbody f)⟩
end
section
variable {X:Cx} {CX:CXT} {k:Nat} {x:Str} {ps:List Str} {sp:Sp} {E:XK} {p pos:Pos} {e:Expr} {es:List Expr} {t:TA}
theorem pe_def (D:Def X.prog X.w X.K X.mg X.base CX k x ps sp) (hr:Room k X.A) (hg:Gl X x) (hx:Passes CX X E) (ha:PA X (e :: es) t) (hdb:(x == ("__debug__":Str))=false:=by decide)
    (he:starEach (e :: es) X.env=(false,eval e X.env) :: starEach es X.env:=by rfl) (hpl:(backTo pos (starEach es X.env)).any (·.1)=false:=by rfl):PE X (.Call (.Name x p) (e :: es) [] pos) (tCall sp [] E t):=by
  obtain ⟨f,fd,hm,kp,b,F⟩:=D;exact pe_call F hr hg hm kp b .nil hx ha hdb he hpl
end
theorem iteN {c A B:Prop} [Decidable c] (h:¬ c) (b:B):if c then A else B:=by rw [if_neg h];exact b
theorem iteP {c A B:Prop} [Decidable c] (h:c) (a:A):if c then A else B:=by rw [if_pos h];exact a
theorem comp_list {K:PySem.W.Frag} {a:Addr} {xs:List V} {g:TG} {tt:TT} {te:TE} {R:Hp→Prop} {H1:Hp} {σ0:St} {D:Addr} (Pv:Nat→List V→St→Hp→Prop) (hl:∀ i ys σ H,i≤xs.length→Pv i ys σ H→SqL K H a xs) (h0:Pv 0 [] σ0 (upd H1 D (.lst [])))
    (hs:∀ i x ys σ H,xs[i]?=some x→Pv i ys σ H→g x σ H λ σ3 H3=>tt σ3 H3 λ b H4=>if b=true then te σ3 H4 λ y H5=>H5 D=some (.lst ys)∧ys.length < sizeLine∧Pv (i + 1) (ys ++ [y]) σ3 (upd H5 D (.lst (ys ++ [y]))) else Pv (i + 1) ys σ3 H4)
    (hq:∀ ys σ H,Pv xs.length ys σ H→R H) :
    ∃ W:Nat→Nat→List V→St→Hp→Prop,(∃ m,W 0 m [] σ0 (upd H1 D (.lst [])))∧∀ i m ys σ' H',W i m ys σ' H' →
      ((Itl K a).stop i H'∧R H')∨((Itl K a).go i H'∧∃ N:List V→St→Hp→Prop,(∀ zs σ2 H2,N zs σ2 H2→∃ m',m' < m∧W (i + 1) m' zs σ2 H2)∧∀ x H2,(Itl K a).yld i H' x H2→g x σ' H2 λ σ3 H3=>tt σ3 H3 λ b H4 =>
        if b=true then te σ3 H4 λ y H5=>H5 D=some (.lst ys)∧ys.length < sizeLine∧N (ys ++ [y]) σ3 (upd H5 D (.lst (ys ++ [y])))
        else N ys σ3 H4):=by
  refine ⟨λ i m ys σ H=>m=xs.length - i∧i≤xs.length∧Pv i ys σ H,⟨xs.length,by simp,Nat.zero_le _,h0⟩,?_⟩;rintro i m ys σ H ⟨rfl,hi,p⟩;have q2:=hl i ys σ H hi p
  by_cases hlt:i < xs.length
  · refine .inr ⟨⟨xs,xs[i],q2,by simp [hlt]⟩,Pv (i + 1),λ zs σ2 H2 p'=>⟨xs.length - (i + 1),by omega,rfl,hlt,p'⟩,λ x H2 y=>?_⟩;obtain ⟨e,y⟩:=y;subst e;exact hs i x ys σ _ (y xs q2) p
  · have e:i=xs.length:=by omega
    subst e;exact .inl ⟨⟨xs,q2,Nat.le_refl _⟩,hq ys σ H p⟩
end L2
namespace Sp
open PySem L2
noncomputable def top (i:Nat):Stmt:=PySem.Challenge.pw_spantolls_k02_whole_worths.main.body.getD i (.Pass ⟨0,0,0,0⟩)
noncomputable abbrev s_is_whole:Stmt:=top 6
noncomputable abbrev s_are_days:Stmt:=top 7
noncomputable abbrev s_is_request:Stmt:=top 8
noncomputable abbrev s_are_requests:Stmt:=top 9
noncomputable abbrev s_are_rooms:Stmt:=top 10
noncomputable abbrev s_check_requests:Stmt:=top 11
noncomputable abbrev s_check_rooms:Stmt:=top 12
noncomputable abbrev s_Best___init__:Stmt:=inClass (top 15) 0
noncomputable abbrev s_points_of:Stmt:=top 17
noncomputable abbrev s_sweep:Stmt:=top 18
noncomputable abbrev s_Line___init__:Stmt:=inClass (top 19) 0
noncomputable abbrev s_Line_rooms_used:Stmt:=inClass (top 19) 1
noncomputable abbrev s_Line_moves_onward:Stmt:=inClass (top 19) 2
noncomputable abbrev s_Line_moves_backward:Stmt:=inClass (top 19) 3
noncomputable abbrev s_Line_climb:Stmt:=inClass (top 19) 4
noncomputable abbrev s_Line_growth:Stmt:=inClass (top 19) 5
noncomputable abbrev s_Line_add_room:Stmt:=inClass (top 19) 6
noncomputable abbrev s_Line_choice:Stmt:=inClass (top 19) 7
noncomputable abbrev s_Line_day_tolls:Stmt:=inClass (top 19) 8
noncomputable abbrev s_filled:Stmt:=top 20
noncomputable abbrev s_best:Stmt:=top 21
noncomputable abbrev s_worths:Stmt:=top 22
noncomputable abbrev s__law_cell_at:Stmt:=top 24
noncomputable abbrev s__law_draw:Stmt:=top 25
noncomputable abbrev s__law_requests:Stmt:=top 26
noncomputable abbrev s__law_whole:Stmt:=top 28
noncomputable abbrev s__law_chosen:Stmt:=top 29
noncomputable abbrev s__law_there:Stmt:=top 30
noncomputable abbrev s__law_worth:Stmt:=top 31
noncomputable abbrev s__law_best:Stmt:=top 32
noncomputable abbrev s_law:Stmt:=top 33
structure Bl (mg:Str→Option Value):Prop where
  isinstance:mg "isinstance"=none
  int:mg "int"=none
  bool:mg "bool"=none
  list:mg "list"=none
  tuple:mg "tuple"=none
  len:mg "len"=none
  all:mg "all"=none
  any:mg "any"=none
  sum:mg "sum"=none
  zip:mg "zip"=none
  range:mg "range"=none
  max:mg "max"=none
  sorted:mg "sorted"=none
  set:mg "set"=none
  abs:mg "abs"=none
  dict:mg "dict"=none
  enumerate:mg "enumerate"=none
  ValueError:mg "ValueError"=none
  str:mg "str"=none
end Sp
namespace Sp
open PySem L2
section
variable {P:Program} {w:World} {K:PySem.W.Frag} {mg:Str→Option Value} {base:Heap}
theorem kits {H:Hp} {v:V} {T:String} (ty:TyOf K H v (.type T)) :
    PySem.W.kitOne K (.type T) (.type "int")=some (T == "int" || T == "bool")∧PySem.W.kitOne K (.type T) (.type "bool")=some (T == "bool")∧PySem.W.kitOne K (.type T) (.type "list")=some (T == "list")∧PySem.W.kitOne K (.type T) (.type "tuple")=some (T == "tuple"):=by
  cases ty<;>exact ⟨by kernel_rfl,by kernel_rfl,by kernel_rfl,by kernel_rfl⟩
theorem pe_isi {X:Cx} {e:Expr} {te:TE} {T:String} {n:Str} {p1 p2 pos:Pos} (B:X.mg "isinstance"=none) (hT:X.mg n=none) (hb:bootBuiltins n=some (.type T)) (he:PE X e te) (hg:Gl X "isinstance":=by rfl) (hgT:Gl X n:=by rfl)
    (hn:n≠"__name__":=by decide) (hd:(n == ("__debug__":Str))=false:=by decide) (hs:starEach [e,.Name n p2] X.env=(false,eval e X.env) :: starEach [.Name n p2] X.env:=by rfl) (hs2:starEach [.Name n p2] X.env=(false,eval (.Name n p2) X.env) :: starEach [] X.env:=by rfl)
    (hpl:(backTo pos (starEach [.Name n p2] X.env)).any (·.1)=false:=by rfl) :
    PE X (.Call (.Name "isinstance" p1) [e,.Name n p2] [] pos) (tCB (λ xs H Q=>∃ x t b,xs=[x,.ty T]∧TyOf X.K H x t∧PySem.W.kitOne X.K t (.type T)=some b∧Q (.bl b) H) (tCons te (tCons (tC (.ty T)) tNil))):=by
  have c:CallR X (.builtin "isinstance") (λ xs H Q=>∃ x t b,xs=[x,.ty T]∧TyOf X.K H x t∧PySem.W.kitOne X.K t (.type T)=some b∧Q (.bl b) H):=λ pins s σ H xs us Q I r ⟨x,t,b,e1,ty,k,q⟩ =>
    call_isinst pins s σ H xs us Q I r ⟨x,_,t,.type T,b,e1,⟨rfl,λ _ h=>h⟩,ty,k,q⟩
  exact pe_callB c hg B PyProof.Rows.Boot.«isinstance» (pa_cons he (pa_cons (pe_bltn hgT hT hb (show RelV (.ty T) (.type T) from rfl) hn hd) pa_nil hs2) hs) (by decide) (by decide) hs hpl
theorem sc_whole:FnScope ["value"] ["value"] (defScope s_is_whole):=⟨rfl,rfl,rfl,by decide +kernel,rfl,by decide +kernel,by decide +kernel⟩
noncomputable def sp_whole (K:PySem.W.Frag):Sp:=λ vs H Q _=>∃ v T,vs=[v]∧TyOf K H v (.type T)∧Q (.bl (T == "int")) H
theorem ok_whole (B:Bl mg) (D:FnAt K mg "is_whole" s_is_whole ["value"]):Def P w K mg base CX0 1 "is_whole" ["value"] (sp_whole K):=by
  refine D.ok sc_whole (λ vs H Q E h=>?_) λ f cdv A outer s H vs Q E hr h=>?_
  · obtain ⟨v,T,rfl,_⟩:=h;rfl
  · obtain ⟨v,T,rfl,ty,q⟩:=h;refine ⟨_,pss_one (ps_ret (pe_and (pe_isi B.isinstance B.int PyProof.Rows.Boot.«int» (pv 0)) (pe_one (pe_not (pe_isi B.isinstance B.bool PyProof.Rows.Boot.«bool» (pv 0)))))),?_⟩;obtain ⟨k1,k2,_⟩:=kits ty;refine ⟨_,rfl,_,_,_,rfl,ty,k1,_,rfl,?_⟩
    by_cases h1:(T == "int" || T == "bool")=true
    · rw [if_pos h1];refine ⟨_,rfl,_,_,_,rfl,ty,k2,_,rfl,?_⟩;have e:(!(T == "bool"))=(T == "int"):=by
        rcases Bool.or_eq_true_iff.mp h1 with z | z
        · rw [beq_iff_eq.mp z];decide
        · rw [beq_iff_eq.mp z];decide
      rw [e];exact q
    · rw [if_neg h1];have e:(T == "int")=false:=(Bool.or_eq_false_iff.mp (Bool.eq_false_iff.mpr h1)).1;rw [e] at q;exact q
noncomputable def daysV:V→V→Bool
  | .int i,.int j=>decide (i≤j)
  | _,_=>false
noncomputable def wholeV:V→Bool
  | .int _=>true
  | _=>false
theorem wholeV_of {H:Hp} {v:V} {t:Value} (ty:TyOf K H v t):∀ T,t = .type T→wholeV v=(T == "int"):=by
  intro T e;cases ty<;>first | (cases e;simp [wholeV];done) | (cases e;done)
theorem sc_days:FnScope ["first","last"] ["first","last"] (defScope s_are_days):=⟨rfl,rfl,rfl,by decide +kernel,rfl,by decide +kernel,by decide +kernel⟩
noncomputable def sp_days (K:PySem.W.Frag):Sp:=λ vs H Q _=>∃ v u T S,vs=[v,u]∧TyOf K H v (.type T)∧TyOf K H u (.type S)∧Q (.bl (daysV v u)) H
theorem ok_days (G:Def P w K mg base CX0 1 "is_whole" ["value"] (sp_whole K)) (D:FnAt K mg "are_days" s_are_days ["first","last"]):Def P w K mg base CX0 2 "are_days" ["first","last"] (sp_days K):=by
  refine D.ok sc_days (λ vs H Q E h=>?_) λ f cdv A outer s H vs Q E hr h=>?_
  · obtain ⟨v,u,T,S,rfl,_⟩:=h;rfl
  · obtain ⟨v,u,T,S,rfl,tv,tu,q⟩:=h;refine ⟨_,pss_one (ps_ret (pe_and (pe_def G hr rfl pass0 (pa_cons (pv 0) pa_nil)) (pe_and (pe_def G hr rfl pass0 (pa_cons (pv 1) pa_nil)) (pe_one (pe_cmpR op_le (pv 0) (pv 1) (nomark _)))))),?_⟩;refine ⟨_,rfl,v,T,rfl,tv,_,rfl,?_⟩;rw [← wholeV_of tv T rfl];cases v with
    | int i =>
      refine iteT ⟨_,rfl,u,S,rfl,tu,_,rfl,?_⟩;rw [← wholeV_of tu S rfl];cases u with
      | int j=>exact iteT ⟨_,rfl,_,rfl,_,_,rfl,rfl,q⟩
      | _=>exact iteF q
    | _=>exact iteF q
noncomputable def PlainV (K:PySem.W.Frag) (H:Hp) (v:V):Prop:=(∃ T,T≠"tuple"∧TyOf K H v (.type T))∨∃ a xs,v = .ref a∧H a=some (.tup xs)∧∀ x∈xs,∃ T,TyOf K H x (.type T)
noncomputable def natV:V→Bool
  | .int i=>decide (0≤i)
  | _=>false
noncomputable def tripV:List V→Bool
  | [x,y,z]=>daysV x y && natV z
  | _=>false
noncomputable def ReqB (K:PySem.W.Frag) (H:Hp) (v:V) (b:Bool):Prop:=(b=false∧∃ T,T≠"tuple"∧TyOf K H v (.type T))∨∃ a xs,v = .ref a∧H a=some (.tup xs)∧b=tripV xs
theorem tup_kind {H:Hp} {a:Addr} {xs:List V} {t:Value} (ty:TyOf K H (.ref a) t) (ha:H a=some (.tup xs)):∀ {T:String},t = .type T→T = "tuple":=by
  intro T e;cases ty with
  | lst q=>rw [ha] at q;cases q
  | frz q=>rw [ha] at q;cases q
  | tup q=>cases e;rfl
  | dK q=>rw [ha] at q;cases q
  | dT q=>rw [ha] at q;cases q
  | ins q=>rw [ha] at q;cases q
theorem sc_req:FnScope ["value"] ["value"] (defScope s_is_request):=⟨rfl,rfl,rfl,by decide +kernel,rfl,by decide +kernel,by decide +kernel⟩
noncomputable def sp_req (K:PySem.W.Frag):Sp:=λ vs H Q _=>∃ v,vs=[v]∧PlainV K H v∧∀ b,ReqB K H v b→Q (.bl b) H
theorem ok_req (B:Bl mg) (GW:Def P w K mg base CX0 1 "is_whole" ["value"] (sp_whole K)) (GD:Def P w K mg base CX0 2 "are_days" ["first","last"] (sp_days K)) (D:FnAt K mg "is_request" s_is_request ["value"]):Def P w K mg base CX0 3 "is_request" ["value"] (sp_req K):=by
  refine D.ok sc_req (λ vs H Q E h=>?_) λ f cdv A outer s H vs Q E hr h=>?_
  · obtain ⟨v,rfl,_⟩:=h;rfl
  · obtain ⟨v,rfl,pv',q⟩:=h;have hr1:Room 1 _:=hr.mono (by decide);refine ⟨_,pss_cons (ps_if (PW.pt (pw_or (pt_not (pt_val (pe_isi B.isinstance B.tuple PyProof.Rows.Boot.«tuple» (pv 0)))) (pw_or1 (pt_cmpR op_ne (pe_callB call_len_seq (by rfl) B.len PySem.boot_len (pa_cons (pv 0) pa_nil)) pe_int (nomark _))))) (pss_one (ps_ret pe_bl)) pss_nil)
      (pss_one (ps_ret (pe_and (pe_def GD hr rfl pass0 (pa_cons (pe_ix ix_tup (pv 0) pe_int (λ _ _=>rfl)) (pa_cons (pe_ix ix_tup (pv 0) pe_int (λ _ _=>rfl)) pa_nil)))
        (pe_and (pe_def GW hr1 rfl pass0 (pa_cons (pe_ix ix_tup (pv 0) pe_int (λ _ _=>rfl)) pa_nil)) (pe_one (pe_cmpR op_ge (pe_ix ix_tup (pv 0) pe_int (λ _ _=>rfl)) pe_int (nomark _))))))),?_⟩
    rcases pv' with ⟨T,hT,ty⟩ | ⟨a,xs,rfl,ha,hx⟩
    · refine ⟨_,rfl,_,_,_,rfl,ty,(kits ty).2.2.2,_,rfl,?_⟩;have e:(T == "tuple")=false:=by simpa using hT
      rw [e];exact iteT (iteT (q false (.inl ⟨rfl,T,hT,ty⟩)))
    · refine ⟨_,rfl,_,_,_,rfl,TyOf.tup ha,(kits (TyOf.tup ha)).2.2.2,_,rfl,?_⟩;refine iteN (by decide) ?_;refine ⟨_,rfl,a,xs,rfl,.inr (SqT.of ha),rfl,_,rfl,?_⟩
      by_cases hl:xs.length=3
      · obtain ⟨x,y,z,rfl⟩:∃ x y z,xs=[x,y,z]:=by
          match xs,hl with
          | [x,y,z],_=>exact ⟨x,y,z,rfl⟩
        obtain ⟨T,tx⟩:=hx x (by simp);obtain ⟨S,ty⟩:=hx y (by simp);obtain ⟨R,tz⟩:=hx z (by simp);refine iteN (by simp) ?_;have at0:atI [x,y,z] 0=some x:=rfl;have at1:atI [x,y,z] 1=some y:=rfl;have at2:atI [x,y,z] 2=some z:=rfl;refine ⟨_,rfl,a,_,_,_,rfl,rfl,SqT.of ha,at0,_,rfl,a,_,_,_,rfl,rfl,SqT.of ha,at1,x,y,T,S,rfl,tx,ty,_,rfl,?_⟩;have fin:∀ b,b=(daysV x y && natV z)→Q (.bl b) H:=λ b e=>q b (.inr ⟨a,_,rfl,ha,e⟩);cases hd:daysV x y with
        | false=>exact iteF (fin false (by rw [hd];rfl))
        | true =>
          refine iteT ⟨_,rfl,a,_,_,_,rfl,rfl,SqT.of ha,at2,z,R,rfl,tz,_,rfl,?_⟩;rw [← wholeV_of tz R rfl];cases z with
          | int k=>exact iteT ⟨_,rfl,a,_,_,_,rfl,rfl,SqT.of ha,at2,_,_,rfl,rfl,fin _ (by rw [hd];rfl)⟩
          | _=>exact iteF (fin false (by rw [hd];rfl))
      · refine iteP (by simp;omega) (q false (.inr ⟨a,xs,rfl,ha,?_⟩))
        match xs,hl with
        | [],_=>rfl
        | [_],_=>rfl
        | [_,_],_=>rfl
        | [_,_,_],h=>exact absurd rfl h
        | _ :: _ :: _ :: _ :: _,_=>rfl
end
end Sp
namespace Sp
open PySem L2
section
variable {P:Program} {w:World} {K:PySem.W.Frag} {mg:Str→Option Value} {base:Heap}
theorem ty_same {H H':Hp} {v:V} {t:Value} (s:Same H H') (ty:TyOf K H v t):TyOf K H' v t:=by
  cases ty with
  | non=>exact .non
  | bl x=>exact .bl x
  | int i=>exact .int i
  | str x=>exact .str x
  | flt x=>exact .flt x
  | lst e=>exact .lst (s _ _ e)
  | frz e=>exact .frz (s _ _ e)
  | tup e=>exact .tup (s _ _ e)
  | dK e=>exact .dK (s _ _ e)
  | dT e=>exact .dT (s _ _ e)
  | ins e cl ha hn htk hm=>exact .ins (s _ _ e) cl ha hn htk hm
theorem plain_same {H H':Hp} {v:V} (s:Same H H') (p:PlainV K H v):PlainV K H' v:=by
  rcases p with ⟨T,hT,ty⟩ | ⟨a,xs,e,ha,hx⟩
  · exact .inl ⟨T,hT,ty_same s ty⟩
  · exact .inr ⟨a,xs,e,s _ _ ha,λ x hx'=>let ⟨T,ty⟩:=hx x hx';⟨T,ty_same s ty⟩⟩
theorem req_same {H H':Hp} {v:V} {b:Bool} (s:Same H H') (p:ReqB K H v b):ReqB K H' v b:=by
  rcases p with ⟨e,T,hT,ty⟩ | ⟨a,xs,e,ha,hb⟩
  · exact .inl ⟨e,T,hT,ty_same s ty⟩
  · exact .inr ⟨a,xs,e,s _ _ ha,hb⟩
theorem req_one {H:Hp} {v:V} {b c:Bool} (p:ReqB K H v b) (q:ReqB K H v c):b=c:=by
  rcases p with ⟨rfl,T,hT,ty⟩ | ⟨a,xs,rfl,ha,rfl⟩<;>rcases q with ⟨rfl,S,hS,tz⟩ | ⟨a',ys,e,ha',rfl⟩
  · rfl
  · subst e;exact absurd (tup_kind ty ha' rfl) hT
  · exact absurd (tup_kind tz ha rfl) hS
  · cases e;rw [ha] at ha';cases ha';rfl
theorem plain_req {H:Hp} {v:V} (p:PlainV K H v):∃ b,ReqB K H v b:=by
  rcases p with ⟨T,hT,ty⟩ | ⟨a,xs,e,ha,hx⟩
  · exact ⟨false,.inl ⟨rfl,T,hT,ty⟩⟩
  · exact ⟨_,.inr ⟨a,xs,e,ha,rfl⟩⟩
theorem same_new {H H':Hp} {D:Addr} {o:HO} (s:Same H H') (hD:H D=none):Same H (upd H' D o):=λ b u e=>by
  rw [upd_ne (ne_of_none e hD)];exact s b u e
theorem sc_reqs:FnScope ["value"] ["value"] (defScope s_are_requests):=⟨rfl,rfl,rfl,by decide +kernel,rfl,by decide +kernel,by decide +kernel⟩
noncomputable def sp_reqs (K:PySem.W.Frag):Sp:=λ vs H Q _=>∃ v,vs=[v]∧((∃ T,T≠"list"∧TyOf K H v (.type T)∧Q (.bl false) H) ∨
  ∃ a xs,v = .ref a∧H a=some (.lst xs)∧xs.length≤60000∧(∀ x∈xs,PlainV K H x)∧∀ (bs:List Bool) H',Same H H'→bs.length=xs.length→(∀ (j:Nat) (b:Bool) (x:V),bs[j]?=some b→xs[j]?=some x→ReqB K H x b)→Q (.bl (bs.all id)) H')
theorem ok_reqs (B:Bl mg) (GR:Def P w K mg base CX0 3 "is_request" ["value"] (sp_req K)) (D:FnAt K mg "are_requests" s_are_requests ["value"]):Def P w K mg base CX0 4 "are_requests" ["value"] (sp_reqs K):=by
  refine D.ok sc_reqs (λ vs H Q E h=>?_) λ f cdv A outer s H vs Q E hr h=>?_
  · obtain ⟨v,rfl,_⟩:=h;rfl
  · obtain ⟨v,rfl,h⟩:=h;refine ⟨_,pss_one (ps_ret (pe_and (pe_isi B.isinstance B.list PyProof.Rows.Boot.«list» (pv 0)) (pe_one (pe_callB (call_all_bools rfl) (by rfl) B.all PyProof.Rows.Boot.«all» (pa_cons
      (pe_comp ["request"] [] rfl (pi_list (pv 0)) λ cl s H fp C=>⟨pg_name (i:=0) (show (["request"]:List Str).Nodup by decide +kernel) rfl (Or.inl rfl),pts_nil,pe_def GR hr rfl pass0 (pa_cons (pv 0) pa_nil)⟩) pa_nil))))),?_⟩
    rcases h with ⟨T,hT,ty,q⟩ | ⟨a,xs,rfl,ha,hz,hx,q⟩
    · refine ⟨_,rfl,_,_,_,rfl,ty,(kits ty).2.2.1,_,rfl,iteN (by simpa using hT) q⟩
    · refine ⟨_,rfl,_,_,_,rfl,TyOf.lst ha,(kits (TyOf.lst ha)).2.2.1,_,rfl,iteP (by decide) ?_⟩;refine ⟨_,rfl,a,rfl,⟨_,SqL.of ha⟩,λ D hD=>?_⟩;refine comp_list (K:=K) (a:=a) (xs:=xs) (λ i ys σ H'=>Same H H'∧H' D=some (.lst ys)∧(∃ o,σ=[o])∧∃ bs:List Bool,ys=bs.map V.bl∧bs.length=i∧∀ (j:Nat) (b:Bool) (x:V),bs[j]?=some b→xs[j]?=some x→ReqB K H x b)
        (λ i ys σ H' _ p=>SqL.of (p.1 _ _ ha)) ⟨same_new (Same.refl H) hD,upd_same,⟨none,rfl⟩,[],rfl,rfl,λ j b x e=>by simp at e⟩ ?_ ?_
      · rintro i x ys σ H' ex ⟨sm,hDl,⟨o,rfl⟩,bs,rfl,hl,hb⟩;have px:=hx x (List.mem_of_getElem? ex);refine ⟨_,rfl,x,rfl,plain_same sm px,λ b rb=>⟨hDl,?_,same_new sm hD,upd_same,⟨_,rfl⟩,bs ++ [b],by simp,by simp [hl],λ j c y ec ey=>?_⟩⟩
        · have:=(List.getElem?_eq_some_iff.mp ex).1;rw [List.length_map];exact (show _ < sizeLine by rw [sizeLine_eq];omega)
        · by_cases hj:j < bs.length
          · rw [List.getElem?_append_left hj] at ec;exact hb j c y ec ey
          · rw [List.getElem?_append_right (Nat.le_of_not_lt hj)] at ec;have e0:j=bs.length:=by
              have:=(List.getElem?_eq_some_iff.mp ec).1;simp at this;omega
            subst e0;simp at ec;subst ec;rw [hl,ex] at ey;cases ey;obtain ⟨b0,r0⟩:=plain_req px;rw [req_one rb (req_same sm r0)];exact r0
      · rintro ys σ H' ⟨sm,hDl,_,bs,rfl,hl,hb⟩;exact ⟨D,bs,rfl,SqL.of hDl,q bs H' sm hl hb⟩
theorem sc_rooms:FnScope ["value"] ["value"] (defScope s_are_rooms):=⟨rfl,rfl,rfl,by decide +kernel,rfl,by decide +kernel,by decide +kernel⟩
noncomputable def sp_rooms (K:PySem.W.Frag):Sp:=λ vs H Q _=>∃ v T,vs=[v]∧TyOf K H v (.type T)∧Q (.bl (natV v)) H
theorem ok_rooms (GW:Def P w K mg base CX0 1 "is_whole" ["value"] (sp_whole K)) (D:FnAt K mg "are_rooms" s_are_rooms ["value"]):Def P w K mg base CX0 2 "are_rooms" ["value"] (sp_rooms K):=by
  refine D.ok sc_rooms (λ vs H Q E h=>?_) λ f cdv A outer s H vs Q E hr h=>?_
  · obtain ⟨v,T,rfl,_⟩:=h;rfl
  · obtain ⟨v,T,rfl,ty,q⟩:=h;refine ⟨_,pss_one (ps_ret (pe_and (pe_def GW hr rfl pass0 (pa_cons (pv 0) pa_nil)) (pe_one (pe_cmpR op_ge (pv 0) pe_int (nomark _))))),?_⟩;refine ⟨_,rfl,v,T,rfl,ty,_,rfl,?_⟩;rw [← wholeV_of ty T rfl];cases v with
    | int i=>exact iteT ⟨_,rfl,_,_,rfl,rfl,q⟩
    | _=>exact iteF q
end
end Sp
namespace Sp
open PySem L2
noncomputable abbrev vbm:List Value:=[.type "ValueError",.type "Exception",.type "BaseException",.type "object"]
structure Err (K:PySem.W.Frag) (mg:Str→Option Value) (n:Str) (C:Addr):Prop where
  at_:mg n=some (.ref C)
  ex:PySem.W.excIn K C vbm "ValueError.__new__"=true
section
variable {P:Program} {w:World} {K:PySem.W.Frag} {mg:Str→Option Value} {base:Heap}
theorem ps_err {X:Cx} {n:Str} {C:Addr} {E:XK} {x:Str} {j} {p np cpos pos:Pos} (R:Err X.K X.mg n C) (hc:X.calm=true) (hg:Gl X n) (hR:Raises X C E) (hd:(n == ("__debug__":Str))=false:=by decide) :
    PS X (.Raise (some (.Call (.Name n np) [.Constant (.str x) j p] [] cpos)) none pos) (λ _ _ H=>E (.ref C) none H):=by
  intro pins s σ H D I h;exact ps_raise PySem.F.excBase_ValueError R.ex hc hg R.at_ (pa_cons (pe_str (x:=x)) pa_nil) hR hd (by rfl) (by rfl) pins s σ H D I (show [V.str x].length≤sizeLine∧_ from ⟨by show 1≤sizeLine;decide,h⟩)
noncomputable def BadReqs (K:PySem.W.Frag) (H:Hp) (v:V):Prop:=(∃ T,T≠"list"∧TyOf K H v (.type T)) ∨
  ∃ a xs,v = .ref a∧H a=some (.lst xs)∧xs.length≤60000∧(∀ x∈xs,PlainV K H x)∧∃ x∈xs,ReqB K H x false
noncomputable def GoodReqs (H:Hp) (v:V):Prop:=∃ a xs,v = .ref a∧H a=some (.lst xs)∧xs.length≤60000∧∀ x∈xs,∃ p i j k,x = .ref p∧H p=some (.tup [.int i,.int j,.int k])∧i≤j∧0≤k
theorem good_plain {H:Hp} {p:Addr} {i j k:Int} (h:H p=some (.tup [.int i,.int j,.int k])):PlainV K H (.ref p) :=
  .inr ⟨p,_,rfl,h,λ x hx=>by
    simp only [List.mem_cons,List.not_mem_nil,or_false] at hx;rcases hx with rfl | rfl | rfl<;>exact ⟨_,.int _⟩⟩
theorem good_req {H:Hp} {p:Addr} {i j k:Int} (h:H p=some (.tup [.int i,.int j,.int k])) (h1:i≤j) (h2:0≤k):ReqB K H (.ref p) true :=
  .inr ⟨p,_,rfl,h,by simp [tripV,daysV,natV,h1,h2]⟩
theorem sc_creq:FnScope ["requests"] ["requests"] (defScope s_check_requests):=⟨rfl,rfl,rfl,by decide +kernel,rfl,by decide +kernel,by decide +kernel⟩
noncomputable def sp_creq (K:PySem.W.Frag) (C:Addr):Sp:=λ vs H Q E=>∃ v,vs=[v]∧((BadReqs K H v∧∀ H',Same H H'→E (.ref C) none H')∨(GoodReqs H v∧∀ H',Same H H'→Q .non H'))
theorem ok_creq {C:Addr} (R:Err K mg "BadRequests" C) (G:Def P w K mg base CX0 4 "are_requests" ["value"] (sp_reqs K)) (D:FnAt K mg "check_requests" s_check_requests ["requests"]):Def P w K mg base (CXE P w) 5 "check_requests" ["requests"] (sp_creq K C):=by
  refine D.okE sc_creq (λ vs H Q E h=>?_) λ f cdv A outer s H vs Q E hr h=>?_
  · obtain ⟨v,rfl,_⟩:=h;rfl
  · obtain ⟨v,rfl,h⟩:=h;refine ⟨_,pss_one (ps_if (pt_not (pt_val (pe_def G hr rfl pass0 (pa_cons (pv 0) pa_nil)))) (pss_one (ps_err R rfl rfl raiseE)) pss_nil),?_⟩;rcases h with ⟨bad,e⟩ | ⟨good,q⟩
    · rcases bad with ⟨T,hT,ty⟩ | ⟨a,xs,rfl,ha,hl,hp,x,hx,r⟩
      · exact ⟨_,rfl,_,rfl,.inl ⟨T,hT,ty,_,rfl,iteT (e H (Same.refl H))⟩⟩
      · refine ⟨_,rfl,_,rfl,.inr ⟨a,xs,rfl,ha,hl,hp,λ bs H' sm hb hbs=>?_⟩⟩;obtain ⟨j,hj,ej⟩:=List.getElem_of_mem hx;have e1:xs[j]?=some x:=by rw [List.getElem?_eq_getElem hj,ej]
        have hj':j < bs.length:=by omega
        have e2:bs[j]?=some bs[j]:=List.getElem?_eq_getElem hj';have e3:bs[j]=false:=req_one (hbs j _ x e2 e1) r;have e4:bs.all id=false:=by
          rw [List.all_eq_false];exact ⟨bs[j],List.getElem_mem hj',by rw [e3];simp⟩
        rw [e4];exact ⟨_,rfl,iteT (e H' sm)⟩
    · obtain ⟨a,xs,rfl,ha,hl,hp⟩:=good;refine ⟨_,rfl,_,rfl,.inr ⟨a,xs,rfl,ha,hl,λ x hx=>?_,λ bs H' sm hb hbs=>?_⟩⟩
      · obtain ⟨p,i,j,k,rfl,e2,_⟩:=hp x hx;exact good_plain e2
      · have e4:bs.all id=true:=by
          rw [List.all_eq_true];intro b hb';obtain ⟨j,hj,ej⟩:=List.getElem_of_mem hb';have hj':j < xs.length:=by omega
          obtain ⟨p,i,j',k,e1,e2,h1,h2⟩:=hp xs[j] (List.getElem_mem hj');have r:=hbs j b xs[j] (by rw [List.getElem?_eq_getElem hj,ej]) (List.getElem?_eq_getElem hj');rw [e1] at r;exact (req_one r (good_req e2 h1 h2))
        rw [e4];exact ⟨_,rfl,iteF (q H' sm)⟩
theorem sc_croom:FnScope ["rooms"] ["rooms"] (defScope s_check_rooms):=⟨rfl,rfl,rfl,by decide +kernel,rfl,by decide +kernel,by decide +kernel⟩
noncomputable def sp_croom (K:PySem.W.Frag) (C:Addr):Sp:=λ vs H Q E=>∃ v T,vs=[v]∧TyOf K H v (.type T)∧((natV v=false∧E (.ref C) none H)∨(natV v=true∧Q .non H))
theorem ok_croom {C:Addr} (R:Err K mg "BadRooms" C) (G:Def P w K mg base CX0 2 "are_rooms" ["value"] (sp_rooms K)) (D:FnAt K mg "check_rooms" s_check_rooms ["rooms"]):Def P w K mg base (CXE P w) 3 "check_rooms" ["rooms"] (sp_croom K C):=by
  refine D.okE sc_croom (λ vs H Q E h=>?_) λ f cdv A outer s H vs Q E hr h=>?_
  · obtain ⟨v,T,rfl,_⟩:=h;rfl
  · obtain ⟨v,T,rfl,ty,h⟩:=h;refine ⟨_,pss_one (ps_if (pt_not (pt_val (pe_def G hr rfl pass0 (pa_cons (pv 0) pa_nil)))) (pss_one (ps_err R rfl rfl raiseE)) pss_nil),?_⟩;refine ⟨_,rfl,v,T,rfl,ty,_,rfl,?_⟩;rcases h with ⟨e,q⟩ | ⟨e,q⟩
    · rw [e];exact iteT q
    · rw [e];exact iteF q
end
end Sp
namespace Sp
open PySem L2
section
variable {P:Program} {w:World} {K:PySem.W.Frag} {mg:Str→Option Value} {base:Heap}
noncomputable def trip (r:Int×Int×Int):List V:=[.int r.1,.int r.2.1,.int r.2.2]
noncomputable def ReqsAt (H:Hp) (a:Addr) (rs:List (Int×Int×Int)):Prop:=∃ xs:List V,H a=some (.lst xs)∧xs.length=rs.length∧∀ (i:Nat) r,rs[i]?=some r→∃ p,xs[i]?=some (.ref p)∧H p=some (.tup (trip r))
noncomputable def GoodR (rs:List (Int×Int×Int)):Prop:=∀ r∈rs,r.1≤r.2.1∧0≤r.2.2
theorem reqs_same {H H':Hp} {a:Addr} {rs:List (Int×Int×Int)} (s:Same H H') (h:ReqsAt H a rs):ReqsAt H' a rs:=by
  obtain ⟨xs,h1,h2,h3⟩:=h;exact ⟨xs,s _ _ h1,h2,λ i r e=>let ⟨p,e1,e2⟩:=h3 i r e;⟨p,e1,s _ _ e2⟩⟩
theorem reqs_good {H:Hp} {a:Addr} {rs:List (Int×Int×Int)} (h:ReqsAt H a rs) (g:GoodR rs) (hl:rs.length≤60000):GoodReqs H (.ref a):=by
  obtain ⟨xs,h1,h2,h3⟩:=h;refine ⟨a,xs,rfl,h1,by omega,λ x hx=>?_⟩;obtain ⟨i,hi,ei⟩:=List.getElem_of_mem hx;have hi':i < rs.length:=by omega
  obtain ⟨p,e1,e2⟩:=h3 i rs[i] (List.getElem?_eq_getElem hi');rw [List.getElem?_eq_getElem hi,ei] at e1;obtain ⟨g1,g2⟩:=g rs[i] (List.getElem_mem hi');exact ⟨p,_,_,_,Option.some.inj e1,e2,g1,g2⟩
end
end Sp
namespace L2
open PySem PySem.Spec PyProof.Rows
structure Yields (J:It) (n:Nat) (Ok:Hp→Prop) (item:Nat→V→Hp→Hp→Prop):Prop where
  go:∀ i H,i < n→Ok H→J.go i H
  yld:∀ i H x H',i < n→Ok H→J.yld i H x H'→item i x H H'
  stop:∀ H,Ok H→J.stop n H
theorem yields_list {K:PySem.W.Frag} {a:Addr} (xs:List V):Yields (Itl K a) xs.length (λ H=>SqL K H a xs) (λ i x H H'=>H'=H∧xs[i]?=some x) where
  go:=λ i H hi q=>⟨xs,xs[i],q,by simp [hi]⟩
  yld:=λ i H x H' hi q y=>⟨y.1,y.2 xs q⟩
  stop:=λ H q=>⟨xs,q,Nat.le_refl _⟩
theorem yields_range {lo:Int} {n:Nat}:Yields (Itr lo n) n (λ _=>True) (λ i x H H'=>H'=H∧x = .int (lo + i)) where
  go:=λ i H hi _=>hi
  yld:=λ i H x H' hi _ y=>y
  stop:=λ H _=>Nat.le_refl _
theorem yields_range3 {lo c:Int} {n:Nat}:Yields (Itr3 lo c n) n (λ _=>True) (λ i x H H'=>H'=H∧x = .int (lo + i * c)) where
  go:=λ i H hi _=>hi
  yld:=λ i H x H' hi _ y=>y
  stop:=λ H _=>Nat.le_refl _
theorem yields_zip {K:PySem.W.Frag} {a b:Addr} (xs zs:List V):Yields (Itz K a b) (min xs.length zs.length) (λ H=>SqL K H a xs∧SqL K H b zs)
    (λ i v H H'=>∃ T x y,H T=none∧v = .ref T∧H'=upd H T (.tup [x,y])∧xs[i]?=some x∧zs[i]?=some y) where
  go:=λ i H hi q=>by
    have h1:i < xs.length:=by omega
    have h2:i < zs.length:=by omega
    exact ⟨xs,zs,xs[i],zs[i],q.1,q.2,by simp [h1],by simp [h2]⟩
  yld:=λ i H x H' hi q y=>by
    obtain ⟨T,x',z',hT,e1,e2,y1,y2⟩:=y;exact ⟨T,x',z',hT,e1,e2,y1 xs q.1,y2 zs q.2⟩
  stop:=λ H q=>⟨xs,zs,q.1,q.2,by omega⟩
noncomputable def litI:Expr→Option Int
  | .Constant (.int i) _ _=>some i
  | _=>none
noncomputable def litInts:List Expr→Option (List Int)
  | []=>some []
  | e :: es=>(litI e).bind λ i=>(litInts es).map (i :: ·)
noncomputable def aInts (ns:List Int):TA:=λ _ H Q=>Q (ns.map V.int) H
theorem pa_ints {X:Cx}:∀ {es:List Expr} {ns:List Int},litInts es=some ns→PA X es (aInts ns)
  | [],ns,h=>by
    cases h;exact pa_nil
  | x :: es,ns,h=>by
    have h':(litI x).bind (λ i=>(litInts es).map (i :: ·))=some ns:=h
    obtain ⟨i,e1,e2⟩:=Option.bind_eq_some_iff.mp h';obtain ⟨ms,e,rfl⟩:=Option.map_eq_some_iff.mp e2;unfold litI at e1;split at e1
    · cases e1;exact λ pos pins s σ H Q I q=>pa_cons pe_int (pa_ints e) rfl pos pins s σ H Q I q
    · cases e1
theorem ix_listK {X:Cx} {K:PySem.W.Frag} (hK:X.K=K:=by rfl):IxR X (rIxL K):=hK ▸ ix_list
theorem ix_tupK {X:Cx} {K:PySem.W.Frag} (hK:X.K=K:=by rfl):IxR X (rIxT K):=hK ▸ ix_tup
noncomputable def eqL:List V→List V→Bool
  | [],[]=>true
  | x :: xs,y :: ys=>eqV x y && eqL xs ys
  | _,_=>false
noncomputable def rEqF (K:PySem.W.Frag) (neg:Bool):R2:=λ x y H Q=>∃ a b xs ys,x = .ref a∧y = .ref b∧SqL K H a xs∧SqL K H b ys∧xs.all flatV=true∧ys.all flatV=true∧Q (.bl (if neg then !eqL xs ys else eqL xs ys)) H
theorem eqL_len:∀ {xs ys:List V},eqL xs ys=true→xs.length=ys.length
  | [],[],_=>rfl
  | x :: xs,y :: ys,h=>by
    unfold eqL at h;rw [Bool.and_eq_true] at h;simp [eqL_len h.2]
  | [],_ :: _,h=>by simp [eqL] at h
  | _ :: _,[],h=>by simp [eqL] at h
theorem eqL_range:∀ {xs ys:List V},xs.length=ys.length→(List.range xs.length).all (λ j=>eqV (xs.getD j .non) (ys.getD j .non))=eqL xs ys
  | [],[],_=>rfl
  | x :: xs,y :: ys,h=>by
    have ih:=eqL_range (xs:=xs) (ys:=ys) (by simpa using h);rw [List.length_cons,List.range_succ_eq_map,List.all_cons,List.all_map];unfold eqL;rw [← ih];rfl
  | [],_ :: _,h=>by simp at h
  | _ :: _,[],h=>by simp at h
theorem flat_at {xs:List V} {j:Nat} {x:V} (h:xs.all flatV=true) (e:xs[j]?=some x):flatV x=true:=List.all_eq_true.mp h x (List.mem_of_getElem? e)
theorem eqF_of {X:Cx} {neg:Bool} {x y:V} {H:Hp} {Q:VK} (h:rEqF X.K neg x y H Q):rEqL X neg x y H Q:=by
  obtain ⟨a,b,xs,ys,e1,e2,ha,hb,fx,fy,q⟩:=h;refine ⟨a,b,xs,ys,e1,e2,ha,hb,?_⟩
  by_cases hl:xs.length=ys.length
  · refine .inl ⟨hl,λ j=>eqV (xs.getD j .non) (ys.getD j .non),λ j x y ex ey=>?_,?_⟩
    · have:=(eqd_flat (X:=X) (H:=H) (flat_at fx ex) (flat_at fy ey)).mono (Nat.zero_le 8);simpa [List.getD,ex,ey] using this
    · rw [eqL_range hl];exact q
  · have:eqL xs ys=false:=Bool.eq_false_iff.mpr λ z=>hl (eqL_len z);rw [this] at q;refine .inr ⟨hl,?_⟩;cases neg<;>exact q
theorem op_eqF {X:Cx} {K:PySem.W.Frag} (hu:X.A.units + 64 < cLine) (hK:X.K=K:=by rfl):OpR X (compareOp .Eq) (rEqF K false):=by
  subst hK;exact λ pins s σ H x y v u Q I rx ry h=>op_eq_lst hu pins s σ H x y v u Q I rx ry (eqF_of h)
theorem op_neF {X:Cx} {K:PySem.W.Frag} (hu:X.A.units + 64 < cLine) (hK:X.K=K:=by rfl):OpR X (compareOp .NotEq) (rEqF K true):=by
  subst hK;exact λ pins s σ H x y v u Q I rx ry h=>op_ne_lst hu pins s σ H x y v u Q I rx ry (eqF_of h)
theorem pg_two {X:Cx} {K:PySem.W.Frag} {x y:Str} {k:Nat} {p1 p2 pos:Pos} (i j:Nat) (hc:X.calm=true) (hN:X.N.Nodup) (hi:X.N[i]?=some x:=by rfl) (hj:X.N[j]?=some y:=by rfl) (hx:X.env.scope.names.lookup x=some .local:=by rfl) (hy:X.env.scope.names.lookup y=some .local:=by rfl)
    (hs:(assignEach [.Name x p1,.Name y p2] X.env).map (·.2)=[assign (.Name x p1) X.env,assign (.Name y p2) X.env]:=by rfl) (hs2:(assignEach [.Name y p2] X.env).map (·.2)=[assign (.Name y p2) X.env]:=by rfl)
    (hn:(assignEach [.Name x p1,.Name y p2] X.env).length=2:=by rfl) (hst:(assignEach [.Name x p1,.Name y p2] X.env).findIdx? (·.1)=none:=by rfl) (hK:X.K=K:=by rfl) :
    PG X (.Tuple [.Name x p1,.Name y p2] k pos) (gTup K 2 (gCons (gName i) (gCons (gName j) gNil))) :=
  hK ▸ pg_tup hc (pgs_cons (pg_name hN hi (.inl hx) (.inr hx)) (pgs_cons (pg_name hN hj (.inl hy) (.inr hy)) pgs_nil hs2) hs) hn hst
theorem pg_three {X:Cx} {K:PySem.W.Frag} {x y z:Str} {k:Nat} {p1 p2 p3 pos:Pos} (i j l:Nat) (hc:X.calm=true) (hN:X.N.Nodup) (hi:X.N[i]?=some x:=by rfl) (hj:X.N[j]?=some y:=by rfl) (hl:X.N[l]?=some z:=by rfl) (hx:X.env.scope.names.lookup x=some .local:=by rfl) (hy:X.env.scope.names.lookup y=some .local:=by rfl)
    (hz:X.env.scope.names.lookup z=some .local:=by rfl)
    (hs:(assignEach [.Name x p1,.Name y p2,.Name z p3] X.env).map (·.2)=assign (.Name x p1) X.env :: (assignEach [.Name y p2,.Name z p3] X.env).map (·.2):=by rfl) (hs2:(assignEach [.Name y p2,.Name z p3] X.env).map (·.2)=assign (.Name y p2) X.env :: (assignEach [.Name z p3] X.env).map (·.2):=by rfl) (hs3:(assignEach [.Name z p3] X.env).map (·.2)=[assign (.Name z p3) X.env]:=by rfl)
    (hn:(assignEach [.Name x p1,.Name y p2,.Name z p3] X.env).length=3:=by rfl) (hst:(assignEach [.Name x p1,.Name y p2,.Name z p3] X.env).findIdx? (·.1)=none:=by rfl) (hK:X.K=K:=by rfl) :
    PG X (.Tuple [.Name x p1,.Name y p2,.Name z p3] k pos) (gTup K 3 (gCons (gName i) (gCons (gName j) (gCons (gName l) gNil)))) :=
  hK ▸ pg_tup hc (pgs_cons (pg_name hN hi (.inl hx) (.inr hx)) (pgs_cons (pg_name hN hj (.inl hy) (.inr hy)) (pgs_cons (pg_name hN hl (.inl hz) (.inr hz)) pgs_nil hs3) hs2) hs) hn hst
section
variable {J:It} {n:Nat} {Ok:Hp→Prop} {item:Nat→V→Hp→Hp→Prop}
theorem for_by {g:TG} {tb:TS} {D:Ends} {σ:St} {H:Hp} (Y:Yields J n Ok item) (Pv:Nat→St→Hp→Prop) (hl:∀ i σ H,i≤n→Pv i σ H→Ok H) (h0:Pv 0 σ H)
    (hs:∀ i x σ H H',i < n→item i x H H'→Pv i σ H→g x σ H' λ σ2 H2=>tb { D with nx:=Pv (i + 1),ct:=Pv (i + 1),bk:=D.nx } σ2 H2) (hd:∀ σ H,Pv n σ H→D.nx σ H) :
    ∃ W:Nat→Nat→St→Hp→Prop,(∃ m,W 0 m σ H)∧∀ i m σ H,W i m σ H →
      (J.stop i H∧D.nx σ H)∨(J.go i H∧∃ N:St→Hp→Prop,(∀ σ' H',N σ' H'→∃ m',m' < m∧W (i + 1) m' σ' H')∧∀ x H',J.yld i H x H'→g x σ H' λ σ2 H2=>tb { D with nx:=N,ct:=N,bk:=D.nx } σ2 H2):=by
  refine ⟨λ i m σ H=>m=n - i∧i≤n∧Pv i σ H,⟨n,by simp,Nat.zero_le _,h0⟩,?_⟩;rintro i m σ H ⟨rfl,hi,p⟩;have ok:=hl i σ H hi p
  by_cases hlt:i < n
  · exact .inr ⟨Y.go i H hlt ok,Pv (i + 1),λ σ' H' p'=>⟨n - (i + 1),by omega,rfl,hlt,p'⟩,λ x H' y=>hs i x σ H H' hlt (Y.yld i H x H' hlt ok y) p⟩
  · have e:i=n:=by omega
    subst e;exact .inl ⟨Y.stop H ok,hd σ H p⟩
theorem comp_by {g:TG} {tt:TT} {te:TE} {R:Hp→Prop} {H1:Hp} {σ0:St} {D:Addr} (Y:Yields J n Ok item) (Pv:Nat→List V→St→Hp→Prop) (hl:∀ i ys σ H,i≤n→Pv i ys σ H→Ok H) (h0:Pv 0 [] σ0 (upd H1 D (.lst [])))
    (hs:∀ i x ys σ H H',i < n→item i x H H'→Pv i ys σ H→g x σ H' λ σ3 H3=>tt σ3 H3 λ b H4=>if b=true then te σ3 H4 λ y H5=>H5 D=some (.lst ys)∧ys.length < sizeLine∧Pv (i + 1) (ys ++ [y]) σ3 (upd H5 D (.lst (ys ++ [y]))) else Pv (i + 1) ys σ3 H4)
    (hq:∀ ys σ H,Pv n ys σ H→R H) :
    ∃ W:Nat→Nat→List V→St→Hp→Prop,(∃ m,W 0 m [] σ0 (upd H1 D (.lst [])))∧∀ i m ys σ' H',W i m ys σ' H' →
      (J.stop i H'∧R H')∨(J.go i H'∧∃ N:List V→St→Hp→Prop,(∀ zs σ2 H2,N zs σ2 H2→∃ m',m' < m∧W (i + 1) m' zs σ2 H2)∧∀ x H2,J.yld i H' x H2→g x σ' H2 λ σ3 H3=>tt σ3 H3 λ b H4 =>
        if b=true then te σ3 H4 λ y H5=>H5 D=some (.lst ys)∧ys.length < sizeLine∧N (ys ++ [y]) σ3 (upd H5 D (.lst (ys ++ [y])))
        else N ys σ3 H4):=by
  refine ⟨λ i m ys σ H=>m=n - i∧i≤n∧Pv i ys σ H,⟨n,by simp,Nat.zero_le _,h0⟩,?_⟩;rintro i m ys σ H ⟨rfl,hi,p⟩;have ok:=hl i ys σ H hi p
  by_cases hlt:i < n
  · exact .inr ⟨Y.go i H hlt ok,Pv (i + 1),λ zs σ2 H2 p'=>⟨n - (i + 1),by omega,rfl,hlt,p'⟩,λ x H' y=>hs i x ys σ H H' hlt (Y.yld i H x H' hlt ok y) p⟩
  · have e:i=n:=by omega
    subst e;exact .inl ⟨Y.stop H ok,hq ys σ H p⟩
noncomputable def takenV (p:Nat→Bool) (f:Nat→V) (m:Nat):List V:=((List.range m).filter p).map f
theorem takenV_len (p:Nat→Bool) (f:Nat→V) (m:Nat):(takenV p f m).length≤m:=by
  unfold takenV;rw [List.length_map];exact Nat.le_trans (List.length_filter_le _ _) (by simp)
theorem takenV_yes {p:Nat→Bool} {f:Nat→V} {m:Nat} (h:p m=true):takenV p f (m + 1)=takenV p f m ++ [f m]:=by
  unfold takenV;rw [List.range_succ,List.filter_append,List.map_append];simp [h]
theorem takenV_no {p:Nat→Bool} {f:Nat→V} {m:Nat} (h:p m=false):takenV p f (m + 1)=takenV p f m:=by
  unfold takenV;rw [List.range_succ,List.filter_append,List.map_append];simp [h]
theorem small5 {n:Nat} (h:n≤100000):n < sizeLine:=by rw [sizeLine_eq];omega
theorem comp_filt {g:TG} {tt:TT} {te:TE} {R:Hp→Prop} {H1:Hp} {σ0:St} {D:Addr} (Y:Yields J n Ok item) (S:St→Prop) (p:Nat→Bool) (f:Nat→V) (hD:H1 D=none) (hn:n≤100000) (hok:∀ H,Same H1 H→Ok H) (s0:S σ0)
    (hs:∀ i x σ H H',i < n→item i x H H'→Same H1 H→S σ→∀ (Ky:St→V→Hp→Prop) (Kn:St→Hp→Prop),(∀ σ3 y H5,Same H H5→S σ3→p i=true→y=f i→Ky σ3 y H5)→(∀ σ3 H4,Same H H4→S σ3→p i=false→Kn σ3 H4) →
      g x σ H' λ σ3 H3=>tt σ3 H3 λ b H4=>if b=true then te σ3 H4 λ y H5=>Ky σ3 y H5 else Kn σ3 H4)
    (hq:∀ H,Same H1 H→H D=some (.lst (takenV p f n))→R H) :
    ∃ W:Nat→Nat→List V→St→Hp→Prop,(∃ m,W 0 m [] σ0 (upd H1 D (.lst [])))∧∀ i m ys σ' H',W i m ys σ' H' →
      (J.stop i H'∧R H')∨(J.go i H'∧∃ N:List V→St→Hp→Prop,(∀ zs σ2 H2,N zs σ2 H2→∃ m',m' < m∧W (i + 1) m' zs σ2 H2)∧∀ x H2,J.yld i H' x H2→g x σ' H2 λ σ3 H3=>tt σ3 H3 λ b H4 =>
        if b=true then te σ3 H4 λ y H5=>H5 D=some (.lst ys)∧ys.length < sizeLine∧N (ys ++ [y]) σ3 (upd H5 D (.lst (ys ++ [y])))
        else N ys σ3 H4):=by
  refine comp_by Y (λ i ys σ H=>Same H1 H∧H D=some (.lst ys)∧S σ∧ys=takenV p f i) (λ i ys σ H _ q=>hok H q.1) ⟨λ b o e=>by rw [upd_ne (ne_of_none e hD)];exact e,upd_same,s0,rfl⟩ ?_ ?_
  · rintro i x ys σ H H' hi it ⟨sm,hDl,hS,rfl⟩;refine hs i x σ H H' hi it sm hS (λ σ3 y H5=>H5 D=some (.lst (takenV p f i))∧(takenV p f i).length < sizeLine∧Same H1 (upd H5 D (.lst (takenV p f i ++ [y])))∧upd H5 D (.lst (takenV p f i ++ [y])) D=some (.lst (takenV p f i ++ [y]))∧S σ3∧takenV p f i ++ [y]=takenV p f (i + 1))
      (λ σ3 H4=>Same H1 H4∧H4 D=some (.lst (takenV p f i))∧S σ3∧takenV p f i=takenV p f (i + 1)) (λ σ3 y H5 s5 hS3 hp e=>?_) (λ σ3 H4 s4 hS3 hp=>?_)
    · subst e;refine ⟨s5 _ _ hDl,small5 (Nat.le_trans (takenV_len _ _ _) (by omega)),λ b o e=>?_,upd_same,hS3,(takenV_yes hp).symm⟩;rw [upd_ne (ne_of_none e hD)];exact s5 _ _ (sm _ _ e)
    · exact ⟨λ b o e=>s4 _ _ (sm _ _ e),s4 _ _ hDl,hS3,(takenV_no hp).symm⟩
  · rintro ys σ H ⟨sm,hDl,_,rfl⟩;exact hq H sm hDl
theorem comp_each {g:TG} {te:TE} {R:Hp→Prop} {H1:Hp} {σ0:St} {D:Addr} (Y:Yields J n Ok item) (S:St→Prop) (f:Nat→V) (hD:H1 D=none) (hn:n≤100000) (hok:∀ H,Same H1 H→Ok H) (s0:S σ0)
    (hs:∀ i x σ H H',i < n→item i x H H'→Same H1 H→S σ→∀ (Ky:St→V→Hp→Prop),(∀ σ3 y H5,Same H H5→S σ3→y=f i→Ky σ3 y H5)→g x σ H' λ σ3 H3=>te σ3 H3 λ y H5=>Ky σ3 y H5)
    (hq:∀ H,Same H1 H→H D=some (.lst ((List.range n).map f))→R H) :
    ∃ W:Nat→Nat→List V→St→Hp→Prop,(∃ m,W 0 m [] σ0 (upd H1 D (.lst [])))∧∀ i m ys σ' H',W i m ys σ' H' →
      (J.stop i H'∧R H')∨(J.go i H'∧∃ N:List V→St→Hp→Prop,(∀ zs σ2 H2,N zs σ2 H2→∃ m',m' < m∧W (i + 1) m' zs σ2 H2)∧∀ x H2,J.yld i H' x H2→g x σ' H2 λ σ3 H3=>tYes σ3 H3 λ b H4 =>
        if b=true then te σ3 H4 λ y H5=>H5 D=some (.lst ys)∧ys.length < sizeLine∧N (ys ++ [y]) σ3 (upd H5 D (.lst (ys ++ [y])))
        else N ys σ3 H4):=by
  refine comp_filt (tt:=tYes) Y S (λ _=>true) f hD hn hok s0 (λ i x σ H H' hi it sm hS Ky Kn hy _=>?_) (λ H sm e=>hq H sm (by rw [e];unfold takenV;rw [List.filter_eq_self.mpr (λ _ _=>rfl)]));exact hs i x σ H H' hi it sm hS Ky λ σ3 y H5 s5 h3 e=>hy σ3 y H5 s5 h3 rfl e
end
end L2
set_option maxHeartbeats 1000000
namespace Sp
open PySem L2
seal PE PA PS PSs PT PG PGs PI PW PTs
section
variable {P:Program} {w:World} {K:PySem.W.Frag} {mg:Str→Option Value} {base:Heap}
theorem same_laid {H:Hp} {D:Addr} {o:HO} (hD:H D=none):Same H (upd H D o):=λ b u e=>by rw [upd_ne (ne_of_none e hD)];exact e
theorem atI_int {xs:List V} {k:Int} {v:V} (h0:0≤k) (h:xs[k.toNat]?=some v):atI xs k=some v:=by
  have:=atI_nat h
  rwa [Int.toNat_of_nonneg h0] at this
theorem sc_cell:FnScope ["_law_script","_law_k"] ["_law_script","_law_k"] (defScope s__law_cell_at):=⟨rfl,rfl,rfl,by decide +kernel,rfl,by decide +kernel,by decide +kernel⟩
noncomputable def sp_cell (K:PySem.W.Frag):Sp:=λ vs H Q _=>∃ (a:Addr) (ns:List Int) (k:Int),vs=[.ref a,.int k]∧SqL K H a (ns.map V.int)∧0≤k∧Q (.int (ns.getD k.toNat 0)) H
theorem ok_cell (B:Bl mg) (D:FnAt K mg "_law_cell_at" s__law_cell_at ["_law_script","_law_k"]):Def P w K mg base CX0 1 "_law_cell_at" ["_law_script","_law_k"] (sp_cell K):=by
  refine D.ok sc_cell (λ vs H Q E h=>?_) λ f cdv A outer s H vs Q E hr h=>?_
  · obtain ⟨a,ns,k,rfl,_⟩:=h;rfl
  · obtain ⟨a,ns,k,rfl,hl,hk,q⟩:=h;refine ⟨_,pss_cons (ps_if (pt_cmpR op_lt (pv 1) (pe_callB call_len_seq (by rfl) B.len PySem.boot_len (pa_cons (pv 0) pa_nil)) (nomark _)) (pss_one (ps_ret (pe_ix ix_list (pv 0) (pv 1) (λ _ _=>rfl)))) pss_nil) (pss_one (ps_ret pe_int)),?_⟩;refine ⟨_,rfl,_,rfl,a,_,rfl,.inl hl,_,_,rfl,rfl,_,rfl,ite2 (λ h=>?_) (λ h=>?_)⟩
    · have h':k < ((ns.map V.int).length:Nat):=by simpa using h
      rw [List.length_map] at h';have hk':k.toNat < ns.length:=by omega
      refine ⟨_,rfl,_,rfl,a,_,_,_,rfl,rfl,hl,atI_int hk (v:=.int ns[k.toNat]) (by simp [hk']),?_⟩;rw [show ns.getD k.toNat 0=ns[k.toNat] by simp [List.getD,hk']] at q;exact q
    · have h':¬ k < ((ns.map V.int).length:Nat):=by simpa using h
      rw [List.length_map] at h';have hk':¬ k.toNat < ns.length:=by omega
      rw [show ns.getD k.toNat 0=0 by simp [List.getD,hk']] at q;exact q
theorem sc_draw:FnScope ["_law_cell","_law_k","_law_many","_law_primes"] ["_law_cell","_law_k","_law_many"] (defScope s__law_draw):=⟨rfl,rfl,rfl,by decide +kernel,rfl,by decide +kernel,by decide +kernel⟩
noncomputable def sp_draw:Sp:=λ vs H Q _=>∃ c k m:Int,vs=[.int c,.int k,.int m]∧0≤k∧0 < m∧∀ r H',0≤r→r < m→Same H H'→Q (.int r) H'
noncomputable def primes:List Int:=[1000003,1000033,1000037,1000039,1000081,1000099,1000117,1000121,1000133,1000151,1000159,1000171,1000183,1000187,1000193,1000199]
theorem primes_pos:∀ p∈primes,0 < p:=by decide
theorem ok_draw (D:FnAt K mg "_law_draw" s__law_draw ["_law_cell","_law_k","_law_many"]):Def P w K mg base CX0 1 "_law_draw" ["_law_cell","_law_k","_law_many"] sp_draw:=by
  refine D.ok sc_draw (λ vs H Q E h=>?_) λ f cdv A outer s H vs Q E hr h=>?_
  · obtain ⟨c,k,m,rfl,_⟩:=h;rfl
  · obtain ⟨c,k,m,rfl,hk,hm,q⟩:=h;refine ⟨_,pss_cons (ps_set (i:=3) sc_draw.nd rfl (Or.inl rfl) (pe_tup (pa_ints (ns:=primes) rfl)))
      (pss_one (ps_ret (pe_op op_mod (pe_op op_mod (pe_op op_add (pe_op op_mul (pv 0) pe_int) (pe_op op_mul (pv 1) pe_int)) (pe_ix ix_tup (pv 3) (pe_op op_mod (pv 1) pe_int) (λ _ _=>rfl))) (pv 2)))),?_⟩
    refine ⟨by show 16≤sizeLine;decide,λ t ht=>?_⟩;have hm16:(k % 16).toNat < 16:=by omega
    have hm0:0≤k % 16:=by omega
    obtain ⟨p,hp,hp0⟩:∃ p:Int,primes[(k % 16).toNat]?=some p∧0 < p:=by
      exact ⟨primes[(k % 16).toNat]'hm16,List.getElem?_eq_getElem hm16,primes_pos _ (List.getElem_mem hm16)⟩
    refine ⟨_,rfl,_,_,rfl,rfl,.inr ⟨by decide,by decide⟩,_,rfl,_,_,rfl,rfl,.inr ⟨by decide,by decide⟩,_,_,rfl,rfl,?_⟩;refine ⟨_,rfl,_,rfl,_,_,rfl,rfl,by show (0:Int) < 16;decide,t,_,_,.int p,rfl,rfl,SqT.of upd_same,atI_int hm0 ?_,?_⟩
    · have:(primes.map V.int)[(k % 16).toNat]?=some (V.int p):=by rw [List.getElem?_map,hp];rfl
      exact this
    · refine ⟨_,_,rfl,rfl,hp0,_,rfl,_,_,rfl,rfl,hm,?_⟩;exact q _ _ (Int.emod_nonneg _ (by omega)) (Int.emod_lt_of_pos _ hm) (same_laid ht)
noncomputable def Ok3 (r:Int×Int×Int):Prop:=r.1≤r.2.1∧0≤r.2.2∧-(10 ^ 50) < r.1∧r.1 < 10 ^ 50∧r.2.1 < 10 ^ 50∧r.2.2 < 10 ^ 60
theorem reqs_nil {H:Hp} {l:Addr}:ReqsAt (upd H l (.lst [])) l []:=⟨[],upd_same,rfl,λ i r e=>by simp at e⟩
theorem reqs_push {H:Hp} {l p:Addr} {rs:List (Int×Int×Int)} {xs:List V} {r:Int×Int×Int} (h:H l=some (.lst xs)) (hx:xs.length=rs.length) (hxs:∀ (i:Nat) r,rs[i]?=some r→∃ p,xs[i]?=some (.ref p)∧H p=some (.tup (trip r))) (hp:H p=none) :
    ReqsAt (upd (upd H p (.tup (trip r))) l (.lst (xs ++ [.ref p]))) l (rs ++ [r]):=by
  have nlp:l≠p:=ne_of_none h hp;refine ⟨_,upd_same,by simp [hx],λ i r' e=>?_⟩
  by_cases hi:i < rs.length
  · rw [List.getElem?_append_left hi] at e;obtain ⟨p',e1,e2⟩:=hxs i r' e;refine ⟨p',by rw [List.getElem?_append_left (by omega)];exact e1,?_⟩;rw [upd_ne (ne_of e2 h (by intro z;cases z)),upd_ne (ne_of_none e2 hp)];exact e2
  · rw [List.getElem?_append_right (Nat.le_of_not_lt hi)] at e;have hi2:i=rs.length:=by
      have:=(List.getElem?_eq_some_iff.mp e).1;simp at this;omega
    subst hi2;simp at e;subst e;exact ⟨p,by rw [← hx];simp,by rw [upd_ne nlp.symm];exact upd_same⟩
theorem sc_reqsL:FnScope ["_law_script","_law_found","_law_k","_law_first","_law_kind","_law_times","_law_days","_law_most","_law_each","_law_cell","_law_last"] ["_law_script"] (defScope s__law_requests):=⟨rfl,rfl,rfl,by decide +kernel,rfl,by decide +kernel,by decide +kernel⟩
noncomputable def sp_reqsL (K:PySem.W.Frag):Sp:=λ vs H Q _=>∃ (a:Addr) (ns:List Int),vs=[.ref a]∧SqL K H a (ns.map V.int)∧ns.length≤63∧∀ l rs H',H l=none→Same H H'→ReqsAt H' l rs→rs.length≤126→(∀ r∈rs,Ok3 r)→Q (.ref l) H'
theorem pick {ts:List Int} {p:Int→Prop} (hp:∀ x∈ts,p x) {r:Int} (h0:0≤r) (h1:r < (ts.length:Nat)):∃ x,atI (ts.map V.int) r=some (.int x)∧p x:=by
  have h2:r.toNat < ts.length:=by omega
  exact ⟨ts[r.toNat],atI_int h0 (by simp [h2]),hp _ (List.getElem_mem h2)⟩
theorem steps3 {n:Nat} (h:n % 3=0):steps 0 (n:Int) 3=n / 3:=by
  unfold steps Builtin.Range.rangeSize;rw [if_pos (by decide)]
  by_cases h0:n=0
  · subst h0;rfl
  · rw [if_pos (by omega)];omega
theorem get_ints {ns:List Int} {j:Nat} {k:Int} (hk:k=(j:Nat)) (h:j < ns.length):atI (ns.map V.int) k=some (.int ns[j]):=by
  subst hk;exact atI_nat (by simp [h])
theorem ite_each {c:Prop} [Decidable c] {σ:St} {H:Hp} {Q:VK} (h:∀ e:Int,(e=1∨e=2)→Q (.int e) H):if c then tC (.int 2) σ H Q else tC (.int 1) σ H Q:=by
  split
  · exact h 2 (.inr rfl)
  · exact h 1 (.inl rfl)
theorem small_mul {x t:Int} (h1:-100≤x) (h2:x≤100) (h3:0≤t) (h4:t≤1000000000):-100000000000≤x * t∧x * t≤100000000000:=by
  have a:=Int.mul_le_mul_of_nonneg_right h1 h3;have b:=Int.mul_le_mul_of_nonneg_right h2 h3;omega
theorem ok_reqsL (B:Bl mg) (GC:Def P w K mg base CX0 1 "_law_cell_at" ["_law_script","_law_k"] (sp_cell K)) (GD:Def P w K mg base CX0 1 "_law_draw" ["_law_cell","_law_k","_law_many"] sp_draw) (D:FnAt K mg "_law_requests" s__law_requests ["_law_script"]) :
    Def P w K mg base CX0 2 "_law_requests" ["_law_script"] (sp_reqsL K):=by
  refine D.ok sc_reqsL (λ vs H Q E h=>?_) λ f cdv A outer s H vs Q E hr h=>?_
  · obtain ⟨a,ns,rfl,_⟩:=h;rfl
  · obtain ⟨a,ns,rfl,hl,hn,q⟩:=h;refine ⟨_,pss_cons (ps_set (i:=1) sc_reqsL.nd rfl (Or.inl rfl) (pe_lst pa_nil))
      (pss_cons (ps_if (pt_cmpR op_eq (pe_op op_mod (pe_callB call_len_seq (by rfl) B.len PySem.boot_len (pa_cons (pv 0) pa_nil)) pe_int) pe_int (nomark _))
        (pss_cons (ps_for PassesOwn.never rfl (pi_range3 rfl B.range (pa_cons pe_int (pa_cons (pe_callB call_len_seq (by rfl) B.len PySem.boot_len (pa_cons (pv 0) pa_nil)) (pa_cons pe_int pa_nil)))) (pg_name (i:=2) sc_reqsL.nd rfl (Or.inl rfl))
          (pss_cons (ps_set (i:=3) sc_reqsL.nd rfl (Or.inl rfl) (pe_op op_mul (pe_op op_mod (pe_op op_fdiv (pe_ix ix_list (pv 0) (pv 2) (λ _ _=>rfl)) pe_int) (pe_op op_pow pe_int pe_int)) (pe_op op_sub pe_int (pe_op op_mul (pe_op op_mod (pe_ix ix_list (pv 0) (pv 2) (λ _ _=>rfl)) pe_int) pe_int))))
          (pss_one (ps_expr (pe_bm PySem.F.plainAttrs_list PySem.F.slot_list_append PySem.F.type_list_append mt_append (pv 1) (pa_cons (pe_tup (pa_cons (pv 3) (pa_cons (pe_op op_add (pv 3) (pe_op op_mod (pe_ix ix_list (pv 0) (pe_op op_add (pv 2) pe_int) (λ _ _=>rfl)) (pe_op op_pow pe_int pe_int)))
            (pa_cons (pe_op op_mod (pe_ix ix_list (pv 0) (pe_op op_add (pv 2) pe_int) (λ _ _=>rfl)) (pe_op op_pow pe_int pe_int)) pa_nil)))) pa_nil))))))
        (pss_one (ps_ret (pv 1)))) pss_nil)
      (pss_cons (ps_par (i:=4) (j:=5) rfl sc_reqsL.nd rfl rfl (by decide) rfl rfl (pa_cons (pe_def GD (hr.mono (by decide)) rfl pass0 (pa_cons (pe_def GC (hr.mono (by decide)) rfl pass0 (pa_cons (pv 0) (pa_cons pe_int pa_nil))) (pa_cons pe_int (pa_cons pe_int pa_nil))))
          (pa_cons (pe_ix ix_tup (pe_tup (pa_cons pe_int (pa_cons pe_int (pa_cons (pe_op op_pow pe_int pe_int) (pa_cons pe_int pa_nil))))) (pe_def GD (hr.mono (by decide)) rfl pass0 (pa_cons (pe_def GC (hr.mono (by decide)) rfl pass0 (pa_cons (pv 0) (pa_cons pe_int pa_nil))) (pa_cons pe_int (pa_cons pe_int pa_nil)))) (λ _ _=>rfl)) pa_nil)) rfl)
      (pss_cons (ps_par (i:=6) (j:=7) rfl sc_reqsL.nd rfl rfl (by decide) rfl rfl (pa_cons (pe_ix ix_tup (pe_tup (pa_ints rfl)) (pv 4) (λ _ _=>rfl))
          (pa_cons (pe_ix ix_tup (pe_tup (pa_ints rfl)) (pe_def GD (hr.mono (by decide)) rfl pass0 (pa_cons (pe_def GC (hr.mono (by decide)) rfl pass0 (pa_cons (pv 0) (pa_cons pe_int pa_nil))) (pa_cons pe_int (pa_cons pe_int pa_nil)))) (λ _ _=>rfl)) pa_nil)) rfl)
      (pss_cons (ps_set (i:=8) sc_reqsL.nd rfl (Or.inl rfl) (pe_ifExp (pt_cmpR op_eq (pe_def GD (hr.mono (by decide)) rfl pass0 (pa_cons (pe_def GC (hr.mono (by decide)) rfl pass0 (pa_cons (pv 0) (pa_cons pe_int pa_nil))) (pa_cons pe_int (pa_cons pe_int pa_nil)))) pe_int (nomark _)) pe_int pe_int))
      (pss_cons (ps_for PassesOwn.never rfl (pi_range1 rfl B.range (pa_cons (pe_op op_mul (pv 8) (pe_callB call_len_seq (by rfl) B.len PySem.boot_len (pa_cons (pv 0) pa_nil))) pa_nil)) (pg_name (i:=2) sc_reqsL.nd rfl (Or.inl rfl))
          (pss_cons (ps_set (i:=9) sc_reqsL.nd rfl (Or.inl rfl) (pe_op op_add (pe_ix ix_list (pv 0) (pe_op op_fdiv (pv 2) (pv 8)) (λ _ _=>rfl)) (pe_op op_mul pe_int (pe_op op_mod (pv 2) (pv 8)))))
          (pss_cons (ps_set (i:=3) sc_reqsL.nd rfl (Or.inl rfl) (pe_op op_sub (pe_def GD (hr.mono (by decide)) rfl pass0 (pa_cons (pv 9) (pa_cons (pe_op op_add (pe_op op_mod (pv 2) pe_int) pe_int) (pa_cons (pe_op op_add (pv 6) (pe_op op_mod (pv 2) pe_int)) pa_nil)))) (pe_op op_fdiv (pv 6) pe_int)))
          (pss_cons (ps_set (i:=10) sc_reqsL.nd rfl (Or.inl rfl) (pe_op op_add (pv 3) (pe_def GD (hr.mono (by decide)) rfl pass0 (pa_cons (pv 9) (pa_cons (pe_op op_add (pe_op op_mod (pv 2) pe_int) pe_int) (pa_cons (pe_ix ix_tup (pe_tup (pa_ints rfl)) (pv 4) (λ _ _=>rfl)) pa_nil))))))
          (pss_one (ps_expr (pe_bm PySem.F.plainAttrs_list PySem.F.slot_list_append PySem.F.type_list_append mt_append (pv 1) (pa_cons (pe_tup (pa_cons (pe_op op_mul (pv 3) (pv 5)) (pa_cons (pe_op op_mul (pv 10) (pv 5)) (pa_cons (pe_def GD (hr.mono (by decide)) rfl pass0 (pa_cons (pv 9) (pa_cons (pe_op op_add (pe_op op_mod (pv 2) pe_int) pe_int) (pa_cons (pv 7) pa_nil)))) pa_nil)))) pa_nil))))))))
      (pss_one (ps_ret (pv 1)))))))),?_⟩
    refine ⟨Nat.zero_le _,λ l hlN=>?_⟩;have s0:Same H (upd H l (.lst [])):=same_laid hlN;have keep:∀ {H1:Hp} {o:HO},Same H H1→Same H (upd H1 l o):=λ s1 b u e=>by rw [upd_ne (ne_of_none e hlN)];exact s1 b u e
    refine ⟨_,rfl,a,_,rfl,.inl (s0.seq hl),_,_,rfl,rfl,by show (0:Int) < 3;decide,rfl,_,rfl,ite2 (λ h3=>?_) (λ h3=>?_)⟩
    · -- by threes
      have h3':ns.length % 3=0:=by
        simp only [List.length_map,decide_eq_true_eq,V.int.injEq] at h3;omega
      refine ⟨_,rfl,a,_,rfl,.inl (s0.seq hl),0,_,3,rfl,⟨by decide,by decide,by simp only [List.length_map];omega,by simp only [List.length_map];omega,by decide,by decide⟩,?_⟩;rw [List.length_map,steps3 h3'];refine for_by yields_range3 (λ i σ H2=>∃ rs xs o2 o3,σ=[some (.ref a),some (.ref l),o2,o3,none,none,none,none,none,none,none]∧Same H H2∧H2 l=some (.lst xs)∧xs.length=rs.length∧(∀ (i:Nat) r,rs[i]?=some r→∃ p,xs[i]?=some (.ref p)∧H2 p=some (.tup (trip r)))∧rs.length=i∧∀ r∈rs,Ok3 r)
        (λ _ _ _ _ _=>trivial) ⟨[],[],_,_,rfl,s0,upd_same,rfl,λ i r e=>by simp at e,rfl,λ r hr'=>by simp at hr'⟩ ?_ ?_
      · rintro i x σ H2 H2' hi ⟨rfl,rfl⟩ ⟨rs,xs,o2,o3,rfl,s2,hx,hxl,hxs,hrl,hok⟩;have hi3:i * 3 + 2 < ns.length:=by omega
        have at0:atI (ns.map V.int) (0 + (i:Int) * 3)=some (.int (ns[i * 3]'(by omega))):=get_ints (by omega) (by omega);have at1:atI (ns.map V.int) (0 + (i:Int) * 3 + 1)=some (.int (ns[i * 3 + 1]'(by omega))):=get_ints (by omega) (by omega);have at2:atI (ns.map V.int) (0 + (i:Int) * 3 + 2)=some (.int (ns[i * 3 + 2]'(by omega))):=get_ints (by omega) (by omega);have hl2:=s2.seq hl;generalize ns[i * 3]'(by omega)=u at at0;generalize ns[i * 3 + 1]'(by omega)=v at at1;generalize ns[i * 3 + 2]'(by omega)=z at at2;have p40:(0:Int) < 10 ^ (40:Int).toNat:=by decide +kernel
        have p60:(0:Int) < 10 ^ (60:Int).toNat:=by decide +kernel
        refine ⟨_,rfl,_,rfl,a,_,_,_,rfl,rfl,hl2,at0,_,_,rfl,rfl,⟨by decide,by decide⟩,_,_,rfl,rfl,⟨by decide,by decide,by decide⟩,_,_,rfl,rfl,p40,?_⟩;refine ⟨_,rfl,_,rfl,a,_,_,_,rfl,rfl,hl2,at0,_,_,rfl,rfl,(by show (0:Int) < 2;decide),_,_,rfl,rfl,.inr ⟨by decide,by decide⟩,_,_,rfl,rfl,_,_,rfl,rfl,.inr ⟨by omega,by omega⟩,?_⟩;refine ⟨_,rfl,.inl ⟨rfl,_,SqL.of hx⟩,?_⟩;refine ⟨_,rfl,_,rfl,_,rfl,_,rfl,_,_,rfl,rfl,a,_,_,_,rfl,rfl,hl2,at1,_,_,rfl,rfl,⟨by decide,by decide,by decide⟩,_,_,rfl,rfl,p40,_,_,rfl,rfl,?_⟩;refine ⟨_,rfl,_,rfl,_,_,rfl,rfl,a,_,_,_,rfl,rfl,hl2,at2,_,_,rfl,rfl,⟨by decide,by decide,by decide⟩,_,_,rfl,rfl,p60,by show 3≤sizeLine;decide,λ p hp=>?_⟩;have nlp:l≠p:=ne_of_none hx hp;refine ⟨l,xs,_,rfl,rfl,by rw [upd_ne nlp];exact hx,small1000 (by omega),?_⟩;have e40:(10:Int) ^ (40:Int).toNat=10 ^ 40:=by decide +kernel
        have e60:(10:Int) ^ (60:Int).toNat=10 ^ 60:=by decide +kernel
        rw [e40] at p40;rw [e60] at p60;rw [e40,e60];obtain ⟨ys,y1,y2,y3⟩:=reqs_push (r:=(u / 2 % 10 ^ 40 * (1 - u % 2 * 2),u / 2 % 10 ^ 40 * (1 - u % 2 * 2) + v % 10 ^ 40,z % 10 ^ 60)) hx hxl hxs hp;rw [upd_same] at y1;cases y1;refine ⟨_,_,_,_,rfl,keep (s2.trans (same_laid hp)),upd_same,y2,y3,by simp [hrl],λ r hr'=>?_⟩;rcases List.mem_append.mp hr' with hm | hm
        · exact hok r hm
        · rw [List.mem_singleton] at hm;subst hm;have a1:0≤u / 2 % 10 ^ 40:=Int.emod_nonneg _ (by omega);have a2:u / 2 % 10 ^ 40 < 10 ^ 40:=Int.emod_lt_of_pos _ p40;have b1:0≤v % 10 ^ 40:=Int.emod_nonneg _ (by omega);have b2:v % 10 ^ 40 < 10 ^ 40:=Int.emod_lt_of_pos _ p40;have c1:0≤z % 10 ^ 60:=Int.emod_nonneg _ (by omega);have c2:z % 10 ^ 60 < 10 ^ 60:=Int.emod_lt_of_pos _ p60;have d:u % 2=0∨u % 2=1:=by omega
          generalize u / 2 % 10 ^ 40=x at *;generalize v % 10 ^ 40=y at *;generalize z % 10 ^ 60=t at *;unfold Ok3;dsimp only;rcases d with d | d<;>rw [d]<;>refine ⟨by omega,c1,by omega,by omega,by omega,c2⟩
      · rintro σ H2 ⟨rs,xs,o2,o3,rfl,s2,hx,hxl,hxs,hrl,hok⟩;exact ⟨_,rfl,q l rs H2 hlN s2 ⟨xs,hx,hxl,hxs⟩ (by omega) hok⟩
    · -- drawn
      have hl0:=s0.seq hl;refine ⟨_,rfl,a,ns,0,rfl,hl0,by decide,_,6,4,rfl,by decide,by decide,λ kind H1 k0 k1 s1=>?_⟩;have S1:Same H H1:=s0.trans s1;have hf1:H1 l=some (.lst []):=s1 _ _ upd_same;refine ⟨_,_,rfl,rfl,⟨by decide,by decide,by decide⟩,by show 4≤sizeLine;decide,λ t1 ht1=>?_⟩;have S2:=S1.trans (same_laid (o:=.tup [.int 1,.int 1,.int (10 ^ (9:Int).toNat),.int 7]) ht1);refine ⟨_,rfl,a,ns,1,rfl,S2.seq hl,by decide,_,7,4,rfl,by decide,by decide,λ r1 H2 r10 r11 s2=>?_⟩;obtain ⟨times,at1,tm⟩:=pick (ts:=[1,1,10 ^ (9:Int).toNat,7]) (p:=λ x=>1≤x∧x≤1000000000) (by decide +kernel) r10 r11;refine ⟨t1,_,_,.int times,rfl,rfl,SqT.of (s2 _ _ upd_same),at1,_,_,rfl,?_⟩;have S3:=S2.trans s2;have hf3:H2 l=some (.lst []):=s2 _ _ (by rw [upd_ne (ne_of_none hf1 ht1)];exact hf1);refine ⟨by show 4≤sizeLine;decide,λ t2 ht2=>?_⟩;have S4:=S3.trans (same_laid (o:=.tup [.int 5,.int 12,.int 30,.int 3]) ht2);obtain ⟨days,at2,dm⟩:=pick (ts:=[5,12,30,3]) (p:=λ x=>1≤x∧x≤30) (by decide +kernel) k0 k1;refine ⟨_,rfl,t2,_,_,.int days,rfl,rfl,SqT.of upd_same,at2,?_⟩;refine ⟨by show 4≤sizeLine;decide,λ t3 ht3=>?_⟩;have S5:=S4.trans (same_laid (o:=.tup [.int 4,.int 50,.int 1000000,.int 10]) ht3);refine ⟨_,rfl,a,ns,2,rfl,S5.seq hl,by decide,_,8,4,rfl,by decide,by decide,λ r2 H3 r20 r21 s3=>?_⟩;obtain ⟨most,at3,mm⟩:=pick (ts:=[4,50,1000000,10]) (p:=λ x=>1≤x∧x≤1000000) (by decide +kernel) r20 r21;refine ⟨t3,_,_,.int most,rfl,rfl,SqT.of (s3 _ _ upd_same),at3,_,_,rfl,?_⟩;have S6:=S5.trans s3;have hf2:upd H2 t2 (.tup [.int 5,.int 12,.int 30,.int 3]) l=some (.lst []):=by rw [upd_ne (ne_of_none hf3 ht2)];exact hf3
      have hf6:H3 l=some (.lst []):=s3 _ _ (by rw [upd_ne (ne_of_none hf2 ht3)];exact hf2);refine ⟨_,rfl,a,ns,1,rfl,S6.seq hl,by decide,_,9,8,rfl,by decide,by decide,λ r3 H4 r30 r31 s4=>?_⟩;have S7:=S6.trans s4;have hf7:H4 l=some (.lst []):=s4 _ _ hf6;refine ⟨rfl,_,rfl,ite_each λ each he=>?_⟩;refine ⟨_,rfl,_,rfl,a,_,rfl,.inl (S7.seq hl),_,_,rfl,rfl,.inl ⟨by omega,by omega⟩,?_⟩;rw [List.length_map];have hb:0≤each * (ns.length:Nat)∧each * (ns.length:Nat)≤126:=by rcases he with rfl | rfl<;>omega
      refine ⟨_,rfl,by omega,by omega,?_⟩;refine for_by yields_range (λ i σ H2=>∃ rs xs o2 o3 o9 o10,σ=[some (.ref a),some (.ref l),o2,o3,some (.int kind),some (.int times),some (.int days),some (.int most),some (.int each),o9,o10]∧Same H H2∧H2 l=some (.lst xs)∧xs.length=rs.length∧(∀ (i:Nat) r,rs[i]?=some r→∃ p,xs[i]?=some (.ref p)∧H2 p=some (.tup (trip r)))∧rs.length=i∧∀ r∈rs,Ok3 r)
        (λ _ _ _ _ _=>trivial) ⟨[],[],_,_,_,_,rfl,S7,hf7,rfl,λ i r e=>by simp at e,rfl,λ r hr'=>by simp at hr'⟩ ?_ ?_
      · rintro i x σ H5' H5 hi ⟨rfl,rfl⟩ ⟨rs,xs,o2,o3,o9,o10,rfl,s5,hx,hxl,hxs,hrl,hok⟩;have hi2:((0 + (i:Int)) / each).toNat < ns.length:=by rcases he with rfl | rfl<;>omega
        have atc:atI (ns.map V.int) ((0 + (i:Int)) / each)=some (.int ns[((0 + (i:Int)) / each).toNat]):=get_ints (by rcases he with rfl | rfl<;>omega) hi2;generalize ns[((0 + (i:Int)) / each).toNat]=u at atc;refine ⟨_,rfl,_,rfl,_,rfl,_,_,rfl,rfl,⟨by omega,by omega⟩,a,_,_,_,rfl,rfl,s5.seq hl,atc,_,rfl,_,rfl,_,_,rfl,rfl,by omega,_,_,rfl,rfl,.inl ⟨by decide,by decide⟩,_,_,rfl,rfl,?_⟩;refine ⟨_,rfl,_,rfl,_,_,rfl,rfl,by show (0:Int) < 5;decide,_,_,rfl,rfl,_,rfl,_,rfl,_,_,rfl,rfl,by show (0:Int) < 3;decide,_,_,rfl,rfl,_,_,_,rfl,by omega,by omega,λ f1 H6 f10 f11 s6=>?_⟩;refine ⟨_,rfl,_,_,rfl,rfl,⟨by decide,by decide⟩,_,_,rfl,rfl,?_⟩;refine ⟨_,rfl,_,rfl,_,rfl,_,_,rfl,rfl,by show (0:Int) < 7;decide,_,_,rfl,rfl,by show 4≤sizeLine;decide,λ t4 ht4=>?_⟩;obtain ⟨span,at4,sm⟩:=pick (ts:=[1,3,8,2]) (p:=λ x=>1≤x∧x≤8) (by decide +kernel) k0 k1;refine ⟨_,rfl,t4,_,_,.int span,rfl,rfl,SqT.of upd_same,at4,_,_,_,rfl,by omega,by omega,λ f2 H7 f20 f21 s7=>?_⟩;have S8:Same H5 H7:=(s6.trans (same_laid ht4)).trans s7;refine ⟨_,_,rfl,rfl,?_⟩;refine ⟨_,rfl,.inl ⟨rfl,_,SqL.of (S8 _ _ hx)⟩,?_⟩;refine ⟨_,rfl,_,rfl,_,_,rfl,rfl,.inr ⟨by omega,by omega⟩,_,rfl,_,rfl,_,_,rfl,rfl,.inr ⟨by omega,by omega⟩,?_⟩;refine ⟨_,rfl,_,rfl,_,_,rfl,rfl,by show (0:Int) < 3;decide,_,_,rfl,rfl,_,rfl,_,_,_,rfl,by omega,by omega,λ f3 H8 f30 f31 s8=>?_⟩;refine ⟨by show 3≤sizeLine;decide,λ p hp=>?_⟩;have S9:Same H5 H8:=S8.trans s8;have hx8:=S9 _ _ hx;have nlp:l≠p:=ne_of_none hx8 hp;refine ⟨l,xs,_,rfl,rfl,by rw [upd_ne nlp];exact hx8,small1000 (by omega),?_⟩;obtain ⟨ys,y1,y2,y3⟩:=reqs_push (r:=((f1 - days / 2) * times,(f1 - days / 2 + f2) * times,f3)) hx8 hxl (λ i r e=>let ⟨p',e1,e2⟩:=hxs i r e;⟨p',e1,S9 _ _ e2⟩) hp;rw [upd_same] at y1;cases y1;refine ⟨_,_,_,_,_,_,rfl,keep ((s5.trans S9).trans (same_laid hp)),upd_same,y2,y3,by simp [hrl],λ r hr'=>?_⟩;rcases List.mem_append.mp hr' with hm | hm
        · exact hok r hm
        · rw [List.mem_singleton] at hm;subst hm;have d0:0≤days / 2:=Int.ediv_nonneg (by omega) (by decide);have d1:days / 2≤15:=by omega
          have d2:(0 + (i:Int)) % 3 < 3:=by omega
          obtain ⟨m1,m2⟩:=small_mul (x:=f1 - days / 2) (t:=times) (by omega) (by omega) (by omega) (by omega);obtain ⟨m3,m4⟩:=small_mul (x:=f1 - days / 2 + f2) (t:=times) (by omega) (by omega) (by omega) (by omega);have m5:(f1 - days / 2) * times≤(f1 - days / 2 + f2) * times:=Int.mul_le_mul_of_nonneg_right (by omega) (by omega);unfold Ok3;dsimp only;generalize (f1 - days / 2) * times=A at *;generalize (f1 - days / 2 + f2) * times=B at *;exact ⟨m5,f30,by omega,by omega,by omega,by omega⟩
      · rintro σ H5 ⟨rs,xs,o2,o3,o9,o10,rfl,s5,hx,hxl,hxs,hrl,hok⟩;exact ⟨_,rfl,q l rs H5 hlN s5 ⟨xs,hx,hxl,hxs⟩ (by omega) hok⟩
end
end Sp
namespace Stb
open PySem
noncomputable def Rise (xs:Array Nat):Prop:=∀ i j,i < j→j < xs.size→xs.getD i 0 < xs.getD j 0
theorem getD_eq {xs:Array Nat} {i d:Nat} (h:i < xs.size):xs.getD i d=xs[i]:=by simp [Array.getD,h]
theorem go_spec {xs:Array Nat} {j:Nat} (hr:Rise xs):∀ (fuel lo hi:Nat),lo≤hi→hi≤xs.size→hi - lo≤fuel→(∀ i,i < lo→xs.getD i 0 < j)→(∀ i,hi≤i→i < xs.size→j≤xs.getD i 0) →
    SetTable.below.go xs j fuel lo hi≤xs.size∧(∀ i,i < SetTable.below.go xs j fuel lo hi→xs.getD i 0 < j)∧∀ i,SetTable.below.go xs j fuel lo hi≤i→i < xs.size→j≤xs.getD i 0
  | 0,lo,hi,h1,h2,h3,h4,h5=>by
    have:lo=hi:=by omega
    subst this;exact ⟨h2,h4,h5⟩
  | fuel + 1,lo,hi,h1,h2,h3,h4,h5=>by
    unfold SetTable.below.go
    by_cases c:lo < hi
    · rw [if_pos c];dsimp only;have hm:(lo + hi) / 2 < xs.size:=by omega
      have e:xs.getD ((lo + hi) / 2) j=xs.getD ((lo + hi) / 2) 0:=by rw [getD_eq hm,getD_eq hm]
      by_cases c2:xs.getD ((lo + hi) / 2) j < j
      · rw [if_pos c2];refine go_spec hr fuel _ _ (by omega) h2 (by omega) (λ i hi'=>?_) h5;rw [e] at c2
        by_cases ei:i=(lo + hi) / 2
        · subst ei;exact c2
        · have:=hr i ((lo + hi) / 2) (by omega) hm;omega
      · rw [if_neg c2];refine go_spec hr fuel _ _ (by omega) (by omega) (by omega) h4 (λ i h1' h2'=>?_);rw [e] at c2
        by_cases ei:i=(lo + hi) / 2
        · subst ei;omega
        · have:=hr ((lo + hi) / 2) i (by omega) h2';omega
    · rw [if_neg c];have:lo=hi:=by omega
      subst this;exact ⟨h2,h4,h5⟩
theorem below_spec {xs:Array Nat} (hr:Rise xs) (j:Nat):SetTable.below xs j≤xs.size∧(∀ i,i < SetTable.below xs j→xs.getD i 0 < j)∧∀ i,SetTable.below xs j≤i→i < xs.size→j≤xs.getD i 0 :=
  go_spec hr xs.size 0 xs.size (Nat.zero_le _) (Nat.le_refl _) (by omega) (λ i hi=>absurd hi (Nat.not_lt_zero _)) λ i h1 h2=>by omega
theorem below_zero {xs:Array Nat} (hr:Rise xs):SetTable.below xs 0=0:=by
  obtain ⟨h1,h2,_⟩:=below_spec hr 0;rcases Nat.eq_zero_or_pos (SetTable.below xs 0) with h | h
  · exact h
  · have:=h2 0 h;omega
theorem below_next {xs:Array Nat} (hr:Rise xs) {i:Nat} (hi:i < xs.size):SetTable.below xs (xs.getD i 0 + 1)=i + 1:=by
  obtain ⟨h1,h2,h3⟩:=below_spec hr (xs.getD i 0 + 1);rcases Nat.lt_trichotomy (SetTable.below xs (xs.getD i 0 + 1)) (i + 1) with h | h | h
  · have:=h3 i (by omega) hi;omega
  · exact h
  · have h4:=h2 (i + 1) h;have h5:=hr i (i + 1) (by omega) (by omega);omega
theorem rise_insert {xs:Array Nat} (hr:Rise xs) {j:Nat} (hn:xs[SetTable.below xs j]?≠some j):Rise (SetTable.insertAt xs (SetTable.below xs j) j):=by
  obtain ⟨h1,h2,h3⟩:=below_spec hr j;have hsz:(SetTable.insertAt xs (SetTable.below xs j) j).size=xs.size + 1:=by
    have:=(SetTable.insertAt_perm xs (SetTable.below xs j) j).length_eq;simpa using this
  generalize hb:SetTable.below xs j=b at h1 h2 h3 hn hsz ⊢;have get:∀ i,i < xs.size + 1→(SetTable.insertAt xs b j).getD i 0=if i < b then xs.getD i 0 else if i=b then j else xs.getD (i - 1) 0:=λ i hi=>by
    have hl:=SetTable.toList_insertAt xs b j;have e:(SetTable.insertAt xs b j)[i]?=(xs.toList.take b ++ j :: xs.toList.drop b)[i]?:=by rw [← Array.getElem?_toList,hl]
    have htk:(xs.toList.take b).length=b:=by simp;omega
    rw [Array.getD_eq_getD_getElem?,e]
    by_cases c1:i < b
    · rw [if_pos c1,List.getElem?_append_left (by omega),List.getElem?_take_of_lt c1,Array.getElem?_toList,← Array.getD_eq_getD_getElem?]
    · rw [if_neg c1,List.getElem?_append_right (by omega),htk]
      by_cases c2:i=b
      · subst c2;simp
      · rw [if_neg c2];obtain ⟨k,hk⟩:∃ k,i - b=k + 1:=⟨i - b - 1,by omega⟩;rw [hk,List.getElem?_cons_succ,List.getElem?_drop,Array.getElem?_toList,← Array.getD_eq_getD_getElem?,show b + k=i - 1 by omega]
  have up:∀ i,b≤i→i < xs.size→j < xs.getD i 0:=λ i h4 h5=>by
    have hbb:b < xs.size:=by omega
    have h6:=h3 b (Nat.le_refl _) hbb;have h7:xs.getD b 0≠j:=λ z=>hn (by rw [getElem?_pos xs b hbb,← z,getD_eq hbb])
    by_cases e:i=b
    · subst e;omega
    · have:=hr b i (by omega) h5;omega
  intro i k hik hk;rw [hsz] at hk;rw [get i (by omega),get k hk]
  by_cases c1:i < b
  · rw [if_pos c1]
    by_cases c2:k < b
    · rw [if_pos c2];exact hr i k hik (by omega)
    · rw [if_neg c2]
      by_cases c3:k=b
      · rw [if_pos c3];exact h2 i c1
      · rw [if_neg c3];exact hr i (k - 1) (by omega) (by omega)
  · rw [if_neg c1,if_neg (by omega:¬ k < b),if_neg (by omega:¬ k=b)]
    by_cases c2:i=b
    · rw [if_pos c2];exact up (k - 1) (by omega) (by omega)
    · rw [if_neg c2];exact hr (i - 1) (k - 1) (by omega) (by omega)
structure Good (t:SetTable) (b:Bool):Prop where
  led:t.led=b
  dum:t.dummies = #[]
  rise:t.plain=true→Rise t.place
theorem Good.fresh {m f:Nat} {b:Bool}:Good (.fresh m f b) b:=⟨rfl,rfl,λ _ i j h1 h2=>absurd h2 (Nat.not_lt_zero _)⟩
theorem Good.stand {t:SetTable} {b:Bool} (h:Good t b) (n:Nat):Good (t.standIn n) b:=⟨h.led,rfl,λ z=>by cases z⟩
theorem Good.orStand {t:SetTable} {b:Bool} (h:Good t b) (n:Nat):Good (t.orStandIn n) b:=by
  unfold SetTable.orStandIn;split
  · exact h
  · exact h.stand n
theorem has_none (j:Nat):SetTable.has #[] j=false:=by
  unfold SetTable.has;simp
theorem go_empty {t:SetTable} (hd:t.dummies = #[]) {f:Nat→Int} {h:Int}:∀ (fuel:Nat) (p:SetTable.Probe) {j:Nat} {d:Option Nat},p.dummy=none→SetTable.probe.go t f h fuel p=some (.empty j d)→t.slot j = .empty∧d=none
  | 0,p,j,d,_,e=>by cases e
  | fuel + 1,p,j,d,hp,e=>by
    unfold SetTable.probe.go at e;have adv:∀ p:SetTable.Probe,p.dummy=none→(t.advance p).dummy=none:=λ p h=>by
      unfold SetTable.advance;split
      · exact h
      · exact h
    have nd:t.slot p.j≠.dummy:=by
      unfold SetTable.slot;dsimp only;split
      · intro z;cases z
      · rw [hd,has_none];intro z;cases z
    cases hs:t.slot p.j with
    | empty =>
      rw [hs] at e;dsimp only at e;cases e;exact ⟨hs,hp⟩
    | dummy=>exact absurd hs nd
    | live i =>
      rw [hs] at e;dsimp only at e;split at e
      · cases e
      · exact go_empty hd fuel _ (adv p hp) e
theorem Good.put {t:SetTable} {b:Bool} (h:Good t b) {j:Nat} (hs:t.slot j = .empty):Good (t.put j).1 b:=by
  refine ⟨h.led,?_,λ hp=>?_⟩
  · show (if SetTable.has t.dummies j=true then _ else t.dummies) = #[];rw [h.dum,has_none,if_neg (by simp)]
  · refine rise_insert (h.rise hp) λ z=>?_;unfold SetTable.slot at hs;dsimp only at hs;rw [z] at hs;simp at hs
theorem Good.new {t:SetTable} {b:Bool} (h:Good t b) (es:Array (Int×Value)) (n:Int) (x:Value):Good (layNew t es n x).2.1 b:=by
  unfold layNew;cases e:t.freeSlot n with
  | none=>exact h.stand _
  | some r =>
    obtain ⟨slot,was⟩:=r;dsimp only;unfold SetTable.freeSlot SetTable.probe at e;cases e2:SetTable.probe.go t (λ _=>n + 1) n (10 * SetTable.turns t.mask) (t.probeStart n) with
    | none=>rw [e2] at e;cases e
    | some m =>
      rw [e2] at e;cases m with
      | candidate=>cases e
      | empty j d =>
        obtain ⟨h1,rfl⟩:=go_empty h.dum _ _ rfl e2;cases e;exact (h.put h1).orStand _
theorem rise_laid {n:Nat} {f:Nat→Option Nat}:Rise (((List.range n).filterMap λ j=>(f j).map (j,·)).map (·.1)).toArray:=by
  have key:(((List.range n).filterMap λ j=>(f j).map (j,·)).map (·.1)).Pairwise (· < ·):=by
    rw [List.pairwise_map];refine List.Pairwise.filterMap _ ?_ (List.pairwise_lt_range (n:=n));intro a a' h b hb b' hb';cases ha:f a with
    | none=>rw [ha] at hb;simp at hb
    | some x =>
      cases ha':f a' with
      | none=>rw [ha'] at hb';simp at hb'
      | some x' =>
        rw [ha] at hb;rw [ha'] at hb';simp at hb hb';subst hb;subst hb';exact h
  intro i j hij hj;have hj':j < (((List.range n).filterMap λ j=>(f j).map (j,·)).map (·.1)).length:=by simpa using hj
  have:=List.pairwise_iff_getElem.mp key i j (by omega) hj' hij;have hi':i < (((List.range n).filterMap λ j=>(f j).map (j,·)).map (·.1)).toArray.size:=by omega
  rw [getD_eq hi',getD_eq hj];simpa using this
theorem Good.relay {t:SetTable} {b:Bool} (h:Good t b) (es:Array (Int×Value)) (n:Nat):Good (relayAll t es n).2.1 b:=by
  unfold relayAll;cases e:t.relaid (es.map (·.1)) n with
  | none=>exact h.stand _
  | some r =>
    obtain ⟨t',order⟩:=r;dsimp only;split
    · unfold SetTable.relaid SetTable.laid at e;cases e2:SetTable.layClean (SetTable.sizeAbove n - 1) (es.map (·.1)) with
      | none=>rw [e2] at e;cases e
      | some owner =>
        rw [e2] at e;cases e;exact ⟨h.led,rfl,λ _=>rise_laid⟩
    · exact h.stand _
end Stb
namespace Stb
open PySem PyProof.Rows
section
variable {prog:Program} {w:World}
noncomputable def SX (prog:Program) (w:World) (h:Heap) (a:Addr) (l:List Int) (b:Bool):Prop :=
  ∃ o es ep t,h.get? a=some o∧o.ExactSet∧o.data = .set es ep t∧ElemsOf (intKind prog w) es.toList∧(es.toList.map λ e=>numOf e.2).Perm l∧l.length < scanBound∧t.fits es.size=true∧Good t b
theorem SX.keeps {h h':Heap} {a:Addr} {l:List Int} {b:Bool} (x:SX prog w h a l b) (hk:∀ o,h.get? a=some o→h'.get? a=some o):SX prog w h' a l b:=by
  obtain ⟨o,es,ep,t,g,r⟩:=x;exact ⟨o,es,ep,t,hk o g,r⟩
theorem is_num {k:Int} {v:Value} (h:(intKind prog w).is k v=true):∃ t,v = .int k t:=Value.isInt_shape h
theorem size_of {es:Array (Int×Value)} {l:List Int} (h:(es.toList.map λ e=>numOf e.2).Perm l):es.size=l.length:=by
  have:=h.length_eq;simpa using this
noncomputable def addTo (l:List Int) (n:Int):List Int:=if n∈l then l else l ++ [n]
variable {A:Around} {E:Value→Shared→Prop} {s:Shared}
theorem store_x {a:Addr} {o:Obj} {es es':Array (Int×Value)} {ep:Nat} {t t':SetTable} {l:List Int} {b:Bool} (ho:s.heap.get? a=some o) (hex:o.ExactSet) (hd:o.data = .set es ep t) (hel:ElemsOf (intKind prog w) es'.toList)
    (hp:(es'.toList.map λ e=>numOf e.2).Perm l) (hb:l.length < scanBound) (hf:t'.fits es'.size=true) (hg:Good t' b) :
    (s.heap.update a (Obj.putSet es' t')).get? a=some { o with data:=.set es' (ep + 1) t' }∧SX prog w (s.heap.update a (Obj.putSet es' t')) a l b:=by
  have g:(s.heap.update a (Obj.putSet es' t')).get? a=some { o with data:=.set es' (ep + 1) t' }:=by
    have:=Heap.get?_update_self (Obj.putSet es' t') ho (by rw [putSet_of es' t' hd];rfl)
    rwa [putSet_of es' t' hd] at this
  exact ⟨g,_,es',ep + 1,t',g,hex,rfl,hel,hp,hb,hf,hg⟩
theorem add_x {a:Addr} {l:List Int} {b:Bool} {n:Int} {tk:Tok} {Q:Bool→Shared→Prop} (hS:SX prog w s.heap a l b) (hroom:l.length + 1 < scanBound)
    (h:∀ r h',Heap.SameBut a s.heap h'→SX prog w h' a (addTo l n) b→Q r { s with heap:=h' }):wpAny (model prog w) A (setAddHashed a (.int n tk) ((intKind prog w).hash n)) Q E s:=by
  obtain ⟨o,es,ep,t,ho,hex,hd,hel,hp,hb,hf,hg⟩:=hS;have hsz:=size_of hp;have hkey:(intKind prog w).is n (.int n tk)=true:=intKind_is _ _ _ _;unfold setAddHashed setAddHashedIn;refine wpAny_holding (wpAny_bind (wpAny_setState_of ho hd hf ?_));dsimp only;rw [byScan_of rfl (by omega) hel];simp only [↓reduceIte];unfold setAddByScan;refine wpAny_bind (wpAny_bind (wpAny_rule (wpAny_bind (wpAny_setScan_of hkey ho hd hf hel ?_))));cases hr:List.findIdx? (λ e=>(intKind prog w).is n e.2) es.toList with
  | some j =>
    dsimp only;obtain ⟨hj,hpj,_⟩:=List.findIdx?_eq_some_iff_getElem.mp hr;obtain ⟨t',e'⟩:=is_num hpj;have hm:n∈l:=hp.mem_iff.mp (List.mem_map.mpr ⟨es.toList[j],List.getElem_mem hj,by rw [e'];rfl⟩);refine wpAny_pure (wpAny_pure ?_);have:=h false s.heap (Heap.SameBut.refl a s.heap) ⟨o,es,ep,t,ho,hex,hd,hel,by unfold addTo;rw [if_pos hm];exact hp,by unfold addTo;rw [if_pos hm];exact hb,hf,hg⟩;exact this
  | none =>
    dsimp only;have hm:n∉l:=λ z=>by
      obtain ⟨e,he,e1⟩:=List.mem_map.mp (hp.mem_iff.mpr z);have h1:=List.findIdx?_eq_none_iff.mp hr e he;obtain ⟨⟨k,hk,_⟩,_⟩:=hel e he;obtain ⟨t',e2⟩:=is_num hk;have e3:k=n:=by rw [e2] at e1;exact e1
      rw [← e3,hk] at h1;cases h1
    have hperm:=layNew_perm t es ((intKind prog w).hash n) (.int n tk);have hfits:=layNew_fits t es ((intKind prog w).hash n) (.int n tk);have hgood:=hg.new es ((intKind prog w).hash n) (.int n tk);generalize layNew t es ((intKind prog w).hash n) (.int n tk)=L at hperm hfits hgood ⊢;obtain ⟨es1,t1,was,gave⟩:=L;dsimp only at hperm hfits hgood ⊢;rw [Array.toList_push] at hperm;have hel1:ElemsOf (intKind prog w) es1.toList:=(hel.push hkey rfl).perm hperm;have hl1:(es1.toList.map λ e=>numOf e.2).Perm (addTo l n):=by
      unfold addTo;rw [if_neg hm];refine (hperm.map _).trans ?_;rw [List.map_append];exact hp.append_right _
    have hb1:(addTo l n).length < scanBound:=by unfold addTo;rw [if_neg hm,List.length_append,List.length_singleton];omega
    have way:∀ (g:Bool) {s₁:Shared} {Q':Unit→Shared→Prop},Q' () s₁→wpAny (model prog w) A (match g with | true=>rule "set.scan.the-table-gave-way" | false=>pure ()) Q' E s₁ :=
      λ g s₁ Q' hq=>by cases g<;>first | exact wpAny_pure hq | exact wpAny_rule hq
    refine wpAny_bind (way _ ?_);have rest:∀ t2:SetTable,t2.fits es1.size=true→Good t2 b→wpAny (model prog w) A (do
        storeSet a es1 t2
        if (!was && t2.tooFull)=true then do
            (match (relayAll t2 es1 (SetTable.grown es1.size)).2.2 with | true=>rule "set.scan.the-table-gave-way" | false=>pure ())
            storeSet a (relayAll t2 es1 (SetTable.grown es1.size)).1 (relayAll t2 es1 (SetTable.grown es1.size)).2.1
            pure (some true)
          else pure (some true)) (λ r s'=>wpAny (model prog w) A (match r with | some added=>pure added | none=>setAddHashedIn a (.int n tk) ((intKind prog w).hash n) 99999) Q E s') E s:=λ t2 hf2 hg2=>by
      have z1:es1.size≤sizeLine:=fits_of_scanBound (by rw [size_of hl1];exact hb1);refine wpAny_bind (wpAny_storeSet_of ho hd ?_ z1);obtain ⟨g1,x1⟩:=store_x (prog:=prog) (w:=w) ho hex hd hel1 hl1 hb1 hf2 hg2;have sb1:=Heap.SameBut.update s.heap a (Obj.putSet es1 t2);split
      · have hpr:=relayAll_perm t2 es1 (SetTable.grown es1.size);have hfr:=relayAll_fits t2 es1 (SetTable.grown es1.size);have hgr:=hg2.relay es1 (SetTable.grown es1.size);generalize relayAll t2 es1 (SetTable.grown es1.size)=Rl at hpr hfr hgr ⊢;obtain ⟨es2,t3,gave2⟩:=Rl;dsimp only at hpr hfr hgr ⊢;have hl2:(es2.toList.map λ e=>numOf e.2).Perm (addTo l n):=(hpr.map _).trans hl1;refine wpAny_bind (way _ ?_);refine wpAny_bind (wpAny_storeSet_of g1 rfl ?_ (fits_of_scanBound (by rw [size_of hl2];exact hb1)));obtain ⟨_,x2⟩:=store_x (prog:=prog) (w:=w) (s:={ s with heap:=s.heap.update a (Obj.putSet es1 t2) }) g1 hex rfl (hel1.perm hpr) hl2 hb1 hfr hgr;exact wpAny_pure (wpAny_pure (h true _ (sb1.trans (Heap.SameBut.update _ a _)) x2))
      · exact wpAny_pure (wpAny_pure (h true _ sb1 x1))
    split
    · refine wpAny_bind ?_;rw [hashByValue_scannable 8 rfl];refine wpAny_pure ?_;exact rest t1 hfits hgood
    · refine wpAny_bind (wpAny_pure ?_);simp only [↓reduceIte];exact rest t1 hfits hgood
end
end Stb
set_option maxHeartbeats 3200000
namespace Stb
open PySem PyProof.Rows
noncomputable def seen (val:Nat→Int) (i:Nat):List Int:=((List.range i).map val).foldl addTo []
theorem seen_succ (val:Nat→Int) (i:Nat):seen val (i + 1)=addTo (seen val i) (val i):=by
  unfold seen;rw [List.range_succ,List.map_append,List.foldl_append];rfl
theorem seen_len (val:Nat→Int):∀ i,(seen val i).length≤i
  | 0=>Nat.le_refl _
  | i + 1=>by
    rw [seen_succ];have:=seen_len val i;unfold addTo;split
    · omega
    · rw [List.length_append,List.length_singleton];omega
theorem seen_nodup (val:Nat→Int):∀ i,(seen val i).Nodup
  | 0=>.nil
  | i + 1=>by
    rw [seen_succ];have ih:=seen_nodup val i;unfold addTo;split
    · exact ih
    · rename_i h
      exact List.nodup_append.mpr ⟨ih,by simp,λ x hx y hy z=>h (by rw [List.mem_singleton] at hy;rw [← hy,← z];exact hx)⟩
theorem seen_mem (val:Nat→Int) {n:Int}:∀ i,n∈seen val i↔∃ j,j < i∧val j=n
  | 0=>⟨λ h=>by simp [seen] at h,λ ⟨j,h,_⟩=>by omega⟩
  | i + 1=>by
    rw [seen_succ];have ih:=seen_mem val (n:=n) i;have step:n∈addTo (seen val i) (val i)↔n∈seen val i∨n=val i:=by
      unfold addTo;split
      · rename_i h
        exact ⟨.inl,λ z=>z.elim id λ e=>e ▸ h⟩
      · rw [List.mem_append,List.mem_singleton]
    rw [step,ih];constructor
    · rintro (⟨j,h1,h2⟩ | h)
      · exact ⟨j,by omega,h2⟩
      · exact ⟨i,by omega,h.symm⟩
    · rintro ⟨j,h1,h2⟩
      by_cases e:j=i
      · subst e;exact .inr h2.symm
      · exact .inl ⟨j,by omega,h2⟩
section
variable {prog:Program} {w:World} {A:Around} {b:Bool}
theorem loop_x {R:Result→Shared→Prop} {I:Addr} {fp wr:List Addr} {G:Array GenState→Array GenState→Prop} {n:Nat} {P:Nat→Value→Prop} {St:Nat→Shared→Prop} (W:WalksS prog w A.in1 I fp wr G n P St) (S:Addr) (hS:S∉fp)
    (val:Nat→Int) (hv:∀ i v,P i v→∃ t,v = .int (val i) t) (hb:n + 1 < scanBound) :
    ∀ (k i:Nat) (s:Shared),n - i=k→i≤n→St i s→SX prog w s.heap S (seen val i) b→(∀ s',Moved (S :: wr) G s s'→SX prog w s'.heap S (seen val n) b→R (.ok (.ret .none)) s') →
      codeAny (model prog w) A (.builtin "set.update.loop" ⟨[.ref S,.ref I],[]⟩) R s:=by
  have nw:S∉wr:=λ h=>hS (W.sub _ h);have up:∀ c∈wr,c∈S :: wr:=λ c hc=>List.mem_cons_of_mem _ hc;intro k
  induction k with
  | zero =>
    intro i s hk hi st x hR;obtain rfl:i=n:=by omega
    refine codeAny_builtin PyProof.Rows.F.entry_set_update_loop ?_;rw [Around.under_plainId PyProof.Rows.F.plain_set_update_loop _];show wpAny _ A.in1 (pyNext (.ref I) >>= _) _ _ s;refine wpAny_bind (W.done s _ _ st λ s' hm=>?_);show wpAny _ A.in1 (ret Value.none) _ _ s';exact wpAny_pure (hR s' (hm.mono up) (x.keeps λ o e=>hm.heap S _ nw e))
  | succ k ih =>
    intro i s hk hi st x hR;refine codeAny_builtin PyProof.Rows.F.entry_set_update_loop ?_;rw [Around.under_plainId PyProof.Rows.F.plain_set_update_loop _];show wpAny _ A.in1 (pyNext (.ref I) >>= _) _ _ s;refine wpAny_bind (W.item i s _ _ (by omega) st λ v s' hP st' hm=>?_);obtain ⟨t,rfl⟩:=hv i v hP;have x':SX prog w s'.heap S (seen val i) b:=x.keeps λ o e=>hm.heap S _ nw e;show wpAny _ A.in1 (holding [Value.int (val i) t] (setAdd S (.int (val i) t)) >>= _) _ _ s';unfold setAdd;refine wpAny_bind (wpAny_holding (wpAny_holding (wpAny_bind ((intKind prog w).pyHash (k:=val i) (intKind_is _ _ _ _) ?_))));have room:(seen val i).length + 1 < scanBound:=by have:=seen_len val i;omega
    refine add_x (s:={ s' with toks:=s'.toks + 1 }) x' room λ r h' hsb x2=>?_;rw [← seen_succ] at x2;refine wpAny_pure ⟨plainId_quiet PyProof.Rows.F.plain_set_update_loop _,ih (i + 1) _ (by omega) (by omega) (W.frame _ s' _ _ st' (Nat.le_succ _) λ c hc o e=>?_) x2 λ s'' hm'' x3=>?_⟩
    · rw [hsb.2 c λ z:c=S=>hS (z ▸ hc)];exact e
    · refine hR s'' (Moved.trans W.gtrans ((hm.mono up).then_heap (Nat.le_succ _) λ c o hc e=>?_) hm'') x3;rw [hsb.2 c λ z:c=S=>hc (z ▸ List.mem_cons_self)];exact e
variable {E:Value→Shared→Prop} {s:Shared}
noncomputable def ledOf (w:World):Bool:=!w.params.followText "set-order"
theorem new_x (v:Value) {Q:Value→Shared→Prop} (h:Q (.ref s.heap.objs.size) { s with heap:=s.heap.push { cls:=.type "set",dict:=none,data:=.set #[] 0 (.fresh 0 0 (ledOf w)) } }) :
    codeAny (model prog w) A (.call (.builtin "set.__new__") ⟨[.type "set",v],[]⟩) (wants Q E) s:=by
  refine codeAny_of_tree ?_;show wpAny _ A.in1 (do checkBuiltinCall "set.__new__" ⟨[.type "set",v],[]⟩;again (.builtin "set.__new__" ⟨[.type "set",v],[]⟩)) _ _ s
  refine wpAny_bind (wpAny_of_eq (PySem.F.newCall_set_1 v) (wpAny_pure ⟨plainId_quiet PySem.F.plain_set_new _,codeAny_builtin PySem.F.entry_set_new ?_⟩));rw [Around.under_plainId PySem.F.plain_set_new _];unfold Builtin.«set.__new__» Builtin.Frozenset.newClass;have y1:=sub_set_self;obtain ⟨hp,g,d,tk,os⟩:=s;dsimp only
  wp_walk
  refine wpAny_askSetting (wpAny_pure ?_);dsimp only;simp only [newObj];exact wpAny_bind (wpAny_alloc (wpAny_pure (wpAny_pure h)))
theorem call_set_x {l:Addr} {items:Array Value} {ns:List Int} {Q:Value→Shared→Prop} (hh:A.handled=none) (hl:s.heap.IsList l items) (hi:IntsAre items.toList ns) (hb:items.size + 1 < scanBound)
    (h:∀ (h':Heap) (tk:Nat),SX prog w h' s.heap.objs.size (seen (λ i=>ns.getD i 0) items.size) (ledOf w)→(∀ c o,c < s.heap.objs.size→s.heap.get? c=some o→h'.get? c=some o)→Q (.ref s.heap.objs.size) { s with heap:=h',toks:=tk }) :
    wpAny (model prog w) A (call (.type "set") [.ref l]) Q E s:=by
  obtain ⟨c0,t0,m0⟩:=PySem.F.called_set.mro;have m1:=PySem.F.called_set.made;have m2:=PySem.F.called_set.sub;refine wpAny_call (codeAny_of_tree ?_);show wpAny _ _ (callAny (.type "set") _) _ _ _;refine wpAny_pure ⟨Code.quiet_builtin _ (by decide +kernel),codeAny_builtin PySem.F.entry_type_call ?_⟩;rw [Around.under_plain (weight_type_call_type "set" [.ref l] []) rfl];have m3:=PySem.F.called_set.notType;have m4:=PySem.F.called_set.canCreate;have m5:=PySem.F.typeCall_set_1 (.ref l)
  repeat (any_goals (first | assumption | wp_step))
  refine codeAny_mono (new_x (.ref l) (E:=E) (Q:=λ v s₁=>v = .ref s.heap.objs.size∧s₁ = { s with heap:=s.heap.push { cls:=.type "set",dict:=none,data:=.set #[] 0 (.fresh 0 0 (ledOf w)) } }) ⟨rfl,rfl⟩) λ r s₁ hr=>?_;cases r with
  | error e=>exact hr
  | ok fl =>
    cases fl with
    | ret v0 =>
      obtain ⟨rfl,rfl⟩:=hr;have hS:(s.heap.push { cls:=.type "set",dict:=none,data:=.set #[] 0 (.fresh 0 0 (ledOf w)) }).get? s.heap.objs.size=some { cls:=.type "set",dict:=none,data:=.set #[] 0 (.fresh 0 0 (ledOf w)) }:=Heap.get?_push_size _ rfl;have hT:Shared.TypeIs { s with heap:=s.heap.push { cls:=.type "set",dict:=none,data:=.set #[] 0 (.fresh 0 0 (ledOf w)) } } (.ref s.heap.objs.size) "set":=⟨_,hS,rfl⟩;have m6:=PySem.F.called_set.init.lookup;have m7:=PySem.F.called_set.init.bind (.ref s.heap.objs.size)
      repeat (any_goals (first | assumption | wp_step))
      refine codeAny_mono (codeAny_call_builtin (R:=wants (λ r s₂=>r = .none∧∃ h' tk,s₂ = { s with heap:=h',toks:=tk }∧SX prog w h' s.heap.objs.size (seen (λ i=>ns.getD i 0) items.size) (ledOf w) ∧
          ∀ c o,c < s.heap.objs.size→s.heap.get? c=some o→h'.get? c=some o) E) PySem.F.called_set.init.plain PySem.F.entry_set_init (check_set_init_1 hT ?_)) λ r₂ s₂ hr₂=>?_
      · obtain ⟨ol,gl,cl,nl,dl⟩:=hl;obtain ⟨ocls,odict,odata,oslots⟩:=ol;simp only at cl dl;subst cl;subst dl;have gl':(s.heap.push { cls:=.type "set",dict:=none,data:=.set #[] 0 (.fresh 0 0 (ledOf w)) }).get? l=some { cls:=.type "list",dict:=odict,data:=.seq items nl,slots:=oslots }:=Heap.get?_push_of_some _ gl;have n1:=PySem.F.sub_list_set;have n2:=PySem.F.sub_list_frozenset;have n3:(Value.type "list" == Value.type "dict")=false:=by decide
        have il:(s.heap.push { cls:=.type "set",dict:=none,data:=.set #[] 0 (.fresh 0 0 (ledOf w)) }).IsList l items:=⟨_,gl',rfl,nl,rfl⟩;unfold Builtin.«set.__init__» noKeywords Builtin.Frozenset.updateFrom;generalize hPI:pyIter=PI
        wp_walk
        subst hPI;refine wpAny_pyIter_list il (wpAny_bind (wpAny_runValue ?_));have ll:l < s.heap.objs.size:=Heap.lt_size gl;have h3:A.in1.in1.in1.handled=none:=by simp [hh]
        have nI:l≠(s.heap.push { cls:=.type "set",dict:=none,data:=.set #[] 0 (.fresh 0 0 (ledOf w)) }).objs.size:=by rw [Heap.size_push];exact Nat.ne_of_lt (Nat.lt_succ_of_lt ll)
        have nS:s.heap.objs.size∉[(s.heap.push { cls:=.type "set",dict:=none,data:=.set #[] 0 (.fresh 0 0 (ledOf w)) }).objs.size,l]:=by
          rw [Heap.size_push];simp only [List.mem_cons,List.mem_singleton,List.not_mem_nil,or_false,not_or];exact ⟨Nat.ne_of_lt (Nat.lt_succ_self _),Nat.ne_of_gt ll⟩
        have vv:∀ (i:Nat) (v:Value),items[i]?=some v→∃ t,v = .int ((λ i=>ns.getD i 0) i) t:=λ i v e=>IntsAre.int_at hi i v (by rw [Array.getElem?_toList];exact e);refine loop_x (b:=ledOf w) ((Walks.list h3 _ l nI items).toS) s.heap.objs.size nS (λ i=>ns.getD i 0) vv hb (items.size - 0) 0 _ (by omega) (Nat.zero_le _) ⟨⟨_,Heap.get?_push_size _ rfl,rfl,rfl⟩,(il.push _)⟩ ?x0 ?xR
        case x0 =>
          exact ⟨_,#[],0,_,Heap.get?_push_of_some _ hS,⟨rfl,rfl,rfl⟩,rfl,λ e he=>by simp at he,.nil,by show 0 < scanBound;decide,rfl,Good.fresh⟩
        case xR =>
          intro s' hm x';obtain ⟨h',g',d',tk',os'⟩:=s';obtain rfl:g'=s.gens:=hm.gens;obtain rfl:d'=s.drawn:=hm.drawn;obtain rfl:os'=s.os:=hm.os;show wpAny _ _ _ _ _ _;refine wpAny_pure ?_;show wpAny _ _ (ret Value.none) _ _ _;refine wpAny_pure ⟨rfl,h',tk',rfl,x',λ c o hc e=>?_⟩;refine hm.heap c o ?_ (Heap.get?_push_of_some _ (Heap.get?_push_of_some _ e));simp only [List.mem_cons,List.mem_singleton,List.not_mem_nil,or_false,not_or];exact ⟨Nat.ne_of_lt hc,by rw [Heap.size_push];exact Nat.ne_of_lt (Nat.lt_succ_of_lt hc)⟩
      · cases r₂ with
        | error e=>exact hr₂
        | ok fl₂ =>
          cases fl₂ with
          | ret r =>
            obtain ⟨rfl,h',tk,rfl,x',k'⟩:=hr₂
            repeat (any_goals (first | assumption | wp_step))
            exact h _ _ x' k'
          | _=>exact hr₂.elim
    | _=>exact hr.elim
end
end Stb
set_option maxHeartbeats 1000000
namespace Stb
open PySem PyProof.Rows
theorem slot_si_next:Slot "set_iterator" "__next__" "set_iterator.__next__":=.of (owner:="set_iterator") (n:="__next__") (by rw [typeLookup_type,builtinLookup_eq_fast];kernel_rfl) (by decide +kernel) (by decide +kernel) (by decide +kernel) (by first | exact .inl (by decide +kernel) | exact .inr (by decide +kernel)) (by rw [isSubtype_type];kernel_rfl)
theorem slot_si_iter:Slot "set_iterator" "__iter__" "set_iterator.__iter__":=.of (owner:="set_iterator") (n:="__iter__") (by rw [typeLookup_type,builtinLookup_eq_fast];kernel_rfl) (by decide +kernel) (by decide +kernel) (by decide +kernel) (by first | exact .inl (by decide +kernel) | exact .inr (by decide +kernel)) (by rw [isSubtype_type];kernel_rfl)
theorem entry_si_next:entryFor table "set_iterator.__next__"=some Builtin.«set_iterator.__next__»:=entryFor_of_fast (by kernel_rfl)
theorem entry_si_iter:entryFor table "set_iterator.__iter__"=some Builtin.«dict_keyiterator.__iter__»:=entryFor_alias (id':="dict_keyiterator.__iter__") (by kernel_rfl) rfl (by decide +kernel) (by kernel_rfl)
theorem entry_s_iter:entryFor table "set.__iter__"=some Builtin.«frozenset.__iter__»:=entryFor_alias (id':="frozenset.__iter__") (by kernel_rfl) rfl (by decide +kernel) (by kernel_rfl)
theorem args_si_next (a:Value):argsOk "set_iterator.__next__" ⟨[a],[]⟩:=by unfold argsOk;kernel_rfl
theorem args_si_iter (a:Value):argsOk "set_iterator.__iter__" ⟨[a],[]⟩:=by unfold argsOk;kernel_rfl
end Stb
namespace Stb
open PySem PyProof.Rows
theorem erase_perm {α:Type}:∀ {l:List α} {i:Nat} (hi:i < l.length),(l[i] :: l.eraseIdx i).Perm l
  | [],i,h=>by simp at h
  | x :: l,0,_=>List.Perm.refl _
  | x :: l,i + 1,h=>by
    have h':i < l.length:=by simpa using h
    exact (List.Perm.swap x (l[i]'h') (l.eraseIdx i)).trans ((erase_perm h').cons x)
section
variable {prog:Program} {w:World} {A:Around} {E:Value→Shared→Prop} {s:Shared}
theorem wp_choose_ {M:Model} {src:Source} {n:Nat} {Q:Nat→Shared→Prop} (hn:n≠0) (h:∀ i d,i < n→Q i { s with drawn:=d }):wpAny M A (choose src n) Q E s:=λ _ _ _=>⟨hn,h _ _ (Nat.mod_lt _ (Nat.pos_of_ne_zero hn))⟩
theorem wp_draw {M:Model} {α:Type}:∀ (n:Nat) (xs:List α) (s:Shared) {Q:List α→Shared→Prop},xs.length=n→(∀ ys d,ys.Perm xs→Q ys { s with drawn:=d })→wpAny M A (drawOrder n xs) Q E s
  | 0,[],s,Q,_,h=>by
    unfold drawOrder;exact wpAny_pure (h [] s.drawn (List.Perm.refl _))
  | 0,_ :: _,s,Q,e,_=>by simp at e
  | n + 1,[],s,Q,e,_=>by simp at e
  | n + 1,x :: xs,s,Q,e,h=>by
    unfold drawOrder;refine wpAny_bind (wp_choose_ (by simp) λ i d hi=>?_);rw [List.getElem?_eq_getElem hi];dsimp only;have hl:((x :: xs).eraseIdx i).length=n:=by rw [List.length_eraseIdx_of_lt hi];simp at e ⊢;exact e
    refine wpAny_bind (wp_draw n _ _ hl λ ys d' hp=>wpAny_pure (h _ d' ?_));refine (hp.cons _).trans ?_;exact erase_perm hi
structure SetAt (prog:Program) (w:World) (h:Heap) (a:Addr) (o:Obj) (es:Array (Int×Value)) (ep:Nat) (t:SetTable):Prop where
  get:h.get? a=some o
  ex:o.ExactSet
  dat:o.data = .set es ep t
  fits:t.fits es.size=true
theorem wp_byText {Q:Bool→Shared→Prop} (h:Q (w.params.followText "set-order") s):wpAny (model prog w) A setsByText Q E s:=by
  unfold setsByText;exact wpAny_bind (wpAny_askSetting (wpAny_pure h))
theorem pick_perm {α:Type} (next:Nat→Nat) (xs:Array α):(pickOrder next xs).toList.Perm xs.toList:=by
  have key:∀ (fuel k:Nat) (left:List α) (out:Array α),left.length=fuel→(pickOrder.go next fuel k left out).toList.Perm (out.toList ++ left):=by
    intro fuel
    induction fuel with
    | zero =>
      intro k left out e;have:left=[]:=List.length_eq_zero_iff.mp e;subst this;unfold pickOrder.go;simp
    | succ fuel ih =>
      intro k left out e;unfold pickOrder.go;have hi:next k % left.length < left.length:=Nat.mod_lt _ (by omega);rw [List.getElem?_eq_getElem hi];dsimp only;refine (ih (k + 1) _ _ (by rw [List.length_eraseIdx_of_lt hi];omega)).trans ?_;rw [Array.toList_push,List.append_assoc];exact (erase_perm hi).append_left _
  unfold pickOrder;have:=key xs.size 0 xs.toList #[] (by simp);simpa using this
theorem next_text {a:Addr} {o:Obj} {es:Array (Int×Value)} {ep slot given:Nat} {t:SetTable} {Q:Option (Value×Nat)→Shared→Prop} (x:SetAt prog w s.heap a o es ep t) (hb:w.params.followText "set-order"=true)
    (h:Q (((pickOrder (w.params.setOrder a ep) es)[given]?).map λ e=>(e.2,slot)) s):wpAny (model prog w) A (setNext a slot given ep) Q E s:=by
  unfold setNext;refine wpAny_bind (wpAny_setState_of x.get x.dat x.fits ?_);dsimp only;refine wpAny_bind (wp_byText ?_);rw [hb,if_pos rfl,if_neg (by simp)];unfold setWalk;refine wpAny_bind (wpAny_bind (wpAny_setState_of x.get x.dat x.fits ?_));dsimp only;refine wpAny_bind (wp_byText ?_);rw [hb,if_pos rfl];exact wpAny_bind (wpAny_askSetting (wpAny_pure (wpAny_pure h)))
theorem next_slots {a:Addr} {o:Obj} {es:Array (Int×Value)} {ep slot given e':Nat} {t:SetTable} {Q:Option (Value×Nat)→Shared→Prop} (x:SetAt prog w s.heap a o es ep t) (hb:w.params.followText "set-order"=false) (hd:(!t.plain && decide (es.size > 1))=false) (hl:t.led=true)
    (h:Q (match es[SetTable.below t.place slot]?,t.place[SetTable.below t.place slot]? with | some (_,v),some j=>some (v,j + 1) | _,_=>none) s):wpAny (model prog w) A (setNext a slot given e') Q E s:=by
  unfold setNext;refine wpAny_bind (wpAny_setState_of x.get x.dat x.fits ?_);dsimp only;refine wpAny_bind (wp_byText ?_);rw [hb,if_neg (by simp)];show wpAny _ _ (if (!t.plain && decide (es.size > 1))=true then _ else _) _ _ _;rw [hd,if_neg (by simp)];show wpAny _ _ (do (if (!t.led && !es.isEmpty)=true then unsupported "set:maker-not-led" else pure ());_) _ _ _
  rw [hl];simp only [Bool.not_true,Bool.false_and,Bool.false_eq_true,if_false];exact wpAny_bind (wpAny_pure (wpAny_pure h))
inductive Road (w:World) (a:Addr) (es:Array (Int×Value)) (ep:Nat) (t:SetTable):(Nat→Value)→List Value→List (Addr×Obj)→Prop
  | text (hb:w.params.followText "set-order"=true):Road w a es ep t (λ _=>.int 0 0) ((pickOrder (w.params.setOrder a ep) es).toList.map (·.2)) []
  | slots (hb:w.params.followText "set-order"=false) (hd:(!t.plain && decide (es.size > 1))=false) (hl:t.led=true) (hr:Rise t.place) :
      Road w a es ep t (λ i=>match i with | 0=>.int 0 0 | i + 1=>.int (t.place.getD i 0 + 1:Nat) 0) (es.toList.map (·.2)) []
  | drawn {T:Addr} {oT:Obj} {nT:Nat} {ps:List Nat} (hp:ps.Perm (List.range es.size)) (hT:oT.data = .seq (ps.map λ i:Nat=>rawInt i).toArray nT):Road w a es ep t (λ _=>.ref T) (ps.map λ p=>(es.getD p (0,.none)).2) [(T,oT)]
theorem Road.perm {w:World} {a:Addr} {es:Array (Int×Value)} {ep:Nat} {t:SetTable} {f:Nat→Value} {vs:List Value} {ts:List (Addr×Obj)} (r:Road w a es ep t f vs ts):vs.Perm (es.toList.map (·.2)):=by
  cases r with
  | text hb=>exact (pick_perm _ _).map _
  | slots=>exact List.Perm.refl _
  | drawn hp hT =>
    have e:(List.range es.size).map (λ p=>(es.getD p (0,.none)).2)=es.toList.map (·.2):=by
      apply List.ext_getElem
      · simp
      · intro i h1 h2;have h1':i < es.size:=by simpa using h1
        simp [Array.getD,h1']
    rw [← e];exact hp.map _
noncomputable def itObj (f:Value) (i:Nat) (a:Addr) (n ep:Nat):Obj:={ cls:=.type "set_iterator",data:=.fields #[f,.int i 0,.ref a,.int n 0,.int ep 0] }
noncomputable def Sti (a:Addr) (o:Obj) (n ep:Nat) (I:Addr) (f:Nat→Value) (ts:List (Addr×Obj)) (i:Nat) (h:Heap):Prop :=
  h.get? I=some (itObj (f i) i a n ep)∧h.get? a=some o∧∀ p∈ts,h.get? p.1=some p.2
end
end Stb
namespace Stb
open PySem PyProof.Rows
section
variable {prog:Program} {w:World} {A:Around} {E:Value→Shared→Prop} {s:Shared} {I a:Addr} {o:Obj} {es:Array (Int×Value)} {ep:Nat} {t:SetTable}
theorem it_type {f:Value} {i n:Nat} (h:s.heap.get? I=some (itObj f i a n ep)):s.TypeIs (.ref I) "set_iterator":=⟨_,h,rfl⟩
theorem upd_it {h:Heap} {f:Value} {i n k:Nat} {v:Value} (e:h.get? I=some (itObj f i a n ep)):(h.update I (Obj.mapFields (·.setIfInBounds k v))).get? I=some { cls:=.type "set_iterator",data:=.fields ((#[f,.int i 0,.ref a,.int n 0,.int ep 0]:Array Value).setIfInBounds k v) }:=by
  rw [Heap.get?_update_self _ e (by rfl)];rfl
theorem next_some {f g v:Value} {i:Nat} {Q:Option Value→Shared→Prop} (x:SetAt prog w s.heap a o es ep t) (hI:s.heap.get? I=some (itObj f i a es.size ep)) (hIa:a≠I)
    (road:(∃ k j:Nat,f = .int k 0∧g = .int j 0∧∀ (A:Around) (E:Value→Shared→Prop) (Q:Option (Value×Nat)→Shared→Prop),Q (some (v,j)) s→wpAny (model prog w) A (setNext a k i ep) Q E s) ∨
      ∃ T oT nT ps p u,f = .ref T∧g=f∧s.heap.get? T=some oT∧oT.data = .seq ps nT∧ps[i]?=some (.int (p:Nat) u)∧∃ k,es[p]?=some (k,v))
    (hQ:∀ h',Heap.SameBut I s.heap h'→h'.get? I=some (itObj g (i + 1) a es.size ep)→Q (some v) { s with heap:=h' }):wpAny (model prog w) A (pyNext (.ref I)) Q E s:=by
  unfold pyNext;refine wpAny_bind (wpAny_attempt (wpAny_callSpecial?_slot (name:=Str.ofString "__next__") (it_type hI) slot_si_next (wpAny_call_entry slot_si_next (it_type hI) entry_si_next ?_ (args_si_next _))));unfold Builtin.«set_iterator.__next__»;refine wpAny_bind (m:=slotArgs "__next__" 0 _) (wpAny_pure ?_);dsimp only;refine wpAny_bind (wpAny_fieldsOf hI rfl ?_);show wpAny _ _ (setEntries a >>= _) _ _ _;refine wpAny_bind (wpAny_setEntries_of x.get x.dat x.fits ?_);rw [if_neg (by simp)];have fin:∀ h',Heap.SameBut I s.heap h'→h'.get? I=some (itObj g (i + 1) a es.size ep)→wpAny (model prog w) A (pure (some v)) Q E { s with heap:=h' }:=λ h' h1 h2=>wpAny_pure (hQ h' h1 h2);rcases road with ⟨k,j,rfl,rfl,hn⟩ | ⟨T,oT,nT,ps,p,u,rfl,rfl,gT,dT,hp,k,he⟩
  · dsimp only;refine wpAny_bind ?_;simp only [Int.toNat_natCast];refine hn _ _ _ ?_;dsimp only;have e1:=upd_it (k:=0) (v:=rawInt (j:Nat)) hI;refine wpAny_bind (wpAny_setField hI rfl (by show 0 < 5;decide) ?_);refine wpAny_bind (wpAny_setField e1 rfl (by show 1 < 5;decide) (wpAny_pure ⟨v,rfl,?_⟩));refine fin _ ((Heap.SameBut.update ..).trans (Heap.SameBut.update ..)) ?_;rw [Heap.get?_update_self _ e1 (by rfl)];rfl
  · dsimp only;refine wpAny_bind (wpAny_seqItems gT dT ?_);simp only [Int.toNat_natCast,hp];unfold setNextDrawn;refine wpAny_bind (wpAny_bind (wpAny_setState_of x.get x.dat x.fits ?_));dsimp only;rw [if_neg (by simp)];simp only [Int.toNat_natCast,he];refine wpAny_pure (wpAny_bind (wpAny_setField hI rfl (by show 1 < 5;decide) (wpAny_pure ⟨v,rfl,?_⟩)));refine fin _ (Heap.SameBut.update ..) ?_;rw [Heap.get?_update_self _ hI (by rfl)];rfl
theorem next_none {f:Value} {i:Nat} {Q:Option Value→Shared→Prop} (hh:A.handled=none) (x:SetAt prog w s.heap a o es ep t) (hI:s.heap.get? I=some (itObj f i a es.size ep)) (hIa:a≠I)
    (road:(∃ k:Nat,f = .int k 0∧∀ (A:Around) (E:Value→Shared→Prop) (Q:Option (Value×Nat)→Shared→Prop),Q none s→wpAny (model prog w) A (setNext a k i ep) Q E s) ∨
      ∃ T oT nT ps,f = .ref T∧s.heap.get? T=some oT∧oT.data = .seq ps nT∧ps[i]?=none)
    (hQ:∀ h',Heap.ExtBut I s.heap h'→Q none { s with heap:=h' }):wpAny (model prog w) A (pyNext (.ref I)) Q E s:=by
  unfold pyNext;refine wpAny_bind (wpAny_attempt (wpAny_callSpecial?_slot (name:=Str.ofString "__next__") (it_type hI) slot_si_next (wpAny_call_entry slot_si_next (it_type hI) entry_si_next ?_ (args_si_next _))));unfold Builtin.«set_iterator.__next__»;refine wpAny_bind (m:=slotArgs "__next__" 0 _) (wpAny_pure ?_);dsimp only;refine wpAny_bind (wpAny_fieldsOf hI rfl ?_);show wpAny _ _ (setEntries a >>= _) _ _ _;refine wpAny_bind (wpAny_setEntries_of x.get x.dat x.fits ?_);rw [if_neg (by simp)];rcases road with ⟨k,rfl,hn⟩ | ⟨T,oT,nT,ps,rfl,gT,dT,hp⟩
  · dsimp only;refine wpAny_bind ?_;simp only [Int.toNat_natCast];refine hn _ _ _ ?_;dsimp only;refine wpAny_bind (wpAny_setField hI rfl (by show 2 < 5;decide) ?_);have k1:Heap.ExtBut I s.heap (s.heap.update I (Obj.mapFields (·.setIfInBounds 2 Value.none))):=(Heap.SameBut.update ..).extBut;refine wpAny_bind ?_;simp only [newExc,newTuple];refine wpAny_bind (wpAny_newObj_type ?_ (by size_fits));refine wpAny_bind (m:=firstArgMember _ _) (wpAny_of_eq (a:=Value.none) (by first | rfl | (simp only [firstArgMember];rfl)) (wpAny_newObj_type ?_ (by size_fits)));simp only [raiseNew];refine wpAny_bind (wpAny_handled ?_);rw [show A.in1.handled=none from hh]
    (refine wpAny_bind (wpAny_pure (wpAny_throw ?_)));(refine wpAny_bind (wpAny_isInstance (T:="StopIteration") (b:=true) ⟨_,Heap.get?_push_size _ rfl,rfl⟩ isSubtype_stop ?_))
    exact wpAny_pure (hQ _ ((k1.push _).push _))
  · dsimp only;refine wpAny_bind (wpAny_seqItems gT dT ?_);simp only [Int.toNat_natCast,hp];have e1:=upd_it (k:=0) (v:=rawInt 0) hI;refine wpAny_bind (wpAny_setField hI rfl (by show 0 < 5;decide) ?_);refine wpAny_bind (wpAny_setField e1 rfl (by show 2 < 5;decide) ?_);have k1:Heap.ExtBut I s.heap ((s.heap.update I (Obj.mapFields (·.setIfInBounds 0 (rawInt 0)))).update I (Obj.mapFields (·.setIfInBounds 2 Value.none))):=((Heap.SameBut.update ..).trans (Heap.SameBut.update ..)).extBut;refine wpAny_bind ?_;simp only [newExc,newTuple];refine wpAny_bind (wpAny_newObj_type ?_ (by size_fits));refine wpAny_bind (m:=firstArgMember _ _) (wpAny_of_eq (a:=Value.none) (by first | rfl | (simp only [firstArgMember];rfl)) (wpAny_newObj_type ?_ (by size_fits)));simp only [raiseNew];refine wpAny_bind (wpAny_handled ?_);rw [show A.in1.handled=none from hh]
    (refine wpAny_bind (wpAny_pure (wpAny_throw ?_)));(refine wpAny_bind (wpAny_isInstance (T:="StopIteration") (b:=true) ⟨_,Heap.get?_push_size _ rfl,rfl⟩ isSubtype_stop ?_))
    exact wpAny_pure (hQ _ ((k1.push _).push _))
theorem Sti.at_ {n:Nat} {f:Nat→Value} {ts:List (Addr×Obj)} {i:Nat} {h:Heap} (st:Sti a o n ep I f ts i h) (hex:o.ExactSet) (hd:o.data = .set es ep t) (hf:t.fits es.size=true):SetAt prog w h a o es ep t:=⟨st.2.1,hex,hd,hf⟩
theorem walks_set {f:Nat→Value} {vs:List Value} {ts:List (Addr×Obj)} (hh:A.handled=none) (r:Road w a es ep t f vs ts) (hex:o.ExactSet) (hd:o.data = .set es ep t) (hf:t.fits es.size=true) (hIa:a≠I) (hts:∀ p∈ts,p.1≠I) :
    Walks prog w A I (I :: a :: ts.map (·.1)) [I] vs.length (λ i v=>vs[i]?=some v) (Sti a o es.size ep I f ts) where
  sub:=λ b hb=>by rw [List.mem_singleton.mp hb];exact List.mem_cons_self
  frame:=λ i h h' st hk=>⟨hk I List.mem_cons_self _ st.1,hk a (List.mem_cons_of_mem _ List.mem_cons_self) _ st.2.1,λ p hp=>hk p.1 (List.mem_cons_of_mem _ (List.mem_cons_of_mem _ (List.mem_map.mpr ⟨p,hp,rfl⟩))) _ (st.2.2 p hp)⟩
  item:=λ i s Q E hi st hQ=>by
    have x:SetAt prog w s.heap a o es ep t:=st.at_ hex hd hf;have hv:vs[i]?=some vs[i]:=List.getElem?_eq_getElem hi;have fin:∀ h',Heap.SameBut I s.heap h'→h'.get? I=some (itObj (f (i + 1)) (i + 1) a es.size ep)→Q (some vs[i]) { s with heap:=h' }:=λ h' h1 h2=>by
      refine hQ vs[i] h' s.toks hv ⟨h2,?_,λ p hp=>?_⟩ λ b o hb e=>?_
      · rw [h1.2 a hIa];exact st.2.1
      · rw [h1.2 p.1 (hts p hp)];exact st.2.2 p hp
      · rw [h1.2 b λ z=>hb (List.mem_singleton.mpr z)];exact e
    refine next_some x st.1 hIa (g:=f (i + 1)) ?_ fin;cases r with
    | text hb =>
      refine .inl ⟨0,0,rfl,rfl,λ A E Q q=>next_text x hb ?_⟩;have hi':i < (pickOrder (w.params.setOrder a ep) es).size:=by simpa using hi
      rw [getElem?_pos _ i hi'];have e:((pickOrder (w.params.setOrder a ep) es).toList.map (·.2))[i]=((pickOrder (w.params.setOrder a ep) es)[i]).2:=by simp
      rw [e] at q;exact q
    | slots hb hdr hl hr =>
      have hi':i < es.size:=by simpa using hi
      have hpl:t.place.size=es.size:=by
        unfold SetTable.fits at hf;rw [Bool.and_eq_true,beq_iff_eq] at hf;exact hf.1
      have hbl:∀ k:Nat,(match i with | 0=>Value.int 0 0 | i + 1=>.int (t.place.getD i 0 + 1:Nat) 0) = .int k 0→SetTable.below t.place k=i:=λ k hk=>by
        cases i with
        | zero =>
          have:(0:Int)=k:=by cases hk;rfl
          have:k=0:=by omega
          subst this;exact below_zero hr
        | succ i =>
          have:((t.place.getD i 0 + 1:Nat):Int)=k:=by cases hk;rfl
          have:k=t.place.getD i 0 + 1:=by omega
          subst this;exact below_next hr (by omega)
      obtain ⟨k,hk⟩:∃ k:Nat,(match i with | 0=>Value.int 0 0 | i + 1=>.int (t.place.getD i 0 + 1:Nat) 0) = .int k 0:=by
        cases i with
        | zero=>exact ⟨0,rfl⟩
        | succ i=>exact ⟨_,rfl⟩
      refine .inl ⟨k,t.place.getD i 0 + 1,hk,rfl,λ A E Q q=>next_slots x hb hdr hl ?_⟩;rw [hbl k hk,getElem?_pos es i hi',getElem?_pos t.place i (by omega)];have e1:(es.toList.map (·.2))[i]=(es[i]).2:=by simp
      have e2:t.place.getD i 0=t.place[i]:=getD_eq (by omega);rw [e1,e2] at q;exact q
    | drawn hp hT =>
      rename_i T oT nT ps
      have hi':i < ps.length:=by simpa using hi
      have hpi:ps[i] < es.size:=List.mem_range.mp (hp.mem_iff.mp (List.getElem_mem hi'));refine .inr ⟨T,oT,nT,_,ps[i],0,rfl,rfl,st.2.2 (T,oT) List.mem_cons_self,hT,?_,?_⟩
      · simp [hi'];rfl
      · refine ⟨(es[ps[i]]).1,?_⟩;rw [getElem?_pos es ps[i] hpi];simp [Array.getD,hpi]
  done:=λ s Q E st hQ=>by
    have x:SetAt prog w s.heap a o es ep t:=st.at_ hex hd hf;refine next_none hh x st.1 hIa ?_ λ h' h1=>hQ h' s.toks λ b o hb e=>h1 b o (λ z=>hb (List.mem_singleton.mpr z)) e;cases r with
    | text hb =>
      refine .inl ⟨0,rfl,λ A E Q q=>next_text x hb ?_⟩;rw [Array.getElem?_eq_none (by simp)];exact q
    | slots hb hdr hl hr =>
      have hpl:t.place.size=es.size:=by
        unfold SetTable.fits at hf;rw [Bool.and_eq_true,beq_iff_eq] at hf;exact hf.1
      have hn:(es.toList.map (·.2)).length=es.size:=by simp
      obtain ⟨k,hk,hkb⟩:∃ k:Nat,(match (es.toList.map (·.2)).length with | 0=>Value.int 0 0 | i + 1=>.int (t.place.getD i 0 + 1:Nat) 0) = .int k 0∧SetTable.below t.place k=es.size:=by
        rw [hn];cases h0:es.size with
        | zero=>exact ⟨0,rfl,below_zero hr⟩
        | succ i=>exact ⟨_,rfl,below_next hr (by omega)⟩
      refine .inl ⟨k,hk,λ A E Q q=>next_slots x hb hdr hl ?_⟩;rw [hkb,Array.getElem?_eq_none (Nat.le_refl _)];exact q
    | drawn hp hT =>
      rename_i T oT nT ps
      refine .inr ⟨T,oT,nT,_,rfl,st.2.2 (T,oT) List.mem_cons_self,hT,?_⟩;exact Array.getElem?_eq_none (by simp)
  self:=λ i s Q E st hQ=>by
    refine wpAny_pyIter_slot (it_type st.1) slot_si_iter (wpAny_call_entry slot_si_iter (it_type st.1) entry_si_iter ?_ (args_si_iter _));show wpAny _ _ (ret (.ref I)) _ _ s;exact wpAny_pure ⟨_,rfl,"set_iterator",_,it_type st.1,slot_si_next.lookup,hQ⟩
end
end Stb
namespace Srt
variable {α:Type}
structure Ord (lt:α→α→Bool):Prop where
  asym:∀ x y,lt x y=true→lt y x=false
  trans:∀ x y z,lt y x=false→lt z y=false→lt z x=false
noncomputable def le (lt:α→α→Bool) (x y:α):Prop:=lt y x=false
section
variable {lt:α→α→Bool}
theorem Ord.refl (O:Ord lt) (x:α):le lt x x:=by
  unfold le;cases h:lt x x with
  | false=>rfl
  | true=>have:=O.asym x x h;rw [h] at this;cases this
theorem Ord.le_of (O:Ord lt) {x y:α} (h:lt x y=true):le lt x y:=O.asym x y h
theorem Ord.tr (O:Ord lt) {x y z:α} (h1:le lt x y) (h2:le lt y z):le lt x z:=O.trans x y z h1 h2
theorem Ord.swap (O:Ord lt):Ord (λ x y=>lt y x):=⟨λ x y h=>O.asym y x h,λ x y z h1 h2=>O.trans z y x h2 h1⟩
noncomputable def Sd (lt:α→α→Bool) (l:List α):Prop:=l.Pairwise (le lt)
theorem Sd.at_ (O:Ord lt) {l:List α} (h:Sd lt l) {i j:Nat} {x y:α} (hij:i≤j) (hx:l[i]?=some x) (hy:l[j]?=some y):le lt x y:=by
  by_cases e:i=j
  · subst e;rw [hx] at hy;cases hy;exact O.refl x
  · obtain ⟨h1,e1⟩:=List.getElem?_eq_some_iff.mp hx;obtain ⟨h2,e2⟩:=List.getElem?_eq_some_iff.mp hy;have:=List.pairwise_iff_getElem.mp h i j h1 h2 (by omega);rw [e1,e2] at this;exact this
theorem Sd.of (l:List α) (h:∀ i x y,l[i]?=some x→l[i + 1]?=some y→le lt x y) (O:Ord lt):Sd lt l:=by
  have key:∀ (d i:Nat) x y,l[i]?=some x→l[i + d]?=some y→le lt x y:=by
    intro d
    induction d with
    | zero=>intro i x y hx hy;rw [Nat.add_zero,hx] at hy;cases hy;exact O.refl x
    | succ d ih =>
      intro i x y hx hy;have hb:i + d < l.length:=by have:=(List.getElem?_eq_some_iff.mp hy).1;omega
      have hz:l[i + d]?=some l[i + d]:=List.getElem?_eq_getElem hb;exact O.tr (ih i x _ hx hz) (h (i + d) _ y hz (by rw [← hy];rfl))
  refine List.pairwise_iff_getElem.mpr λ i j hi hj hij=>?_;refine key (j - i) i _ _ (List.getElem?_eq_getElem hi) ?_;rw [show i + (j - i)=j by omega];exact List.getElem?_eq_getElem hj
theorem Sd.drop {l:List α} (h:Sd lt l) (n:Nat):Sd lt (l.drop n):=h.sublist (List.drop_sublist n l)
theorem Sd.append {l r:List α} (h1:Sd lt l) (h2:Sd lt r) (h:∀ x∈l,∀ y∈r,le lt x y):Sd lt (l ++ r):=List.pairwise_append.mpr ⟨h1,h2,h⟩
theorem Sd.rev {l:List α} (h:Sd lt l):Sd (λ x y=>lt y x) l.reverse:=by
  unfold Sd;rw [List.pairwise_reverse];exact h.imp λ h'=>h'
theorem Sd.unrev {l:List α} (h:Sd (λ x y=>lt y x) l):Sd lt l.reverse:=by
  unfold Sd;rw [List.pairwise_reverse];exact h.imp λ h'=>h'
structure MI (lt:α→α→Bool) (A B out:List α) (ia ib:Nat):Prop where
  la:ia≤A.length
  lb:ib≤B.length
  perm:out.Perm (A.take ia ++ B.take ib)
  sd:Sd lt out
  toA:∀ x∈out,∀ y∈A.drop ia,le lt x y
  toB:∀ x∈out,∀ y∈B.drop ib,le lt x y
theorem MI.symm {A B out:List α} {ia ib:Nat} (h:MI lt A B out ia ib):MI lt B A out ib ia:=⟨h.lb,h.la,h.perm.trans List.perm_append_comm,h.sd,h.toB,h.toA⟩
theorem MI.nil {A B:List α}:MI lt A B [] 0 0:=⟨Nat.zero_le _,Nat.zero_le _,by simp,.nil,λ x h=>by simp at h,λ x h=>by simp at h⟩
theorem drop_head {l:List α} {i:Nat} {x:α} (h:l[i]?=some x):l.drop i=x :: l.drop (i + 1):=by
  obtain ⟨h1,e1⟩:=List.getElem?_eq_some_iff.mp h;rw [List.drop_eq_getElem_cons h1,e1]
theorem MI.a (O:Ord lt) {A B out:List α} {ia ib:Nat} {x:α} (h:MI lt A B out ia ib) (sA:Sd lt A) (hx:A[ia]?=some x) (hb:∀ y∈B.drop ib,le lt x y):MI lt A B (out ++ [x]) (ia + 1) ib:=by
  have hl:ia < A.length:=(List.getElem?_eq_some_iff.mp hx).1;have ed:=drop_head hx;have hsd:Sd lt (x :: A.drop (ia + 1)):=ed ▸ sA.drop ia;refine ⟨hl,h.lb,?_,?_,?_,?_⟩
  · have e:A.take (ia + 1)=A.take ia ++ [x]:=by
      rw [List.take_succ_eq_append_getElem hl,(List.getElem?_eq_some_iff.mp hx).2]
    rw [e];have:=h.perm.append_right [x];refine this.trans ?_;rw [List.append_assoc,List.append_assoc];exact List.perm_append_comm.append_left _
  · refine h.sd.append (List.pairwise_singleton _ _) λ z hz y hy=>?_;rw [List.mem_singleton] at hy;subst hy;exact h.toA z hz y (by rw [ed];simp)
  · intro z hz y hy;rcases List.mem_append.mp hz with hz | hz
    · exact h.toA z hz y (by rw [ed];exact List.mem_cons_of_mem _ hy)
    · rw [List.mem_singleton] at hz;subst hz;exact (List.pairwise_cons.mp hsd).1 y hy
  · intro z hz y hy;rcases List.mem_append.mp hz with hz | hz
    · exact h.toB z hz y hy
    · rw [List.mem_singleton] at hz;subst hz;exact hb y hy
theorem MI.b (O:Ord lt) {A B out:List α} {ia ib:Nat} {x:α} (h:MI lt A B out ia ib) (sB:Sd lt B) (hx:B[ib]?=some x) (ha:∀ y∈A.drop ia,le lt x y):MI lt A B (out ++ [x]) ia (ib + 1):=(h.symm.a O sB hx ha).symm
theorem MI.as (O:Ord lt) {A B:List α} (sA:Sd lt A):∀ (k:Nat) {out:List α} {ia ib:Nat},MI lt A B out ia ib→ia + k≤A.length→(∀ i x,i < k→A[ia + i]?=some x→∀ y∈B.drop ib,le lt x y)→MI lt A B (out ++ (A.drop ia).take k) (ia + k) ib
  | 0,out,ia,ib,h,_,_=>by simpa using h
  | k + 1,out,ia,ib,h,hk,hx=>by
    have hl:ia < A.length:=by omega
    have h1:=h.a O sA (List.getElem?_eq_getElem hl) (hx 0 _ (by omega) (by simpa using List.getElem?_eq_getElem hl));have h2:=MI.as O sA k h1 (by omega) λ i x hi e=>hx (i + 1) x (by omega) (by rw [show ia + (i + 1)=ia + 1 + i by omega];exact e);rw [show ia + 1 + k=ia + (k + 1) by omega] at h2;have e:(A.drop ia).take (k + 1)=A[ia] :: (A.drop (ia + 1)).take k:=by rw [List.drop_eq_getElem_cons hl,List.take_succ_cons]
    rw [e];simpa using h2
theorem MI.bs (O:Ord lt) {A B:List α} (sB:Sd lt B) (k:Nat) {out:List α} {ia ib:Nat} (h:MI lt A B out ia ib) (hk:ib + k≤B.length) (hx:∀ i x,i < k→B[ib + i]?=some x→∀ y∈A.drop ia,le lt x y):MI lt A B (out ++ (B.drop ib).take k) ia (ib + k) :=
  (MI.as O sB k h.symm hk hx).symm
theorem MI.endA {A B out:List α} {ia ib:Nat} (h:MI lt A B out ia ib) (sA:Sd lt A) (e:ib=B.length):Sd lt (out ++ A.drop ia ++ B.drop ib)∧(out ++ A.drop ia ++ B.drop ib).Perm (A ++ B):=by
  have e1:B.drop ib=[]:=by rw [e];simp
  rw [e1,List.append_nil];refine ⟨h.sd.append (sA.drop ia) h.toA,?_⟩;refine (h.perm.append_right _).trans ?_;rw [show B.take ib=B by rw [e];simp,List.append_assoc];refine (List.perm_append_comm.append_left _).trans ?_;rw [← List.append_assoc,List.take_append_drop]
theorem MI.endB {A B out:List α} {ia ib:Nat} (h:MI lt A B out ia ib) (sB:Sd lt B) (e:ia=A.length):Sd lt (out ++ A.drop ia ++ B.drop ib)∧(out ++ A.drop ia ++ B.drop ib).Perm (A ++ B):=by
  have e1:A.drop ia=[]:=by rw [e];simp
  have:=h.symm.endA sB e;rw [e1,List.append_nil] at this;rw [e1,List.append_nil];exact ⟨this.1,this.2.trans List.perm_append_comm⟩
theorem MI.endL {A B out:List α} {ia ib:Nat} (h:MI lt A B out ia ib) (sA:Sd lt A) (sB:Sd lt B) (hh:∀ x∈B,∀ y∈A.drop ia,le lt x y):Sd lt (out ++ B.drop ib ++ A.drop ia)∧(out ++ B.drop ib ++ A.drop ia).Perm (A ++ B):=by
  refine ⟨(h.sd.append (sB.drop ib) h.toB).append (sA.drop ia) λ x hx y hy=>?_,?_⟩
  · rcases List.mem_append.mp hx with hx | hx
    · exact h.toA x hx y hy
    · exact hh x (List.mem_of_mem_drop hx) y hy
  · refine ((h.perm.append_right _).append_right _).trans ?_;rw [List.append_assoc (List.take ia A),List.take_append_drop];refine (List.perm_append_comm).trans ?_;rw [← List.append_assoc];refine (List.perm_append_comm.append_right _).trans ?_;rw [List.take_append_drop]
theorem rev_take (A:List α) (n:Nat) (h:n≤A.length):A.reverse.drop (A.length - n)=(A.take n).reverse:=by
  rw [List.drop_reverse,show A.length - (A.length - n)=n by omega]
theorem rev_get {A:List α} {n:Nat} (h:n < A.length):A.reverse[A.length - (n + 1)]?=A[n]?:=by
  rw [List.getElem?_reverse (by omega)];congr 1;omega
end
end Srt
namespace Tim
open PySem Srt PyProof.Rows
noncomputable def it (xs:Array Keyed) (i:Nat):Keyed:=xs.getD i (Value.none,Value.none)
theorem it_congr {xs ys:Array Keyed} {i j:Nat} (h:xs[i]?=ys[j]?):it xs i=it ys j:=by
  unfold it;rw [Array.getD_eq_getD_getElem?,Array.getD_eq_getD_getElem?,h]
theorem it_get {xs:Array Keyed} {i:Nat} (h:i < xs.size):xs[i]?=some (it xs i):=by
  unfold it;rw [Array.getD_eq_getD_getElem?,getElem?_pos xs i h];rfl
theorem it_mem {xs:Array Keyed} {i:Nat} (h:i < xs.size):it xs i∈xs.toList:=by
  have:=it_get h;rw [← Array.getElem?_toList] at this;exact List.mem_of_getElem? this
noncomputable def Asks (prog:Program) (w:World) (A:Around) (s:Shared) (κ:SortKind) (lt:Keyed→Keyed→Bool) (a₀:Array Keyed):Prop :=
  ∀ p q,p∈a₀.toList→q∈a₀.toList→∀ (E:Value→Shared→Prop) (Q:Bool→Shared→Prop),Q (lt p q) s→wpAny (model prog w) A (keyLt' κ p.1 q.1) Q E s
structure SB (κ:SortKind) (a₀:Array Keyed) (st:SortSt):Prop where
  perm:(arrOf st).toList.Perm a₀.toList
  kind:kindOf st=κ
  failed:failedOf st=none
theorem SB.size {κ:SortKind} {a₀:Array Keyed} {st:SortSt} (h:SB κ a₀ st):(arrOf st).size=a₀.size:=by
  have:=h.perm.length_eq;simpa using this
theorem SB.mem {κ:SortKind} {a₀:Array Keyed} {st:SortSt} (h:SB κ a₀ st) {i:Nat} (hi:i < a₀.size):it (arrOf st) i∈a₀.toList:=h.perm.mem_iff.mp (it_mem (by rw [h.size];exact hi))
theorem SB.set {κ:SortKind} {a₀:Array Keyed} {st:SortSt} (h:SB κ a₀ st) {xs:Array Keyed} (hp:xs.Perm (arrOf st)):SB κ a₀ (setArr st xs):=⟨(Array.perm_iff_toList_perm.mp hp).trans h.perm,h.kind,h.failed⟩
noncomputable def Up (lt:Keyed→Keyed→Bool) (xs:Array Keyed) (lo n:Nat):Prop:=∀ i j,i≤j→j < n→le lt (it xs (lo + i)) (it xs (lo + j))
noncomputable def Down (lt:Keyed→Keyed→Bool) (xs:Array Keyed) (lo n:Nat):Prop:=∀ i j,i≤j→j < n→le lt (it xs (lo + j)) (it xs (lo + i))
section
variable {prog:Program} {w:World} {A:Around} {E:Value→Shared→Prop} {s:Shared} {a₀:Array Keyed} {κ:SortKind} {lt:Keyed→Keyed→Bool}
theorem wpS_less {st:SortSt} {p q:Keyed} {Q:Option Bool→SortSt→Prop} (C:Asks prog w A s κ lt a₀) (hk:kindOf st=κ) (hp:p∈a₀.toList) (hq:q∈a₀.toList) (h:Q (some (lt p q)) st):wpS (model prog w) A E s (lt' p q) Q st:=by
  rw [lt'_eq];refine wpS_bind (wpS_get ?_);rw [hk];exact wpS_bind (wpS_lift (wpAny_attempt (C p q hp hq _ _ ⟨rfl,wpS_pure h⟩)))
theorem wpS_elem {st:SortSt} {xs:Array Keyed} {i:Nat} {Q:Keyed→SortSt→Prop} (hi:i < xs.size) (h:Q (it xs i) st):wpS (model prog w) A E s (elem' xs i) Q st:=by
  rw [elem'_eq,it_get hi];exact wpS_pure h
theorem wpS_at {st:SortSt} {i j:Nat} {Q:Option Bool→SortSt→Prop} (C:Asks prog w A s κ lt a₀) (hB:SB κ a₀ st) (hi:i < a₀.size) (hj:j < a₀.size) (h:Q (some (lt (it (arrOf st) i) (it (arrOf st) j))) st) :
    wpS (model prog w) A E s (ltAt' i j) Q st:=by
  rw [ltAt'_eq];refine wpS_bind (wpS_get ?_);exact wpS_bind (wpS_elem (by rw [hB.size];exact hi) (wpS_bind (wpS_elem (by rw [hB.size];exact hj) (wpS_less C hB.kind (hB.mem hi) (hB.mem hj) h))))
theorem it_bubble {xs:Array Keyed} {src d:Nat} (hs:src < xs.size) (hd:d≤src) (k:Nat):it (bubble xs src d) k=if k=src - d then it xs src else if src - d < k∧k≤src then it xs (k - 1) else it xs k:=by
  have e:=getElem?_bubble hs d hd k
  by_cases h1:k=src - d
  · rw [if_pos h1] at e ⊢;exact it_congr e
  · rw [if_neg h1] at e ⊢
    by_cases h2:src - d < k∧k≤src
    · rw [if_pos h2] at e ⊢;exact it_congr e
    · rw [if_neg h2] at e ⊢;exact it_congr e
theorem it_mirror {xs:Array Keyed} {i j:Nat} (hj:j≤xs.size) (k:Nat):it (mirror xs i j ((j - i) / 2)) k=if i≤k∧k < j then it xs (i + j - 1 - k) else it xs k:=by
  have e:=getElem?_mirror_all (i:=i) hj k
  by_cases h1:i≤k∧k < j
  · rw [if_pos h1] at e ⊢;exact it_congr e
  · rw [if_neg h1] at e ⊢;exact it_congr e
theorem wpS_rev {st:SortSt} {i j:Nat} {Q:Unit→SortSt→Prop} (h:Q () (setArr st (mirror (arrOf st) i j ((j - i) / 2)))):wpS (model prog w) A E s (reverseSlice' i j) Q st:=by
  rw [reverseSlice'_eq];exact wpS_modify h
structure Left (lo:Nat) (st st':SortSt):Prop where
  low:∀ k,k < lo→it (arrOf st') k=it (arrOf st) k
  pend:pendingOf st'=pendingOf st
theorem Left.refl {lo:Nat} (st:SortSt):Left lo st st:=⟨λ _ _=>rfl,rfl⟩
theorem Left.trans {lo:Nat} {st st' st'':SortSt} (h:Left lo st st') (h':Left lo st' st''):Left lo st st'':=⟨λ k hk=>(h'.low k hk).trans (h.low k hk),h'.pend.trans h.pend⟩
theorem Left.mirror {lo i j:Nat} {st:SortSt} (hj:j≤(arrOf st).size) (hi:lo≤i):Left lo st (setArr st (mirror (arrOf st) i j ((j - i) / 2))) :=
  ⟨λ k hk=>by show it (PyProof.Rows.mirror (arrOf st) i j ((j - i) / 2)) k=_;rw [it_mirror hj,if_neg (by omega)],rfl⟩
theorem wpS_bin {st:SortSt} {lo n ok:Nat} {Q:Bool→SortSt→Prop} (O:Ord lt) (C:Asks prog w A s κ lt a₀) (hn:lo + n≤a₀.size) (hok:ok≤n) (hB:SB κ a₀ st) (hs:Up lt (arrOf st) lo ok)
    (h:∀ st',SB κ a₀ st'→Left lo st st'→Up lt (arrOf st') lo n→Q true st'):wpS (model prog w) A E s (binarySort' lo n ok) Q st:=by
  rw [binarySort'_eq];refine wpS_bind (wpS_mono (wpS_forRange (I:=λ k c st'=>c=(none,())∧SB κ a₀ st'∧Left lo st st'∧Up lt (arrOf st') lo (min k n))
    (Q:=λ c st'=>c=(none,())∧SB κ a₀ st'∧Left lo st st'∧Up lt (arrOf st') lo n) ?step ?fin ?init) ?post)
  case post =>
    rintro c st' ⟨rfl,hB',hL,hs'⟩;exact wpS_pure (h st' hB' hL hs')
  case init =>
    refine ⟨rfl,hB,Left.refl st,λ i j hij hj=>?_⟩
    by_cases h1:ok=0
    · have:i=j:=by omega
      subst this;exact O.refl _
    · exact hs i j hij (by omega)
  case fin =>
    rintro c st' ⟨hc,hB',hL,hs'⟩;refine ⟨hc,hB',hL,?_⟩
    rwa [show min (max (max ok 1) n) n=n by omega] at hs'
  case step =>
    rintro k c st' hak hkn ⟨rfl,hB',hL,hs'⟩;rw [show min k n=k by omega] at hs';have hk:lo + k < a₀.size:=by omega
    refine wpS_bind (wpS_mono (wpS_forRange (I:=λ x c st''=>st''=st'∧∃ l r,c=(none,l,r)∧l≤r∧r≤k∧r - l≤k - x ∧
        (∀ i,i < l→le lt (it (arrOf st') (lo + i)) (it (arrOf st') (lo + k)))∧(∀ i,r≤i→i < k→lt (it (arrOf st') (lo + k)) (it (arrOf st') (lo + i))=true))
      (Q:=λ c st''=>st''=st'∧∃ l r,c=(none,l,r)∧l≤k ∧
        (∀ i,i < l→le lt (it (arrOf st') (lo + i)) (it (arrOf st') (lo + k)))∧(∀ i,l≤i→i < k→lt (it (arrOf st') (lo + k)) (it (arrOf st') (lo + i))=true)) ?istep ?ifin ?iinit) ?ipost)
    case iinit=>exact ⟨rfl,0,k,rfl,by omega,by omega,by omega,λ i hi=>by omega,λ i h1 h2=>by omega⟩
    case ifin =>
      rintro c st'' ⟨rfl,l,r,rfl,hlr,hrk,hm,hlo,hhi⟩;have:l=r:=by omega
      subst this;exact ⟨rfl,l,l,rfl,hrk,hlo,hhi⟩
    case istep =>
      rintro x c st'' _ hxk ⟨rfl,l,r,rfl,hlr,hrk,hm,hlo,hhi⟩;dsimp only
      by_cases hge:l ≥ r
      · rw [if_pos hge];have:l=r:=by omega
        subst this;exact wpS_pure ⟨rfl,l,l,rfl,hrk,hlo,hhi⟩
      · rw [if_neg hge];refine wpS_bind (wpS_at C hB' hk (by omega) ?_);cases hless:lt (it (arrOf st'') (lo + k)) (it (arrOf st'') (lo + (l + r) / 2))
        case true =>
          simp only [if_true];refine wpS_pure ⟨rfl,l,(l + r) / 2,rfl,by omega,by omega,by omega,hlo,λ i h1 h2=>?_⟩;have:=hs' _ _ h1 h2;cases h3:lt (it (arrOf st'') (lo + k)) (it (arrOf st'') (lo + i)) with
          | true=>rfl
          | false =>
            have h4:lt (it (arrOf st'') (lo + k)) (it (arrOf st'') (lo + (l + r) / 2))=false:=O.trans _ _ _ this h3;rw [hless] at h4;cases h4
        case false =>
          simp only [Bool.false_eq_true,if_false];refine wpS_pure ⟨rfl,(l + r) / 2 + 1,r,rfl,by omega,by omega,by omega,λ i h1=>?_,hhi⟩;exact O.tr (hs' i ((l + r) / 2) (by omega) (by omega)) hless
    case ipost =>
      rintro c st'' ⟨rfl,l,r,rfl,hlk,hlo,hhi⟩;show wpS _ _ _ _ (do moveDown' (lo + k) (lo + l);pure (ForInStep.yield (none,()))) _ _
      rw [moveDown'_eq];have hks:lo + k < (arrOf st'').size:=by rw [hB'.size];exact hk
      refine wpS_bind (wpS_modify (wpS_pure ⟨rfl,hB'.set (bubble_perm _ _ _),hL.trans ⟨λ i hi=>?_,rfl⟩,?_⟩))
      · show it (bubble (arrOf st'') (lo + k) (lo + k - (lo + l))) i=_;rw [it_bubble hks (by omega),if_neg (by omega),if_neg (by omega)]
      · rw [show min (k + 1) n=k + 1 by omega];intro i j hij hj;show le lt (it (bubble (arrOf st'') (lo + k) (lo + k - (lo + l))) (lo + i)) (it (bubble (arrOf st'') (lo + k) (lo + k - (lo + l))) (lo + j));rw [it_bubble hks (by omega),it_bubble hks (by omega),show lo + k - (lo + k - (lo + l))=lo + l by omega];have lo':∀ t,t < lo + l→lo≤t→le lt (it (arrOf st'') t) (it (arrOf st'') (lo + k)):=λ t h1 h2=>by
          have:=hlo (t - lo) (by omega)
          rwa [show lo + (t - lo)=t by omega] at this
        have hi':∀ t,lo + l≤t→t < lo + k→le lt (it (arrOf st'') (lo + k)) (it (arrOf st'') t):=λ t h1 h2=>by
          have:=hhi (t - lo) (by omega) (by omega);rw [show lo + (t - lo)=t by omega] at this;exact O.le_of this
        have up':∀ t u,lo≤t→t≤u→u < lo + k→le lt (it (arrOf st'') t) (it (arrOf st'') u):=λ t u h1 h2 h3=>by
          have:=hs' (t - lo) (u - lo) (by omega) (by omega)
          rwa [show lo + (t - lo)=t by omega,show lo + (u - lo)=u by omega] at this
        repeat' split
        all_goals first
          | (exfalso;omega)
          | exact O.refl _
          | exact lo' _ (by omega) (by omega)
          | exact hi' _ (by omega) (by omega)
          | exact up' _ _ (by omega) (by omega) (by omega)
end
end Tim
namespace Tim
open PySem Srt PyProof.Rows
section
variable {prog:Program} {w:World} {A:Around} {E:Value→Shared→Prop} {s:Shared} {a₀:Array Keyed} {κ:SortKind} {lt:Keyed→Keyed→Bool}
noncomputable def upLoop (lo a nrem:Nat):StateT SortSt Sem (Option (Option Nat)×Nat) :=
  forIn [a:nrem] ((none,a):Option (Option Nat)×Nat) λ _ c=>do
    let x ← ltAt' (lo + c.snd) (lo + c.snd - 1)
    match x with
    | some b=>if b=true then pure (.done (none,c.snd)) else pure (.yield (none,c.snd + 1))
    | _=>pure (.done (some none,c.snd))
theorem Up.next (O:Ord lt) {xs:Array Keyed} {lo n:Nat} (h:Up lt xs lo n) (h0:1≤n) (hl:le lt (it xs (lo + n - 1)) (it xs (lo + n))):Up lt xs lo (n + 1):=λ i j hij hj=>by
  by_cases hjx:j < n
  · exact h i j hij hjx
  · have hj':j=n:=by omega
    subst hj'
    by_cases hi':i=j
    · subst hi';exact O.refl _
    · have:=h i (j - 1) (by omega) (by omega);rw [show lo + (j - 1)=lo + j - 1 by omega] at this;exact O.tr this hl
theorem Down.next (O:Ord lt) {xs:Array Keyed} {lo n:Nat} (h:Down lt xs lo n) (h0:1≤n) (hl:le lt (it xs (lo + n)) (it xs (lo + n - 1))):Down lt xs lo (n + 1):=λ i j hij hj=>by
  by_cases hjx:j < n
  · exact h i j hij hjx
  · have hj':j=n:=by omega
    subst hj'
    by_cases hi':i=j
    · subst hi';exact O.refl _
    · have:=h i (j - 1) (by omega) (by omega);rw [show lo + (j - 1)=lo + j - 1 by omega] at this;exact O.tr hl this
theorem wpS_up {st:SortSt} {lo a nrem:Nat} {Q:Option (Option Nat)×Nat→SortSt→Prop} (O:Ord lt) (C:Asks prog w A s κ lt a₀) (hn:lo + nrem≤a₀.size) (ha:1≤a) (han:a≤nrem) (hB:SB κ a₀ st) (hs:Up lt (arrOf st) lo a)
    (h:∀ n,a≤n→n≤nrem→Up lt (arrOf st) lo n→(n=nrem∨lt (it (arrOf st) (lo + n)) (it (arrOf st) (lo + n - 1))=true)→Q (none,n) st):wpS (model prog w) A E s (upLoop lo a nrem) Q st:=by
  unfold upLoop;refine wpS_forRange (I:=λ x c st'=>st'=st∧c=(none,x)∧Up lt (arrOf st) lo x) ?step ?fin ⟨rfl,rfl,hs⟩
  case fin =>
    rintro c st' ⟨rfl,rfl,hs'⟩;rw [show max a nrem=nrem by omega] at hs' ⊢;exact h nrem han (Nat.le_refl _) hs' (.inl rfl)
  case step =>
    rintro x c st' hax hxn ⟨rfl,rfl,hs'⟩;dsimp only;refine wpS_bind (wpS_at C hB (by omega) (by omega) ?_);cases hless:lt (it (arrOf st') (lo + x)) (it (arrOf st') (lo + x - 1)) with
    | true =>
      simp only [if_true];exact wpS_pure (h x hax (by omega) hs' (.inr hless))
    | false =>
      simp only [Bool.false_eq_true,if_false];exact wpS_pure ⟨rfl,rfl,hs'.next O (by omega) hless⟩
noncomputable def Alike (lt:Keyed→Keyed→Bool) (xs:Array Keyed) (i j:Nat):Prop:=∀ k m,i≤k→k < j→i≤m→m < j→le lt (it xs k) (it xs m)
theorem Down.mirror {xs:Array Keyed} {lo n i:Nat} (h:Down lt xs lo n) (hz:lo + n≤xs.size) (hi:lo≤i) (ha:Alike lt xs i (lo + n)):Down lt (mirror xs i (lo + n) ((lo + n - i) / 2)) lo n:=λ k m hkm hm=>by
  rw [it_mirror hz,it_mirror hz];have dn:∀ t u,lo≤t→t≤u→u < lo + n→le lt (it xs u) (it xs t):=λ t u h1 h2 h3=>by
    have:=h (t - lo) (u - lo) (by omega) (by omega)
    rwa [show lo + (t - lo)=t by omega,show lo + (u - lo)=u by omega] at this
  repeat' split
  · exact ha _ _ (by omega) (by omega) (by omega) (by omega)
  · exact dn _ _ (by omega) (by omega) (by omega)
  · exact dn _ _ (by omega) (by omega) (by omega)
  · exact dn _ _ (by omega) (by omega) (by omega)
theorem below_mirror {xs:Array Keyed} {lo n i:Nat} {z:Keyed} (hz:lo + n≤xs.size) (hi:lo≤i) (h:∀ k,lo≤k→k < lo + n→le lt z (it xs k)):∀ k,lo≤k→k < lo + n→le lt z (it (mirror xs i (lo + n) ((lo + n - i) / 2)) k):=λ k h1 h2=>by
  rw [it_mirror hz];split
  · exact h _ (by omega) (by omega)
  · exact h _ (by omega) (by omega)
theorem Down.flip {xs:Array Keyed} {lo n:Nat} (h:Down lt xs lo n) (hz:lo + n≤xs.size):Up lt (PyProof.Rows.mirror xs lo (lo + n) ((lo + n - lo) / 2)) lo n:=λ i j hij hj=>by
  rw [it_mirror hz,it_mirror hz,if_pos (by omega),if_pos (by omega)];have:=h (n - 1 - j) (n - 1 - i) (by omega) (by omega)
  rwa [show lo + (n - 1 - j)=lo + (lo + n) - 1 - (lo + j) by omega,show lo + (n - 1 - i)=lo + (lo + n) - 1 - (lo + i) by omega] at this
noncomputable def downLoop (lo n nrem:Nat):StateT SortSt Sem (Option (Option Nat)×Nat×Nat) :=
  forIn [n:nrem] ((none,n,0):Option (Option Nat)×Nat×Nat) λ _ c=>do
    let x ← ltAt' (lo + c.snd.fst) (lo + c.snd.fst - 1)
    match x with
    | some b =>
      if b=true then
        if c.snd.snd > 0 then do
          let _ ← reverseSlice' (lo + c.snd.fst - (c.snd.snd + 1)) (lo + c.snd.fst)
          pure (.yield (none,c.snd.fst + 1,0))
        else pure (.yield (none,c.snd.fst + 1,0))
      else do
        let y ← ltAt' (lo + c.snd.fst - 1) (lo + c.snd.fst)
        match y with
        | some d=>if d=true then pure (.done (none,c.snd.fst,c.snd.snd)) else pure (.yield (none,c.snd.fst + 1,c.snd.snd + 1))
        | _=>pure (.done (some none,c.snd.fst,c.snd.snd))
    | _=>pure (.done (some none,c.snd.fst,c.snd.snd))
theorem wpS_down {st:SortSt} {lo n nrem:Nat} {Q:Option (Option Nat)×Nat×Nat→SortSt→Prop} (O:Ord lt) (C:Asks prog w A s κ lt a₀) (hn:lo + nrem≤a₀.size) (h1:1≤n) (hnn:n≤nrem) (hB:SB κ a₀ st) (hs:Down lt (arrOf st) lo n)
    (h:∀ m q st',SB κ a₀ st'→Left lo st st'→n≤m→m≤nrem→Down lt (arrOf st') lo m→q + 1≤m→Alike lt (arrOf st') (lo + m - (q + 1)) (lo + m)→Q (none,m,q) st'):wpS (model prog w) A E s (downLoop lo n nrem) Q st:=by
  unfold downLoop;refine wpS_forRange (I:=λ x c st'=>∃ q,c=(none,x,q)∧SB κ a₀ st'∧Left lo st st'∧Down lt (arrOf st') lo x∧q + 1≤x∧Alike lt (arrOf st') (lo + x - (q + 1)) (lo + x)) ?step ?fin
    ⟨0,rfl,hB,Left.refl st,hs,by omega,λ i j h1 h2 h3 h4=>by rw [show i=j by omega];exact O.refl _⟩
  case fin =>
    rintro c st' ⟨q,rfl,hB',hL,hs',hq,he⟩;rw [show max n nrem=nrem by omega] at hs' hq he ⊢;exact h nrem q st' hB' hL hnn (Nat.le_refl _) hs' hq he
  case step =>
    rintro x c st' hax hxn ⟨q,rfl,hB',hL,hs',hq,he⟩;dsimp only;have hsz:lo + x≤(arrOf st').size:=by rw [hB'.size];omega
    refine wpS_bind (wpS_at C hB' (by omega) (by omega) ?_);cases hless:lt (it (arrOf st') (lo + x)) (it (arrOf st') (lo + x - 1)) with
    | true =>
      simp only [if_true];have hll:=O.le_of hless;have below:∀ k,lo≤k→k < lo + x→le lt (it (arrOf st') (lo + x)) (it (arrOf st') k):=λ k h1 h2=>by
        have:=hs' (k - lo) (x - 1) (by omega) (by omega);rw [show lo + (k - lo)=k by omega,show lo + (x - 1)=lo + x - 1 by omega] at this;exact O.tr hll this
      have one:Alike lt (arrOf st') (lo + (x + 1) - (0 + 1)) (lo + (x + 1)):=λ i j h1 h2 h3 h4=>by rw [show i=j by omega];exact O.refl _
      by_cases hq0:q > 0
      · rw [if_pos hq0];refine wpS_bind (wpS_rev (wpS_pure ⟨0,rfl,hB'.set (mirror_perm _ _ _ _),hL.trans (Left.mirror hsz (by omega)),?_,by omega,λ i j h1 h2 h3 h4=>by rw [show i=j by omega];exact O.refl _⟩));refine (hs'.mirror hsz (by omega) he).next O (by omega) ?_;have e:it (mirror (arrOf st') (lo + x - (q + 1)) (lo + x) ((lo + x - (lo + x - (q + 1))) / 2)) (lo + x)=it (arrOf st') (lo + x):=by rw [it_mirror hsz,if_neg (by omega)]
        show le lt (it (mirror (arrOf st') (lo + x - (q + 1)) (lo + x) ((lo + x - (lo + x - (q + 1))) / 2)) (lo + x)) _;rw [e];exact below_mirror hsz (by omega) below _ (by omega) (by omega)
      · rw [if_neg hq0];exact wpS_pure ⟨0,rfl,hB',hL,hs'.next O (by omega) hll,by omega,one⟩
    | false =>
      simp only [Bool.false_eq_true,if_false];refine wpS_bind (wpS_at C hB' (by omega) (by omega) ?_);cases hlarger:lt (it (arrOf st') (lo + x - 1)) (it (arrOf st') (lo + x)) with
      | true =>
        simp only [if_true];exact wpS_pure (h x q st' hB' hL hax (by omega) hs' hq he)
      | false =>
        simp only [Bool.false_eq_true,if_false];have e1:le lt (it (arrOf st') (lo + x - 1)) (it (arrOf st') (lo + x)):=hless;have e2:le lt (it (arrOf st') (lo + x)) (it (arrOf st') (lo + x - 1)):=hlarger;refine wpS_pure ⟨q + 1,rfl,hB',hL,hs'.next O (by omega) e2,by omega,λ i j h1 h2 h3 h4=>?_⟩;have to:∀ k,lo + (x + 1) - (q + 1 + 1)≤k→k < lo + (x + 1)→le lt (it (arrOf st') k) (it (arrOf st') (lo + x - 1))∧le lt (it (arrOf st') (lo + x - 1)) (it (arrOf st') k):=λ k h1 h2=>by
          by_cases hk:k=lo + x
          · subst hk;exact ⟨e2,e1⟩
          · exact ⟨he k (lo + x - 1) (by omega) (by omega) (by omega) (by omega),he (lo + x - 1) k (by omega) (by omega) (by omega) (by omega)⟩
        exact O.tr (to i h1 h2).1 (to j h3 h4).2
theorem wpS_count {st:SortSt} {lo nrem:Nat} {Q:Option Nat→SortSt→Prop} (O:Ord lt) (C:Asks prog w A s κ lt a₀) (hn:lo + nrem≤a₀.size) (h1:1≤nrem) (hB:SB κ a₀ st)
    (h:∀ m st',SB κ a₀ st'→Left lo st st'→1≤m→m≤nrem→Up lt (arrOf st') lo m→Q (some m) st'):wpS (model prog w) A E s (countRun' lo nrem) Q st:=by
  rw [countRun'_eq];extract_lets -underBinder +onlyGivenNames -merge -useContext up;refine wpS_bind (wpS_up O C hn (Nat.le_refl 1) h1 hB (λ i j hij hj=>by rw [show i=j by omega];exact O.refl _) λ n hn1 hn2 hsn hor=>?_);dsimp only
  by_cases hnn:n=nrem
  · rw [if_pos (by simpa using hnn)];exact wpS_pure (h n st hB (Left.refl st) hn1 hn2 hsn)
  · rw [if_neg (by simpa using hnn)];have hlt:=O.le_of (hor.resolve_left hnn)
    by_cases hgt:n > 1
    · rw [if_pos hgt];refine wpS_bind (wpS_at C hB (by omega) (by omega) ?_);cases hrose:lt (it (arrOf st) lo) (it (arrOf st) (lo + n - 1)) with
      | true =>
        simp only [if_true];exact wpS_pure (h n st hB (Left.refl st) hn1 hn2 hsn)
      | false =>
        simp only [Bool.false_eq_true,if_false];have hsz:lo + n≤(arrOf st).size:=by rw [hB.size];omega
        have al:∀ i j,i < n→j < n→le lt (it (arrOf st) (lo + i)) (it (arrOf st) (lo + j)):=λ i j hi hj=>by
          have a1:=hsn 0 j (by omega) hj;have a2:=hsn i (n - 1) (by omega) (by omega);rw [show lo + (n - 1)=lo + n - 1 by omega] at a2;exact O.tr a2 (O.tr hrose a1)
        have dn:Down lt (arrOf st) lo n:=λ i j hij hj=>al j i hj (by omega);have ak:Alike lt (arrOf st) lo (lo + n):=λ i j h1 h2 h3 h4=>by
          have:=al (i - lo) (j - lo) (by omega) (by omega)
          rwa [show lo + (i - lo)=i by omega,show lo + (j - lo)=j by omega] at this
        have hB1:=hB.set (mirror_perm (arrOf st) lo (lo + n) ((lo + n - lo) / 2));have hL1:=Left.mirror (i:=lo) hsz (Nat.le_refl _);have e:it (mirror (arrOf st) lo (lo + n) ((lo + n - lo) / 2)) (lo + n)=it (arrOf st) (lo + n):=by rw [it_mirror hsz,if_neg (by omega)]
        have hd1:Down lt (mirror (arrOf st) lo (lo + n) ((lo + n - lo) / 2)) lo (n + 1):=by
          refine (dn.mirror hsz (Nat.le_refl _) ak).next O (by omega) ?_;rw [e];exact below_mirror hsz (Nat.le_refl _) (λ k h1 h2=>O.tr hlt (ak _ _ (by omega) (by omega) (by omega) (by omega))) _ (by omega) (by omega)
        refine wpS_bind (wpS_rev ?_);refine wpS_bind (wpS_lift (wpAny_rule ⟨rfl,?_⟩));refine wpS_bind (wpS_down O C hn (by omega) (by omega) hB1 hd1 λ m q st2 hB2 hL2 hm1 hm2 hd2 hq he=>?_);dsimp only;have hsz2:lo + m≤(arrOf st2).size:=by rw [hB2.size];omega
        by_cases hq0:q > 0
        · rw [if_pos hq0];have hB3:=hB2.set (mirror_perm (arrOf st2) (lo + m - (q + 1)) (lo + m) ((lo + m - (lo + m - (q + 1))) / 2));have hL3:=(hL1.trans hL2).trans (Left.mirror (i:=lo + m - (q + 1)) hsz2 (by omega));have hd3:=hd2.mirror hsz2 (by omega) he;refine wpS_bind (wpS_rev ?_);have hB4:=hB3.set (mirror_perm (arrOf _) lo (lo + m) ((lo + m - lo) / 2));refine wpS_bind (wpS_rev (wpS_bind (wpS_up O C hn (by omega) hm2 hB4 (hd3.flip (by rw [hB3.size];omega)) λ m' hm1' hm2' hs' _=>?_)));exact wpS_pure (h m' _ hB4 (hL3.trans (Left.mirror (by rw [hB3.size];omega) (Nat.le_refl _))) (by omega) hm2' hs')
        · rw [if_neg hq0];have hB3:=hB2;have hL3:=hL1.trans hL2;have hd3:=hd2;have hB4:=hB3.set (mirror_perm (arrOf _) lo (lo + m) ((lo + m - lo) / 2));refine wpS_bind (wpS_rev (wpS_bind (wpS_up O C hn (by omega) hm2 hB4 (hd3.flip (by rw [hB3.size];omega)) λ m' hm1' hm2' hs' _=>?_)));exact wpS_pure (h m' _ hB4 (hL3.trans (Left.mirror (by rw [hB3.size];omega) (Nat.le_refl _))) (by omega) hm2' hs')
    · rw [if_neg hgt];have hn1':n=1:=by omega
      subst hn1';have hB1:=hB;have hL1:=Left.refl (lo:=lo) st;have hd1:Down lt (arrOf st) lo (1 + 1):=Down.next O (n:=1) (λ i j hij hj=>by rw [show i=j by omega];exact O.refl _) (Nat.le_refl _) hlt;refine wpS_bind (wpS_lift (wpAny_rule ⟨rfl,?_⟩));refine wpS_bind (wpS_down O C hn (by omega) (by omega) hB1 hd1 λ m q st2 hB2 hL2 hm1 hm2 hd2 hq he=>?_);dsimp only;have hsz2:lo + m≤(arrOf st2).size:=by rw [hB2.size];omega
      by_cases hq0:q > 0
      · rw [if_pos hq0];have hB3:=hB2.set (mirror_perm (arrOf st2) (lo + m - (q + 1)) (lo + m) ((lo + m - (lo + m - (q + 1))) / 2));have hL3:=(hL1.trans hL2).trans (Left.mirror (i:=lo + m - (q + 1)) hsz2 (by omega));have hd3:=hd2.mirror hsz2 (by omega) he;refine wpS_bind (wpS_rev ?_);have hB4:=hB3.set (mirror_perm (arrOf _) lo (lo + m) ((lo + m - lo) / 2));refine wpS_bind (wpS_rev (wpS_bind (wpS_up O C hn (by omega) hm2 hB4 (hd3.flip (by rw [hB3.size];omega)) λ m' hm1' hm2' hs' _=>?_)));exact wpS_pure (h m' _ hB4 (hL3.trans (Left.mirror (by rw [hB3.size];omega) (Nat.le_refl _))) (by omega) hm2' hs')
      · rw [if_neg hq0];have hB3:=hB2;have hL3:=hL1.trans hL2;have hd3:=hd2;have hB4:=hB3.set (mirror_perm (arrOf _) lo (lo + m) ((lo + m - lo) / 2));refine wpS_bind (wpS_rev (wpS_bind (wpS_up O C hn (by omega) hm2 hB4 (hd3.flip (by rw [hB3.size];omega)) λ m' hm1' hm2' hs' _=>?_)));exact wpS_pure (h m' _ hB4 (hL3.trans (Left.mirror (by rw [hB3.size];omega) (Nat.le_refl _))) (by omega) hm2' hs')
end
end Tim
namespace Tim
open PySem Srt PyProof.Rows
noncomputable def gallop':Bool→Keyed→Array Keyed→Nat→Nat→Nat→StateT SortSt Sem (Option Nat):=sortPriv% PySem.Builtin.gallop
theorem gallop'_eq (left:Bool) (key:Keyed) (arr:Array Keyed) (base n hint:Nat):gallop' left key arr base n hint=(do
  let far (i:Nat):StateT SortSt Sem (Option Bool):=do
    let x ← elem' arr (base + i)
    if left then lt' x key else return (← lt' key x).map (!·)
  let mut near:=0
  let mut ofs:=1
  let mut lo:=0
  let mut hi:=0
  let some right ← far hint | return none
  if right then
    let most:=n - hint
    for _ in [0:n] do
      if ofs ≥ most then break
      let some more ← far (hint + ofs) | return none
      if !more then break
      near:=ofs
      ofs:=2 * ofs + 1
    lo:=hint + near + 1
    hi:=hint + min ofs most
  else
    let most:=hint + 1
    for _ in [0:n] do
      if ofs ≥ most then break
      let some found ← far (hint - ofs) | return none
      if found then break
      near:=ofs
      ofs:=2 * ofs + 1
    lo:=hint + 1 - min ofs most
    hi:=hint - near
  for _ in [0:n] do
    if lo ≥ hi then break
    let m:=lo + (hi - lo) / 2
    let some more ← far m | return none
    if more then lo:=m + 1 else hi:=m
  return some hi):=rfl
section
variable {prog:Program} {w:World} {A:Around} {E:Value→Shared→Prop} {s:Shared} {a₀:Array Keyed} {κ:SortKind} {lt:Keyed→Keyed→Bool}
noncomputable def ahead (lt:Keyed→Keyed→Bool) (left:Bool) (key x:Keyed):Bool:=if left then lt x key else !lt key x
theorem wpS_gallop {st:SortSt} {left:Bool} {key:Keyed} {arr:Array Keyed} {base n hint:Nat} {Q:Option Nat→SortSt→Prop} (C:Asks prog w A s κ lt a₀) (hk:kindOf st=κ) (hkey:key∈a₀.toList) (hz:base + n≤arr.size) (hm:∀ p∈arr.toList,p∈a₀.toList) (hh:hint < n)
    (mono:∀ i j,i≤j→j < n→ahead lt left key (it arr (base + j))=true→ahead lt left key (it arr (base + i))=true)
    (h:∀ k,k≤n→(∀ i,i < k→ahead lt left key (it arr (base + i))=true)→(∀ i,k≤i→i < n→ahead lt left key (it arr (base + i))=false)→Q (some k) st):wpS (model prog w) A E s (gallop' left key arr base n hint) Q st:=by
  rw [gallop'_eq];extract_lets -underBinder +onlyGivenNames -merge -useContext far;have hfar:∀ i,i < n→∀ Q':Option Bool→SortSt→Prop,Q' (some (ahead lt left key (it arr (base + i)))) st→wpS (model prog w) A E s (far i) Q' st:=λ i hi Q' q=>by
    show wpS (model prog w) A E s (elem' arr (base + i) >>= _) Q' st;refine wpS_bind (wpS_elem (by omega) ?_);have hx:=hm _ (it_mem (xs:=arr) (i:=base + i) (by omega));unfold ahead at q;cases left with
    | true=>exact wpS_less C hk hx hkey q
    | false=>exact wpS_bind (wpS_less C hk hkey hx (wpS_pure q))
  have no:∀ i j,i≤j→j < n→ahead lt left key (it arr (base + i))=false→ahead lt left key (it arr (base + j))=false:=λ i j h1 h2 h3=>by
    cases h4:ahead lt left key (it arr (base + j)) with
    | false=>rfl
    | true=>rw [mono i j h1 h2 h4] at h3;cases h3
  ((try dsimp -zeta -zetaUnused -zetaHave only);(iterate 4 (extract_lets -underBinder +onlyGivenNames -merge -useContext zz;subst zz));(try dsimp -zeta -zetaUnused -zetaHave only))
  refine wpS_bind (hfar hint hh _ ?_)
  ((try dsimp -zeta -zetaUnused -zetaHave only))
  extract_lets -underBinder +onlyGivenNames -merge -useContext jp;have hjp:∀ near ofs lo hi,lo≤hi→hi≤n→(∀ i,i < lo→ahead lt left key (it arr (base + i))=true)→(∀ i,hi≤i→i < n→ahead lt left key (it arr (base + i))=false)→wpS (model prog w) A E s (jp () near ofs lo hi) Q st:=λ near ofs lo hi h1 h2 h3 h4=>by
    refine wpS_bind (wpS_mono (wpS_forRange (I:=λ x c st'=>st'=st∧∃ lo hi,c=(none,lo,hi)∧lo≤hi∧hi≤n∧hi - lo≤n - x∧(∀ i,i < lo→ahead lt left key (it arr (base + i))=true)∧(∀ i,hi≤i→i < n→ahead lt left key (it arr (base + i))=false))
      (Q:=λ c st'=>st'=st∧∃ lo hi,c=(none,lo,hi)∧lo=hi∧hi≤n∧(∀ i,i < lo→ahead lt left key (it arr (base + i))=true)∧(∀ i,hi≤i→i < n→ahead lt left key (it arr (base + i))=false)) ?step ?fin ⟨rfl,lo,hi,rfl,h1,h2,by omega,h3,h4⟩) ?post)
    case fin =>
      rintro c st' ⟨rfl,lo,hi,rfl,g1,g2,g3,g4,g5⟩;exact ⟨rfl,lo,hi,rfl,by omega,g2,g4,g5⟩
    case post =>
      rintro c st' ⟨rfl,lo,hi,rfl,rfl,g2,g4,g5⟩;exact wpS_pure (h lo g2 g4 g5)
    case step =>
      rintro x c st' hax hxn ⟨rfl,lo,hi,rfl,g1,g2,g3,g4,g5⟩
      ((try dsimp -zeta -zetaUnused -zetaHave only);(iterate 3 (extract_lets -underBinder +onlyGivenNames -merge -useContext zz;subst zz));(try dsimp -zeta -zetaUnused -zetaHave only))
      by_cases hge:lo ≥ hi
      · rw [if_pos hge];exact wpS_pure ⟨rfl,lo,hi,rfl,by omega,g2,g4,g5⟩
      · rw [if_neg hge]
        ((try dsimp -zeta -zetaUnused -zetaHave only);extract_lets -underBinder +onlyGivenNames -merge -useContext zz;subst zz;(try dsimp -zeta -zetaUnused -zetaHave only))
        refine wpS_bind (hfar _ (by omega) _ ?_);cases hm:ahead lt left key (it arr (base + (lo + (hi - lo) / 2))) with
        | true =>
          exact wpS_pure ⟨rfl,lo + (hi - lo) / 2 + 1,hi,rfl,by omega,g2,by omega,λ i hi'=>mono i (lo + (hi - lo) / 2) (by omega) (by omega) hm,g5⟩
        | false =>
          exact wpS_pure ⟨rfl,lo,lo + (hi - lo) / 2,rfl,by omega,by omega,by omega,g4,λ i h1 h2=>no (lo + (hi - lo) / 2) i h1 h2 hm⟩
  clear_value jp;cases hr:ahead lt left key (it arr (base + hint)) with
  | true =>
    rw [if_pos rfl]
    ((try dsimp -zeta -zetaUnused -zetaHave only);extract_lets -underBinder +onlyGivenNames -merge -useContext zz;subst zz;(try dsimp -zeta -zetaUnused -zetaHave only))
    refine wpS_bind (wpS_mono (wpS_forRange (I:=λ x c st'=>st'=st∧∃ near ofs,c=(none,near,ofs)∧x + 1≤ofs∧near < ofs∧hint + near < n∧ahead lt left key (it arr (base + (hint + near)))=true)
      (Q:=λ c st'=>st'=st∧∃ near ofs,c=(none,near,ofs)∧near < ofs∧hint + near < n∧ahead lt left key (it arr (base + (hint + near)))=true∧(n - hint≤ofs∨ahead lt left key (it arr (base + (hint + ofs)))=false)) ?step ?fin ⟨rfl,0,1,rfl,by omega,by omega,by omega,hr⟩) ?post)
    case fin =>
      rintro c st' ⟨rfl,near,ofs,rfl,g1,g2,g3,g4⟩;exact ⟨rfl,near,ofs,rfl,g2,g3,g4,.inl (by omega)⟩
    case post =>
      rintro c st' ⟨rfl,near,ofs,rfl,g2,g3,g4,g5⟩
      ((try dsimp -zeta -zetaUnused -zetaHave only);(iterate 4 (extract_lets -underBinder +onlyGivenNames -merge -useContext zz;subst zz));(try dsimp -zeta -zetaUnused -zetaHave only);(iterate 2 (extract_lets -underBinder +onlyGivenNames -merge -useContext zz;subst zz));(try dsimp -zeta -zetaUnused -zetaHave only))
      refine hjp _ _ _ _ (by omega) (by omega) (λ i hi=>mono i (hint + near) (by omega) (by omega) g4) λ i h1 h2=>?_;rcases g5 with g5 | g5
      · omega
      · exact no (hint + ofs) i (by omega) h2 g5
    case step =>
      rintro x c st' hax hxn ⟨rfl,near,ofs,rfl,g1,g2,g3,g4⟩
      ((try dsimp -zeta -zetaUnused -zetaHave only);(iterate 3 (extract_lets -underBinder +onlyGivenNames -merge -useContext zz;subst zz));(try dsimp -zeta -zetaUnused -zetaHave only))
      by_cases hge:ofs ≥ n - hint
      · rw [if_pos hge];exact wpS_pure ⟨rfl,near,ofs,rfl,g2,g3,g4,.inl hge⟩
      · rw [if_neg hge];refine wpS_bind (hfar _ (by omega) _ ?_);cases hm:ahead lt left key (it arr (base + (hint + ofs))) with
        | false=>exact wpS_pure ⟨rfl,near,ofs,rfl,g2,g3,g4,.inr hm⟩
        | true=>exact wpS_pure ⟨rfl,ofs,2 * ofs + 1,rfl,by omega,by omega,by omega,hm⟩
  | false =>
    rw [if_neg (by simp)]
    ((try dsimp -zeta -zetaUnused -zetaHave only);extract_lets -underBinder +onlyGivenNames -merge -useContext zz;subst zz;(try dsimp -zeta -zetaUnused -zetaHave only))
    refine wpS_bind (wpS_mono (wpS_forRange (I:=λ x c st'=>st'=st∧∃ near ofs,c=(none,near,ofs)∧x + 1≤ofs∧near < ofs∧near≤hint∧ahead lt left key (it arr (base + (hint - near)))=false)
      (Q:=λ c st'=>st'=st∧∃ near ofs,c=(none,near,ofs)∧near < ofs∧near≤hint∧ahead lt left key (it arr (base + (hint - near)))=false∧(hint + 1≤ofs∨ahead lt left key (it arr (base + (hint - ofs)))=true)) ?step ?fin ⟨rfl,0,1,rfl,by omega,by omega,by omega,hr⟩) ?post)
    case fin =>
      rintro c st' ⟨rfl,near,ofs,rfl,g1,g2,g3,g4⟩;exact ⟨rfl,near,ofs,rfl,g2,g3,g4,.inl (by omega)⟩
    case post =>
      rintro c st' ⟨rfl,near,ofs,rfl,g2,g3,g4,g5⟩
      ((try dsimp -zeta -zetaUnused -zetaHave only);(iterate 4 (extract_lets -underBinder +onlyGivenNames -merge -useContext zz;subst zz));(try dsimp -zeta -zetaUnused -zetaHave only);(iterate 2 (extract_lets -underBinder +onlyGivenNames -merge -useContext zz;subst zz));(try dsimp -zeta -zetaUnused -zetaHave only))
      refine hjp _ _ _ _ (by omega) (by omega) (λ i hi=>?_) λ i h1 h2=>no (hint - near) i h1 h2 g4;rcases g5 with g5 | g5
      · omega
      · exact mono i (hint - ofs) (by omega) (by omega) g5
    case step =>
      rintro x c st' hax hxn ⟨rfl,near,ofs,rfl,g1,g2,g3,g4⟩
      ((try dsimp -zeta -zetaUnused -zetaHave only);(iterate 3 (extract_lets -underBinder +onlyGivenNames -merge -useContext zz;subst zz));(try dsimp -zeta -zetaUnused -zetaHave only))
      by_cases hge:ofs ≥ hint + 1
      · rw [if_pos hge];exact wpS_pure ⟨rfl,near,ofs,rfl,g2,g3,g4,.inl hge⟩
      · rw [if_neg hge];refine wpS_bind (hfar _ (by omega) _ ?_);cases hm:ahead lt left key (it arr (base + (hint - ofs))) with
        | true=>exact wpS_pure ⟨rfl,near,ofs,rfl,g2,g3,g4,.inr hm⟩
        | false=>exact wpS_pure ⟨rfl,ofs,2 * ofs + 1,rfl,by omega,by omega,by omega,hm⟩
end
end Tim
namespace Tim
open PySem Srt PyProof.Rows
noncomputable def setMin':Nat→StateT SortSt Sem Unit:=sortPriv% PySem.Builtin.setMinGallop
noncomputable abbrev withMin (st:SortSt) (g:Nat):SortSt:=SortSt.mk' (kindOf st) (arrOf st) (pendingOf st) g (failedOf st)
theorem setMin'_eq (g:Nat):setMin' g=modify λ st=>withMin st g:=rfl
noncomputable def mergeLo':Array Keyed→Array Keyed→StateT SortSt Sem (Array Keyed):=sortPriv% PySem.Builtin.mergeLo
noncomputable def mergeHi':Array Keyed→Array Keyed→StateT SortSt Sem (Array Keyed):=sortPriv% PySem.Builtin.mergeHi
theorem mergeLo'_eq (a b:Array Keyed):mergeLo' a b=(do
  rule "list.sort.merge-lo"
  let all:=a.size + b.size
  let fin (o:Array Keyed) (i j:Nat):=o ++ a.extract i a.size ++ b.extract j b.size
  let lastA (o:Array Keyed) (i j:Nat):=o ++ b.extract j b.size ++ a.extract i a.size
  let mut o:Array Keyed:=#[← elem' b 0]
  let mut i:=0
  let mut j:=1
  if j == b.size then return fin o i j
  if i + 1 == a.size then return lastA o i j
  let mut mg:=gallopOf (← get)
  for _ in [0:all] do
    let mut ca:=0
    let mut cb:=0
    for _ in [0:all] do
      let some bw ← lt' (← elem' b j) (← elem' a i) | return fin o i j
      if bw then
        o:=o.push (← elem' b j);j:=j + 1;cb:=cb + 1;ca:=0
        if j == b.size then return fin o i j
        if cb ≥ mg then break
      else
        o:=o.push (← elem' a i);i:=i + 1;ca:=ca + 1;cb:=0
        if i + 1 == a.size then return lastA o i j
        if ca ≥ mg then break
    rule "list.sort.gallop"
    mg:=mg + 1
    for _ in [0:all] do
      if mg > 1 then mg:=mg - 1
      setMin' mg
      let some k ← gallop' false (← elem' b j) a i (a.size - i) 0 | return fin o i j
      ca:=k
      if k > 0 then
        o:=o ++ a.extract i (i + k);i:=i + k
        if i + 1 == a.size then return lastA o i j
        if i == a.size then return fin o i j
      o:=o.push (← elem' b j);j:=j + 1
      if j == b.size then return fin o i j
      let some k ← gallop' true (← elem' a i) b j (b.size - j) 0 | return fin o i j
      cb:=k
      if k > 0 then
        o:=o ++ b.extract j (j + k);j:=j + k
        if j == b.size then return fin o i j
      o:=o.push (← elem' a i);i:=i + 1
      if i + 1 == a.size then return lastA o i j
      if ca < 7 && cb < 7 then break
    mg:=mg + 1
    setMin' mg
  unsupported ("internal:list.sort.merge-bound":String)):=rfl
theorem mergeHi'_eq (a b:Array Keyed):mergeHi' a b=(do
  rule "list.sort.merge-hi"
  let all:=a.size + b.size
  let fin (o:Array Keyed) (i j:Nat):=a.extract 0 i ++ b.extract 0 j ++ o.reverse
  let firstB (o:Array Keyed) (i j:Nat):=b.extract 0 j ++ a.extract 0 i ++ o.reverse
  let mut i:=a.size - 1
  let mut j:=b.size
  let mut o:Array Keyed:=#[← elem' a i]
  if i == 0 then return fin o i j
  if j == 1 then return firstB o i j
  let mut mg:=gallopOf (← get)
  for _ in [0:all] do
    let mut ca:=0
    let mut cb:=0
    for _ in [0:all] do
      let some aw ← lt' (← elem' b (j - 1)) (← elem' a (i - 1)) | return fin o i j
      if aw then
        i:=i - 1;o:=o.push (← elem' a i);ca:=ca + 1;cb:=0
        if i == 0 then return fin o i j
        if ca ≥ mg then break
      else
        j:=j - 1;o:=o.push (← elem' b j);cb:=cb + 1;ca:=0
        if j == 1 then return firstB o i j
        if cb ≥ mg then break
    rule "list.sort.gallop"
    mg:=mg + 1
    for _ in [0:all] do
      if mg > 1 then mg:=mg - 1
      setMin' mg
      let some k ← gallop' false (← elem' b (j - 1)) a 0 i (i - 1) | return fin o i j
      let d:=i - k
      ca:=d
      if d > 0 then
        o:=o ++ (a.extract k i).reverse;i:=k
        if i == 0 then return fin o i j
      j:=j - 1;o:=o.push (← elem' b j)
      if j == 1 then return firstB o i j
      let some k ← gallop' true (← elem' a (i - 1)) b 0 j (j - 1) | return fin o i j
      let d:=j - k
      cb:=d
      if d > 0 then
        o:=o ++ (b.extract k j).reverse;j:=k
        if j == 1 then return firstB o i j
        if j == 0 then return fin o i j
      i:=i - 1;o:=o.push (← elem' a i)
      if i == 0 then return fin o i j
      if ca < 7 && cb < 7 then break
    mg:=mg + 1
    setMin' mg
  unsupported ("internal:list.sort.merge-bound":String)):=rfl
section
variable {prog:Program} {w:World} {A:Around} {E:Value→Shared→Prop} {s:Shared} {a₀:Array Keyed} {κ:SortKind} {lt:Keyed→Keyed→Bool}
theorem ext_list (a:Array Keyed) (i j:Nat):(a.extract i j).toList=(a.toList.drop i).take (j - i):=by
  rw [Array.toList_extract,List.extract_eq_take_drop]
theorem ext_all (a:Array Keyed) (i:Nat):(a.extract i a.size).toList=a.toList.drop i:=by
  rw [ext_list,List.take_of_length_le];simp
theorem get_list {a:Array Keyed} {i:Nat} (h:i < a.size):a.toList[i]?=some (it a i):=by
  rw [Array.getElem?_toList];exact it_get h
theorem of_list {a:Array Keyed} {i:Nat} {x:Keyed} (h:a.toList[i]?=some x):i < a.size∧x=it a i:=by
  have h1:i < a.size:=by simpa using (List.getElem?_eq_some_iff.mp h).1
  rw [get_list h1] at h;exact ⟨h1,(Option.some.inj h).symm⟩
theorem drop_it {a:Array Keyed} {i:Nat} {y:Keyed} (h:y∈a.toList.drop i):∃ k,i≤k∧k < a.size∧y=it a k:=by
  obtain ⟨k,hk⟩:=List.getElem?_of_mem h;rw [List.getElem?_drop] at hk;obtain ⟨h1,h2⟩:=of_list hk;exact ⟨i + k,by omega,h1,h2⟩
theorem sd_it (O:Ord lt) {a:Array Keyed} (h:Sd lt a.toList) {i j:Nat} (hij:i≤j) (hj:j < a.size):le lt (it a i) (it a j):=h.at_ O hij (get_list (by omega)) (get_list hj)
theorem lt_of_le_lt (O:Ord lt) {x y z:Keyed} (h1:le lt x y) (h2:lt y z=true):lt x z=true:=by
  cases h:lt x z with
  | true=>rfl
  | false =>
    have h':le lt z x:=h;have h3:lt y z=false:=O.tr h' h1;rw [h2] at h3;cases h3
theorem head_le (O:Ord lt) {a:Array Keyed} (h:Sd lt a.toList) {i:Nat} {z:Keyed} (hi:i < a.size) (hz:le lt z (it a i)):∀ y∈a.toList.drop i,le lt z y:=λ y hy=>by
  obtain ⟨k,h1,h2,rfl⟩:=drop_it hy;exact O.tr hz (sd_it O h h1 h2)
structure Mg (st st':SortSt):Prop where
  kind:kindOf st'=kindOf st
  arr:arrOf st'=arrOf st
  pend:pendingOf st'=pendingOf st
  failed:failedOf st'=failedOf st
theorem Mg.refl (st:SortSt):Mg st st:=⟨rfl,rfl,rfl,rfl⟩
theorem Mg.min {st st':SortSt} (h:Mg st st') (g:Nat):Mg st (withMin st' g):=⟨h.kind,h.arr,h.pend,h.failed⟩
theorem wpS_min {st:SortSt} {g:Nat} {Q:Unit→SortSt→Prop} (h:Q () (withMin st g)):wpS (model prog w) A E s (setMin' g) Q st:=by
  rw [setMin'_eq];exact wpS_modify h
noncomputable def Merged (lt:Keyed→Keyed→Bool) (a b r:Array Keyed):Prop:=Sd lt r.toList∧r.toList.Perm (a.toList ++ b.toList)
structure Mid (lt:Keyed→Keyed→Bool) (a b o:Array Keyed) (i j:Nat):Prop where
  mi:MI lt a.toList b.toList o.toList i j
  li:i + 1 < a.size
  lj:j < b.size
theorem Mid.pushB (O:Ord lt) {a b o:Array Keyed} {i j:Nat} (h:MI lt a.toList b.toList o.toList i j) (sb:Sd lt b.toList) (hj:j < b.size) (ha:∀ y∈a.toList.drop i,le lt (it b j) y):MI lt a.toList b.toList (o.push (it b j)).toList i (j + 1):=by
  rw [Array.toList_push];exact h.b O sb (get_list hj) ha
theorem Mid.pushA (O:Ord lt) {a b o:Array Keyed} {i j:Nat} (h:MI lt a.toList b.toList o.toList i j) (sa:Sd lt a.toList) (hi:i < a.size) (hb:∀ y∈b.toList.drop j,le lt (it a i) y):MI lt a.toList b.toList (o.push (it a i)).toList (i + 1) j:=by
  rw [Array.toList_push];exact h.a O sa (get_list hi) hb
theorem Mid.bulkA (O:Ord lt) {a b o:Array Keyed} {i j k:Nat} (h:MI lt a.toList b.toList o.toList i j) (sa:Sd lt a.toList) (hk:i + k≤a.size) (hb:∀ t,t < k→∀ y∈b.toList.drop j,le lt (it a (i + t)) y):MI lt a.toList b.toList (o ++ a.extract i (i + k)).toList (i + k) j:=by
  rw [Array.toList_append,ext_list,show i + k - i=k by omega];refine MI.as O sa k h (by simpa using hk) λ t x ht e y hy=>?_;rw [(of_list e).2];exact hb t ht y hy
theorem Mid.bulkB (O:Ord lt) {a b o:Array Keyed} {i j k:Nat} (h:MI lt a.toList b.toList o.toList i j) (sb:Sd lt b.toList) (hk:j + k≤b.size) (ha:∀ t,t < k→∀ y∈a.toList.drop i,le lt (it b (j + t)) y):MI lt a.toList b.toList (o ++ b.extract j (j + k)).toList i (j + k):=by
  rw [Array.toList_append,ext_list,show j + k - j=k by omega];refine MI.bs O sb k h (by simpa using hk) λ t x ht e y hy=>?_;rw [(of_list e).2];exact ha t ht y hy
theorem Merged.fin {a b o:Array Keyed} {i j:Nat} (h:MI lt a.toList b.toList o.toList i j) (sa:Sd lt a.toList) (sb:Sd lt b.toList) (e:j=b.size∨i=a.size):Merged lt a b (o ++ a.extract i a.size ++ b.extract j b.size):=by
  unfold Merged;rw [Array.toList_append,Array.toList_append,ext_all,ext_all];rcases e with e | e
  · exact h.endA sa (by simpa using e)
  · exact h.endB sb (by simpa using e)
theorem Merged.last {a b o:Array Keyed} {i j:Nat} (h:MI lt a.toList b.toList o.toList i j) (sa:Sd lt a.toList) (sb:Sd lt b.toList) (e:i + 1=a.size) (hl:∀ x∈b.toList,le lt x (it a (a.size - 1))):Merged lt a b (o ++ b.extract j b.size ++ a.extract i a.size):=by
  unfold Merged;rw [Array.toList_append,Array.toList_append,ext_all,ext_all];refine h.endL sa sb λ x hx y hy=>?_;obtain ⟨k,h1,h2,rfl⟩:=drop_it hy;rw [show k=a.size - 1 by omega];exact hl x hx
theorem wpS_mergeLo {st:SortSt} {a b:Array Keyed} {Q:Array Keyed→SortSt→Prop} (O:Ord lt) (C:Asks prog w A s κ lt a₀) (hk:kindOf st=κ) (ma:∀ p∈a.toList,p∈a₀.toList) (mb:∀ p∈b.toList,p∈a₀.toList) (sa:Sd lt a.toList) (sb:Sd lt b.toList) (ha:1≤a.size) (hb:1≤b.size)
    (h0:le lt (it b 0) (it a 0)) (hl:∀ x∈b.toList,le lt x (it a (a.size - 1))) (h:∀ r st',Mg st st'→Merged lt a b r→Q r st'):wpS (model prog w) A E s (mergeLo' a b) Q st:=by
  rw [mergeLo'_eq];refine wpS_bind (wpS_lift (wpAny_rule ⟨rfl,?_⟩))
  ((try dsimp -zeta -zetaUnused -zetaHave only);extract_lets -underBinder +onlyGivenNames -merge -useContext zz;subst zz;(try dsimp -zeta -zetaUnused -zetaHave only))
  extract_lets -underBinder +onlyGivenNames -merge -useContext fin;have hfin:∀ {o:Array Keyed} {i j:Nat},MI lt a.toList b.toList o.toList i j→(j=b.size∨i=a.size)→Merged lt a b (fin o i j):=λ m e=>Merged.fin m sa sb e;clear_value fin;extract_lets -underBinder +onlyGivenNames -merge -useContext lastA;have hlast:∀ {o:Array Keyed} {i j:Nat},MI lt a.toList b.toList o.toList i j→i + 1=a.size→Merged lt a b (lastA o i j):=λ m e=>Merged.last m sa sb e hl;clear_value lastA;have hin:∀ {i:Nat},i < b.size→it b i∈a₀.toList:=λ h=>mb _ (it_mem h);have hia:∀ {i:Nat},i < a.size→it a i∈a₀.toList:=λ h=>ma _ (it_mem h);refine wpS_bind (wpS_elem (by omega) ?_)
  ((try dsimp -zeta -zetaUnused -zetaHave only);(iterate 3 (extract_lets -underBinder +onlyGivenNames -merge -useContext zz;subst zz));(try dsimp -zeta -zetaUnused -zetaHave only))
  have m0:MI lt a.toList b.toList (#[it b 0]:Array Keyed).toList 0 1:=by
    have:=Mid.pushB O (o:=#[]) (MI.nil (lt:=lt) (A:=a.toList) (B:=b.toList)) sb (j:=0) (by omega) (head_le O sa (by omega) h0);simpa using this
  by_cases c1:1=b.size
  · rw [if_pos (by simpa using c1)];exact wpS_pure (h _ st (Mg.refl st) (hfin m0 (.inl c1)))
  rw [if_neg (by simpa using c1)]
  by_cases c2:0 + 1=a.size
  · rw [if_pos (by simpa using c2)];exact wpS_pure (h _ st (Mg.refl st) (hlast m0 c2))
  rw [if_neg (by simpa using c2)];refine wpS_bind (wpS_get ?_)
  ((try dsimp -zeta -zetaUnused -zetaHave only);extract_lets -underBinder +onlyGivenNames -merge -useContext zz;subst zz;(try dsimp -zeta -zetaUnused -zetaHave only))
  refine wpS_bind (wpS_mono (wpS_forRange (I:=λ x c st'=>Mg st st'∧∃ o i j mg,c=(none,o,i,j,mg)∧Mid lt a b o i j∧x≤i + j)
    (Q:=λ c st'=>Mg st st'∧∃ r d,c=(some r,d)∧Merged lt a b r) ?step ?fin ⟨Mg.refl st,_,_,_,_,rfl,⟨m0,by omega,by omega⟩,by omega⟩) ?post)
  case fin =>
    rintro c st' ⟨_,o,i,j,mg,rfl,m,hx⟩;have:=m.li;have:=m.lj;omega
  case post =>
    rintro c st' ⟨g,r,d,rfl,hr⟩
    ((try dsimp -zeta -zetaUnused -zetaHave only);extract_lets -underBinder +onlyGivenNames -merge -useContext zz;subst zz;(try dsimp -zeta -zetaUnused -zetaHave only))
    exact wpS_pure (h r st' g hr)
  rintro x c st1 _ hx ⟨g1,o1,i1,j1,mg1,rfl,m1,hxi⟩
  ((try dsimp -zeta -zetaUnused -zetaHave only);(iterate 9 (extract_lets -underBinder +onlyGivenNames -merge -useContext zz;subst zz));(try dsimp -zeta -zetaUnused -zetaHave only))
  refine wpS_bind (wpS_mono (wpS_forRange (I:=λ y c st'=>Mg st st'∧∃ o i j ca cb,c=(none,o,i,j,ca,cb)∧Mid lt a b o i j∧x + min y 1≤i + j)
    (Q:=λ c st'=>Mg st st'∧((∃ r d,c=(some r,d)∧Merged lt a b r)∨∃ o i j ca cb,c=(none,o,i,j,ca,cb)∧Mid lt a b o i j∧x + 1≤i + j)) ?step1 ?fin1 ⟨g1,o1,i1,j1,0,0,rfl,m1,by omega⟩) ?post1)
  case fin1 =>
    rintro c st' ⟨g,o,i,j,ca,cb,rfl,m,hy⟩;exact ⟨g,.inr ⟨o,i,j,ca,cb,rfl,m,by omega⟩⟩
  case step1 =>
    rintro y c st' _ hy ⟨g,o,i,j,ca,cb,rfl,m,hyi⟩;have hli:=m.li;have hlj:=m.lj
    ((try dsimp -zeta -zetaUnused -zetaHave only);(iterate 9 (extract_lets -underBinder +onlyGivenNames -merge -useContext zz;subst zz));(try dsimp -zeta -zetaUnused -zetaHave only))
    refine wpS_bind (wpS_elem hlj (wpS_bind (wpS_elem (by omega) (wpS_bind (wpS_less C (g.kind.trans hk) (hin hlj) (hia (by omega)) ?_)))))
    ((try dsimp -zeta -zetaUnused -zetaHave only))
    cases hw:lt (it b j) (it a i) with
    | true =>
      rw [if_pos rfl];refine wpS_bind (wpS_elem hlj ?_)
      ((try dsimp -zeta -zetaUnused -zetaHave only);(iterate 4 (extract_lets -underBinder +onlyGivenNames -merge -useContext zz;subst zz));(try dsimp -zeta -zetaUnused -zetaHave only))
      have m':=Mid.pushB O m.mi sb hlj (head_le O sa (by omega) (O.le_of hw))
      by_cases c3:j + 1=b.size
      · rw [if_pos (by simpa using c3)];exact wpS_pure ⟨g,.inl ⟨_,_,rfl,hfin m' (.inl c3)⟩⟩
      rw [if_neg (by simpa using c3)];have m2:Mid lt a b (o.push (it b j)) i (j + 1):=⟨m',hli,by omega⟩;split
      · exact wpS_pure ⟨g,.inr ⟨_,_,_,_,_,rfl,m2,by omega⟩⟩
      · exact wpS_pure ⟨g,_,_,_,_,_,rfl,m2,by omega⟩
    | false =>
      rw [if_neg (by simp)];refine wpS_bind (wpS_elem (by omega) ?_)
      ((try dsimp -zeta -zetaUnused -zetaHave only);(iterate 4 (extract_lets -underBinder +onlyGivenNames -merge -useContext zz;subst zz));(try dsimp -zeta -zetaUnused -zetaHave only))
      have m':=Mid.pushA O m.mi sa (by omega) (head_le O sb hlj hw)
      by_cases c3:i + 1 + 1=a.size
      · rw [if_pos (by simpa using c3)];exact wpS_pure ⟨g,.inl ⟨_,_,rfl,hlast m' c3⟩⟩
      rw [if_neg (by simpa using c3)];have m2:Mid lt a b (o.push (it a i)) (i + 1) j:=⟨m',by omega,hlj⟩;split
      · exact wpS_pure ⟨g,.inr ⟨_,_,_,_,_,rfl,m2,by omega⟩⟩
      · exact wpS_pure ⟨g,_,_,_,_,_,rfl,m2,by omega⟩
  rintro c st2 ⟨g2,⟨r,d,rfl,hr⟩ | ⟨o2,i2,j2,ca2,cb2,rfl,m2,hx2⟩⟩
  · ((try dsimp -zeta -zetaUnused -zetaHave only);(iterate 10 (extract_lets -underBinder +onlyGivenNames -merge -useContext zz;subst zz));(try dsimp -zeta -zetaUnused -zetaHave only))
    exact wpS_pure ⟨g2,r,_,rfl,hr⟩
  ((try dsimp -zeta -zetaUnused -zetaHave only);(iterate 10 (extract_lets -underBinder +onlyGivenNames -merge -useContext zz;subst zz));(try dsimp -zeta -zetaUnused -zetaHave only))
  refine wpS_bind (wpS_lift (wpAny_rule ⟨rfl,?_⟩))
  ((try dsimp -zeta -zetaUnused -zetaHave only);extract_lets -underBinder +onlyGivenNames -merge -useContext zz;subst zz;(try dsimp -zeta -zetaUnused -zetaHave only))
  refine wpS_bind (wpS_mono (wpS_forRange (I:=λ y c st'=>Mg st st'∧∃ o i j mg ca cb,c=(none,o,i,j,mg,ca,cb)∧Mid lt a b o i j∧x + 1≤i + j)
    (Q:=λ c st'=>Mg st st'∧((∃ r d,c=(some r,d)∧Merged lt a b r)∨∃ o i j mg ca cb,c=(none,o,i,j,mg,ca,cb)∧Mid lt a b o i j∧x + 1≤i + j)) ?step2 ?fin2 ⟨g2,o2,i2,j2,_,_,_,rfl,m2,hx2⟩) ?post2)
  case fin2 =>
    rintro c st' ⟨g,z⟩;exact ⟨g,.inr z⟩
  case post2 =>
    rintro c st3 ⟨g3,⟨r,d,rfl,hr⟩ | ⟨o3,i3,j3,mg3,ca3,cb3,rfl,m3,hx3⟩⟩
    · ((try dsimp -zeta -zetaUnused -zetaHave only);(iterate 9 (extract_lets -underBinder +onlyGivenNames -merge -useContext zz;subst zz));(try dsimp -zeta -zetaUnused -zetaHave only))
      exact wpS_pure ⟨g3,r,_,rfl,hr⟩
    ((try dsimp -zeta -zetaUnused -zetaHave only);(iterate 9 (extract_lets -underBinder +onlyGivenNames -merge -useContext zz;subst zz));(try dsimp -zeta -zetaUnused -zetaHave only);extract_lets -underBinder +onlyGivenNames -merge -useContext zz;subst zz;(try dsimp -zeta -zetaUnused -zetaHave only))
    refine wpS_bind (wpS_min (wpS_pure ?_));exact ⟨g3.min _,_,_,_,_,rfl,m3,hx3⟩
  rintro y c st3 _ hy ⟨g3,o,i,j,mg,ca,cb,rfl,m,hx3⟩;have hli:=m.li;have hlj:=m.lj
  ((try dsimp -zeta -zetaUnused -zetaHave only);(iterate 11 (extract_lets -underBinder +onlyGivenNames -merge -useContext zz;subst zz));(try dsimp -zeta -zetaUnused -zetaHave only))
  extract_lets -underBinder +onlyGivenNames -merge -useContext jp;have hjp:∀ mg,wpS (model prog w) A E s (jp () mg) (λ r st'=>match r with
      | .done c'=>Mg st st'∧((∃ r d,c'=(some r,d)∧Merged lt a b r)∨∃ o i j mg ca cb,c'=(none,o,i,j,mg,ca,cb)∧Mid lt a b o i j∧x + 1≤i + j)
      | .yield c'=>Mg st st'∧∃ o i j mg ca cb,c'=(none,o,i,j,mg,ca,cb)∧Mid lt a b o i j∧x + 1≤i + j) st3:=λ mg=>by
    refine wpS_bind (wpS_min (wpS_bind (wpS_elem hlj ?_)));have g4:=g3.min mg;refine wpS_bind (wpS_gallop C (g4.kind.trans hk) (hin hlj) (by omega) ma (by omega) (λ t u h1 h2 h3=>?_) λ k k1 k2 k3=>?_)
    · unfold ahead at h3 ⊢;rw [if_neg (by simp)] at h3 ⊢;have h4:lt (it b j) (it a (i + u))=false:=by simpa using h3
      have h5:lt (it b j) (it a (i + t))=false:=O.tr (sd_it O sa (by omega) (by omega)) h4;simp [h5]
    have k2':∀ t,t < k→le lt (it a (i + t)) (it b j):=λ t ht=>by
      have:=k2 t ht;unfold ahead at this;rw [if_neg (by simp)] at this;show lt (it b j) (it a (i + t))=false;simpa using this
    have k3':∀ t,k≤t→t < a.size - i→lt (it b j) (it a (i + t))=true:=λ t h1 h2=>by
      have:=k3 t h1 h2;unfold ahead at this;rw [if_neg (by simp)] at this;simpa using this
    ((try dsimp -zeta -zetaUnused -zetaHave only);extract_lets -underBinder +onlyGivenNames -merge -useContext zz;subst zz;(try dsimp -zeta -zetaUnused -zetaHave only))
    extract_lets -underBinder +onlyGivenNames -merge -useContext jq;have hjq:∀ o i,Mid lt a b o i j→(∀ y∈a.toList.drop i,le lt (it b j) y)→x + 1≤i + j→wpS (model prog w) A E s (jq () o i) (λ r st'=>match r with
      | .done c'=>Mg st st'∧((∃ r d,c'=(some r,d)∧Merged lt a b r)∨∃ o i j mg ca cb,c'=(none,o,i,j,mg,ca,cb)∧Mid lt a b o i j∧x + 1≤i + j)
      | .yield c'=>Mg st st'∧∃ o i j mg ca cb,c'=(none,o,i,j,mg,ca,cb)∧Mid lt a b o i j∧x + 1≤i + j) (withMin st3 mg):=λ o i m hy hx=>by
      have hli:=m.li;refine wpS_bind (wpS_elem hlj ?_)
      ((try dsimp -zeta -zetaUnused -zetaHave only);(iterate 2 (extract_lets -underBinder +onlyGivenNames -merge -useContext zz;subst zz));(try dsimp -zeta -zetaUnused -zetaHave only))
      have m':=Mid.pushB O m.mi sb hlj hy
      by_cases c3:j + 1=b.size
      · rw [if_pos (by simpa using c3)];exact wpS_pure ⟨g4,.inl ⟨_,_,rfl,hfin m' (.inl c3)⟩⟩
      rw [if_neg (by simpa using c3)];refine wpS_bind (wpS_elem (by omega) ?_);refine wpS_bind (wpS_gallop C (g4.kind.trans hk) (hia (by omega)) (by omega) mb (by omega) (λ t u h1 h2 h3=>?_) λ k n1 n2 n3=>?_)
      · unfold ahead at h3 ⊢;rw [if_pos rfl] at h3 ⊢;exact lt_of_le_lt O (sd_it O sb (by omega) (by omega)) h3
      have n2':∀ t,t < k→le lt (it b (j + 1 + t)) (it a i):=λ t ht=>by
        have:=n2 t ht;unfold ahead at this;rw [if_pos rfl] at this;exact O.le_of this
      have n3':∀ t,k≤t→t < b.size - (j + 1)→le lt (it a i) (it b (j + 1 + t)):=λ t h1 h2=>by
        have:=n3 t h1 h2;unfold ahead at this;rw [if_pos rfl] at this;exact this
      ((try dsimp -zeta -zetaUnused -zetaHave only);extract_lets -underBinder +onlyGivenNames -merge -useContext zz;subst zz;(try dsimp -zeta -zetaUnused -zetaHave only))
      extract_lets -underBinder +onlyGivenNames -merge -useContext jr;have hjr:∀ o j,MI lt a.toList b.toList o.toList i j→j < b.size→le lt (it a i) (it b j)→x + 1≤i + j→wpS (model prog w) A E s (jr () o j) (λ r st'=>match r with
        | .done c'=>Mg st st'∧((∃ r d,c'=(some r,d)∧Merged lt a b r)∨∃ o i j mg ca cb,c'=(none,o,i,j,mg,ca,cb)∧Mid lt a b o i j∧x + 1≤i + j)
        | .yield c'=>Mg st st'∧∃ o i j mg ca cb,c'=(none,o,i,j,mg,ca,cb)∧Mid lt a b o i j∧x + 1≤i + j) (withMin st3 mg):=λ o j m hj hle hx=>by
        refine wpS_bind (wpS_elem (by omega) ?_)
        ((try dsimp -zeta -zetaUnused -zetaHave only);(iterate 2 (extract_lets -underBinder +onlyGivenNames -merge -useContext zz;subst zz));(try dsimp -zeta -zetaUnused -zetaHave only))
        have m':=Mid.pushA O m sa (by omega) (head_le O sb hj hle)
        by_cases c4:i + 1 + 1=a.size
        · rw [if_pos (by simpa using c4)];exact wpS_pure ⟨g4,.inl ⟨_,_,rfl,hlast m' c4⟩⟩
        rw [if_neg (by simpa using c4)];have m2:Mid lt a b (o.push (it a i)) (i + 1) j:=⟨m',by omega,hj⟩;split
        · exact wpS_pure ⟨g4,.inr ⟨_,_,_,_,_,_,rfl,m2,by omega⟩⟩
        · exact wpS_pure ⟨g4,_,_,_,_,_,_,rfl,m2,by omega⟩
      clear_value jr
      by_cases hk0:k > 0
      · rw [if_pos hk0]
        ((try dsimp -zeta -zetaUnused -zetaHave only);(iterate 2 (extract_lets -underBinder +onlyGivenNames -merge -useContext zz;subst zz));(try dsimp -zeta -zetaUnused -zetaHave only))
        have m5:=Mid.bulkB O m' sb (k:=k) (by omega) λ t ht=>head_le O sa (by omega) (n2' t ht)
        by_cases c5:j + 1 + k=b.size
        · rw [if_pos (by simpa using c5)];exact wpS_pure ⟨g4,.inl ⟨_,_,rfl,hfin m5 (.inl c5)⟩⟩
        rw [if_neg (by simpa using c5)];exact hjr _ _ m5 (by omega) (n3' k (Nat.le_refl _) (by omega)) (by omega)
      · rw [if_neg hk0];have:k=0:=by omega
        subst this;exact hjr _ _ m' (by omega) (n3' 0 (Nat.le_refl _) (by omega)) (by omega)
    clear_value jq
    by_cases hk0:k > 0
    · rw [if_pos hk0]
      ((try dsimp -zeta -zetaUnused -zetaHave only);(iterate 2 (extract_lets -underBinder +onlyGivenNames -merge -useContext zz;subst zz));(try dsimp -zeta -zetaUnused -zetaHave only))
      have m5:=Mid.bulkA O m.mi sa (k:=k) (by omega) λ t ht=>head_le O sb hlj (k2' t ht)
      by_cases c5:i + k + 1=a.size
      · rw [if_pos (by simpa using c5)];exact wpS_pure ⟨g4,.inl ⟨_,_,rfl,hlast m5 c5⟩⟩
      rw [if_neg (by simpa using c5)]
      by_cases c6:i + k=a.size
      · rw [if_pos (by simpa using c6)];exact wpS_pure ⟨g4,.inl ⟨_,_,rfl,hfin m5 (.inr c6)⟩⟩
      rw [if_neg (by simpa using c6)];exact hjq _ _ ⟨m5,by omega,hlj⟩ (head_le O sa (by omega) (O.le_of (k3' k (Nat.le_refl _) (by omega)))) (by omega)
    · rw [if_neg hk0];have:k=0:=by omega
      subst this;exact hjq _ _ m (head_le O sa (by omega) (O.le_of (k3' 0 (Nat.le_refl _) (by omega)))) hx3
  clear_value jp;split
  · ((try dsimp -zeta -zetaUnused -zetaHave only);extract_lets -underBinder +onlyGivenNames -merge -useContext zz;subst zz;(try dsimp -zeta -zetaUnused -zetaHave only))
    exact wpS_mono (hjp _) λ r st' hh=>by cases r<;>exact hh
  · exact wpS_mono (hjp _) λ r st' hh=>by cases r<;>exact hh
end
end Tim
namespace Tim
open PySem Srt PyProof.Rows
section
variable {prog:Program} {w:World} {A:Around} {E:Value→Shared→Prop} {s:Shared} {a₀:Array Keyed} {κ:SortKind} {lt:Keyed→Keyed→Bool}
noncomputable def Rv (lt:Keyed→Keyed→Bool) (a b o:Array Keyed) (i j:Nat):Prop:=MI (λ x y=>lt y x) a.toList.reverse b.toList.reverse o.toList (a.size - i) (b.size - j)
theorem Rv.symm {a b o:Array Keyed} {i j:Nat} (h:Rv lt a b o i j):Rv lt b a o j i:=MI.symm h
theorem rev_left {b:Array Keyed} {j:Nat} (hj:j≤b.size):b.toList.reverse.drop (b.size - j)=(b.toList.take j).reverse:=by
  have:=rev_take b.toList j (by simpa using hj);simpa using this
theorem Rv.pushA (O:Ord lt) {a b o:Array Keyed} {i j:Nat} (h:Rv lt a b o i j) (sa:Sd lt a.toList) (h1:1≤i) (hi:i≤a.size) (hj:j≤b.size) (hb:∀ y∈b.toList.take j,le lt y (it a (i - 1))):Rv lt a b (o.push (it a (i - 1))) (i - 1) j:=by
  unfold Rv;rw [Array.toList_push,show a.size - (i - 1)=a.size - i + 1 by omega];refine MI.a O.swap h sa.rev ?_ λ y hy=>?_
  · have e:=rev_get (A:=a.toList) (n:=i - 1) (by simp;omega);rw [Array.length_toList,show a.size - (i - 1 + 1)=a.size - i by omega] at e;rw [e];exact get_list (by omega)
  · rw [rev_left hj,List.mem_reverse] at hy;exact hb y hy
theorem Rv.pushB (O:Ord lt) {a b o:Array Keyed} {i j:Nat} (h:Rv lt a b o i j) (sb:Sd lt b.toList) (h1:1≤j) (hj:j≤b.size) (hi:i≤a.size) (ha:∀ y∈a.toList.take i,le lt y (it b (j - 1))):Rv lt a b (o.push (it b (j - 1))) i (j - 1) :=
  (h.symm.pushA O sb h1 hj hi ha).symm
theorem Rv.bulkA (O:Ord lt) {a b o:Array Keyed} {i j k:Nat} (h:Rv lt a b o i j) (sa:Sd lt a.toList) (hk:k≤i) (hi:i≤a.size) (hj:j≤b.size) (hb:∀ t,k≤t→t < i→∀ y∈b.toList.take j,le lt y (it a t)):Rv lt a b (o ++ (a.extract k i).reverse) k j:=by
  unfold Rv;have e:(o ++ (a.extract k i).reverse).toList=o.toList ++ (a.toList.reverse.drop (a.size - i)).take (i - k):=by
    rw [Array.toList_append,Array.toList_reverse,ext_list,rev_left hi,List.take_reverse,List.drop_take];congr 2;have hl:(List.take i a.toList).length=i:=by simp;omega
    rw [hl,show i - (i - k)=k by omega]
  rw [e,show a.size - k=a.size - i + (i - k) by omega];refine MI.as O.swap sa.rev (i - k) h (by simp;omega) λ t x ht ex y hy=>?_;rw [rev_left hj,List.mem_reverse] at hy;have e2:=rev_get (A:=a.toList) (n:=i - 1 - t) (by simp;omega);rw [Array.length_toList,show a.size - (i - 1 - t + 1)=a.size - i + t by omega] at e2;rw [e2] at ex;rw [(of_list ex).2];exact hb (i - 1 - t) (by omega) (by omega) y hy
theorem Rv.bulkB (O:Ord lt) {a b o:Array Keyed} {i j k:Nat} (h:Rv lt a b o i j) (sb:Sd lt b.toList) (hk:k≤j) (hj:j≤b.size) (hi:i≤a.size) (ha:∀ t,k≤t→t < j→∀ y∈a.toList.take i,le lt y (it b t)):Rv lt a b (o ++ (b.extract k j).reverse) i k :=
  (h.symm.bulkA O sb hk hj hi ha).symm
theorem ext_front (a:Array Keyed) (i:Nat):(a.extract 0 i).toList=a.toList.take i:=by rw [ext_list];simp
theorem Rv.fin {a b o:Array Keyed} {i j:Nat} (h:Rv lt a b o i j) (sa:Sd lt a.toList) (sb:Sd lt b.toList) (hi:i≤a.size) (hj:j≤b.size) (e:i=0∨j=0):Merged lt a b (a.extract 0 i ++ b.extract 0 j ++ o.reverse):=by
  have key:Sd (λ x y=>lt y x) (o.toList ++ a.toList.reverse.drop (a.size - i) ++ b.toList.reverse.drop (b.size - j))∧(o.toList ++ a.toList.reverse.drop (a.size - i) ++ b.toList.reverse.drop (b.size - j)).Perm (a.toList.reverse ++ b.toList.reverse):=by
    rcases e with rfl | rfl
    · exact MI.endB h sb.rev (by simp)
    · exact MI.endA h sa.rev (by simp)
  rw [rev_left hi,rev_left hj] at key;have el:(a.extract 0 i ++ b.extract 0 j ++ o.reverse).toList=(o.toList ++ (a.toList.take i).reverse ++ (b.toList.take j).reverse).reverse:=by
    rw [Array.toList_append,Array.toList_append,Array.toList_reverse,ext_front,ext_front];rcases e with rfl | rfl<;>simp
  unfold Merged;rw [el];refine ⟨Sd.unrev key.1,(List.reverse_perm _).trans (key.2.trans ?_)⟩;exact (List.reverse_perm _).append (List.reverse_perm _)
theorem Rv.first (O:Ord lt) {a b o:Array Keyed} {i j:Nat} (h:Rv lt a b o i j) (sa:Sd lt a.toList) (sb:Sd lt b.toList) (hi:i≤a.size) (hj:j≤b.size) (e:j=1) (h0:∀ x∈a.toList,le lt (it b 0) x):Merged lt a b (b.extract 0 j ++ a.extract 0 i ++ o.reverse):=by
  have key:=MI.endL (MI.symm h) sb.rev sa.rev λ x hx y hy=>by
    rw [rev_left hj,List.mem_reverse] at hy;rw [List.mem_reverse] at hx;obtain ⟨t,ht⟩:=List.getElem?_of_mem hy;have ht0:t=0:=by
      have:=(List.getElem?_eq_some_iff.mp ht).1;rw [List.length_take] at this;omega
    subst ht0;rw [List.getElem?_take_of_lt (by omega)] at ht;rw [(of_list ht).2];exact h0 x hx
  rw [rev_left hi,rev_left hj] at key;have el:(b.extract 0 j ++ a.extract 0 i ++ o.reverse).toList=(o.toList ++ (a.toList.take i).reverse ++ (b.toList.take j).reverse).reverse:=by
    rw [Array.toList_append,Array.toList_append,Array.toList_reverse,ext_front,ext_front];simp
  unfold Merged;rw [el];refine ⟨Sd.unrev key.1,(List.reverse_perm _).trans (key.2.trans ?_)⟩;exact ((List.reverse_perm _).append (List.reverse_perm _)).trans List.perm_append_comm
theorem last_le (O:Ord lt) {a:Array Keyed} (h:Sd lt a.toList) {i:Nat} {z:Keyed} (h1:1≤i) (hi:i≤a.size) (hz:le lt (it a (i - 1)) z):∀ y∈a.toList.take i,le lt y z:=λ y hy=>by
  obtain ⟨t,ht⟩:=List.getElem?_of_mem hy;have hl:t < i:=by
    have:=(List.getElem?_eq_some_iff.mp ht).1;rw [List.length_take] at this;omega
  rw [List.getElem?_take_of_lt hl] at ht;rw [(of_list ht).2];exact O.tr (sd_it O h (by omega) (by omega)) hz
structure MidH (lt:Keyed→Keyed→Bool) (a b o:Array Keyed) (i j:Nat):Prop where
  mi:Rv lt a b o i j
  li:1≤i
  ui:i≤a.size
  lj:2≤j
  uj:j≤b.size
theorem wpS_mergeHi {st:SortSt} {a b:Array Keyed} {Q:Array Keyed→SortSt→Prop} (O:Ord lt) (C:Asks prog w A s κ lt a₀) (hk:kindOf st=κ) (ma:∀ p∈a.toList,p∈a₀.toList) (mb:∀ p∈b.toList,p∈a₀.toList) (sa:Sd lt a.toList) (sb:Sd lt b.toList) (ha:1≤a.size) (hb:1≤b.size)
    (h0:le lt (it b 0) (it a 0)) (hl:∀ x∈b.toList,le lt x (it a (a.size - 1))) (h:∀ r st',Mg st st'→Merged lt a b r→Q r st'):wpS (model prog w) A E s (mergeHi' a b) Q st:=by
  have h0':∀ x∈a.toList,le lt (it b 0) x:=λ x hx=>head_le O sa (i:=0) (by omega) h0 x (by simpa using hx);rw [mergeHi'_eq];refine wpS_bind (wpS_lift (wpAny_rule ⟨rfl,?_⟩))
  ((try dsimp -zeta -zetaUnused -zetaHave only);extract_lets -underBinder +onlyGivenNames -merge -useContext zz;subst zz;(try dsimp -zeta -zetaUnused -zetaHave only))
  extract_lets -underBinder +onlyGivenNames -merge -useContext fin;have hfin:∀ {o:Array Keyed} {i j:Nat},Rv lt a b o i j→i≤a.size→j≤b.size→(i=0∨j=0)→Merged lt a b (fin o i j):=λ m h1 h2 e=>Rv.fin m sa sb h1 h2 e;clear_value fin;extract_lets -underBinder +onlyGivenNames -merge -useContext firstB;have hfirst:∀ {o:Array Keyed} {i j:Nat},Rv lt a b o i j→i≤a.size→j≤b.size→j=1→Merged lt a b (firstB o i j):=λ m h1 h2 e=>Rv.first O m sa sb h1 h2 e h0';clear_value firstB;have hin:∀ {i:Nat},i < b.size→it b i∈a₀.toList:=λ h=>mb _ (it_mem h);have hia:∀ {i:Nat},i < a.size→it a i∈a₀.toList:=λ h=>ma _ (it_mem h)
  ((try dsimp -zeta -zetaUnused -zetaHave only);(iterate 2 (extract_lets -underBinder +onlyGivenNames -merge -useContext zz;subst zz));(try dsimp -zeta -zetaUnused -zetaHave only))
  refine wpS_bind (wpS_elem (by omega) ?_)
  ((try dsimp -zeta -zetaUnused -zetaHave only);extract_lets -underBinder +onlyGivenNames -merge -useContext zz;subst zz;(try dsimp -zeta -zetaUnused -zetaHave only))
  have m0:Rv lt a b #[it a (a.size - 1)] (a.size - 1) b.size:=by
    have z:Rv lt a b #[] a.size b.size:=by
      unfold Rv;rw [Nat.sub_self,Nat.sub_self];exact MI.nil
    have:=z.pushA O sa ha (Nat.le_refl _) (Nat.le_refl _) λ y hy=>hl y (List.mem_of_mem_take hy);simpa using this
  by_cases c1:a.size - 1=0
  · rw [if_pos (by simpa using c1)];exact wpS_pure (h _ st (Mg.refl st) (hfin m0 (by omega) (Nat.le_refl _) (.inl c1)))
  rw [if_neg (by simpa using c1)]
  by_cases c2:b.size=1
  · rw [if_pos (by simpa using c2)];exact wpS_pure (h _ st (Mg.refl st) (hfirst m0 (by omega) (Nat.le_refl _) c2))
  rw [if_neg (by simpa using c2)];refine wpS_bind (wpS_get ?_)
  ((try dsimp -zeta -zetaUnused -zetaHave only);extract_lets -underBinder +onlyGivenNames -merge -useContext zz;subst zz;(try dsimp -zeta -zetaUnused -zetaHave only))
  refine wpS_bind (wpS_mono (wpS_forRange (I:=λ x c st'=>Mg st st'∧∃ o i j mg,c=(none,i,j,o,mg)∧MidH lt a b o i j∧x + i + j≤a.size + b.size)
    (Q:=λ c st'=>Mg st st'∧∃ r d,c=(some r,d)∧Merged lt a b r) ?step ?fin ⟨Mg.refl st,#[it a (a.size - 1)],a.size - 1,b.size,_,rfl,⟨m0,by omega,by omega,by omega,Nat.le_refl _⟩,(show 0 + (a.size - 1) + b.size≤a.size + b.size by omega)⟩) ?post)
  case fin =>
    rintro c st' ⟨_,o,i,j,mg,rfl,m,hx⟩;have:=m.li;have:=m.lj;omega
  case post =>
    rintro c st' ⟨g,r,d,rfl,hr⟩
    ((try dsimp -zeta -zetaUnused -zetaHave only);extract_lets -underBinder +onlyGivenNames -merge -useContext zz;subst zz;(try dsimp -zeta -zetaUnused -zetaHave only))
    exact wpS_pure (h r st' g hr)
  rintro x c st1 _ hx ⟨g1,o1,i1,j1,mg1,rfl,m1,hxi⟩
  ((try dsimp -zeta -zetaUnused -zetaHave only);(iterate 9 (extract_lets -underBinder +onlyGivenNames -merge -useContext zz;subst zz));(try dsimp -zeta -zetaUnused -zetaHave only))
  refine wpS_bind (wpS_mono (wpS_forRange (I:=λ y c st'=>Mg st st'∧∃ o i j ca cb,c=(none,i,j,o,ca,cb)∧MidH lt a b o i j∧x + min y 1 + i + j≤a.size + b.size)
    (Q:=λ c st'=>Mg st st'∧((∃ r d,c=(some r,d)∧Merged lt a b r)∨∃ o i j ca cb,c=(none,i,j,o,ca,cb)∧MidH lt a b o i j∧x + 1 + i + j≤a.size + b.size)) ?step1 ?fin1 ⟨g1,o1,i1,j1,0,0,rfl,m1,by omega⟩) ?post1)
  case fin1 =>
    rintro c st' ⟨g,o,i,j,ca,cb,rfl,m,hy⟩;exact ⟨g,.inr ⟨o,i,j,ca,cb,rfl,m,by omega⟩⟩
  case step1 =>
    rintro y c st' _ hy ⟨g,o,i,j,ca,cb,rfl,m,hyi⟩;obtain ⟨mi,hli,hui,hlj,huj⟩:=m
    ((try dsimp -zeta -zetaUnused -zetaHave only);(iterate 9 (extract_lets -underBinder +onlyGivenNames -merge -useContext zz;subst zz));(try dsimp -zeta -zetaUnused -zetaHave only))
    refine wpS_bind (wpS_elem (by omega) (wpS_bind (wpS_elem (by omega) (wpS_bind (wpS_less C (g.kind.trans hk) (hin (by omega)) (hia (by omega)) ?_)))))
    ((try dsimp -zeta -zetaUnused -zetaHave only))
    cases hw:lt (it b (j - 1)) (it a (i - 1)) with
    | true =>
      rw [if_pos rfl]
      ((try dsimp -zeta -zetaUnused -zetaHave only);extract_lets -underBinder +onlyGivenNames -merge -useContext zz;subst zz;(try dsimp -zeta -zetaUnused -zetaHave only))
      refine wpS_bind (wpS_elem (by omega) ?_)
      ((try dsimp -zeta -zetaUnused -zetaHave only);(iterate 3 (extract_lets -underBinder +onlyGivenNames -merge -useContext zz;subst zz));(try dsimp -zeta -zetaUnused -zetaHave only))
      have m':=mi.pushA O sa hli hui huj (last_le O sb (by omega) huj (O.le_of hw))
      by_cases c3:i - 1=0
      · rw [if_pos (by simpa using c3)];exact wpS_pure ⟨g,.inl ⟨_,_,rfl,hfin m' (by omega) huj (.inl c3)⟩⟩
      rw [if_neg (by simpa using c3)];have m2:MidH lt a b (o.push (it a (i - 1))) (i - 1) j:=⟨m',by omega,by omega,hlj,huj⟩;split
      · exact wpS_pure ⟨g,.inr ⟨_,_,_,_,_,rfl,m2,by omega⟩⟩
      · exact wpS_pure ⟨g,_,_,_,_,_,rfl,m2,by omega⟩
    | false =>
      rw [if_neg (by simp)]
      ((try dsimp -zeta -zetaUnused -zetaHave only);extract_lets -underBinder +onlyGivenNames -merge -useContext zz;subst zz;(try dsimp -zeta -zetaUnused -zetaHave only))
      refine wpS_bind (wpS_elem (by omega) ?_)
      ((try dsimp -zeta -zetaUnused -zetaHave only);(iterate 3 (extract_lets -underBinder +onlyGivenNames -merge -useContext zz;subst zz));(try dsimp -zeta -zetaUnused -zetaHave only))
      have m':=mi.pushB O sb (by omega) huj hui (last_le O sa hli hui hw)
      by_cases c3:j - 1=1
      · rw [if_pos (by simpa using c3)];exact wpS_pure ⟨g,.inl ⟨_,_,rfl,hfirst m' hui (by omega) c3⟩⟩
      rw [if_neg (by simpa using c3)];have m2:MidH lt a b (o.push (it b (j - 1))) i (j - 1):=⟨m',hli,hui,by omega,by omega⟩;split
      · exact wpS_pure ⟨g,.inr ⟨_,_,_,_,_,rfl,m2,by omega⟩⟩
      · exact wpS_pure ⟨g,_,_,_,_,_,rfl,m2,by omega⟩
  rintro c st2 ⟨g2,⟨r,d,rfl,hr⟩ | ⟨o2,i2,j2,ca2,cb2,rfl,m2,hx2⟩⟩
  · ((try dsimp -zeta -zetaUnused -zetaHave only);(iterate 10 (extract_lets -underBinder +onlyGivenNames -merge -useContext zz;subst zz));(try dsimp -zeta -zetaUnused -zetaHave only))
    exact wpS_pure ⟨g2,r,_,rfl,hr⟩
  ((try dsimp -zeta -zetaUnused -zetaHave only);(iterate 10 (extract_lets -underBinder +onlyGivenNames -merge -useContext zz;subst zz));(try dsimp -zeta -zetaUnused -zetaHave only))
  refine wpS_bind (wpS_lift (wpAny_rule ⟨rfl,?_⟩))
  ((try dsimp -zeta -zetaUnused -zetaHave only);extract_lets -underBinder +onlyGivenNames -merge -useContext zz;subst zz;(try dsimp -zeta -zetaUnused -zetaHave only))
  refine wpS_bind (wpS_mono (wpS_forRange (I:=λ y c st'=>Mg st st'∧∃ o i j mg ca cb,c=(none,i,j,o,mg,ca,cb)∧MidH lt a b o i j∧x + 1 + i + j≤a.size + b.size)
    (Q:=λ c st'=>Mg st st'∧((∃ r d,c=(some r,d)∧Merged lt a b r)∨∃ o i j mg ca cb,c=(none,i,j,o,mg,ca,cb)∧MidH lt a b o i j∧x + 1 + i + j≤a.size + b.size)) ?step2 ?fin2 ⟨g2,o2,i2,j2,_,_,_,rfl,m2,hx2⟩) ?post2)
  case fin2 =>
    rintro c st' ⟨g,z⟩;exact ⟨g,.inr z⟩
  case post2 =>
    rintro c st3 ⟨g3,⟨r,d,rfl,hr⟩ | ⟨o3,i3,j3,mg3,ca3,cb3,rfl,m3,hx3⟩⟩
    · ((try dsimp -zeta -zetaUnused -zetaHave only);(iterate 9 (extract_lets -underBinder +onlyGivenNames -merge -useContext zz;subst zz));(try dsimp -zeta -zetaUnused -zetaHave only))
      exact wpS_pure ⟨g3,r,_,rfl,hr⟩
    ((try dsimp -zeta -zetaUnused -zetaHave only);(iterate 9 (extract_lets -underBinder +onlyGivenNames -merge -useContext zz;subst zz));(try dsimp -zeta -zetaUnused -zetaHave only);extract_lets -underBinder +onlyGivenNames -merge -useContext zz;subst zz;(try dsimp -zeta -zetaUnused -zetaHave only))
    refine wpS_bind (wpS_min (wpS_pure ?_));exact ⟨g3.min _,_,_,_,_,rfl,m3,by omega⟩
  rintro y c st3 _ hy ⟨g3,o,i,j,mg,ca,cb,rfl,m,hx3⟩;obtain ⟨mi,hli,hui,hlj,huj⟩:=m
  ((try dsimp -zeta -zetaUnused -zetaHave only);(iterate 11 (extract_lets -underBinder +onlyGivenNames -merge -useContext zz;subst zz));(try dsimp -zeta -zetaUnused -zetaHave only))
  extract_lets -underBinder +onlyGivenNames -merge -useContext jp;have hjp:∀ mg,wpS (model prog w) A E s (jp () mg) (λ r st'=>match r with
      | .done c'=>Mg st st'∧((∃ r d,c'=(some r,d)∧Merged lt a b r)∨∃ o i j mg ca cb,c'=(none,i,j,o,mg,ca,cb)∧MidH lt a b o i j∧x + 1 + i + j≤a.size + b.size)
      | .yield c'=>Mg st st'∧∃ o i j mg ca cb,c'=(none,i,j,o,mg,ca,cb)∧MidH lt a b o i j∧x + 1 + i + j≤a.size + b.size) st3:=λ mg=>by
    refine wpS_bind (wpS_min (wpS_bind (wpS_elem (by omega) ?_)));have g4:=g3.min mg;refine wpS_bind (wpS_gallop C (g4.kind.trans hk) (hin (by omega)) (by omega) ma (by omega) (λ t u h1 h2 h3=>?_) λ k k1 k2 k3=>?_)
    · unfold ahead at h3 ⊢;rw [if_neg (by simp)] at h3 ⊢;rw [Nat.zero_add] at h3 ⊢;have h4:lt (it b (j - 1)) (it a u)=false:=by simpa using h3
      have h5:lt (it b (j - 1)) (it a t)=false:=O.tr (sd_it O sa (by omega) (by omega)) h4;rw [h5];rfl
    have k2':∀ t,t < k→le lt (it a t) (it b (j - 1)):=λ t ht=>by
      have:=k2 t ht;unfold ahead at this;rw [if_neg (by simp),Nat.zero_add] at this;show lt (it b (j - 1)) (it a t)=false;simpa using this
    have k3':∀ t,k≤t→t < i→lt (it b (j - 1)) (it a t)=true:=λ t h1 h2=>by
      have:=k3 t h1 h2;unfold ahead at this;rw [if_neg (by simp),Nat.zero_add] at this;simpa using this
    ((try dsimp -zeta -zetaUnused -zetaHave only);(iterate 2 (extract_lets -underBinder +onlyGivenNames -merge -useContext zz;subst zz));(try dsimp -zeta -zetaUnused -zetaHave only))
    extract_lets -underBinder +onlyGivenNames -merge -useContext jq;have hjq:∀ o i,Rv lt a b o i j→1≤i→i≤a.size→(∀ y∈a.toList.take i,le lt y (it b (j - 1)))→x + 1 + i + j≤a.size + b.size→wpS (model prog w) A E s (jq () i o) (λ r st'=>match r with
      | .done c'=>Mg st st'∧((∃ r d,c'=(some r,d)∧Merged lt a b r)∨∃ o i j mg ca cb,c'=(none,i,j,o,mg,ca,cb)∧MidH lt a b o i j∧x + 1 + i + j≤a.size + b.size)
      | .yield c'=>Mg st st'∧∃ o i j mg ca cb,c'=(none,i,j,o,mg,ca,cb)∧MidH lt a b o i j∧x + 1 + i + j≤a.size + b.size) (withMin st3 mg):=λ o i m hli hui hy hx=>by
      ((try dsimp -zeta -zetaUnused -zetaHave only))
      refine wpS_bind (wpS_elem (by omega) ?_)
      ((try dsimp -zeta -zetaUnused -zetaHave only);extract_lets -underBinder +onlyGivenNames -merge -useContext zz;subst zz;(try dsimp -zeta -zetaUnused -zetaHave only))
      have m':=m.pushB O sb (by omega) huj hui hy
      by_cases c3:j - 1=1
      · rw [if_pos (by simpa using c3)];exact wpS_pure ⟨g4,.inl ⟨_,_,rfl,hfirst m' hui (by omega) c3⟩⟩
      rw [if_neg (by simpa using c3)];refine wpS_bind (wpS_elem (by omega) ?_);refine wpS_bind (wpS_gallop C (g4.kind.trans hk) (hia (by omega)) (by omega) mb (by omega) (λ t u h1 h2 h3=>?_) λ k n1 n2 n3=>?_)
      · unfold ahead at h3 ⊢;rw [if_pos rfl] at h3 ⊢;exact lt_of_le_lt O (sd_it O sb (by omega) (by omega)) h3
      have n2':∀ t,t < k→le lt (it b t) (it a (i - 1)):=λ t ht=>by
        have:=n2 t ht;unfold ahead at this;rw [if_pos rfl,Nat.zero_add] at this;exact O.le_of this
      have n3':∀ t,k≤t→t < j - 1→le lt (it a (i - 1)) (it b t):=λ t h1 h2=>by
        have:=n3 t h1 h2;unfold ahead at this;rw [if_pos rfl,Nat.zero_add] at this;exact this
      ((try dsimp -zeta -zetaUnused -zetaHave only);(iterate 2 (extract_lets -underBinder +onlyGivenNames -merge -useContext zz;subst zz));(try dsimp -zeta -zetaUnused -zetaHave only))
      extract_lets -underBinder +onlyGivenNames -merge -useContext jr;have hjr:∀ o j,Rv lt a b o i j→2≤j→j≤b.size→(∀ y∈b.toList.take j,le lt y (it a (i - 1)))→x + 1 + i + j≤a.size + b.size→wpS (model prog w) A E s (jr () j o) (λ r st'=>match r with
        | .done c'=>Mg st st'∧((∃ r d,c'=(some r,d)∧Merged lt a b r)∨∃ o i j mg ca cb,c'=(none,i,j,o,mg,ca,cb)∧MidH lt a b o i j∧x + 1 + i + j≤a.size + b.size)
        | .yield c'=>Mg st st'∧∃ o i j mg ca cb,c'=(none,i,j,o,mg,ca,cb)∧MidH lt a b o i j∧x + 1 + i + j≤a.size + b.size) (withMin st3 mg):=λ o j m hlj huj hle hx=>by
        ((try dsimp -zeta -zetaUnused -zetaHave only))
        refine wpS_bind (wpS_elem (by omega) ?_)
        ((try dsimp -zeta -zetaUnused -zetaHave only);extract_lets -underBinder +onlyGivenNames -merge -useContext zz;subst zz;(try dsimp -zeta -zetaUnused -zetaHave only))
        have m':=m.pushA O sa hli hui huj hle
        by_cases c4:i - 1=0
        · rw [if_pos (by simpa using c4)];exact wpS_pure ⟨g4,.inl ⟨_,_,rfl,hfin m' (by omega) huj (.inl c4)⟩⟩
        rw [if_neg (by simpa using c4)];have m2:MidH lt a b (o.push (it a (i - 1))) (i - 1) j:=⟨m',by omega,by omega,hlj,huj⟩;split
        · exact wpS_pure ⟨g4,.inr ⟨_,_,_,_,_,_,rfl,m2,by omega⟩⟩
        · exact wpS_pure ⟨g4,_,_,_,_,_,_,rfl,m2,by omega⟩
      clear_value jr;have tk:∀ k',k'≤j - 1→(∀ t,t < k'→le lt (it b t) (it a (i - 1)))→∀ y∈b.toList.take k',le lt y (it a (i - 1)):=λ k' hk' hh y hy=>by
        obtain ⟨t,ht⟩:=List.getElem?_of_mem hy;have hl:t < k':=by
          have:=(List.getElem?_eq_some_iff.mp ht).1;rw [List.length_take] at this;omega
        rw [List.getElem?_take_of_lt hl] at ht;rw [(of_list ht).2];exact hh t hl
      by_cases hk0:j - 1 - k > 0
      · rw [if_pos hk0]
        ((try dsimp -zeta -zetaUnused -zetaHave only);(iterate 2 (extract_lets -underBinder +onlyGivenNames -merge -useContext zz;subst zz));(try dsimp -zeta -zetaUnused -zetaHave only))
        have m5:=m'.bulkB O sb (k:=k) (by omega) (by omega) hui λ t h1 h2=>last_le O sa hli hui (n3' t h1 h2)
        by_cases c5:k=1
        · rw [if_pos (by simpa using c5)];exact wpS_pure ⟨g4,.inl ⟨_,_,rfl,hfirst m5 hui (by omega) c5⟩⟩
        rw [if_neg (by simpa using c5)]
        by_cases c6:k=0
        · rw [if_pos (by simpa using c6)];exact wpS_pure ⟨g4,.inl ⟨_,_,rfl,hfin m5 hui (by omega) (.inr c6)⟩⟩
        rw [if_neg (by simpa using c6)];exact hjr _ _ m5 (by omega) (by omega) (tk k (by omega) n2') (by omega)
      · rw [if_neg hk0];have:k=j - 1:=by omega
        subst this;exact hjr _ _ m' (by omega) (by omega) (tk (j - 1) (Nat.le_refl _) n2') (by omega)
    clear_value jq;have tk:∀ k',k'≤i→(∀ t,t < k'→le lt (it a t) (it b (j - 1)))→∀ y∈a.toList.take k',le lt y (it b (j - 1)):=λ k' hk' hh y hy=>by
      obtain ⟨t,ht⟩:=List.getElem?_of_mem hy;have hl:t < k':=by
        have:=(List.getElem?_eq_some_iff.mp ht).1;rw [List.length_take] at this;omega
      rw [List.getElem?_take_of_lt hl] at ht;rw [(of_list ht).2];exact hh t hl
    by_cases hk0:i - k > 0
    · rw [if_pos hk0]
      ((try dsimp -zeta -zetaUnused -zetaHave only);(iterate 2 (extract_lets -underBinder +onlyGivenNames -merge -useContext zz;subst zz));(try dsimp -zeta -zetaUnused -zetaHave only))
      have m5:=mi.bulkA O sa (k:=k) (by omega) hui huj λ t h1 h2=>last_le O sb (by omega) huj (O.le_of (k3' t h1 h2))
      by_cases c5:k=0
      · rw [if_pos (by simpa using c5)];exact wpS_pure ⟨g4,.inl ⟨_,_,rfl,hfin m5 (by omega) huj (.inl c5)⟩⟩
      rw [if_neg (by simpa using c5)];exact hjq _ _ m5 (by omega) (by omega) (tk k (by omega) k2') (by omega)
    · rw [if_neg hk0];have:k=i:=by omega
      subst this;exact hjq _ _ mi hli hui (tk k (Nat.le_refl _) k2') hx3
  clear_value jp;split
  · ((try dsimp -zeta -zetaUnused -zetaHave only);extract_lets -underBinder +onlyGivenNames -merge -useContext zz;subst zz;(try dsimp -zeta -zetaUnused -zetaHave only))
    exact wpS_mono (hjp _) λ r st' hh=>by cases r<;>exact hh
  · exact wpS_mono (hjp _) λ r st' hh=>by cases r<;>exact hh
end
end Tim
namespace Tim
open PySem Srt PyProof.Rows
theorem mergeAt'_eq (i:Nat):mergeAt' i=(do
  let st ← get
  let (some (sa,na,pw),some (sb,nb,_)):=((pendingOf st)[i]?,(pendingOf st)[i + 1]?) | unsupported "internal:list.sort.pending"
  set (setPending st (((pendingOf st).setIfInBounds i (sa,na + nb,pw)).eraseIdxIfInBounds (i + 1)))
  let some k ← gallop' false (← elem' (arrOf st) sb) (arrOf st) sa na 0 | return false
  let (sa,na):=(sa + k,na - k)
  if na == 0 then return true
  let some nb ← gallop' true (← elem' (arrOf st) (sa + na - 1)) (arrOf st) sb nb (nb - 1) | return false
  if nb == 0 then return true
  let x:=(arrOf st).extract sa sb
  let y:=(arrOf st).extract sb (sb + nb)
  let z ← if na≤nb then mergeLo' x y else mergeHi' x y
  modify λ st=>setArr st (z.toList.zipIdx.foldl (λ a (p,j)=>a.setIfInBounds (sa + j) p) (arrOf st))
  return (failedOf (← get)).isNone):=rfl
noncomputable def putAt (base:Nat) (l:List Keyed) (n:Nat) (xs:Array Keyed):Array Keyed:=(l.zipIdx n).foldl (λ a (p,j)=>a.setIfInBounds (base + j) p) xs
theorem put_get (base:Nat):∀ (l:List Keyed) (n:Nat) (xs:Array Keyed),base + n + l.length≤xs.size→(putAt base l n xs).size=xs.size∧∀ t,(putAt base l n xs)[t]?=if base + n≤t∧t < base + n + l.length then l[t - (base + n)]? else xs[t]?
  | [],n,xs,h=>by
    refine ⟨rfl,λ t=>?_⟩;rw [if_neg (by rw [List.length_nil];omega)];rfl
  | p :: l,n,xs,h=>by
    have e:putAt base (p :: l) n xs=putAt base l (n + 1) (xs.setIfInBounds (base + n) p):=rfl;simp only [List.length_cons] at h;obtain ⟨h1,h2⟩:=put_get base l (n + 1) (xs.setIfInBounds (base + n) p) (by rw [Array.size_setIfInBounds];omega);rw [e];refine ⟨h1.trans (Array.size_setIfInBounds ..),λ t=>?_⟩;rw [h2 t];simp only [List.length_cons]
    by_cases c1:base + (n + 1)≤t∧t < base + (n + 1) + l.length
    · rw [if_pos c1,if_pos (by omega),show t - (base + n)=t - (base + (n + 1)) + 1 by omega,List.getElem?_cons_succ]
    · rw [if_neg c1]
      by_cases c2:t=base + n
      · subst c2;rw [if_pos (by omega),Nat.sub_self,List.getElem?_cons_zero];rw [Array.getElem?_setIfInBounds_self_of_lt (by omega)]
      · rw [if_neg (by omega),Array.getElem?_setIfInBounds_ne (by omega)]
theorem put_list {base:Nat} {l:List Keyed} {xs:Array Keyed} (h:base + l.length≤xs.size):(putAt base l 0 xs).toList=xs.toList.take base ++ l ++ xs.toList.drop (base + l.length):=by
  obtain ⟨h1,h2⟩:=put_get base l 0 xs (by omega);apply List.ext_getElem?;intro t;rw [Array.getElem?_toList,h2 t];have hb:(List.take base xs.toList).length=base:=by simp;omega
  by_cases c1:t < base
  · rw [if_neg (by omega),List.append_assoc,List.getElem?_append_left (by omega),List.getElem?_take_of_lt c1,Array.getElem?_toList]
  · by_cases c2:t < base + l.length
    · rw [if_pos (by omega),List.getElem?_append_left (by simp;omega),List.getElem?_append_right (by omega),hb];rfl
    · rw [if_neg (by omega),List.getElem?_append_right (by simp;omega),List.getElem?_drop,← Array.getElem?_toList];congr 1;simp;omega
section
variable {prog:Program} {w:World} {A:Around} {E:Value→Shared→Prop} {s:Shared} {a₀:Array Keyed} {κ:SortKind} {lt:Keyed→Keyed→Bool}
theorem it_ext {xs:Array Keyed} {i j t:Nat} (h:j≤xs.size) (ht:t < j - i):it (xs.extract i j) t=it xs (i + t):=by
  refine it_congr ?_;rw [Array.getElem?_extract,if_pos (by omega)]
theorem ext_size {xs:Array Keyed} {i j:Nat} (h:j≤xs.size):(xs.extract i j).size=j - i:=by
  rw [Array.size_extract];omega
theorem sd_ext (O:Ord lt) {xs:Array Keyed} {i j lo n:Nat} (h:Up lt xs lo n) (hj:j≤xs.size) (h1:lo≤i) (h2:j≤lo + n):Sd lt (xs.extract i j).toList:=by
  refine Sd.of _ (λ t x y hx hy=>?_) O;obtain ⟨a1,rfl⟩:=of_list hx;obtain ⟨a2,rfl⟩:=of_list hy;rw [ext_size hj] at a1 a2;rw [it_ext hj (by omega),it_ext hj (by omega)];have:=h (i - lo + t) (i - lo + (t + 1)) (by omega) (by omega)
  rwa [show lo + (i - lo + t)=i + t by omega,show lo + (i - lo + (t + 1))=i + (t + 1) by omega] at this
theorem ext_mem {xs:Array Keyed} {i j:Nat} (hj:j≤xs.size) {p:Keyed} (hp:p∈(xs.extract i j).toList):∃ t,i≤t∧t < j∧p=it xs t:=by
  obtain ⟨t,ht⟩:=List.getElem?_of_mem hp;obtain ⟨a1,rfl⟩:=of_list ht;rw [ext_size hj] at a1;exact ⟨i + t,by omega,by omega,it_ext hj a1⟩
structure Joined (lt:Keyed→Keyed→Bool) (st st':SortSt) (sa n:Nat):Prop where
  up:Up lt (arrOf st') sa n
  out:∀ t,t < sa∨sa + n≤t→it (arrOf st') t=it (arrOf st) t
theorem wpS_mergeAt {st:SortSt} {i sa na pa sb nb pb:Nat} {Q:Bool→SortSt→Prop} (O:Ord lt) (C:Asks prog w A s κ lt a₀) (hB:SB κ a₀ st) (hi:(pendingOf st)[i]?=some (sa,na,pa)) (hj:(pendingOf st)[i + 1]?=some (sb,nb,pb)) (e:sb=sa + na) (ha:1≤na) (hb:1≤nb) (hz:sb + nb≤a₀.size)
    (ua:Up lt (arrOf st) sa na) (ub:Up lt (arrOf st) sb nb)
    (h:∀ st',SB κ a₀ st'→pendingOf st'=((pendingOf st).setIfInBounds i (sa,na + nb,pa)).eraseIdxIfInBounds (i + 1)→Joined lt st st' sa (na + nb)→Q true st'):wpS (model prog w) A E s (mergeAt' i) Q st:=by
  subst e;rw [mergeAt'_eq];refine wpS_bind (wpS_get ?_);rw [hi,hj]
  ((try dsimp -zeta -zetaUnused -zetaHave only))
  have hsz:=hB.size;have mem:∀ p∈(arrOf st).toList,p∈a₀.toList:=λ p hp=>hB.perm.mem_iff.mp hp;have wset:∀ {f:Unit→StateT SortSt Sem Bool} {Q:Bool→SortSt→Prop} {st2:SortSt},wpS (model prog w) A E s (f ()) Q st2→wpS (model prog w) A E s (set st2 >>= f) Q st:=λ hh=>by
    refine wpS_bind ?_;unfold wpS;rw [StateT.run_set];exact wpAny_pure ⟨rfl,hh⟩
  refine wset ?_;clear wset;have A1:arrOf (setPending st (((pendingOf st).setIfInBounds i (sa,na + nb,pa)).eraseIdxIfInBounds (i + 1)))=arrOf st:=rfl;have hB1:SB κ a₀ (setPending st (((pendingOf st).setIfInBounds i (sa,na + nb,pa)).eraseIdxIfInBounds (i + 1))):=⟨hB.perm,hB.kind,hB.failed⟩;have P1:pendingOf (setPending st (((pendingOf st).setIfInBounds i (sa,na + nb,pa)).eraseIdxIfInBounds (i + 1)))=((pendingOf st).setIfInBounds i (sa,na + nb,pa)).eraseIdxIfInBounds (i + 1):=rfl;generalize setPending st (((pendingOf st).setIfInBounds i (sa,na + nb,pa)).eraseIdxIfInBounds (i + 1))=st1 at A1 hB1 P1 ⊢;have ua':∀ t u,sa≤t→t≤u→u < sa + na→le lt (it (arrOf st) t) (it (arrOf st) u):=λ t u h1 h2 h3=>by
    have:=ua (t - sa) (u - sa) (by omega) (by omega)
    rwa [show sa + (t - sa)=t by omega,show sa + (u - sa)=u by omega] at this
  have ub':∀ t u,sa + na≤t→t≤u→u < sa + na + nb→le lt (it (arrOf st) t) (it (arrOf st) u):=λ t u h1 h2 h3=>by
    have:=ub (t - (sa + na)) (u - (sa + na)) (by omega) (by omega)
    rwa [show sa + na + (t - (sa + na))=t by omega,show sa + na + (u - (sa + na))=u by omega] at this
  have plain:le lt (it (arrOf st) (sa + na - 1)) (it (arrOf st) (sa + na))→Q true st1:=λ hle=>by
    refine h st1 hB1 P1 ⟨λ t u h1 h2=>?_,λ t _=>by rw [A1]⟩;rw [A1]
    by_cases c1:u < na
    · exact ua t u h1 c1
    · by_cases c2:t < na
      · exact O.tr (ua' (sa + t) (sa + na - 1) (by omega) (by omega) (by omega)) (O.tr hle (ub' (sa + na) (sa + u) (by omega) (by omega) (by omega)))
      · exact ub' (sa + t) (sa + u) (by omega) (by omega) (by omega)
  refine wpS_bind (wpS_elem (by omega) ?_);refine wpS_bind (wpS_gallop C hB1.kind (hB.mem (by omega)) (by omega) mem (by omega) (λ t u h1 h2 h3=>?_) λ k k1 k2 k3=>?_)
  · unfold ahead at h3 ⊢;rw [if_neg (by simp)] at h3 ⊢;have h4:lt (it (arrOf st) (sa + na)) (it (arrOf st) (sa + u))=false:=by simpa using h3
    have h5:lt (it (arrOf st) (sa + na)) (it (arrOf st) (sa + t))=false:=O.tr (ua t u h1 h2) h4;rw [h5];rfl
  have k2':∀ t,t < k→le lt (it (arrOf st) (sa + t)) (it (arrOf st) (sa + na)):=λ t ht=>by
    have:=k2 t ht;unfold ahead at this;rw [if_neg (by simp)] at this;show lt (it (arrOf st) (sa + na)) (it (arrOf st) (sa + t))=false;simpa using this
  have k3':∀ t,k≤t→t < na→lt (it (arrOf st) (sa + na)) (it (arrOf st) (sa + t))=true:=λ t h1 h2=>by
    have:=k3 t h1 h2;unfold ahead at this;rw [if_neg (by simp)] at this;simpa using this
  ((try dsimp -zeta -zetaUnused -zetaHave only))
  by_cases c1:na - k=0
  · rw [if_pos (by simpa using c1)];have:=k2' (na - 1) (by omega);rw [show sa + (na - 1)=sa + na - 1 by omega] at this;exact wpS_pure (plain this)
  rw [if_neg (by simpa using c1)];refine wpS_bind (wpS_elem (by omega) ?_);rw [show sa + k + (na - k) - 1=sa + na - 1 by omega];refine wpS_bind (wpS_gallop C hB1.kind (hB.mem (by omega)) (by omega) mem (by omega) (λ t u h1 h2 h3=>?_) λ m n1 n2 n3=>?_)
  · unfold ahead at h3 ⊢;rw [if_pos rfl] at h3 ⊢;exact lt_of_le_lt O (ub t u h1 h2) h3
  have n2':∀ t,t < m→lt (it (arrOf st) (sa + na + t)) (it (arrOf st) (sa + na - 1))=true:=λ t ht=>by
    have:=n2 t ht;unfold ahead at this
    rwa [if_pos rfl] at this
  have n3':∀ t,m≤t→t < nb→le lt (it (arrOf st) (sa + na - 1)) (it (arrOf st) (sa + na + t)):=λ t h1 h2=>by
    have:=n3 t h1 h2;unfold ahead at this
    rwa [if_pos rfl] at this
  ((try dsimp -zeta -zetaUnused -zetaHave only))
  by_cases c2:m=0
  · rw [if_pos (by simpa using c2)];have:=n3' 0 (by omega) (by omega);exact wpS_pure (plain this)
  rw [if_neg (by simpa using c2)]
  ((try dsimp -zeta -zetaUnused -zetaHave only);(iterate 2 (extract_lets -underBinder +onlyGivenNames -merge -useContext zz;subst zz));(try dsimp -zeta -zetaUnused -zetaHave only))
  extract_lets -underBinder +onlyGivenNames -merge -useContext jp;have zx:sa + na≤(arrOf st).size:=by omega
  have zy:sa + na + m≤(arrOf st).size:=by omega
  have sx:((arrOf st).extract (sa + k) (sa + na)).size=na - k:=by rw [ext_size zx];omega
  have sy:((arrOf st).extract (sa + na) (sa + na + m)).size=m:=by rw [ext_size zy];omega
  have hjp:∀ z st2,Mg st1 st2→Merged lt ((arrOf st).extract (sa + k) (sa + na)) ((arrOf st).extract (sa + na) (sa + na + m)) z→wpS (model prog w) A E s (jp z) Q st2:=λ z st2 g hm=>by
    have A2:arrOf st2=arrOf st:=g.arr.trans A1;have lz:z.toList.length=na - k + m:=by
      have:=hm.2.length_eq;rw [List.length_append,Array.length_toList,Array.length_toList,Array.length_toList,sx,sy] at this;simpa using this
    refine wpS_bind (wpS_modify (wpS_bind (wpS_get (wpS_pure ?_))));have hff:(failedOf (setArr st2 (putAt (sa + k) z.toList 0 (arrOf st2)))).isNone=true:=by
      show (failedOf st2).isNone=true;rw [g.failed,hB1.failed];rfl
    show Q (failedOf (setArr st2 (putAt (sa + k) z.toList 0 (arrOf st2)))).isNone (setArr st2 (putAt (sa + k) z.toList 0 (arrOf st2)));rw [hff];have fit:sa + k + z.toList.length≤(arrOf st2).size:=by rw [A2,lz];omega
    have pl:=put_list fit;obtain ⟨_,pg⟩:=put_get (sa + k) z.toList 0 (arrOf st2) (by omega);have outs:∀ t,t < sa + k∨sa + na + m≤t→it (putAt (sa + k) z.toList 0 (arrOf st2)) t=it (arrOf st) t:=λ t ht=>by
      rw [← A2];refine it_congr ?_;rw [pg t,if_neg (by rw [lz];omega)]
    have ins:∀ t,sa + k≤t→t < sa + na + m→it (putAt (sa + k) z.toList 0 (arrOf st2)) t=it z (t - (sa + k)):=λ t h1 h2=>by
      refine it_congr ?_;rw [pg t,if_pos (by rw [lz];omega),Array.getElem?_toList];rfl
    have zs:z.size=na - k + m:=by rw [← Array.length_toList];exact lz
    have inz:∀ t,t < na - k + m→(∃ u,sa + k≤u∧u < sa + na∧it z t=it (arrOf st) u)∨∃ u,sa + na≤u∧u < sa + na + m∧it z t=it (arrOf st) u:=λ t ht=>by
      have:=hm.2.mem_iff.mp (it_mem (xs:=z) (i:=t) (by omega));rcases List.mem_append.mp this with hh | hh
      · exact .inl (ext_mem zx hh)
      · exact .inr (ext_mem zy hh)
    refine h _ ⟨?_,g.kind.trans hB1.kind,g.failed.trans hB1.failed⟩ (g.pend.trans P1) ⟨λ t u h1 h2=>?_,λ t ht=>?_⟩
    · show (putAt (sa + k) z.toList 0 (arrOf st2)).toList.Perm a₀.toList;rw [pl,A2];refine List.Perm.trans ?_ hB.perm;have e1:(arrOf st).toList=(arrOf st).toList.take (sa + k) ++ (((arrOf st).extract (sa + k) (sa + na)).toList ++ ((arrOf st).extract (sa + na) (sa + na + m)).toList) ++ (arrOf st).toList.drop (sa + na + m):=by
        have a1:=List.take_append_drop (sa + k) (arrOf st).toList;have a2:=List.take_append_drop (na - k) ((arrOf st).toList.drop (sa + k));have a3:=List.take_append_drop m ((arrOf st).toList.drop (sa + na));rw [List.drop_drop,show sa + k + (na - k)=sa + na by omega] at a2;rw [List.drop_drop] at a3;rw [ext_list,ext_list,show sa + na - (sa + k)=na - k by omega,show sa + na + m - (sa + na)=m by omega,List.append_assoc,List.append_assoc,a3,a2,a1]
      have e2:(arrOf st).toList.drop (sa + k + z.toList.length)=(arrOf st).toList.drop (sa + na + m):=by rw [lz,show sa + k + (na - k + m)=sa + na + m by omega]
      rw [e2]
      conv=>rhs;rw [e1]
      exact (hm.2.append_left _).append_right _
    · show le lt (it (putAt (sa + k) z.toList 0 (arrOf st2)) (sa + t)) (it (putAt (sa + k) z.toList 0 (arrOf st2)) (sa + u));have hb0:∀ v,sa + na≤v→v < sa + na + nb→le lt (it (arrOf st) (sa + na)) (it (arrOf st) v):=λ v h1 h2=>ub' (sa + na) v (Nat.le_refl _) h1 h2;have ha1:∀ v,sa≤v→v < sa + na→le lt (it (arrOf st) v) (it (arrOf st) (sa + na - 1)):=λ v h1 h2=>ua' v (sa + na - 1) h1 (by omega) (by omega)
      by_cases t1:sa + t < sa + k
      · rw [outs (sa + t) (.inl t1)];have low:=k2' t (by omega)
        by_cases u1:sa + u < sa + k
        · rw [outs (sa + u) (.inl u1)];exact ua t u h1 (by omega)
        · by_cases u2:sa + u < sa + na + m
          · rw [ins (sa + u) (by omega) u2];rcases inz (sa + u - (sa + k)) (by omega) with ⟨v,v1,v2,ev⟩ | ⟨v,v1,v2,ev⟩
            · rw [ev];exact ua' (sa + t) v (by omega) (by omega) v2
            · rw [ev];exact O.tr low (hb0 v v1 (by omega))
          · rw [outs (sa + u) (.inr (by omega))];exact O.tr low (hb0 (sa + u) (by omega) (by omega))
      · by_cases t2:sa + t < sa + na + m
        · rw [ins (sa + t) (by omega) t2]
          by_cases u2:sa + u < sa + na + m
          · rw [ins (sa + u) (by omega) u2];exact sd_it O hm.1 (by omega) (by omega)
          · rw [outs (sa + u) (.inr (by omega))];rcases inz (sa + t - (sa + k)) (by omega) with ⟨v,v1,v2,ev⟩ | ⟨v,v1,v2,ev⟩
            · rw [ev];have:=n3' (u - na) (by omega) (by omega);rw [show sa + na + (u - na)=sa + u by omega] at this;exact O.tr (ha1 v (by omega) v2) this
            · rw [ev];exact ub' v (sa + u) v1 (by omega) (by omega)
        · rw [outs (sa + t) (.inr (by omega)),outs (sa + u) (.inr (by omega))];exact ub' (sa + t) (sa + u) (by omega) (by omega) (by omega)
    · exact outs t (by omega)
  clear_value jp;have mx:∀ p∈((arrOf st).extract (sa + k) (sa + na)).toList,p∈a₀.toList:=λ p hp=>by
    obtain ⟨t,h1,h2,rfl⟩:=ext_mem zx hp;exact hB.mem (by omega)
  have my:∀ p∈((arrOf st).extract (sa + na) (sa + na + m)).toList,p∈a₀.toList:=λ p hp=>by
    obtain ⟨t,h1,h2,rfl⟩:=ext_mem zy hp;exact hB.mem (by omega)
  have xx:=sd_ext O (i:=sa + k) (j:=sa + na) ua zx (by omega) (by omega);have yy:=sd_ext O (i:=sa + na) (j:=sa + na + m) ub zy (by omega) (by omega);have first:le lt (it ((arrOf st).extract (sa + na) (sa + na + m)) 0) (it ((arrOf st).extract (sa + k) (sa + na)) 0):=by
    rw [it_ext zy (by omega),it_ext zx (by omega)];have:=O.le_of (k3' k (Nat.le_refl _) (by omega));simpa using this
  have lasts:∀ x∈((arrOf st).extract (sa + na) (sa + na + m)).toList,le lt x (it ((arrOf st).extract (sa + k) (sa + na)) (((arrOf st).extract (sa + k) (sa + na)).size - 1)):=λ x hx=>by
    obtain ⟨t,h1,h2,rfl⟩:=ext_mem zy hx;rw [sx,it_ext zx (by omega),show sa + k + (na - k - 1)=sa + na - 1 by omega];have:=O.le_of (n2' (t - (sa + na)) (by omega))
    rwa [show sa + na + (t - (sa + na))=t by omega] at this
  split
  · exact wpS_bind (wpS_mergeLo O C hB1.kind mx my xx yy (by omega) (by omega) first lasts λ r st' g hr=>hjp r st' g hr)
  · exact wpS_bind (wpS_mergeHi O C hB1.kind mx my xx yy (by omega) (by omega) first lasts λ r st' g hr=>hjp r st' g hr)
end
end Tim
namespace Tim
open PySem Srt PyProof.Rows
noncomputable def Stk (lt:Keyed→Keyed→Bool) (xs:Array Keyed):List (Nat×Nat×Nat)→Nat→Nat→Prop
  | [],s,e=>s=e
  | x :: p,s,e=>x.1=s∧1≤x.2.1∧Up lt xs s x.2.1∧Stk lt xs p (s + x.2.1) e
section
variable {prog:Program} {w:World} {A:Around} {E:Value→Shared→Prop} {s:Shared} {a₀:Array Keyed} {κ:SortKind} {lt:Keyed→Keyed→Bool} {xs ys:Array Keyed}
theorem Stk.len:∀ {p:List (Nat×Nat×Nat)} {b e:Nat},Stk lt xs p b e→b + p.length≤e
  | [],b,e,h=>by have:b=e:=h;simp;omega
  | x :: p,b,e,h=>by
    have:=Stk.len h.2.2.2;have:=h.2.1;simp only [List.length_cons];omega
theorem Stk.app:∀ {p q:List (Nat×Nat×Nat)} {b e:Nat},Stk lt xs (p ++ q) b e↔∃ m,Stk lt xs p b m∧Stk lt xs q m e
  | [],q,b,e=>⟨λ h=>⟨b,rfl,h⟩,λ ⟨m,h1,h2⟩=>by have:b=m:=h1;subst this;exact h2⟩
  | x :: p,q,b,e=>by
    refine ⟨λ h=>?_,λ ⟨m,h1,h2⟩=>⟨h1.1,h1.2.1,h1.2.2.1,Stk.app.mpr ⟨m,h1.2.2.2,h2⟩⟩⟩;obtain ⟨m,h1,h2⟩:=Stk.app.mp h.2.2.2;exact ⟨m,⟨h.1,h.2.1,h.2.2.1,h1⟩,h2⟩
theorem Up.same {lo n:Nat} (h:Up lt xs lo n) (e:∀ t,lo≤t→t < lo + n→it ys t=it xs t):Up lt ys lo n:=λ i j hij hj=>by
  rw [e (lo + i) (by omega) (by omega),e (lo + j) (by omega) (by omega)];exact h i j hij hj
theorem Stk.same:∀ {p:List (Nat×Nat×Nat)} {b e:Nat},Stk lt xs p b e→(∀ t,b≤t→t < e→it ys t=it xs t)→Stk lt ys p b e
  | [],b,e,h,_=>h
  | x :: p,b,e,h,hs=>by
    have hl:=Stk.len h.2.2.2;exact ⟨h.1,h.2.1,h.2.2.1.same λ t h1 h2=>hs t h1 (by omega),Stk.same h.2.2.2 λ t h1 h2=>hs t (by omega) h2⟩
theorem two_of {α:Type} {l:List α} {i:Nat} (h:i + 1 < l.length):∃ l1 x y l2,l=l1 ++ x :: y :: l2∧l1.length=i:=by
  refine ⟨l.take i,l[i],l[i + 1],l.drop (i + 2),?_,by rw [List.length_take];omega⟩;rw [← List.drop_eq_getElem_cons (by omega),← List.drop_eq_getElem_cons (by omega),List.take_append_drop]
theorem set_two {α:Type} {l1 l2:List α} {x y v:α}:((l1 ++ x :: y :: l2).set l1.length v).eraseIdx (l1.length + 1)=l1 ++ v :: l2:=by
  rw [List.set_append_right _ _ (Nat.le_refl _),Nat.sub_self,List.set_cons_zero,List.eraseIdx_append_of_length_le (by omega),show l1.length + 1 - l1.length=1 by omega];rfl
theorem wpS_join {st:SortSt} {i e:Nat} {Q:Bool→SortSt→Prop} (O:Ord lt) (C:Asks prog w A s κ lt a₀) (hB:SB κ a₀ st) (hS:Stk lt (arrOf st) (pendingOf st).toList 0 e) (hi:i + 1 < (pendingOf st).size) (he:e≤a₀.size)
    (h:∀ st',SB κ a₀ st'→Stk lt (arrOf st') (pendingOf st').toList 0 e→(pendingOf st').size + 1=(pendingOf st).size→(∀ t,e≤t→it (arrOf st') t=it (arrOf st) t)→Q true st'):wpS (model prog w) A E s (mergeAt' i) Q st:=by
  obtain ⟨l1,x,y,l2,el,e1⟩:=two_of (l:=(pendingOf st).toList) (i:=i) (by simpa using hi);obtain ⟨sa,na,pa⟩:=x;obtain ⟨sb,nb,pb⟩:=y;have hS0:=hS;rw [el] at hS;obtain ⟨m,h1,h2⟩:=Stk.app.mp hS;obtain ⟨a1,a2,a3,b1,b2,b3,h3⟩:=h2;dsimp only at a1 a2 a3 b1 b2 b3 h3;subst a1;subst b1;have l0:=h1.len;have l3:=h3.len;refine wpS_mergeAt O C hB (sa:=sa) (na:=na) (pa:=pa) (sb:=sa + na) (nb:=nb) (pb:=pb) ?_ ?_ rfl a2 b2 (by omega) a3 b3 λ st' hB' hp hJ=>?_
  · rw [← Array.getElem?_toList,el,← e1,List.getElem?_append_right (Nat.le_refl _),Nat.sub_self];rfl
  · rw [← Array.getElem?_toList,el,← e1,List.getElem?_append_right (by omega),show l1.length + 1 - l1.length=1 by omega];rfl
  · have pl:(pendingOf st').toList=l1 ++ (sa,na + nb,pa) :: l2:=by
      rw [hp,Array.toList_eraseIdxIfInBounds,Array.toList_setIfInBounds,el,← e1];exact set_two
    refine h st' hB' ?_ ?_ λ t ht=>hJ.out t (.inr (by omega))
    · rw [pl];refine Stk.app.mpr ⟨sa,h1.same λ t h1 h2=>hJ.out t (.inl h2),rfl,by dsimp only;omega,hJ.up,?_⟩;show Stk lt (arrOf st') l2 (sa + (na + nb)) e;rw [← Nat.add_assoc];exact h3.same λ t h1 h2=>hJ.out t (.inr (by omega))
    · have q1:=congrArg List.length pl;have q2:=congrArg List.length el;simp only [Array.length_toList,List.length_append,List.length_cons] at q1 q2;omega
theorem Stk.third {p:List (Nat×Nat×Nat)} {b e:Nat} (h:Stk lt xs p b e) (f:Nat×Nat×Nat→Nat×Nat×Nat) (hf:∀ x,(f x).1=x.1∧(f x).2.1=x.2.1):∀ i,Stk lt xs (p.modify i f) b e:=by
  induction p generalizing b with
  | nil=>intro i;rw [List.modify_nil];exact h
  | cons x p ih =>
    intro i;cases i with
    | zero =>
      rw [List.modify_zero_cons];obtain ⟨f1,f2⟩:=hf x;refine ⟨f1.trans h.1,by rw [f2];exact h.2.1,by rw [f2];exact h.2.2.1,?_⟩;rw [f2];exact h.2.2.2
    | succ i =>
      rw [List.modify_succ_cons];exact ⟨h.1,h.2.1,h.2.2.1,ih h.2.2.2 i⟩
theorem wpS_sortAll {st:SortSt} {Q:Unit→SortSt→Prop} (O:Ord lt) (C:Asks prog w A s κ lt a₀) (hB:SB κ a₀ st) (hp:pendingOf st = #[]) (h2:2≤a₀.size)
    (h:∀ st',(arrOf st').toList.Perm a₀.toList→failedOf st'=none→Up lt (arrOf st') 0 a₀.size→Q () st'):wpS (model prog w) A E s sortRuns' Q st:=by
  rw [sortRuns'_eq];refine wpS_bind (wpS_get ?_);rw [hB.size]
  ((try dsimp -zeta -zetaUnused -zetaHave only);(iterate 3 (extract_lets -underBinder +onlyGivenNames -merge -useContext zz;subst zz));(try dsimp -zeta -zetaUnused -zetaHave only))
  refine wpS_bind (wpS_mono (wpS_forRange (I:=λ x c st'=>∃ lo,c=(none,lo)∧SB κ a₀ st'∧Stk lt (arrOf st') (pendingOf st').toList 0 lo∧lo≤a₀.size∧min x a₀.size≤lo)
    (Q:=λ c st'=>c.1=none∧SB κ a₀ st'∧Stk lt (arrOf st') (pendingOf st').toList 0 a₀.size) ?step ?fin ⟨0,rfl,hB,by rw [hp];exact (rfl:(0:Nat)=0),by omega,(show min 0 a₀.size≤0 by omega)⟩) ?post)
  case fin =>
    rintro c st' ⟨lo,rfl,hB',hS,h3,h4⟩;have:lo=a₀.size:=by omega
    subst this;exact ⟨rfl,hB',hS⟩
  case post =>
    rintro ⟨c1,c2⟩ st' ⟨rfl,hB',hS⟩
    ((try dsimp -zeta -zetaUnused -zetaHave only);(iterate 2 (extract_lets -underBinder +onlyGivenNames -merge -useContext zz;subst zz));(try dsimp -zeta -zetaUnused -zetaHave only))
    refine wpS_bind (wpS_mono (wpS_forRange (I:=λ x c st'=>c=(none,())∧SB κ a₀ st'∧Stk lt (arrOf st') (pendingOf st').toList 0 a₀.size∧(pendingOf st').size≤max 1 (a₀.size - x))
      (Q:=λ c st'=>c=(none,())∧SB κ a₀ st'∧Stk lt (arrOf st') (pendingOf st').toList 0 a₀.size∧(pendingOf st').size≤1) ?fstep ?ffin ⟨rfl,hB',hS,?finit⟩) ?fpost)
    case finit =>
      have:=hS.len;rw [Array.length_toList] at this;show (pendingOf st').size≤max 1 (a₀.size - 0);omega
    case ffin =>
      rintro c st2 ⟨rfl,h3,h4,h5⟩;exact ⟨rfl,h3,h4,by omega⟩
    case fpost =>
      rintro c st2 ⟨rfl,hB2,hS2,h5⟩
      ((try dsimp -zeta -zetaUnused -zetaHave only);extract_lets -underBinder +onlyGivenNames -merge -useContext zz;subst zz;(try dsimp -zeta -zetaUnused -zetaHave only))
      refine wpS_pure (h st2 hB2.perm hB2.failed ?_);have hl:(pendingOf st2).toList.length≤1:=by simpa using h5
      match ep:(pendingOf st2).toList,hl with
      | [],_ =>
        rw [ep] at hS2;have:0=a₀.size:=hS2;omega
      | [x],_ =>
        rw [ep] at hS2;obtain ⟨x1,x2,x3,x4⟩:=hS2;have:0 + x.2.1=a₀.size:=x4;rw [show x.2.1=a₀.size by omega] at x3;exact x3
      | _ :: _ :: _,hl=>simp at hl
    case fstep =>
      rintro x c st2 _ hx ⟨rfl,hB2,hS2,h5⟩;refine wpS_bind (wpS_get ?_)
      ((try dsimp -zeta -zetaUnused -zetaHave only);extract_lets -underBinder +onlyGivenNames -merge -useContext zz;subst zz;(try dsimp -zeta -zetaUnused -zetaHave only))
      by_cases c1:(pendingOf st2).size≤1
      · rw [if_pos c1];exact wpS_pure ⟨rfl,hB2,hS2,c1⟩
      rw [if_neg c1]
      ((try dsimp -zeta -zetaUnused -zetaHave only);(iterate 3 (extract_lets -underBinder +onlyGivenNames -merge -useContext zz;subst zz));(try dsimp -zeta -zetaUnused -zetaHave only))
      refine wpS_bind (wpS_join O C hB2 hS2 ?_ (Nat.le_refl _) λ st3 hB3 hS3 h6 _=>?_)
      · have le2:∀ b:Bool,(if b=true then (pendingOf st2).size - 2 - 1 else (pendingOf st2).size - 2) + 1 < (pendingOf st2).size:=λ b=>by
          cases b
          · rw [if_neg (by simp)];omega
          · rw [if_pos rfl];omega
        exact le2 _
      · rw [if_neg (by simp)];exact wpS_pure ⟨rfl,hB3,hS3,by omega⟩
  rintro x c st1 _ hx ⟨lo,rfl,hB1,hS1,h3,h4⟩
  ((try dsimp -zeta -zetaUnused -zetaHave only);extract_lets -underBinder +onlyGivenNames -merge -useContext zz;subst zz;(try dsimp -zeta -zetaUnused -zetaHave only))
  by_cases c0:lo ≥ a₀.size
  · rw [if_pos c0];have:lo=a₀.size:=by omega
    subst this;exact wpS_pure ⟨rfl,hB1,hS1⟩
  rw [if_neg c0];refine wpS_bind (wpS_count O C (by omega) (by omega) hB1 λ m st2 hB2 hL2 hm1 hm2 hu2=>?_)
  ((try dsimp -zeta -zetaUnused -zetaHave only);extract_lets -underBinder +onlyGivenNames -merge -useContext zz;subst zz;(try dsimp -zeta -zetaUnused -zetaHave only))
  extract_lets -underBinder +onlyGivenNames -merge -useContext jp;have hjp:∀ n st3,SB κ a₀ st3→Left lo st1 st3→1≤n→lo + n≤a₀.size→Up lt (arrOf st3) lo n→wpS (model prog w) A E s (jp () n) (λ r st'=>match r with
      | .done c'=>c'.1=none∧SB κ a₀ st'∧Stk lt (arrOf st') (pendingOf st').toList 0 a₀.size
      | .yield c'=>∃ lo,c'=(none,lo)∧SB κ a₀ st'∧Stk lt (arrOf st') (pendingOf st').toList 0 lo∧lo≤a₀.size∧min (x + 1) a₀.size≤lo) st3:=λ n st3 hB3 hL3 hn1 hn2 hu3=>by
    have hS3:Stk lt (arrOf st3) (pendingOf st3).toList 0 lo:=by
      rw [hL3.pend];exact hS1.same λ t _ h2=>hL3.low t h2
    refine wpS_bind (wpS_get ?_)
    ((try dsimp -zeta -zetaUnused -zetaHave only))
    extract_lets -underBinder +onlyGivenNames -merge -useContext jq;have hjq:∀ st4,SB κ a₀ st4→Stk lt (arrOf st4) (pendingOf st4).toList 0 lo→Up lt (arrOf st4) lo n→wpS (model prog w) A E s (jq ()) (λ r st'=>match r with
      | .done c'=>c'.1=none∧SB κ a₀ st'∧Stk lt (arrOf st') (pendingOf st').toList 0 a₀.size
      | .yield c'=>∃ lo,c'=(none,lo)∧SB κ a₀ st'∧Stk lt (arrOf st') (pendingOf st').toList 0 lo∧lo≤a₀.size∧min (x + 1) a₀.size≤lo) st4:=λ st4 hB4 hS4 hu4=>by
      refine wpS_bind (wpS_modify (wpS_pure ⟨lo + n,rfl,⟨hB4.perm,hB4.kind,hB4.failed⟩,?_,hn2,by omega⟩));show Stk lt (arrOf st4) ((pendingOf st4).push (lo,n,0)).toList 0 (lo + n);rw [Array.toList_push];exact Stk.app.mpr ⟨lo,hS4,rfl,hn1,hu4,rfl⟩
    clear_value jq;split
    · ((try dsimp -zeta -zetaUnused -zetaHave only);extract_lets -underBinder +onlyGivenNames -merge -useContext zz;subst zz;(try dsimp -zeta -zetaUnused -zetaHave only))
      refine wpS_bind (wpS_mono (wpS_forRange (I:=λ _ c st'=>c=(none,())∧SB κ a₀ st'∧Stk lt (arrOf st') (pendingOf st').toList 0 lo∧Up lt (arrOf st') lo n)
        (Q:=λ c st'=>c=(none,())∧SB κ a₀ st'∧Stk lt (arrOf st') (pendingOf st').toList 0 lo∧Up lt (arrOf st') lo n) ?mstep (λ c st' hh=>hh) ⟨rfl,hB3,hS3,hu3⟩) ?mpost)
      case mpost =>
        rintro c st4 ⟨rfl,hB4,hS4,hu4⟩
        ((try dsimp -zeta -zetaUnused -zetaHave only);extract_lets -underBinder +onlyGivenNames -merge -useContext zz;subst zz;(try dsimp -zeta -zetaUnused -zetaHave only))
        refine wpS_bind (wpS_modify (hjq _ ⟨hB4.perm,hB4.kind,hB4.failed⟩ ?_ hu4));show Stk lt (arrOf st4) ((pendingOf st4).modify _ _).toList 0 lo;rw [Array.toList_modify];refine hS4.third _ ?_ _;rintro ⟨_,_,_⟩;exact ⟨rfl,rfl⟩
      case mstep =>
        rintro y c st4 _ hy ⟨rfl,hB4,hS4,hu4⟩;refine wpS_bind (wpS_get ?_)
        ((try dsimp -zeta -zetaUnused -zetaHave only);extract_lets -underBinder +onlyGivenNames -merge -useContext zz;subst zz;(try dsimp -zeta -zetaUnused -zetaHave only))
        by_cases c1:(pendingOf st4).size > 1
        · rw [if_pos c1,getElem?_pos (pendingOf st4) ((pendingOf st4).size - 2) (by omega)]
          ((try dsimp -zeta -zetaUnused -zetaHave only))
          split
          · exact wpS_pure ⟨rfl,hB4,hS4,hu4⟩
          · refine wpS_bind (wpS_join O C hB4 hS4 (by omega) (by omega) λ st5 hB5 hS5 h6 h7=>?_);rw [if_neg (by simp)];exact wpS_pure ⟨rfl,hB5,hS5,hu4.same λ t h1 _=>h7 t h1⟩
        · rw [if_neg c1]
          ((try dsimp -zeta -zetaUnused -zetaHave only))
          exact wpS_pure ⟨rfl,hB4,hS4,hu4⟩
    · exact hjq st3 hB3 hS3 hu3
  clear_value jp;split
  · refine wpS_bind (wpS_lift (wpAny_rule ⟨rfl,?_⟩))
    ((try dsimp -zeta -zetaUnused -zetaHave only);extract_lets -underBinder +onlyGivenNames -merge -useContext zz;subst zz;(try dsimp -zeta -zetaUnused -zetaHave only))
    refine wpS_bind (wpS_bin O C (by omega) (by omega) hB2 hu2 λ st3 hB3 hL3 hu3=>?_);rw [if_neg (by simp)]
    ((try dsimp -zeta -zetaUnused -zetaHave only);extract_lets -underBinder +onlyGivenNames -merge -useContext zz;subst zz;(try dsimp -zeta -zetaUnused -zetaHave only))
    exact wpS_mono (hjp _ st3 hB3 (hL2.trans hL3) (by omega) (by omega) hu3) λ r st' hh=>by cases r<;>exact hh
  · exact wpS_mono (hjp _ st2 hB2 hL2 hm1 (by omega) hu2) λ r st' hh=>by cases r<;>exact hh
end
end Tim
namespace Tim
open PySem Srt PyProof.Rows
noncomputable def InOrd (lt:Value→Value→Bool) (vs:List Value):Prop:=vs.Pairwise λ x y=>lt y x=false
noncomputable def onKeys (lt:Value→Value→Bool):Keyed→Keyed→Bool:=λ p q=>lt p.1 q.1
theorem onKeys_ord {lt:Value→Value→Bool} (O:Ord lt):Ord (onKeys lt):=⟨λ x y=>O.asym x.1 y.1,λ x y z=>O.trans x.1 y.1 z.1⟩
section
variable {prog:Program} {w:World} {A:Around} {E:Value→Shared→Prop} {s:Shared} {lt:Value→Value→Bool}
noncomputable def AskV (prog:Program) (w:World) (A:Around) (lt:Value→Value→Bool) (vs:List Value) (s:Shared):Prop :=
  ∃ κ,(∀ (E:Value→Shared→Prop) (Q:SortKind→Shared→Prop),Q κ s→wpAny (model prog w) A (keyKind' vs.toArray) Q E s) ∧
    ∀ x∈vs,∀ y∈vs,∀ (E:Value→Shared→Prop) (Q:Bool→Shared→Prop),Q (lt x y) s→wpAny (model prog w) A (keyLt' κ x y) Q E s
theorem out_of {vs:List Value} {xs:Array Keyed} (hp:xs.toList.Perm (pairsOf vs).toList) (hu:Up (onKeys lt) xs 0 (pairsOf vs).size) (O:Ord lt):∃ us:List Value,xs.map (·.2)=us.toArray∧us.Perm vs∧InOrd lt us:=by
  rw [pairsOf_toList] at hp;have hm:∀ p∈xs.toList,p.1=p.2:=λ p hp'=>(mem_zip_self (hp.mem_iff.mp hp')).1;refine ⟨xs.toList.map (·.1),?_,?_,?_⟩
  · apply Array.toList_inj.mp;rw [Array.toList_map];exact List.map_congr_left λ p hp'=>(hm p hp').symm
  · have:=hp.map (·.1)
    rwa [List.map_fst_zip (Nat.le_refl _)] at this
  · have hsz:xs.size=(pairsOf vs).size:=by
      have:=hp.length_eq;rw [← pairsOf_toList] at this;simpa using this
    have sd:Sd (onKeys lt) xs.toList:=by
      refine Sd.of _ (λ i x y hx hy=>?_) (onKeys_ord O);obtain ⟨a1,rfl⟩:=of_list hx;obtain ⟨a2,rfl⟩:=of_list hy;have:=hu i (i + 1) (by omega) (by omega)
      rwa [Nat.zero_add,Nat.zero_add] at this
    exact List.pairwise_map.mpr sd
theorem sort_any {a:Addr} {vs:List Value} {n:Nat} {P:Fin→Shared→Prop} (O:Ord lt) (ho:s.heap.get? a=some (seqObj "list" vs.toArray n)) (hz:vs.length≤100000)
    (hk:2≤vs.length→∀ h':Heap,(∀ b o,b≠a→s.heap.get? b=some o→h'.get? b=some o)→AskV prog w A lt vs { s with heap:=h' })
    (h:∀ us:List Value,us.Perm vs→InOrd lt us→P (.done (.ret .none)) { s with heap:=sortedHeap s.heap a vs us.toArray }):wpAny (model prog w) A (Builtin.«list.sort» ⟨[.ref a],[]⟩) P E s:=by
  rw [list_sort_plain];have ha:a < s.heap.objs.size:=Heap.lt_size ho;have z1:vs.toArray.size≤sizeLine:=by rw [List.size_toArray,sizeLine_eq];omega
  refine wpAny_bind (listItems_at ho rfl (wpAny_bind (listUpdate_at ho rfl ?_ z1 (Nat.zero_le _))));obtain ⟨e1,g1⟩:∃ e1,(s.heap.update a (Obj.mapSeq λ _=>(#[]:Array Value))).get? a=some (seqObj "list" #[] e1):=⟨_,get?_update_seq ho (λ _=>#[])⟩;refine wpAny_bind (seqEpoch_at g1 rfl (wpAny_bind (wpAny_newTuple ?_ (by rw [← List.size_toArray];exact z1))));refine wpAny_bind (wpAny_newList ?_ (Nat.zero_le _));refine wpAny_holding ?_;have g2:(((s.heap.update a (Obj.mapSeq λ _=>(#[]:Array Value))).push (seqObj "tuple" vs.toArray 0)).push (seqObj "list" #[] 0)).get? a=some (seqObj "list" #[] e1):=Heap.get?_push_of_some _ (Heap.get?_push_of_some _ g1);have keep:∀ b o,b≠a→s.heap.get? b=some o→(((s.heap.update a (Obj.mapSeq λ _=>(#[]:Array Value))).push (seqObj "tuple" vs.toArray 0)).push (seqObj "list" #[] 0)).get? b=some o:=λ b o hb e =>
    Heap.get?_push_of_some _ (Heap.get?_push_of_some _ (by rw [Heap.get?_update_ne _ _ _ _ hb];exact e))
  show wpAny (model prog w) A _ P E { s with heap:=((s.heap.update a (Obj.mapSeq λ _=>(#[]:Array Value))).push (seqObj "tuple" vs.toArray 0)).push (seqObj "list" #[] 0) };dsimp only;have hk:=λ h2=>hk h2 _ keep;have done:∀ us:List Value,us.Perm vs→InOrd lt us→P (.done (.ret .none)) { s with heap:=(((s.heap.update a (Obj.mapSeq λ _=>(#[]:Array Value))).push (seqObj "tuple" vs.toArray 0)).push (seqObj "list" #[] 0)).update a (Obj.mapSeq λ _=>us.toArray) }:=h;generalize ((s.heap.update a (Obj.mapSeq λ _=>(#[]:Array Value))).push (seqObj "tuple" vs.toArray 0)).push (seqObj "list" #[] 0)=h3 at g2 hk done ⊢
  by_cases c2:vs.toArray.size < 2
  · rw [if_pos c2,if_pos c2];refine wpAny_bind (wpAny_pure ?_);rw [StateT.run_pure];refine wpAny_bind (wpAny_pure ?_);dsimp only;have eo:(pairsOf vs).map (·.2)=vs.toArray:=by
      apply Array.toList_inj.mp;rw [Array.toList_map,pairsOf_toList,List.map_snd_zip (Nat.le_refl _)]
    have eo':(vs.toArray.zip vs.toArray).map (·.2)=vs.toArray:=eo;refine wpAny_bind (seqEpoch_at g2 rfl (wpAny_bind (listUpdate_at g2 rfl ?_ (Nat.zero_le _) (by show (Array.map (·.2) (vs.toArray.zip vs.toArray)).size≤_;rw [eo'];omega))));simp only [bne_self_eq_false,Bool.false_eq_true,if_false];have:=done vs (List.Perm.refl _) (by
      match vs,c2 with
      | [],_=>exact .nil
      | [v],_=>exact List.pairwise_singleton _ _
      | _ :: _ :: _,c2=>exact absurd c2 (by simp))
    refine wpAny_pure ?_;show P (.done (.ret .none)) { s with heap:=h3.update a (Obj.mapSeq λ _=>Array.map (·.2) (vs.toArray.zip vs.toArray)) };rw [eo'];exact this
  · rw [if_neg c2,if_neg c2];obtain ⟨κ,K1,K2⟩:=hk (by simpa using c2);refine wpAny_bind (K1 _ _ ?_);have C:Asks prog w A { s with heap:=h3 } κ (onKeys lt) (pairsOf vs):=λ p q hp hq E Q hQ=>by
      rw [pairsOf_toList] at hp hq;exact K2 p.1 (mem_zip_self hp).2 q.1 (mem_zip_self hq).2 E Q hQ
    refine wpAny_bind (wpAny_mono (wpS_sortAll (st:=SortSt.mk' κ (vs.toArray.zip vs.toArray) #[] 7 none) (a₀:=pairsOf vs)
      (Q:=λ _ st'=>(arrOf st').toList.Perm (pairsOf vs).toList∧failedOf st'=none∧Up (onKeys lt) (arrOf st') 0 (pairsOf vs).size) (onKeys_ord O) C ⟨List.Perm.refl _,rfl,rfl⟩ rfl (by rw [pairsOf_size];simpa using c2) λ st' a1 a2 a3=>⟨a1,a2,a3⟩) ?_ λ _ _ e=>e)
    rintro ⟨⟨⟩,st'⟩ s' ⟨rfl,hp,hf,hu⟩;obtain ⟨us,e1,e2,e3⟩:=out_of hp hu O;dsimp only;refine wpAny_bind (seqEpoch_at g2 rfl (wpAny_bind (listUpdate_at g2 rfl ?_ (Nat.zero_le _) (by show (Array.map (·.2) (arrOf st')).size≤_;rw [e1,List.size_toArray,e2.length_eq,sizeLine_eq];omega))));rw [hf];simp only [bne_self_eq_false,Bool.false_eq_true,if_false];refine wpAny_pure ?_;show P (.done (.ret .none)) { s with heap:=h3.update a (Obj.mapSeq λ _=>Array.map (·.2) (arrOf st')) };rw [e1];exact done us e2 e3
theorem sortedHeap_get {h:Heap} {a:Addr} {vs us:List Value} {n:Nat} (ho:h.get? a=some (seqObj "list" vs.toArray n)):(∃ c,(sortedHeap h a vs us.toArray).get? a=some (seqObj "list" us.toArray c))∧∀ b o,b≠a→h.get? b=some o→(sortedHeap h a vs us.toArray).get? b=some o:=by
  unfold sortedHeap;have g2:(((h.update a (Obj.mapSeq λ _=>(#[]:Array Value))).push (seqObj "tuple" vs.toArray 0)).push (seqObj "list" #[] 0)).get? a=some (seqObj "list" #[] _):=Heap.get?_push_of_some _ (Heap.get?_push_of_some _ (get?_update_seq ho λ _=>#[]));refine ⟨⟨_,get?_update_seq g2 λ _=>us.toArray⟩,λ b o hb e=>?_⟩;rw [Heap.get?_update_ne _ _ _ _ hb];exact Heap.get?_push_of_some _ (Heap.get?_push_of_some _ (by rw [Heap.get?_update_ne _ _ _ _ hb];exact e))
theorem sorted_any {l:Addr} {vs:List Value} {Q:Value→Shared→Prop} (O:Ord lt) (hl:s.heap.IsList l vs.toArray) (hz:vs.length≤100000)
    (hk:2≤vs.length→∀ h':Heap,(∀ b o,s.heap.get? b=some o→h'.get? b=some o)→AskV prog w A.in1.in1 lt vs { s with heap:=h' })
    (h:∀ (us:List Value) (h':Heap) (c:Nat),us.Perm vs→InOrd lt us→(∀ b o,s.heap.get? b=some o→h'.get? b=some o)→h'.get? (s.heap.objs.size + 1)=some (seqObj "list" us.toArray c)→Q (.ref (s.heap.objs.size + 1)) { s with heap:=h' }) :
    wpAny (model prog w) A (call (.builtin "sorted") [.ref l]) Q E s:=by
  refine Calls.call_function_entry kind_sorted plain_sorted entry_sorted (args_sorted1 _) ?_;unfold Builtin.«sorted»;refine wpAny_bind (m:=checkCount "sorted" 1 1 _) (wpAny_pure ?_);have z1:vs.length≤sizeLine:=by rw [sizeLine_eq];omega
  refine wpAny_bind (collect_list hl ?_ z1);refine wpAny_bind (wpAny_newList ?_ z1);have hsz:((s.heap.push (seqObj "list" #[] 0)).update s.heap.objs.size (Obj.mapSeq (· ++ vs.toArray))).objs.size=s.heap.objs.size + 1:=by rw [Heap.size_update,size_push']
  have g0:(((s.heap.push (seqObj "list" #[] 0)).update s.heap.objs.size (Obj.mapSeq (· ++ vs.toArray))).push (seqObj "list" vs.toArray 0)).get? (s.heap.objs.size + 1)=some (seqObj "list" vs.toArray 0):=by
    rw [← hsz];exact Heap.get?_push_size _ rfl
  have keep:∀ b o,s.heap.get? b=some o→b≠s.heap.objs.size + 1∧(((s.heap.push (seqObj "list" #[] 0)).update s.heap.objs.size (Obj.mapSeq (· ++ vs.toArray))).push (seqObj "list" vs.toArray 0)).get? b=some o:=λ b o e=>by
    have hb:b < s.heap.objs.size:=Heap.lt_size e;refine ⟨Nat.ne_of_lt (Nat.lt_succ_of_lt hb),Heap.get?_push_of_some _ ?_⟩;rw [Heap.get?_update_ne _ _ _ _ (Nat.ne_of_lt hb)];exact Heap.get?_push_of_some _ e
  show wpAny _ _ _ _ _ { s with heap:=((s.heap.push (seqObj "list" #[] 0)).update s.heap.objs.size (Obj.mapSeq (· ++ vs.toArray))).push (seqObj "list" vs.toArray 0) };rw [hsz];generalize ((s.heap.push (seqObj "list" #[] 0)).update s.heap.objs.size (Obj.mapSeq (· ++ vs.toArray))).push (seqObj "list" vs.toArray 0)=h2 at g0 keep ⊢;refine wpAny_bind (wpAny_holding (wpAny_call_entry slot_list_sort ⟨_,g0,rfl⟩ entry_list_sort (sort_any (s:={ s with heap:=h2 }) O g0 hz (λ h2 h' hh=>hk h2 h' λ b o e=>hh b o (keep b o e).1 (keep b o e).2) λ us a1 a2=>⟨_,rfl,?_⟩) (args_list_sort _)));obtain ⟨⟨c,q1⟩,q2⟩:=sortedHeap_get (us:=us) g0;exact wpAny_pure ⟨_,rfl,h us _ c a1 a2 (λ b o e=>q2 b o (keep b o e).1 (keep b o e).2) q1⟩
end
end Tim
namespace Stb
open PySem PyProof.Rows
section
variable {prog:Program} {w:World} {A:Around} {E:Value→Shared→Prop} {s:Shared} {I a:Addr} {o:Obj} {es:Array (Int×Value)} {ep:Nat} {t:SetTable}
theorem iter_set {Q:Value→Shared→Prop} (x:SetAt prog w s.heap a o es ep t) (hg:Good t (ledOf w)) (hz:es.size≤sizeLine)
    (h:∀ (I:Addr) (f:Nat→Value) (vs:List Value) (ts:List (Addr×Obj)) (h':Heap) (d:Drawn),Road w a es ep t f vs ts→Sti a o es.size ep I f ts 0 h'→(∀ c u,s.heap.get? c=some u→h'.get? c=some u)→s.heap.objs.size≤I→(∀ p∈ts,p.1≠I∧s.heap.objs.size≤p.1) →
      Q (.ref I) { s with heap:=h',drawn:=d }):wpAny (model prog w) A (pyIter (.ref a)) Q E s:=by
  have hT:s.TypeIs (.ref a) "set":=⟨o,x.get,x.ex.1⟩;refine wpAny_pyIter_slot hT PySem.F.slot_set_iter (wpAny_call_entry PySem.F.slot_set_iter hT entry_s_iter ?_ (PySem.F.args_set_iter_1 _));unfold Builtin.«frozenset.__iter__» Builtin.Frozenset.slot0 slotArgs;simp only [List.isEmpty_nil,Bool.not_true,Bool.false_eq_true,↓reduceIte,bind_assoc,List.length_nil,bne_self_eq_false];unfold Builtin.Frozenset.addrOf Builtin.Frozenset.sizeOf;refine wpAny_bind (wpAny_pure ?_)
  (try dsimp only)
  refine wpAny_bind (wpAny_pure ?_);refine wpAny_bind (wpAny_bind (wpAny_setEntries_of x.get x.dat x.fits (wpAny_pure ?_)));unfold setDrawn;refine wpAny_bind (wpAny_bind (wpAny_setState_of x.get x.dat x.fits ?_));dsimp only;refine wpAny_bind (wp_byText (wpAny_pure ?_));show wpAny _ _ (if (!w.params.followText "set-order" && (!t.plain && decide (es.size > 1)))=true then _ else _) _ _ _;have mk:∀ (f:Nat→Value) (vs:List Value) (ts:List (Addr×Obj)) (h1:Heap) (d:Drawn),Road w a es ep t f vs ts→(∀ c u,s.heap.get? c=some u→h1.get? c=some u)→s.heap.objs.size≤h1.objs.size→(∀ p∈ts,h1.get? p.1=some p.2∧s.heap.objs.size≤p.1) →
      wpAny (model prog w) A.in1 (do
        let e ← setEpoch a
        let it ← newFields "set_iterator" [f 0,rawInt 0,.ref a,rawInt (es.size:Nat),rawInt (e:Nat)]
        ret it) (λ fin s'=>∃ r,fin=PySem.Fin.done (.ret r)∧∃ T' r',s'.TypeIs r T'∧typeLookup (.type T') "__next__"=pure (some r')∧Q r s') E { s with heap:=h1,drawn:=d }:=λ f vs ts h1 d hr k1 k2 k3=>by
    refine wpAny_bind (wpAny_setEpoch_of (s:={ s with heap:=h1,drawn:=d }) (k1 _ _ x.get) x.dat x.fits ?_);unfold newFields;refine wpAny_bind (wpAny_newObj_type (wpAny_pure ⟨_,rfl,"set_iterator",_,⟨_,Heap.get?_push_size _ rfl,rfl⟩,slot_si_next.lookup,?_⟩));refine h h1.objs.size f vs ts _ d hr ⟨Heap.get?_push_size _ rfl,Heap.get?_push_of_some _ (k1 _ _ x.get),λ p hp=>Heap.get?_push_of_some _ (k3 p hp).1⟩ (λ c u e=>Heap.get?_push_of_some _ (k1 c u e)) k2 λ p hp=>⟨Nat.ne_of_lt (Heap.lt_size (k3 p hp).1),(k3 p hp).2⟩
  by_cases hb:w.params.followText "set-order"=true
  · rw [hb];simp only [Bool.not_true,Bool.false_and,Bool.false_eq_true,if_false];exact wpAny_bind (wpAny_pure (mk (λ _=>.int 0 0) _ [] s.heap s.drawn (.text hb) (λ _ _ e=>e) (Nat.le_refl _) λ p hp=>by simp at hp))
  · have hb':w.params.followText "set-order"=false:=by simpa using hb
    have hl:t.led=true:=by rw [hg.led];unfold ledOf;rw [hb'];rfl
    rw [hb'];simp only [Bool.not_false,Bool.true_and]
    by_cases hd:(!t.plain && decide (es.size > 1))=true
    · rw [if_pos hd];refine wpAny_bind (wp_draw es.size (List.range es.size) s (by simp) λ ps d hp=>?_);refine wpAny_bind (wpAny_newTuple ?_ (by rw [List.length_map,hp.length_eq,List.length_range];exact hz));refine mk (λ _=>.ref s.heap.objs.size) _ [(s.heap.objs.size,{ cls:=.type "tuple",data:=.seq (ps.map λ i:Nat=>rawInt i).toArray })] _ d (.drawn hp rfl) (λ c u e=>Heap.get?_push_of_some _ e) (by rw [Heap.size_push];exact Nat.le_succ _) λ p hp=>?_;rw [List.mem_singleton.mp hp];exact ⟨Heap.get?_push_size _ rfl,Nat.le_refl _⟩
    · rw [if_neg hd];have hd':(!t.plain && decide (es.size > 1))=false:=by simpa using hd
      have hr:Rise t.place:=by
        cases hp:t.plain with
        | true=>exact hg.rise hp
        | false =>
          rw [hp] at hd';have hpl:t.place.size=es.size:=by
            have hf:=x.fits;unfold SetTable.fits at hf;rw [Bool.and_eq_true,beq_iff_eq] at hf;exact hf.1
          simp at hd';intro i j h1 h2;omega
      exact wpAny_bind (wpAny_pure (mk (λ i=>match i with | 0=>.int 0 0 | i + 1=>.int (t.place.getD i 0 + 1:Nat) 0) _ [] s.heap s.drawn (.slots hb' hd' hl hr) (λ _ _ e=>e) (Nat.le_refl _) λ p hp=>by simp at hp))
theorem hint_set {Q:Bool→Shared→Prop} (hT:s.TypeIs (.ref a) "set") (h:Q false s):wpAny (model prog w) A (Builtin.List.listLengthHint (.ref a)) Q E s:=by
  unfold Builtin.List.listLengthHint;refine wpAny_bind (wpAny_specialOf hT PySem.F.slot_set_len.lookup ?_);generalize hid:("set.__len__":String)=id0
  wp_delta
  rw [show splitId id0=some ("set","__len__") from by subst hid;decide +kernel];subst hid;refine wpAny_bind (wpAny_isInstance (T:="set") (b:=true) hT (by rw [isSubtype_type];kernel_rfl) ?_);refine wpAny_ite_split (λ z=>absurd z (by decide)) (λ _=>?_);refine wpAny_ite_split (λ _=>?_) (λ z=>absurd (by decide +kernel) z);exact wpAny_bind (wpAny_typeOf hT (wpAny_pure h))
end
end Stb
set_option maxHeartbeats 200000
namespace L2
open PySem PySem.Spec PyProof.Rows
theorem ints_nums:∀ {ns:List Int} {us:List Value},Vals (ns.map V.int) us→us.map numOf=ns∧IntsAre us ns
  | [],_,.nil=>⟨rfl,.nil⟩
  | n :: ns,_,.cons r t=>by
    obtain ⟨k,rfl⟩:=r;obtain ⟨h1,h2⟩:=ints_nums t;exact ⟨by rw [List.map_cons,h1];rfl,.cons n k h2⟩
theorem vals_nums:∀ {us:List Value},(∀ u∈us,∃ n t,u = .int n t)→Vals ((us.map numOf).map V.int) us
  | [],_=>.nil
  | u :: us,h=>by
    obtain ⟨n,t,rfl⟩:=h u (List.mem_cons_self ..);exact .cons ⟨t,rfl⟩ (vals_nums λ v hv=>h v (List.mem_cons_of_mem _ hv))
noncomputable def ltI (v u:Value):Bool:=decide (numOf v < numOf u)
theorem ltI_ord:Srt.Ord ltI:=⟨λ x y h=>by unfold ltI at *;simp at *;omega,λ x y z h1 h2=>by unfold ltI at *;simp at *;omega⟩
section
variable {X:Cx}
noncomputable def rSortI (K:PySem.W.Frag):List V→Hp→VK→Prop:=λ xs H Q=>∃ (p:Addr) (ns:List Int),xs=[.ref p]∧SqL K H p (ns.map V.int)∧ns.length≤100000∧∀ ms:List Int,ms.Perm ns→ms.Pairwise (·≤·)→∀ l,H l=none→Q (.ref l) (upd H l (.lst (ms.map V.int)))
theorem askI {prog:Program} {w:World} {A:Around} {s:Shared}:∀ {its:List Value} {ns:List Int},IntsAre its ns→2≤its.length→Tim.AskV prog w A ltI its s
  | [],_,_,h=>by simp at h
  | [_],_,_,h=>by simp at h
  | v₁ :: v₂ :: vs,ns,hI,_=>by
    refine ⟨oneType',λ E Q hq=>?_,λ x hx y hy E Q hq=>?_⟩
    · rw [keyKind_ints hI];exact wpAny_pure hq
    · obtain ⟨a,t,rfl⟩:=hI.all x hx;obtain ⟨b,t',rfl⟩:=hI.all y hy;rw [keyLt'_oneType];exact oneLt_int hq
theorem call_sortI:CallR X (.builtin "sorted") (rSortI X.K):=by
  intro pins s σ H xs us Q I r h;obtain ⟨p,ns,rfl,hl,hz,q⟩:=h;obtain ⟨u,rfl,ru⟩:=vals1 r;cases ru;obtain ⟨its,rv,pl,_⟩:=I.list hl;obtain ⟨e1,hI⟩:=ints_nums rv;have hlen:its.length=ns.length:=by rw [← e1,List.length_map]
  refine Tim.sorted_any (lt:=ltI) ltI_ord pl.isList (by omega) (λ h2 h' hk=>askI hI h2) λ us h' c hp ho hk hg=>?_;have hall:∀ u∈us,∃ n t,u = .int n t:=λ u hu=>hI.all u (hp.mem_iff.mp hu);have z1:((us.map numOf).map V.int).length≤sizeLine:=by
    rw [List.length_map,List.length_map,hp.length_eq,hlen,sizeLine_eq];omega
  have z2:(us.map numOf).Perm ns:=by
    have:=hp.map numOf
    rwa [e1] at this
  have z3:(us.map numOf).Pairwise (·≤·):=by
    refine List.pairwise_map.mpr (List.Pairwise.imp (λ {x y} hxy=>?_) ho);unfold ltI at hxy;simp at hxy;exact hxy
  have I2:=I.laid (a:=s.heap.objs.size + 1) (o:=.lst ((us.map numOf).map V.int)) (t':=s.toks) hk (Nat.le_succ _) ⟨z1,us,c,vals_nums hall,hg⟩;exact ⟨.ref (s.heap.objs.size + 1),_,I2,rfl,q (us.map numOf) z2 z3 _ (I.hok.fresh (Nat.le_succ _))⟩
theorem vals_refs:∀ {ps:List Addr} {us:List Value},Vals (ps.map V.ref) us→us=ps.map Value.ref
  | [],_,.nil=>rfl
  | p :: ps,_,.cons r t=>by
    cases r;rw [vals_refs t];rfl
theorem refs_vals:∀ (ps:List Addr),Vals (ps.map V.ref) (ps.map Value.ref)
  | []=>.nil
  | p :: ps=>.cons rfl (refs_vals ps)
end
end L2
set_option maxHeartbeats 1000000
namespace Stb
open PySem PyProof.Rows
section
variable {prog:Program} {w:World} {A:Around} {E:Value→Shared→Prop} {s:Shared} {a:Addr}
theorem collect_set {l:List Int} {Q:List Value→Shared→Prop} (hh:A.handled=none) (hx:SX prog w s.heap a l (ledOf w))
    (hQ:∀ us h' tk d,(∃ ms:List Int,IntsAre us ms∧ms.Perm l)→s.heap.objs.size < h'.objs.size→(∀ c u,s.heap.get? c=some u→h'.get? c=some u)→Q us { s with heap:=h',toks:=tk,drawn:=d }):wpAny (model prog w) A (collect (.ref a)) Q E s:=by
  obtain ⟨o,es,ep,t,ho,hex,hd,hel,hp,hb,hf,hg⟩:=hx;have ha:a < s.heap.objs.size:=Heap.lt_size ho;have hsz:=size_of hp;have z0:es.size≤sizeLine:=fits_of_scanBound (by rw [hsz];exact hb);unfold collect;refine wpAny_bind (wpAny_runValue (codeAny_builtin PySem.F.entry_proto_collect ?_));rw [Around.under_plainId PySem.F.plain_proto_collect _];show wpAny _ A.in1 (newList [] >>= λ l=>again (.builtin "list.__iadd__" ⟨[l,.ref a],[]⟩)) _ _ s;refine wpAny_bind (wpAny_newObj_type (wpAny_pure ⟨plainId_quiet PySem.F.plain_list_iadd _,codeAny_builtin PySem.F.entry_list_iadd ?_⟩));rw [Around.under_plainId PySem.F.plain_list_iadd _];show wpAny _ A.in1 (Builtin.List.listExtendWith (.ref s.heap.objs.size) (.ref a) (.ref s.heap.objs.size)) _ _ _;have gS:(s.heap.push { cls:=.type "list",data:=.seq ([]:List Value).toArray }).get? s.heap.objs.size=some { cls:=.type "list",data:=.seq ([]:List Value).toArray }:=Heap.get?_push_size _ rfl;have ga:(s.heap.push { cls:=.type "list",data:=.seq ([]:List Value).toArray }).get? a=some o:=Heap.get?_push_of_some _ ho;have kp:∀ c u,s.heap.get? c=some u→(s.heap.push { cls:=.type "list",data:=.seq ([]:List Value).toArray }).get? c=some u:=λ c u e=>Heap.get?_push_of_some _ e;have sS:(s.heap.push { cls:=.type "list",data:=.seq ([]:List Value).toArray }).objs.size=s.heap.objs.size + 1:=size_push' _ _;generalize s.heap.push { cls:=.type "list",data:=.seq ([]:List Value).toArray }=h1 at gS ga kp sS ⊢;have hT:∀ h2:Heap,∀ d,h2.get? a=some o→Shared.TypeIs { s with heap:=h2,drawn:=d } (.ref a) "set":=λ h2 d e=>⟨o,e,hex.1⟩;unfold Builtin.List.listExtendWith;refine wpAny_bind (wpAny_typeOf (T:="set") (hT h1 s.drawn ga) ?_);have q1:Builtin.List.listSameRef (.ref s.heap.objs.size) (.ref a)=false:=by simp [Builtin.List.listSameRef,Nat.ne_of_gt ha]
  have q2:(Value.type "set" == Value.type "list")=false:=by decide
  have q3:(Value.type "set" == Value.type "tuple")=false:=by decide
  simp only [q1,q2,q3,Bool.or_false,Bool.false_eq_true,if_false];have x1:SetAt prog w h1 a o es ep t:=⟨ga,hex,hd,hf⟩;refine wpAny_bind (iter_set (s:={ s with heap:=h1 }) x1 hg z0 λ I f vs ts h2 d hr st k2 sI hts=>?_);have hIS:s.heap.objs.size≠I:=λ z=>by
    have:s.heap.objs.size + 1≤I:=by rw [← sS];exact sI
    rw [← z] at this;exact absurd this (Nat.not_succ_le_self _)
  have hSf:s.heap.objs.size∉I :: a :: ts.map (·.1):=λ hm=>by
    rcases List.mem_cons.mp hm with e | hm
    · exact hIS e
    · rcases List.mem_cons.mp hm with e | hm
      · exact absurd ha (by rw [← e];exact Nat.lt_irrefl _)
      · obtain ⟨p,hp',e⟩:=List.mem_map.mp hm;have:s.heap.objs.size + 1≤p.1:=by rw [← sS];exact (hts p hp').2
        rw [e] at this;exact absurd this (Nat.not_succ_le_self _)
  have hIa:a≠I:=λ z=>by
    have:s.heap.objs.size + 1≤I:=by rw [← sS];exact sI
    rw [← z] at this;exact absurd this (Nat.not_le_of_lt (Nat.lt_succ_of_lt ha))
  refine wpAny_bind (wpAny_holding (hint_set (hT h2 d st.2.1) ?_));have W:=walks_set (prog:=prog) (w:=w) (A:=A.in1) (o:=o) (I:=I) hh hr hex hd hf hIa λ p hp'=>(hts p hp').1;have nv:vs.length=es.size:=by rw [hr.perm.length_eq];simp
  have asInts:∀ acc:Array Value,ItemsOf (λ i v=>vs[i]?=some v) acc vs.length→∃ ms:List Int,IntsAre acc.toList ms∧ms.Perm l:=λ acc hacc=>by
    have ev:acc.toList=vs:=by
      apply List.ext_getElem?;intro i
      by_cases hi:i < acc.size
      · rw [Array.getElem?_toList,getElem?_pos acc i hi];exact (hacc.2 i _ (getElem?_pos acc i hi)).symm
      · rw [List.getElem?_eq_none (by simpa using hi),List.getElem?_eq_none (by rw [← hacc.1];omega)]
    rw [ev];have hall:∀ v∈vs,∃ n t,v = .int n t:=λ v hv=>by
      obtain ⟨e,he,rfl⟩:=List.mem_map.mp (hr.perm.mem_iff.mp hv);obtain ⟨⟨k,hk,_⟩,_⟩:=hel e he;obtain ⟨t',e'⟩:=is_num hk;exact ⟨k,t',e'⟩
    refine ⟨vs.map numOf,intsAre_map vs hall,?_⟩;refine (hr.perm.map numOf).trans ?_;rw [List.map_map];exact hp
  refine wpAny_ite_split (λ _=>?_) (λ _=>?_)
  · refine wpAny_bind (wpAny_rule (wpAny_bind ?_));show wpAny _ _ (updateSeq s.heap.objs.size (·.push .none) >>= λ _=>updateSeq s.heap.objs.size (·.pop)) _ _ _;have g2:h2.get? s.heap.objs.size=some { cls:=.type "list",data:=.seq ([]:List Value).toArray }:=k2 _ _ gS;refine wpAny_bind (wpAny_updateSeq g2 rfl ?_);have g2':=Heap.get?_update_self (Obj.mapSeq (·.push Value.none)) g2 rfl;refine wpAny_updateSeq (hz:=by seq_fits) g2' rfl ?_;have g3:=Heap.get?_update_self (Obj.mapSeq (·.pop)) g2' rfl;have oth:∀ b u,b≠s.heap.objs.size→h2.get? b=some u→((h2.update s.heap.objs.size (Obj.mapSeq (·.push Value.none))).update s.heap.objs.size (Obj.mapSeq (·.pop))).get? b=some u:=λ b u hb e=>(Heap.get?_update_other _ _ (Ne.symm hb)).trans ((Heap.get?_update_other _ _ (Ne.symm hb)).trans e);have st3:=W.frame 0 h2 ((h2.update s.heap.objs.size (Obj.mapSeq (·.push Value.none))).update s.heap.objs.size (Obj.mapSeq (·.pop))) st λ b hb u e=>oth b u (λ z=>hSf (z ▸ hb)) e;have k3:∀ b u,s.heap.get? b=some u→((h2.update s.heap.objs.size (Obj.mapSeq (·.push Value.none))).update s.heap.objs.size (Obj.mapSeq (·.pop))).get? b=some u:=λ b u e=>oth b u (Nat.ne_of_lt (Heap.lt_size e)) (k2 b u (kp b u e));refine wpAny_pure ⟨plainId_quiet PySem.F.plain_extend_loop _,codeAny_extend_loopS W.toS (by omega) _ hSf _ vs.length 0 _ _ _ rfl (Nat.zero_le _) st3 g3 (ItemsOf.nil _) λ s' acc c' hm gS' hacc=>?_⟩;show wpAny _ A (load s.heap.objs.size >>= _) _ _ s';refine wpAny_bind (wpAny_load gS' (wpAny_pure ?_));rw [Moved.eq_with hm];refine hQ acc.toList s'.heap s'.toks d (asInts acc hacc) (Heap.lt_size gS') λ c u e=>hm.heap c u (λ hmem=>?_) (k3 c u e);rcases List.mem_cons.mp hmem with e' | hmem
    · exact absurd (Heap.lt_size e) (by rw [e'];exact Nat.lt_irrefl _)
    · have hcI:c=I:=List.mem_singleton.mp hmem;have h5:s.heap.objs.size + 1≤I:=by rw [← sS];exact sI
      exact absurd (Heap.lt_size e) (by rw [hcI];exact Nat.not_lt_of_le (Nat.le_of_succ_le h5))
  · have g3:h2.get? s.heap.objs.size=some { cls:=.type "list",data:=.seq ([]:List Value).toArray }:=k2 _ _ gS;have st3:=st;have k3:∀ b u,s.heap.get? b=some u→h2.get? b=some u:=λ b u e=>k2 b u (kp b u e);refine wpAny_pure ⟨plainId_quiet PySem.F.plain_extend_loop _,codeAny_extend_loopS W.toS (by omega) _ hSf _ vs.length 0 _ _ _ rfl (Nat.zero_le _) st3 g3 (ItemsOf.nil _) λ s' acc c' hm gS' hacc=>?_⟩;show wpAny _ A (load s.heap.objs.size >>= _) _ _ s';refine wpAny_bind (wpAny_load gS' (wpAny_pure ?_));rw [Moved.eq_with hm];refine hQ acc.toList s'.heap s'.toks d (asInts acc hacc) (Heap.lt_size gS') λ c u e=>hm.heap c u (λ hmem=>?_) (k3 c u e);rcases List.mem_cons.mp hmem with e' | hmem
    · exact absurd (Heap.lt_size e) (by rw [e'];exact Nat.lt_irrefl _)
    · have hcI:c=I:=List.mem_singleton.mp hmem;have h5:s.heap.objs.size + 1≤I:=by rw [← sS];exact sI
      exact absurd (Heap.lt_size e) (by rw [hcI];exact Nat.not_lt_of_le (Nat.le_of_succ_le h5))
end
end Stb
set_option maxHeartbeats 400000
namespace Stb
open PySem PyProof.Rows
section
variable {prog:Program} {w:World} {A:Around} {E:Value→Shared→Prop} {s:Shared} {a:Addr}
theorem sorted_set {l:List Int} {Q:Value→Shared→Prop} (hh:A.handled=none) (hx:SX prog w s.heap a l (ledOf w)) (hz:l.length≤100000)
    (h:∀ (p:Addr) (us:List Value) (ms:List Int) (h':Heap) (c tk:Nat) (d:Drawn),IntsAre us ms→ms.Perm l→ms.Pairwise (·≤·)→(∀ b o,s.heap.get? b=some o→h'.get? b=some o)→s.heap.objs.size≤p→h'.get? p=some (seqObj "list" us.toArray c)→Q (.ref p) { s with heap:=h',toks:=tk,drawn:=d }) :
    wpAny (model prog w) A (call (.builtin "sorted") [.ref a]) Q E s:=by
  refine Calls.call_function_entry kind_sorted plain_sorted entry_sorted (args_sorted1 _) ?_;unfold Builtin.«sorted»;refine wpAny_bind (m:=checkCount "sorted" 1 1 _) (wpAny_pure ?_);refine wpAny_bind (collect_set (A:=A.in1) hh hx λ vs h1 tk d hv s0 k1=>?_);obtain ⟨ns,hI,hn⟩:=hv;have nv:vs.length=l.length:=by rw [← hn.length_eq,← hI.nums,List.length_map]
  have z1:vs.length≤sizeLine:=by rw [sizeLine_eq];omega
  refine wpAny_bind (wpAny_newList ?_ z1);have s1:s.heap.objs.size≤h1.objs.size:=Nat.le_of_lt s0;have g0:(h1.push (seqObj "list" vs.toArray 0)).get? h1.objs.size=some (seqObj "list" vs.toArray 0):=Heap.get?_push_size _ rfl;have k2:∀ b o,s.heap.get? b=some o→b≠h1.objs.size∧(h1.push (seqObj "list" vs.toArray 0)).get? b=some o:=λ b o e=>⟨Nat.ne_of_lt (Heap.lt_size (k1 b o e)),Heap.get?_push_of_some _ (k1 b o e)⟩;show wpAny _ _ _ _ _ { s with heap:=h1.push (seqObj "list" vs.toArray 0),toks:=tk,drawn:=d };generalize h1.push (seqObj "list" vs.toArray 0)=h2 at g0 k2 ⊢;refine wpAny_bind (wpAny_holding (wpAny_call_entry slot_list_sort ⟨_,g0,rfl⟩ entry_list_sort (Tim.sort_any (s:={ s with heap:=h2,toks:=tk,drawn:=d }) L2.ltI_ord g0 (by omega) (λ h2' h' _=>L2.askI hI h2') λ us a1 a2=>⟨_,rfl,?_⟩) (args_list_sort _)));obtain ⟨⟨c,q1⟩,q2⟩:=Tim.sortedHeap_get (us:=us) g0;have hall:∀ u∈us,∃ n t,u = .int n t:=λ u hu=>hI.all u (a1.mem_iff.mp hu);refine wpAny_pure ⟨_,rfl,h h1.objs.size us (us.map numOf) _ c tk d (intsAre_map us hall) ?_ ?_ (λ b o e=>q2 b o (k2 b o e).1 (k2 b o e).2) s1 q1⟩
  · have:=a1.map numOf;rw [hI.nums] at this;exact this.trans hn
  · refine List.pairwise_map.mpr (List.Pairwise.imp (λ {x y} hxy=>?_) a2);unfold L2.ltI at hxy;simp at hxy;exact hxy
end
end Stb
namespace L2
open PySem PySem.Spec PyProof.Rows
noncomputable def SetX (P:Program) (w:World) (l:Addr) (ns:List Int):HO:=.ext λ h=>Stb.SX P w h l ns (Stb.ledOf w)
section
variable {X:Cx}
noncomputable def rSetX (P:Program) (w:World) (K:PySem.W.Frag):List V→Hp→VK→Prop:=λ xs H Q=>∃ (p:Addr) (ns:List Int),xs=[.ref p]∧SqL K H p (ns.map V.int)∧ns.length≤4000∧∀ l,H l=none→Q (.ref l) (upd H l (SetX P w l (Stb.seen (λ i=>ns.getD i 0) ns.length)))
theorem call_setX (hc:X.calm=true):CallR X (.type "set") (rSetX X.prog X.w X.K):=by
  intro pins s σ H xs us Q I r h;obtain ⟨p,ns,rfl,hl,hz,q⟩:=h;obtain ⟨u,rfl,ru⟩:=vals1 r;cases ru;obtain ⟨its,rv,pl,_⟩:=I.list hl;obtain ⟨e1,hI⟩:=ints_nums rv;have hlen:its.length=ns.length:=by rw [← e1,List.length_map]
  refine Stb.call_set_x (I.ok.hd hc) pl.isList (by simpa using hI) (by show its.toArray.size + 1 < 4096;rw [List.size_toArray];omega) λ h' tk x hk=>?_;rw [show its.toArray.size=ns.length by rw [List.size_toArray,hlen]] at x;have hk':∀ b o,s.heap.get? b=some o→h'.get? b=some o:=λ b o e=>hk b o (Heap.lt_size e) e;have I2:=I.laid (a:=s.heap.objs.size) (o:=SetX X.prog X.w s.heap.objs.size (Stb.seen (λ i=>ns.getD i 0) ns.length)) (t':=tk) hk' (Nat.le_refl _) ⟨x,by obtain ⟨o,_,_,_,g,_⟩:=x;exact ⟨o,g⟩,λ h1 h2 x1 k=>x1.keeps k⟩;exact ⟨.ref s.heap.objs.size,_,I2,rfl,q _ (I.hok.fresh (Nat.le_refl _))⟩
noncomputable def rSortX (P:Program) (w:World):List V→Hp→VK→Prop:=λ xs H Q=>∃ (p:Addr) (ns:List Int),xs=[.ref p]∧H p=some (SetX P w p ns)∧ns.length≤4000∧∀ ms:List Int,ms.Perm ns→ms.Pairwise (·≤·)→∀ l,H l=none→Q (.ref l) (upd H l (.lst (ms.map V.int)))
theorem call_sortX (hc:X.calm=true):CallR X (.builtin "sorted") (rSortX X.prog X.w):=by
  intro pins s σ H xs us Q I r h;obtain ⟨p,ns,rfl,hp,hz,q⟩:=h;obtain ⟨u,rfl,ru⟩:=vals1 r;cases ru;have x:Stb.SX X.prog X.w s.heap p ns (Stb.ledOf X.w):=(I.hok p _ hp).1;refine Stb.sorted_set (I.ok.hd hc) x (by omega) λ p' us ms h' c tk d hI hp' ho hk hle hg=>?_;have hv:Vals (ms.map V.int) us:=by
    have:=vals_nums (us:=us) λ u hu=>hI.all u hu
    rwa [hI.nums] at this
  have z1:(ms.map V.int).length≤sizeLine:=by rw [List.length_map,hp'.length_eq,sizeLine_eq];omega
  have I2:=I.laid (a:=p') (o:=.lst (ms.map V.int)) (t':=tk) hk hle ⟨z1,us,c,hv,hg⟩;have I3:Inv X pins σ (upd H p' (.lst (ms.map V.int))) { s with heap:=h',toks:=tk,drawn:=d }:=⟨I2.ok,I2.os,I2.bare,I2.base,I2.loc,I2.cell,I2.free,I2.freeC,I2.pin,I2.hok,I2.len⟩;exact ⟨.ref p',_,I3,rfl,q ms hp' ho _ (I.hok.fresh hle)⟩
theorem rising_of {ns ms:List Int} (hp:ms.Perm (Stb.seen (λ i=>ns.getD i 0) ns.length)) (ho:ms.Pairwise (·≤·)):ms.Pairwise (· < ·)∧∀ n,n∈ms↔n∈ns:=by
  constructor
  · have hn:ms.Nodup:=hp.nodup_iff.mpr (Stb.seen_nodup _ _);exact (ho.and hn).imp λ ⟨h1,h2⟩=>by omega
  · intro n;rw [hp.mem_iff,Stb.seen_mem];constructor
    · rintro ⟨j,h1,h2⟩;have:ns[j]?=some ns[j]:=List.getElem?_eq_getElem h1;simp [List.getD,this] at h2;rw [← h2];exact List.getElem_mem h1
    · intro hm;obtain ⟨j,hj,e⟩:=List.getElem_of_mem hm;exact ⟨j,hj,by simp [List.getD,List.getElem?_eq_getElem hj,e]⟩
end
end L2
set_option maxHeartbeats 1000000
namespace L2
open PySem PySem.Spec PyProof.Rows
noncomputable def Ite (K:PySem.W.Frag) (a:Addr):It :=
  ⟨λ i H=>∃ xs x,SqL K H a xs∧xs[i]?=some x,
   λ i H v H'=>∃ T x,H T=none∧v = .ref T∧H'=upd H T (.tup [.int (i:Nat),x])∧∀ xs,SqL K H a xs→xs[i]?=some x,
   λ i H=>∃ xs,SqL K H a xs∧xs.length≤i⟩
theorem turn_enum {P:Program} {w:World} {K:PySem.W.Frag} {es:List Expr} {k:Nat} {tp:Pos} {e it:Addr} (a:Addr) (hei:e≠it) :
    Turn P w K (.Tuple es k tp) (Ite K a) [e,it] e (λ i h=>(∃ old,IsEnum h e it (i:Nat) old)∧h.IsListIter it a i) where
  mem:=by simp
  obj:=λ i h st c hc=>by
    obtain ⟨⟨old,he⟩,⟨o1,e1,c1,d1⟩⟩:=st;simp only [List.mem_cons,List.not_mem_nil,or_false] at hc;rcases hc with rfl | rfl
    · exact ⟨_,he,λ v q=>by have q':Data.fields _=Data.cell v:=q;cases q'⟩
    · exact ⟨o1,e1,λ v q=>by rw [d1] at q;cases q⟩
  keep:=λ i h h' st k=>by
    obtain ⟨⟨old,he⟩,h1⟩:=st;exact ⟨⟨old,k e (by simp) _ he⟩,h1.at λ o q=>k it (by simp) o q⟩
  item:=by
    intro X hP hw hK hc i pins s σ H E I hf st hg;subst hP hw hK;obtain ⟨⟨old,he⟩,h1⟩:=st;obtain ⟨xs,x,qa,hx⟩:=hg;obtain ⟨its,rv,pl,hzl⟩:=I.list qa;obtain ⟨ux,hux,rux⟩:=rv.get hx;refine wpAny_pyNext_enum_item he h1 pl.isList (x:=ux) (by simpa using hux) hei λ h' a1 a2 a3 a4 hk=>?_;have nin:∀ b,b∉[e,it]→b≠e∧b≠it:=λ b hb=>by
      simp only [List.mem_cons,List.not_mem_nil,or_false,not_or] at hb;exact hb
    have hT:H s.heap.objs.size=none:=I.hok.fresh (Nat.le_refl _);refine ⟨.ref s.heap.objs.size,rfl,wpAny_letOwnedTupleGo_enum (s:={ s with heap:=h',toks:=s.toks + 1 }) a1 λ h'' he' hs'=>?_⟩;have neq:s.heap.objs.size≠e:=Nat.ne_of_gt (Heap.lt_size he);have tup:h''.get? s.heap.objs.size=some { cls:=.type "tuple",data:=.seq #[.int (i:Nat) s.toks,ux] }:=hs'.extBut _ _ neq a3;have old':∀ b o,b∉[e,it]→s.heap.get? b=some o→h''.get? b=some o:=λ b o hb q=>hs'.extBut b o (nin b hb).1 (hk b o (nin b hb).1 (nin b hb).2 q);refine ⟨.ref s.heap.objs.size,upd H s.heap.objs.size (.tup [.int (i:Nat),x]),?_,rfl,⟨_,x,hT,rfl,rfl,λ xs' q=>by rw [I.list_inj q qa];exact hx⟩,⟨⟨ux,he'⟩,a2.extBut hs'.extBut (Ne.symm hei)⟩,λ b hb=>?_⟩
    · have new:ObjOk X.prog X.w (upd H s.heap.objs.size (.tup [.int (i:Nat),x])) h'' s.heap.objs.size (.tup [.int (i:Nat),x]) :=
        ⟨by show 2≤sizeLine;rw [sizeLine_eq];decide,[.int (i:Nat) s.toks,ux],.cons ⟨_,rfl⟩ (.cons rux .nil),⟨_,tup,rfl,0,rfl⟩⟩
      have nit:∀ b u,H b=some u→b∉[e,it]:=λ b u q z=>by rw [(hf b z).1] at q;cases q
      have nT:∀ b o,s.heap.get? b=some o→b≠s.heap.objs.size:=λ b o q=>Nat.ne_of_lt (Heap.lt_size q);have nH:∀ b u,H b=some u→b≠s.heap.objs.size:=λ b u q z=>by rw [z,hT] at q;cases q
      suffices J:Inv X pins σ (upd H s.heap.objs.size (.tup [.int (i:Nat),x])) { s with heap:=h'',gens:=s.gens,drawn:=s.drawn,toks:=s.toks + 1 } from J
      refine I.step (g':=s.gens) (d':=s.drawn) (t':=s.toks + 1) (ch:=[e,it]) (λ b hb=>?_) (λ b o _ _ hc' q _=>old' b o hc' q) (λ b o _ _ hc' q _=>⟨o.slots,old' b o hc' q⟩) (λ b o _ q n=>by rw [upd_ne (nT b o q)];exact n)
        (λ b o hc' q=>⟨o,old' b o hc' q⟩) (λ b xs' q=>by rw [upd_ne (nH b _ q)];exact q) (λ b o u' q=>by rw [upd_ne (nH b _ q)];exact q) (λ b ps q=>⟨#[],by rw [upd_ne (nH b _ q),q];simp⟩) (λ m hm=>?_) (λ b u' q=>?_) I.bare
      · obtain ⟨_,f1,_,f3,f4,f5⟩:=hf b hb;exact ⟨f3,f1,f4,f5⟩
      · obtain ⟨o,es',ep,ho,r⟩:=hm;exact ⟨o,es',ep,old' _ o (λ q=>(hf _ q).2.1 rfl) ho,r⟩
      · by_cases hb:b=s.heap.objs.size
        · subst hb;rw [upd_same] at q;cases q;exact new
        · rw [upd_ne hb] at q;refine (I.hok b u' q).stay (λ c v' hc' z=>old' c v' ?_ z) (λ c z=>by rw [upd_ne (nH c _ z)];exact z) λ c xs' z=>by rw [upd_ne (nH c _ z)];exact z
          rcases hc' with z | z
          · rw [z];exact nit b u' q
          · exact nit c _ z
    · have hb':b≠s.heap.objs.size:=by
        intro q;rw [q] at hb;simp only [List.mem_cons,List.not_mem_nil,or_false] at hb;obtain ⟨_,l4,_⟩:=h1;rcases hb with q | q
        · exact Nat.ne_of_gt (Heap.lt_size he) q
        · exact Nat.ne_of_gt (Heap.lt_size l4) q
      rw [upd_ne hb'];exact (hf b hb).1
  done:=by
    intro X hP hw hK hc i pins s σ H E I hf st hg;subst hP hw hK;obtain ⟨⟨old,he⟩,h1⟩:=st;obtain ⟨xs,qa,hend⟩:=hg;obtain ⟨its,rv,pl,hzl⟩:=I.list qa;have la:=rv.length;refine wpAny_pyNext_enum_end (I.ok.hd hc) he h1 pl.isList (by rw [List.getElem?_toArray];exact List.getElem?_eq_none (by omega)) λ h' hk=>⟨rfl,?_⟩;refine I.turnedL (t':=s.toks) (its:=[e,it]) (λ b o hb q=>hk b o ?_ q) hf;simp only [List.mem_cons,List.not_mem_nil,or_false,not_or] at hb;exact hb.2
  self:=λ _ _ _ _ _ st h=>by
    obtain ⟨⟨old,he⟩,_⟩:=st;exact wpAny_pyIter_enum he h
section
variable {X:Cx}
noncomputable def iEnum (K:PySem.W.Frag) (ta:TA):TI:=λ σ H R=>ta σ H λ vs H1=>∃ a,vs=[.ref a]∧(∃ xs,SqL K H1 a xs)∧R (Ite K a) H1
theorem pi_enum {es:List Expr} {k:Nat} {tp:Pos} {a:Expr} {ta:TA} {p pos:Pos} (hg:Gl X "enumerate") (hm:X.mg "enumerate"=none) (ha:PA X [a] ta) (hs:starEach [a] X.env=[(false,eval a X.env)]:=by rfl):PI X (.Tuple es k tp) (.Call (.Name "enumerate" p) [a] [] pos) (iEnum X.K ta):=by
  intro pins s σ H R I h;refine Call_ (ld_blt I hg hm PyProof.Rows.Boot.«enumerate» (PyProof.Rows.callWith_type1 (thn (ha pos pins s σ H _ I h) λ us s1 ⟨vs,H1,I1,r1,q1⟩=>?_) hs rfl));obtain ⟨a,e,⟨xs,qa⟩,q⟩:=q1;subst e;obtain ⟨u,rfl,ru⟩:=vals1 r1;cases ru;obtain ⟨its,rv,pl,hzl⟩:=I1.list qa;refine call_enumerate_list pl.isList λ h' he hit hsz hk=>wpAny_pyIter_enum he ?_;have I2:Inv X pins σ H1 { s1 with heap:=h' }:=I1.kept (t':=s1.toks) hk;refine ⟨s1.heap.objs.size + 1,[s1.heap.objs.size + 1,s1.heap.objs.size],_,_,H1,rfl,I2,turn_enum a (Nat.ne_of_gt (Nat.lt_succ_self _)),⟨⟨_,he⟩,hit⟩,λ c hc=>?_,q⟩;have hge:s1.heap.objs.size≤c:=by
    simp only [List.mem_cons,List.not_mem_nil,or_false] at hc;rcases hc with rfl | rfl
    · exact Nat.le_succ _
    · exact Nat.le_refl _
  exact I1.fpOk hge (I1.hok.fresh hge)
end
theorem yields_enum {K:PySem.W.Frag} {a:Addr} (xs:List V):Yields (Ite K a) xs.length (λ H=>SqL K H a xs) (λ i v H H'=>∃ T x,H T=none∧v = .ref T∧H'=upd H T (.tup [.int (i:Nat),x])∧xs[i]?=some x) where
  go:=λ i H hi q=>⟨xs,xs[i],q,by simp [hi]⟩
  yld:=λ i H x H' hi q y=>by
    obtain ⟨T,x',hT,e1,e2,y1⟩:=y;exact ⟨T,x',hT,e1,e2,y1 xs q⟩
  stop:=λ H q=>⟨xs,q,Nat.le_refl _⟩
end L2
namespace L2
open PySem PySem.Spec PyProof.Rows
section
variable {X:Cx}
theorem pick_rev (its:Array Value):slicePick its none none (some (-1))=its.reverse:=by
  unfold slicePick;have e:sliceBounds none none (some (-1)) its.size=((its.size:Int) - 1,-1,-1):=rfl;rw [e];dsimp only;apply Array.toList_inj.mp;have er:sliceRange ((its.size:Int) - 1) (-1) (-1)=(List.range its.size).map λ k=>its.size - 1 - k:=by
    unfold sliceRange;dsimp only;rw [if_neg (by decide)]
    by_cases h0:its.size=0
    · rw [if_neg (by omega),h0];rfl
    · rw [if_pos (by omega)];have:(((its.size:Int) - 1 - -1 - -1 - 1) / - -1).toNat=its.size:=by
        rw [show (- -1:Int)=1 by decide,Int.ediv_one];omega
      rw [this];refine List.map_congr_left λ k hk=>?_;rw [List.mem_range] at hk;omega
  rw [er,List.filterMap_map];apply List.ext_getElem?;intro i;have key:(List.range its.size).filterMap ((λ j=>its[j]?) ∘ λ k=>its.size - 1 - k)=(List.range its.size).map λ k=>its.getD (its.size - 1 - k) .none:=by
    have gen:∀ l:List Nat,(∀ k∈l,k < its.size)→l.filterMap ((λ j=>its[j]?) ∘ λ k=>its.size - 1 - k)=l.map λ k=>its.getD (its.size - 1 - k) .none:=by
      intro l
      induction l with
      | nil=>intro _;rfl
      | cons k l ih =>
        intro hl;have hk:=hl k (List.mem_cons_self ..);have hb:its.size - 1 - k < its.size:=by omega
        rw [List.filterMap_cons_some (b:=its.getD (its.size - 1 - k) .none) (by simp [Array.getD,hb]),ih λ z hz=>hl z (List.mem_cons_of_mem _ hz),List.map_cons]
    exact gen _ λ k hk=>List.mem_range.mp hk
  rw [key,List.getElem?_map]
  by_cases hi:i < its.size
  · rw [List.getElem?_range hi];have hb:its.size - 1 - i < its.size:=by omega
    simp [hi,Array.getD,hb]
  · rw [List.getElem?_eq_none (by simpa using hi),List.getElem?_eq_none (by simpa using hi)];rfl
noncomputable def tRev (K:PySem.W.Frag) (te ts:TE):TE:=λ σ H Q=>te σ H λ x H1=>ts σ H1 λ y H2=>∃ a xs,x = .ref a∧y = .int (-1)∧SqL K H2 a xs∧∀ p,H2 p=none→Q (.ref p) (upd H2 p (.lst xs.reverse))
theorem vals_rev:∀ {xs:List V} {us:List Value},Vals xs us→Vals xs.reverse us.reverse
  | _,_,.nil=>.nil
  | _,_,.cons r t=>by
    rw [List.reverse_cons,List.reverse_cons];exact (vals_rev t).append (.cons r .nil)
theorem pe_rev {e st:Expr} {te ts:TE} {p2 pos:Pos} (he:PE X e te) (hs:PE X st ts):PE X (.Subscript e (.Slice none none (some st) p2) pos) (tRev X.K te ts):=by
  intro pins s σ H Q I h;refine Subscript_ (thn (he pins s σ H _ I h) λ v s1 ⟨x,H1,I1,r1,q1⟩=>?_);refine wpAny_Slice ?_;rw [evalPart_none];refine wpAny_pure ?_;rw [evalPart_some];refine wpAny_pure (thn (hs pins s1 σ H1 _ I1 q1) λ vs s3 ⟨y,H3,I3,r3,q3⟩=>?_);obtain ⟨a,xs,rfl,rfl,hq,q⟩:=q3;cases r1;obtain ⟨t,rfl⟩:=r3;have I4:Inv X pins σ H3 { s3 with heap:=s3.heap.push { cls:=.type "slice",data:=.fields #[.none,.none,.int (-1) t] } }:=I3.kept (t':=s3.toks) λ b ob q=>Heap.get?_push_of_some _ q;obtain ⟨its,r,pl,hz⟩:=I4.list hq;have hlen:=r.length;show wpAny (model X.prog X.w) X.A (subscriptTail e (.Slice none none (some st) p2) (.ref a) (.ref s3.heap.objs.size)) (EP X pins σ Q) X.xe { s3 with heap:=s3.heap.push { cls:=.type "slice",data:=.fields #[.none,.none,.int (-1) t] } };refine tail_any (ops:=[.ref a,.ref s3.heap.objs.size]) pl.isList.typeIs slot_list_getitem.lookup ?_ (by with_unfolding_all rfl);refine wpAny_getItem_list_slice pl.isList (Heap.IsSliceOf.new ..) .none .none (.int (-1) t) (by simp) ?_ (by rw [List.size_toArray]<;>omega);rw [pick_rev];have z1:xs.reverse.length≤sizeLine:=by rw [List.length_reverse];exact hz
  refine ⟨.ref _,_,I4.laid (o:=.lst xs.reverse) (t':=s3.toks) (λ b ob q=>Heap.get?_push_of_some _ q) (Nat.le_refl _) ⟨z1,its.reverse,0,vals_rev r,?_⟩,rfl,q _ (I4.hok.fresh (Nat.le_refl _))⟩;rw [show its.reverse.toArray=its.toArray.reverse by simp];exact Heap.get?_push_size _ rfl
end
end L2
namespace L2
open PySem PySem.Spec PyProof.Rows
noncomputable def rLenS (K:PySem.W.Frag):List V→Hp→VK→Prop:=λ xs H Q=>∃ p ys,xs=[.ref p]∧(SqL K H p ys∨SqT K H p ys)∧Q (.int ys.length) H
theorem call_lenK {X:Cx} {K:PySem.W.Frag} (hK:X.K=K:=by rfl):CallR X (.builtin "len") (rLenS K):=hK ▸ call_len_seq
end L2
namespace Sp
open PySem L2
seal PE PA PS PSs PT PG PGs PI PW PTs
noncomputable def risesB (ns:List Int):Bool:=(List.range (ns.length - 1)).all λ j=>decide (ns.getD j 0 < ns.getD (j + 1) 0)
theorem getD_at {ns:List Int} {j:Nat} (h:j < ns.length):ns.getD j 0=ns[j]:=by simp [List.getD,h]
theorem rises_iff (ns:List Int):risesB ns=true↔ns.Pairwise (· < ·):=by
  unfold risesB;rw [List.all_eq_true];constructor
  · intro h;have key:∀ (d i:Nat),i + d + 1 < ns.length→ns.getD i 0 < ns.getD (i + d + 1) 0:=by
      intro d
      induction d with
      | zero =>
        intro i hi;have:=h i (List.mem_range.mpr (by omega));simpa using this
      | succ d ih =>
        intro i hi;have h1:=ih i (by omega);have h2:=h (i + d + 1) (List.mem_range.mpr (by omega));rw [decide_eq_true_eq] at h2;rw [show i + (d + 1) + 1=i + d + 1 + 1 by omega];omega
    refine List.pairwise_iff_getElem.mpr λ i j hi hj hij=>?_;have:=key (j - i - 1) i (by omega);rw [show i + (j - i - 1) + 1=j by omega,getD_at hi,getD_at hj] at this;exact this
  · intro h j hj;rw [List.mem_range] at hj;rw [decide_eq_true_eq,getD_at (by omega),getD_at (by omega)];exact List.pairwise_iff_getElem.mp h j (j + 1) (by omega) (by omega) (by omega)
theorem range_getD {α:Type} (l:List α) (d:α):(List.range l.length).map (λ j=>l.getD j d)=l:=by
  apply List.ext_getElem
  · simp
  · intro i h1 h2;simp [List.getD,h2]
theorem all_range (ns:List Int) (p:Int→Bool):((List.range ns.length).map λ j=>p (ns.getD j 0)).all id=ns.all p:=by
  have e:((List.range ns.length).map λ j=>p (ns.getD j 0))=ns.map p:=by
    conv=>rhs;rw [← range_getD ns 0]
    rw [List.map_map];rfl
  rw [e,List.all_map];rfl
theorem cut_tail (xs:List V):cutV xs (some 1) none=xs.drop 1:=by
  unfold cutV;rw [show HT.sIx xs.length 0 (some 1)=min 1 xs.length from HT.sIx_nat _ _ 1,HT.sIx_none]
  by_cases h:xs.length=0
  · have:xs=[]:=List.length_eq_zero_iff.mp h;subst this;rfl
  · rw [Nat.min_eq_left (by omega),List.take_of_length_le (by rw [List.length_drop];omega)]
section
variable {P:Program} {w:World} {K:PySem.W.Frag} {mg:Str→Option Value} {base:Heap}
theorem int_at {ns:List Int} {i:Nat} {x:V} (h:(ns.map V.int)[i]?=some x):i < ns.length∧x = .int (ns.getD i 0):=by
  rw [List.getElem?_map] at h;cases e:ns[i]? with
  | none=>rw [e] at h;cases h
  | some n =>
    rw [e] at h;cases h;have hi:=(List.getElem?_eq_some_iff.mp e).1;refine ⟨hi,?_⟩;rw [getD_at hi,(List.getElem?_eq_some_iff.mp e).2]
noncomputable def choiceB (ns:List Int) (n:Nat):Bool:=(ns.all λ c=>decide (0≤c) && decide (c < (n:Int))) && risesB ns
end
end Sp
set_option maxHeartbeats 400000
namespace L2
open PySem PySem.Spec PyProof.Rows
section
variable {X:Cx} {pins:List (Addr×Obj)} {σ:St} {H:Hp} {s:Shared}
theorem Inv.track {a:Addr} {o:HO} (I:Inv X pins σ H s) (F:FpOk X pins H a) (new:ObjOk X.prog X.w (upd H a o) s.heap a o):Inv X pins σ (upd H a o) s:=by
  obtain ⟨hn,hL,_,h1,h2,h3⟩:=F;have nb:∀ b u,H b=some u→b≠a:=λ b u e z=>by rw [z,hn] at e;cases e
  refine I.step (h':=s.heap) (g':=s.gens) (d':=s.drawn) (t':=s.toks) (ch:=[a]) (λ b hb=>?_) (λ b o _ _ _ e _=>e) (λ b o _ _ _ e _=>⟨o.slots,e⟩) (λ b u hb e n=>?_) (λ b o _ e=>⟨o,e⟩)
    (λ b xs e=>by rw [upd_ne (nb b _ e)];exact e) (λ b o u e=>by rw [upd_ne (nb b _ e)];exact e) (λ b ps e=>⟨#[],by rw [upd_ne (nb b _ e),e];simp⟩) (λ m hm=>hm) (λ b u e=>?_) I.bare
  · have e:b=a:=by simpa using hb
    subst e;exact ⟨h1,hL,h2,h3⟩
  · rw [upd_ne λ z=>hb (by simp [z])];exact n
  · by_cases hb:b=a
    · subst hb;rw [upd_same] at e;cases e;exact new
    · rw [upd_ne hb] at e;exact (I.hok b u e).stay (λ _ _ _ q=>q) (λ c q=>by rw [upd_ne (nb c _ q)];exact q) λ c xs q=>by rw [upd_ne (nb c _ q)];exact q
theorem Inv.grown {P:Addr} {ps more:Array Value} {h':Heap} {t':Nat} (I:Inv X pins σ H s) (hP:H P=some (.tbl ps)) (hx:Heap.ExtBut P s.heap h') (hp:h'.get? P=some { cls:=.none,data:=.fields (ps ++ more) }) :
    Inv X pins σ (upd H P (.tbl (ps ++ more))) { s with heap:=h',toks:=t' }:=by
  have nb:∀ b,H b=none→b≠P:=λ b n z=>by rw [z,hP] at n;cases n
  have nu:∀ b u,H b=some u→u≠.tbl ps→b≠P:=λ b u e d z=>by rw [z,hP] at e;cases e;exact d rfl
  refine I.step (g':=s.gens) (d':=s.drawn) (ch:=[]) (λ _ z=>nomatch z) (λ b o _ _ _ e n=>hx b o (nb b n) e) (λ b o _ _ _ e n=>⟨o.slots,hx b o (nb b n) e⟩) (λ b o _ e n=>by rw [upd_ne (nb b n)];exact n) (λ b o _ e=>?_)
    (λ b xs e=>by rw [upd_ne (nu b _ e (by simp))];exact e) (λ b o u e=>by rw [upd_ne (nu b _ e (by simp))];exact e) (λ b qs e=>?_) (λ m hm=>?_) (λ b u e=>?_) I.bare
  · by_cases hb:b=P
    · rw [hb];exact ⟨_,hp⟩
    · exact ⟨o,hx b o hb e⟩
  · by_cases hb:b=P
    · subst hb;rw [hP] at e;cases e;exact ⟨more,upd_same⟩
    · exact ⟨#[],by rw [upd_ne hb,e];simp⟩
  · obtain ⟨o,es,ep,ho,r⟩:=hm;exact ⟨o,es,ep,hx _ o (nb _ I.free) ho,r⟩
  · by_cases hb:b=P
    · subst hb;rw [upd_same] at e;cases e;exact hp
    · rw [upd_ne hb] at e;refine (I.hok b u e).stay (λ c v hc q=>hx c v ?_ q) (λ c q=>by rw [upd_ne (nu c _ q (by simp))];exact q) λ c xs q=>by rw [upd_ne (nu c _ q (by simp))];exact q
      rcases hc with z | z
      · rw [z];exact hb
      · exact nu c _ z (by simp)
end
noncomputable def CodeIs (H:Hp) (c:Addr) (qual:Str):Prop:=∃ oc vs t,H c=some (.frz oc (.own c))∧oc.data = .fields vs∧vs[1]?=some (.str qual t)
noncomputable def TabIs (H:Hp) (P:Addr) (pos:Pos) (qual:Str):Prop:=H P=some (.tbl #[])∨∃ c,H P=some (.tbl #[rawInt pos.line,rawInt pos.col,.ref c])∧CodeIs H c qual
noncomputable def LamIs (H:Hp) (f:Addr) (qual:Str) (params:Arguments) (body:Expr) (scope:Scope):Prop :=
  ∃ pm c ctv,H f=some (.frz (PySem.W.kla_obj "<lambda>" qual params body scope [] pm c ctv) (.own f))∧CodeIs H c qual
structure CodeTab (K:PySem.W.Frag) (mg:Str→Option Value) (base:Heap) (c P:Addr):Prop where
  hd:∀ h:Heap,K.In h→PySem.W.CodeHd h c P
  bm:base.BuiltinsAt mg P
noncomputable def SameT (P:Addr) (H H':Hp):Prop:=∀ b o,b≠P→H b=some o→H' b=some o
theorem CodeIs.same {P c:Addr} {qual:Str} {H H':Hp} (x:CodeIs H c qual) (k:SameT P H H') (hP:∃ ps,H P=some (.tbl ps)):CodeIs H' c qual:=by
  obtain ⟨oc,vs,t,e,r⟩:=x;obtain ⟨ps,q⟩:=hP;exact ⟨oc,vs,t,k c _ (λ z=>by rw [z,q] at e;cases e) e,r⟩
noncomputable def tLam (P:Addr) (pos:Pos) (qual:Str) (params:Arguments) (body:Expr) (scope:Scope):TE:=λ σ H Q=>TabIs H P pos qual ∧
  ∀ f H1,TabIs H1 P pos qual→SameT P H H1→LamIs H1 f qual params body scope→Q (.ref f) H1
section
variable {X:Cx}
theorem pe_lam {c P:Addr} {params:Arguments} {body:Expr} {scope:Scope} {pos:Pos} (hcode:X.env.code = .ref c) (T:CodeTab X.K X.mg X.base c P) (hdef:defaultsOf params X.env=([],[]):=by rfl) (hcl:closureFor scope X.env=pure []:=by rfl) :
    PE X (.Lambda params body scope pos) (tLam P pos (X.env.qual ++ "<lambda>") params body scope):=by
  intro pins s σ H Q I ⟨hT,q⟩;refine PySem.W.kla_eval hdef ?_;have hgs:s.heap.Ns mainGlobals X.mg:=I.mod.glob.keeps I.bk;have hgP:∀ ps,s.heap.get? P=some (PySem.W.tabObj ps)→mainGlobals≠P:=λ ps e z=>by
    obtain ⟨o,es,ep,e2,hd,_⟩:=hgs;rw [z,e] at e2;cases e2;cases hd
  rcases hT with hP | ⟨c',hP,hc'⟩
  · have hp:s.heap.get? P=some (PySem.W.tabObj #[]):=I.hok P _ hP;refine PySem.W.kla_makeFunction (mg:=X.mg) hcl I.ok.glob hgs hcode (T.hd _ I.kIn) hp trivial rfl (hgP _ hp) (T.bm.keeps I.bk) λ c' ctv h' tk hx hge hlt hrec htb=>?_;have I1:=I.grown (ps:=#[]) (more:=#[rawInt pos.line,rawInt pos.col,.ref c']) (t':=tk) hP hx htb;have cP:c'≠P:=λ z=>by
      have:=Heap.lt_size hp;rw [← z] at this;exact absurd (Nat.lt_of_lt_of_le this hge) (Nat.lt_irrefl _)
    have n1:upd H P (.tbl (#[] ++ #[rawInt pos.line,rawInt pos.col,.ref c'])) c'=none:=by rw [upd_ne cP];exact I.hok.fresh hge
    obtain ⟨c₂,oc,vs,t,e2,hoc,hd,hv⟩:=hrec;cases e2;have I2:=I1.track (a:=c') (o:=.frz oc (.own c')) (I.fpOk hge n1) ⟨hoc,oc,hoc⟩;have I3:=I2.laid (a:=h'.objs.size) (o:=.frz (PySem.W.kla_obj "<lambda>" (X.env.qual ++ "<lambda>") params body scope [] ((X.mg "__name__").getD .none) c' ctv) (.own h'.objs.size)) (t':=tk) (λ b u e=>Heap.get?_push_of_some _ e) (Nat.le_refl _) ⟨Heap.get?_push_size _ rfl,_,Heap.get?_push_size _ rfl⟩;have f1:c'≠h'.objs.size:=Nat.ne_of_lt hlt;have f2:P≠h'.objs.size:=Nat.ne_of_lt (Heap.lt_size htb);have hC:CodeIs (upd (upd (upd H P (.tbl (#[] ++ #[rawInt pos.line,rawInt pos.col,.ref c']))) c' (.frz oc (.own c'))) h'.objs.size (.frz (PySem.W.kla_obj "<lambda>" (X.env.qual ++ "<lambda>") params body scope [] ((X.mg "__name__").getD .none) c' ctv) (.own h'.objs.size))) c' (X.env.qual ++ "<lambda>") :=
      ⟨oc,vs,t,by rw [upd_ne f1,upd_same],hd,hv⟩
    refine ⟨.ref h'.objs.size,_,I3,rfl,q _ _ (.inr ⟨c',?_,hC⟩) (λ b o hb e=>?_) ⟨_,c',ctv,upd_same,hC⟩⟩
    · rw [upd_ne f2,upd_ne cP.symm,upd_same];rfl
    · have l1:b < s.heap.objs.size:=I.hok.lt e;rw [upd_ne (Nat.ne_of_lt (Nat.lt_trans (Nat.lt_of_lt_of_le l1 hge) hlt)),upd_ne (Nat.ne_of_lt (Nat.lt_of_lt_of_le l1 hge)),upd_ne hb];exact e
  · have hp:s.heap.get? P=some (PySem.W.tabObj #[rawInt pos.line,rawInt pos.col,.ref c']):=I.hok P _ hP;refine PySem.W.kla_makeFunctionHit (mg:=X.mg) (cv:=.ref c') hcl I.ok.glob hgs hcode (T.hd _ I.kIn) hp (by simp [TriplesOk,rawInt]) (by simp [codeAmong,rawInt]) (T.bm.keeps I.bk) λ ctv h' tk hk hsz=>?_;have I3:=I.laid (h':=h'.push (PySem.W.kla_obj "<lambda>" (X.env.qual ++ "<lambda>") params body scope [] ((X.mg "__name__").getD .none) c' ctv)) (a:=h'.objs.size) (o:=.frz (PySem.W.kla_obj "<lambda>" (X.env.qual ++ "<lambda>") params body scope [] ((X.mg "__name__").getD .none) c' ctv) (.own h'.objs.size)) (t':=tk) (λ b u e=>Heap.get?_push_of_some _ (hk b u e)) hsz ⟨Heap.get?_push_size _ rfl,_,Heap.get?_push_size _ rfl⟩;have kp:∀ b o,H b=some o→upd H h'.objs.size (.frz (PySem.W.kla_obj "<lambda>" (X.env.qual ++ "<lambda>") params body scope [] ((X.mg "__name__").getD .none) c' ctv) (.own h'.objs.size)) b=some o:=λ b o e=>by
      rw [upd_ne (Nat.ne_of_lt (Nat.lt_of_lt_of_le (I.hok.lt e) hsz))];exact e
    have hC:CodeIs (upd H h'.objs.size (.frz (PySem.W.kla_obj "<lambda>" (X.env.qual ++ "<lambda>") params body scope [] ((X.mg "__name__").getD .none) c' ctv) (.own h'.objs.size))) c' (X.env.qual ++ "<lambda>"):=hc'.same (λ b o _ e=>kp b o e) ⟨_,hP⟩;exact ⟨.ref h'.objs.size,_,I3,rfl,q _ _ (.inr ⟨c',kp P _ hP,hC⟩) (λ b o _ e=>kp b o e) ⟨_,c',ctv,upd_same,hC⟩⟩
theorem lam_call {P:Program} {w:World} {K:PySem.W.Frag} {mg:Str→Option Value} {base:Heap} {k:Nat} {f:Addr} {qual x:Str} {params:Arguments} {body:Expr} {scope:Scope} {H:Hp} {A:Around} {outer:List Env} {s:Shared} {u:Value} {v:V} {Q:VK} {tb:TE}
    (hr:Room (k + 1) A) (e0:Env0 P w K mg base A outer s H) (L:LamIs H f qual params body scope) (S:FnScope [x] [x] scope) (r:RelV v u)
    (hb:∀ (pm cv ctv:Value),bindArgs (PySem.W.kla_fn "<lambda>" qual params body scope [] pm cv ctv) ⟨[u],[]⟩=pure [(x,u)])
    (hbody:∀ cdv:Value,PE (cxOf CX0 P w K mg base [x] qual scope f cdv A outer s H E0) body tb) (h:tb [some v] H Q) :
    codeAny (model P w) A (.call (.ref f) ⟨[u],[]⟩) (CR CX0 outer P w H s Q E0) s:=by
  obtain ⟨pm,c,ctv,hf,oc,vs,t,hc,hd,hv⟩:=L;have hfo:=(e0.hok f _ hf).1;have hco:=(e0.hok c _ hc).1;have KX:K.In s.heap:=e0.mod.kin.keeps λ b o e=>(e0.bs b o e).1;have lim:s.heap.NoLimit:=e0.mod.nolimit.keeps λ b o e=>(e0.bs b o e).1;have hkind:∀ y∈[(x,u)],scope.names.lookup y.1=some .local∨(scope.names.lookup y.1=some .cell∧((cellsFrom (s.heap.objs.size + 1) scope.names []).lookup y.1).isSome=true):=λ ⟨n,v⟩ hy=>by
    have e:n=x:=by simp at hy;exact hy.1
    subst e;rcases S.par n (by simp) with q | q
    · exact .inl q
    · exact .inr ⟨q,PySem.W.cellsFrom_some _ _ _ (.inl q)⟩
  refine PySem.W.kla_callFunE hr.depth hfo rfl S.co S.gen rfl ⟨c,oc,vs,t,rfl,hco,hd,hv⟩ ?_;rw [hb];refine wpAny_pure (wpAny_newFunctionEnv_cells S.kind hkind λ env he s1 x1=>?_);subst he;refine ⟨lim.keeps x1.toInCall.keep,PySem.W.kla_codeExpr ?_⟩;have I:Inv (cxOf CX0 P w K mg base [x] qual scope f (.ref c) A outer s H E0) [] (start [x] [v]) H s1:=inv_start (us:=[u]) S hr.hd e0 rfl (.cons r .nil) x1;refine wpAny_mono (hbody (.ref c) [] s1 (start [x] [v]) H Q I h) (λ u' s' hs=>?_) λ e s' hs=>hs;obtain ⟨v',H',J,rv,q⟩:=hs;exact ⟨v',H',J.os,J.bare,J.base,J.hok,rv,q⟩
end
end L2
set_option maxHeartbeats 1000000
namespace Mxd
open PySem PyProof.Rows
theorem nm:(toString "max" ++ toString ".loop":String) = "max.loop":=by decide
section
variable {prog:Program} {w:World} {A:Around} {R:Result→Shared→Prop} {I S:Addr} {fp wr:List Addr} {n:Nat} {P:Nat→Value→Prop} {St:Nat→Heap→Prop} {bt:Nat→Nat→Bool} {d:Value} {dn:Str}
noncomputable def two (vb:Value) (c:Nat):Obj:={ cls:=.type "list",dict:=none,data:=.seq #[vb,vb] c,slots:=#[] }
noncomputable def none' (c:Nat):Obj:={ cls:=.type "list",dict:=none,data:=.seq #[] c,slots:=#[] }
theorem go (W:Walks prog w A.in1 I fp wr n P St) (hq:CmpOf prog w A.in1 .Gt P bt) (hS:S∉fp):∀ (k j:Nat) (s:Shared) (vb:Value) (c:Nat),n - (j + 1)=k→j + 1≤n→St (j + 1) s.heap→P (argBest bt j) vb→s.heap.get? S=some (two vb c) →
    (∀ v h' tk,P (argBest bt (n - 1)) v→(∀ b o,b∉wr→b≠S→s.heap.get? b=some o→h'.get? b=some o)→R (.ok (.ret v)) { s with heap:=h',toks:=tk })→codeAny (model prog w) A (.builtin "max.loop" ⟨[.ref I,.none,.ref S],[(dn,d)]⟩) R s:=by
  have nw:S∉wr:=λ h=>hS (W.sub _ h);intro k
  induction k with
  | zero =>
    intro j s vb c e1 e2 st pb g r;have en:j + 1=n:=by omega
    refine (codeAny_builtin F.entry_max_loop) ?_;rw [(Around.under_plainId F.plain_max_loop _)];show wpAny (model prog w) A.in1 (seqItems? (.ref S) >>= _) _ _ s;refine wpAny_bind (wpAny_seqItems g (rfl) ?_);show wpAny (model prog w) A.in1 (tryCatch (pyNext (.ref I)) _ >>= _) _ _ s;refine wpAny_bind (wpAny_tryCatch (W.done s _ _ (by rw [← en];exact st) λ h1 tk1 k1=>?_));have g1:=k1 S _ nw g;show wpAny (model prog w) A.in1 (updateSeq S (λ _=>#[]) >>= _) _ _ _;refine wpAny_bind (wpAny_updateSeq g1 rfl (wpAny_bind (wpAny_letGo (wpAny_pure ?_))));exact r vb _ tk1 (by rw [← en];exact pb) λ b o n1 n2 e=>(Heap.get?_update_other _ _ n2.symm).trans (k1 b o n1 e)
  | succ k ih =>
    intro j s vb c e1 e2 st pb g r;have lt:j + 1 < n:=by omega
    refine (codeAny_builtin F.entry_max_loop) ?_;rw [(Around.under_plainId F.plain_max_loop _)];show wpAny (model prog w) A.in1 (seqItems? (.ref S) >>= _) _ _ s;refine wpAny_bind (wpAny_seqItems g (rfl) ?_);show wpAny (model prog w) A.in1 (tryCatch (pyNext (.ref I)) _ >>= _) _ _ s;refine wpAny_bind (wpAny_tryCatch (W.item (j + 1) s _ _ lt st λ v h1 tk1 pv st1 k1=>?_));have g1:=k1 S _ nw g;show wpAny (model prog w) A.in1 (tryCatch (holding [v,v] (richCompare .Gt v vb >>= _)) _ >>= _) _ _ _;refine wpAny_bind (wpAny_tryCatch (wpAny_holding (wpAny_bind (hq (j + 1) (argBest bt j) v vb _ _ _ pv pb (wpAny_bind (wpAny_holding (wpAny_truthy_bool (wpAny_bind (wpAny_letGo (wpAny_pure ?_))))))))));cases hb:bt (j + 1) (argBest bt j) with
    | true =>
      rw [if_pos rfl];refine wpAny_bind (wpAny_updateSeq g1 rfl (wpAny_bind (wpAny_letGo ?_)));rw [nm];refine wpAny_pure ⟨plainId_quiet F.plain_max_loop _,ih (j + 1) _ v _ (by omega) lt (W.frame _ _ _ st1 λ b hbf o e=>?_) (by simp only [argBest,hb];exact pv) (Heap.get?_update_self _ g1 rfl) λ v' h2 tk2 pv' k2=>r v' h2 tk2 pv' λ b o n1 n2 e=>k2 b o n1 n2 ((Heap.get?_update_other _ _ n2.symm).trans (k1 b o n1 e))⟩;exact (Heap.get?_update_other _ _ λ z:S=b=>hS (by rw [z];exact hbf)).trans e
    | false =>
      rw [if_neg Bool.false_ne_true];refine wpAny_bind (wpAny_letGo ?_);rw [nm];exact wpAny_pure ⟨plainId_quiet F.plain_max_loop _,ih (j + 1) _ vb c (by omega) lt st1 (by simp only [argBest,hb];exact pb) g1 λ v' h2 tk2 pv' k2=>r v' h2 tk2 pv' λ b o n1 n2 e=>k2 b o n1 n2 (k1 b o n1 e)⟩
theorem first (W:Walks prog w A.in1 I fp wr n P St) (hq:CmpOf prog w A.in1 .Gt P bt) (hS:S∉fp) {s:Shared} {c:Nat} (st:St 0 s.heap) (g:s.heap.get? S=some (none' c)) (r0:n=0→∀ h' tk,(∀ b o,b∉wr→b≠S→s.heap.get? b=some o→h'.get? b=some o)→R (.ok (.ret d)) { s with heap:=h',toks:=tk })
    (r:0 < n→∀ v h' tk,P (argBest bt (n - 1)) v→(∀ b o,b∉wr→b≠S→s.heap.get? b=some o→h'.get? b=some o)→R (.ok (.ret v)) { s with heap:=h',toks:=tk }):codeAny (model prog w) A (.builtin "max.loop" ⟨[.ref I,.none,.ref S],[(dn,d)]⟩) R s:=by
  have nw:S∉wr:=λ h=>hS (W.sub _ h);refine (codeAny_builtin F.entry_max_loop) ?_;rw [(Around.under_plainId F.plain_max_loop _)];show wpAny (model prog w) A.in1 (seqItems? (.ref S) >>= _) _ _ s;refine wpAny_bind (wpAny_seqItems g (rfl) ?_);show wpAny (model prog w) A.in1 (tryCatch (pyNext (.ref I)) _ >>= _) _ _ s
  by_cases z:n=0
  · subst z;refine wpAny_bind (wpAny_tryCatch (W.done s _ _ st λ h1 tk1 k1=>?_));exact wpAny_bind (wpAny_rule (wpAny_pure (r0 rfl h1 tk1 λ b o n1 _ e=>k1 b o n1 e)))
  · have n0:0 < n:=by omega
    refine wpAny_bind (wpAny_tryCatch (W.item 0 s _ _ n0 st λ v h1 tk1 pv st1 k1=>?_));have g1:=k1 S _ nw g;show wpAny (model prog w) A.in1 (updateSeq S (λ _=>#[v,v]) >>= _) _ _ _;refine wpAny_bind (wpAny_updateSeq g1 rfl ?_);rw [nm];refine wpAny_pure ⟨plainId_quiet F.plain_max_loop _,go W hq hS _ 0 _ v _ rfl n0 (W.frame _ _ _ st1 λ b hbf o e=>?_) pv (Heap.get?_update_self _ g1 rfl) λ v' h2 tk2 pv' k2=>r n0 v' h2 tk2 pv' λ b o n1 n2 e=>k2 b o n1 n2 ((Heap.get?_update_other _ _ n2.symm).trans (k1 b o n1 e))⟩;exact (Heap.get?_update_other _ _ λ z:S=b=>hS (by rw [z];exact hbf)).trans e
end
theorem args_d (a d:Value):argsOk "max" ⟨[a],[(Str.ofString "default",d)]⟩:=by unfold argsOk;kernel_rfl
section
variable {prog:Program} {w:World} {A:Around} {E:Value→Shared→Prop} {s:Shared} {l:Addr} {xs:Array (Int×Tok)}
theorem call_maxd {d:Value} {Q:Value→Shared→Prop} (hh:A.handled=none) (hl:s.heap.IsList l (intItems xs)) (r0:xs.size=0→∀ h' tk,(∀ b o,s.heap.get? b=some o→h'.get? b=some o)→Q d { s with heap:=h',toks:=tk })
    (r:0 < xs.size→∀ v h' tk,(intItems xs)[argBest (λ i j=>decide (numAt xs i > numAt xs j)) (xs.size - 1)]?=some v→(∀ b o,s.heap.get? b=some o→h'.get? b=some o)→Q v { s with heap:=h',toks:=tk }) :
    wpAny (model prog w) A (call (.builtin "max") [.ref l] [(Str.ofString "default",d)]) Q E s:=by
  refine kmb_tree F.kind_max F.plain_max F.entry_max (args_d _ _) ?_;show wpAny (model prog w) A.in1 (Builtin.Builtins.bindParams "max" ["key","default"] 0 ⟨[],[(Str.ofString "default",d)]⟩ >>= _) _ _ s;refine wpAny_bind (wpAny_of_eq (show Builtin.Builtins.bindParams "max" ["key","default"] 0 ⟨[],[(Str.ofString "default",d)]⟩=pure [none,some d] from by kernel_rfl) ?_);refine wpAny_bind (wpAny_pure ?_);refine wpAny_bind (iter_intList hl λ s2 e st hfp hlI=>?_);subst e;refine wpAny_bind (wpAny_newObj_type ?_);rw [nm];have hSf:=λ hm=>Nat.lt_irrefl _ (hfp _ hm);refine wpAny_pure ⟨plainId_quiet F.plain_max_loop _,?_⟩;have W:=Walks.list (prog:=prog) (w:=w) (A:=A.in1) hh s.heap.objs.size l hlI (intItems xs);refine first W (CmpOf.ints_gt (numAt xs) (λ _ _=>intItems_at)) hSf (W.frame _ _ _ st λ b _ o e=>Heap.get?_push_of_some _ e) (Heap.get?_push_size _ rfl) (λ z h' tk k=>?_) λ z v h' tk pv k=>?_
  · refine r0 (by simpa [intItems] using z) h' tk (old_kept λ b o n1 e=>k b o n1 ?_ (Heap.get?_push_of_some _ e));exact Nat.ne_of_lt (Heap.lt_size e)
  · refine r (by simpa [intItems] using z) v h' tk (by simpa [intItems] using pv) (old_kept λ b o n1 e=>k b o n1 ?_ (Heap.get?_push_of_some _ e));exact Nat.ne_of_lt (Heap.lt_size e)
end
end Mxd
set_option maxHeartbeats 400000
namespace L2
open PySem PySem.Spec PyProof.Rows
section
variable {X:Cx}
noncomputable def CallKR (X:Cx) (f:Value) (ks:List Str) (r:List V→List V→Hp→VK→Prop):Prop :=
  ∀ (pins:List (Addr×Obj)) (s:Shared) (σ:St) (H:Hp) (xs zs:List V) (us ws:List Value) (Q:VK),Inv X pins σ H s→Vals xs us→Vals zs ws→r xs zs H Q→wpAny (model X.prog X.w) X.A (call f us (ks.zip ws)) (EP X pins σ Q) X.xe s
theorem call_maxD (hc:X.calm=true):CallKR X (.builtin "max") [Str.ofString "default"] (λ xs zs H Q=>∃ (p:Addr) (ns:List Int) (d:V),xs=[.ref p]∧zs=[d]∧SqL X.K H p (ns.map V.int)∧(ns=[]→Q d H)∧(∀ m∈ns,(∀ a∈ns,a≤m)→Q (.int m) H)):=by
  intro pins s σ H xs zs us ws Q I r rz h;obtain ⟨p,ns,d,rfl,rfl,hq,q0,q⟩:=h;obtain ⟨u,rfl,rx⟩:=vals1 r;obtain ⟨dv,rfl,rd⟩:=vals1 rz;cases rx;obtain ⟨its,rv,pl,hz⟩:=I.list hq;have hi:IntsAre its ns:=intsAre_of rv;obtain ⟨ys,hx⟩:=hi.allInts.items;have hl':s.heap.IsList p (intItems ys):=hx ▸ pl.isList;have e1:ns=ys.toList.map (·.1):=by
    rw [← nums_intItems,← hx];exact (show numsOf its.toArray.toList=ns from hi.numsOf).symm
  refine Mxd.call_maxd (I.ok.hd hc) hl' (λ z h' tk hk=>?_) λ hsz v h' tk hv hk=>?_
  · exact ⟨d,H,I.kept hk,rd,q0 (by rw [e1];simp at z;simp [z])⟩
  · obtain ⟨t,rfl⟩:=intItems_at hv;obtain ⟨h1,h2⟩:=argBest_gt (numAt ys) (ys.size - 1);refine ⟨.int _,H,I.kept hk,⟨_,rfl⟩,q _ ?_ λ a ha=>?_⟩
    · rw [e1,numAt_eq];exact getD_mem (by rw [List.length_map,Array.length_toList];omega)
    · rw [e1] at ha;obtain ⟨j,hj,rfl⟩:=mem_getD ha;rw [List.length_map,Array.length_toList] at hj;rw [← numAt_eq];exact h2 j (by omega)
noncomputable def tCBK (r:List V→List V→Hp→VK→Prop) (t tk:TA):TE:=λ σ H Q=>t σ H λ vs H1=>tk σ H1 λ zs H2=>r vs zs H2 Q
theorem pe_callBK {id:String} {ks:List Str} {r:List V→List V→Hp→VK→Prop} {x:Str} {e:Expr} {es:List Expr} {kws:List Keyword} {t tk:TA} {p pos:Pos} (hc:CallKR X (.builtin id) ks r) (hg:Gl X x) (hm:X.mg x=none) (hv:bootBuiltins x=some (.builtin id)) (ha:PA X (e :: es) t) (hkw:PK X kws tk)
    (hn:x≠"__name__":=by decide) (hdb:(x == ("__debug__":Str))=false:=by decide) (hks:(backToKw pos (keywordEach kws X.env)).filterMap (·.1)=ks:=by rfl) (he:backTo pos (starEach (e :: es) X.env)=(false,eval e X.env) :: backTo pos (starEach es X.env):=by rfl)
    (hpl:(backTo pos (starEach (e :: es) X.env)).any (·.1)=false:=by rfl) (hall:(backToKw pos (keywordEach kws X.env)).all (·.1.isSome)=true:=by rfl) (hno:(backToKw pos (keywordEach kws X.env)).any (·.1.isNone)=false:=by rfl):PE X (.Call (.Name x p) (e :: es) kws pos) (tCBK r t tk):=by
  intro pins s σ H Q I h;refine wpAny_Call_Name_kw (ld_blt I hg hm hv ?_ hn hdb);refine PyProof.Rows.callWith_kw (thn (ha pos pins s σ H _ I h) λ us s1 ⟨vs,H1,I1,r1,q1⟩=>thn (hkw pos pins s1 σ H1 _ I1 q1) λ ws s2 ⟨zs,H2,I2,r2,q2⟩=>?_) he hpl hall hno;rw [hks];exact hc pins s2 σ H2 vs zs us ws Q I2 r1 r2 q2
end
end L2
namespace L2
open PySem PySem.Spec PyProof.Rows
section
variable {X:Cx} {pins:List (Addr×Obj)} {σ:St} {H:Hp} {s:Shared} {a kS:Addr} {o1 o2:Obj}
theorem Inv.pin2 (I:Inv X pins σ H s) (F1:FpOk X pins H kS) (F2:FpOk X pins H a) (g1:s.heap.get? kS=some o1) (g2:s.heap.get? a=some o2) (c1:∀ v,o1.data≠.cell v) (c2:∀ v,o2.data≠.cell v):Inv X (pins ++ [(kS,o1),(a,o2)]) σ H s:=by
  refine I.pins_of λ p hp=>?_;rcases List.mem_append.mp hp with hp | hp
  · exact I.pin p (List.mem_append_right _ hp)
  · rcases List.mem_cons.mp hp with rfl | hp
    · exact ⟨g1,F1.1,F1.2.1,F1.2.2.1,c1⟩
    · rw [List.mem_singleton.mp hp];exact ⟨g2,F2.1,F2.2.1,F2.2.2.1,c2⟩
theorem Inv.turn1 {h':Heap} {t':Nat} (I:Inv X pins σ H s) (F:FpOk X pins H a) (k:∀ b o,b≠a→s.heap.get? b=some o→h'.get? b=some o):Inv X pins σ H { s with heap:=h',toks:=t' } :=
  I.turned k F.1 F.2.1 F.2.2.2.1 F.2.2.2.2.1 F.2.2.2.2.2
theorem keyed_back {key:Addr→Int} {ps:List Addr} {us:List (Int×Value)} (hp:us.Perm ((ps.map key).zip (ps.map Value.ref))):∃ qs:List Addr,us=qs.map (λ a=>(key a,Value.ref a))∧qs.Perm ps:=by
  let back:Int×Value→Addr:=λ v=>match v.2 with | .ref a=>a | _=>0
  have ez:(ps.map key).zip (ps.map Value.ref)=ps.map λ a=>(key a,Value.ref a):=by
    rw [List.zip_map']
  rw [ez] at hp;have e:∀ l:List Addr,(l.map λ a=>(key a,Value.ref a)).map back=l:=λ l=>by rw [List.map_map];exact List.map_id'' (λ _=>rfl) l
  refine ⟨us.map back,?_,?_⟩
  · rw [List.map_map];have:us.map ((λ a=>(key a,Value.ref a)) ∘ back)=us.map id:=List.map_congr_left λ u hu=>by
      obtain ⟨a,_,rfl⟩:=List.mem_map.mp (hp.mem_iff.mp hu);rfl
    rw [this,List.map_id]
  · have:=hp.map back
    rwa [e] at this
variable {A:Around} {E:Value→Shared→Prop} {P:PySem.Fin→Shared→Prop} {b:Bool} {ps:List Addr} {key:Addr→Int} {keys:Array Value} {e e1:Nat}
theorem sk_tail {st:SortSt} (I:Inv X (pins ++ [(kS,seqObj "list" keys e),(a,seqObj "list" #[] e1)]) σ H s) (F1:FpOk X pins H kS) (F2:FpOk X pins H a) (hka:kS≠a) (hk:IntsAre keys.toList (ps.map key)) (hz:ps.length≤100000)
    (hp:(arrOf st).Perm (keys.zip (ps.map Value.ref).toArray)) (hs:SortedTo (arrOf st) (arrOf st).size) (hfl:failedOf st=none)
    (h:∀ (s':Shared) (qs:List Addr),qs.Perm ps→qs.Pairwise (λ x y=>if b then key y≤key x else key x≤key y)→Inv X pins σ (upd H a (.lst (qs.map V.ref))) s'→P (.done (.ret .none)) s') :
    wpAny (model X.prog X.w) A (ksk_tail a b e1 (.ref kS) st) P E s:=by
  have nk:=I.pin (kS,seqObj "list" keys e) (by simp);have na:=I.pin (a,seqObj "list" #[] e1) (by simp);have hl:keys.size=ps.length:=by
    have:=hk.length;rw [Array.length_toList,List.length_map] at this;exact this
  have KO:=ksk_out (b:=b) hk hp hs;obtain ⟨us,hu,ho,hP⟩:=KO;obtain ⟨qs,rfl,hq⟩:=keyed_back hu;have ho2:(if b then ((arrOf st).map (·.2)).reverse else (arrOf st).map (·.2))=(qs.map Value.ref).toArray:=by
    apply Array.toList_inj.mp;rw [ho,List.map_map];rfl
  have hP2:qs.Pairwise (λ x y=>if b then key y≤key x else key x≤key y):=List.pairwise_map.mp hP;have lq:=hq.length_eq;unfold ksk_tail;dsimp only;refine wpAny_bind (listUpdate_at nk.1 rfl ?_ (by rw [hl,sizeLine_eq];omega) (Nat.zero_le _));have I1:=I.unpinned.turn1 (t':=s.toks) F1 (h':=s.heap.update kS (Obj.mapSeq λ _=>(#[]:Array Value))) λ b o hb e=>by rw [Heap.get?_update_ne _ _ _ _ hb];exact e
  have na1:(s.heap.update kS (Obj.mapSeq λ _=>(#[]:Array Value))).get? a=some (seqObj "list" #[] e1):=by rw [Heap.get?_update_ne _ _ _ _ hka.symm];exact na.1
  refine wpAny_bind (wpAny_letGo ?_);refine wpAny_bind (seqEpoch_at na1 rfl ?_);rw [ho2];refine wpAny_bind (listUpdate_at na1 rfl ?_ (Nat.zero_le _) (by rw [List.size_toArray,List.length_map,sizeLine_eq];omega));have I2:=I1.turn1 (t':=s.toks) F2 (h':=(s.heap.update kS (Obj.mapSeq λ _=>(#[]:Array Value))).update a (Obj.mapSeq λ _=>(qs.map Value.ref).toArray)) λ b o hb e=>by rw [Heap.get?_update_ne _ _ _ _ hb];exact e
  obtain ⟨c2,hc2⟩:∃ c2,((s.heap.update kS (Obj.mapSeq λ _=>(#[]:Array Value))).update a (Obj.mapSeq λ _=>(qs.map Value.ref).toArray)).get? a=some (seqObj "list" (qs.map Value.ref).toArray c2):=⟨_,get?_update_seq na1 λ _=>(qs.map Value.ref).toArray⟩;have I3:=I2.track (o:=.lst (qs.map V.ref)) F2 ⟨by rw [List.length_map,sizeLine_eq];omega,qs.map Value.ref,c2,refs_vals qs,hc2⟩;rw [hfl];simp only [bne_self_eq_false,Bool.false_eq_true,if_false];exact wpAny_pure (h _ qs hq hP2 I3)
theorem up_sorted {xs:Array Keyed} {n:Nat} (hn:n=xs.size) (hu:Tim.Up (Tim.onKeys ltI) xs 0 n):SortedTo xs xs.size:=by
  intro i j hij hj;have hi:i < xs.size:=by omega
  have:=hu i j hij (by omega);rw [Nat.zero_add,Nat.zero_add] at this;rw [K_eq hi,K_eq hj];have e1:Tim.it xs i=xs[i]:=by
    have:=Tim.it_get hi;rw [getElem?_pos xs i hi] at this;exact (Option.some.inj this).symm
  have e2:Tim.it xs j=xs[j]:=by
    have:=Tim.it_get hj;rw [getElem?_pos xs j hj] at this;exact (Option.some.inj this).symm
  rw [e1,e2] at this;have h2:ltI xs[j].1 xs[i].1=false:=this;unfold ltI at h2;simp at h2;exact h2
theorem sk_end (I:Inv X (pins ++ [(kS,seqObj "list" keys e),(a,seqObj "list" #[] e1)]) σ H s) (F1:FpOk X pins H kS) (F2:FpOk X pins H a) (hka:kS≠a) (hk:IntsAre keys.toList (ps.map key)) (hz:ps.length≤100000)
    (h:∀ (s':Shared) (qs:List Addr),qs.Perm ps→qs.Pairwise (λ x y=>if b then key y≤key x else key x≤key y)→Inv X pins σ (upd H a (.lst (qs.map V.ref))) s'→P (.done (.ret .none)) s') :
    wpAny (model X.prog X.w) A (ksk_end a b (ps.map Value.ref).toArray e1 (.ref kS) keys) P E s:=by
  have hl:keys.size=ps.length:=by
    have:=hk.length;rw [Array.length_toList,List.length_map] at this;exact this
  have hzs:(keys.zip (ps.map Value.ref).toArray).size=ps.length:=by rw [Array.size_zip,hl,List.size_toArray,List.length_map,Nat.min_self]
  have step:∀ t:Sem PySem.Fin,wpAny (model X.prog X.w) A t P E s→wpAny (model X.prog X.w) A (if b=true then (do let _ ← rule "list.sort.reverse";t) else t) P E s:=by
    intro t ht;split
    · exact wpAny_bind (wpAny_rule ht)
    · exact ht
  have hstart:(if b=true then (keys.zip (ps.map Value.ref).toArray).reverse else keys.zip (ps.map Value.ref).toArray).Perm (keys.zip (ps.map Value.ref).toArray):=by
    cases b with
    | false=>exact Array.Perm.refl _
    | true=>exact Array.perm_iff_toList_perm.mpr (by rw [if_pos rfl,Array.toList_reverse];exact List.reverse_perm _)
  unfold ksk_end;dsimp only;refine step _ ?_
  by_cases h2:(ps.map Value.ref).toArray.size < 2
  · rw [if_pos h2,if_pos h2];refine wpAny_bind (wpAny_pure ?_);rw [StateT.run_pure];refine wpAny_bind (wpAny_pure ?_);dsimp only;refine sk_tail (st:=SortSt.mk' general' (if b=true then (keys.zip (ps.map Value.ref).toArray).reverse else keys.zip (ps.map Value.ref).toArray) #[] 7 none) I F1 F2 hka hk hz hstart ?_ rfl h;intro i j hij hj;have hj2:j < (if b=true then (keys.zip (ps.map Value.ref).toArray).reverse else keys.zip (ps.map Value.ref).toArray).size:=hj;rw [hstart.size_eq,hzs] at hj2;rw [List.size_toArray,List.length_map] at h2;have:i=j:=by omega
    subst this;exact Int.le_refl _
  · rw [if_neg h2,if_neg h2];rw [List.size_toArray,List.length_map] at h2;rw [ksk_kind hk (by rw [hl];omega)];refine wpAny_bind (wpAny_pure ?_);have C:Tim.Asks X.prog X.w A s oneType' (Tim.onKeys ltI) (keys.zip (ps.map Value.ref).toArray):=λ p q hp hq E Q hQ=>by
      rw [ksk_zip] at hp hq;obtain ⟨x,x2⟩:=p;obtain ⟨y,y2⟩:=q;obtain ⟨n,t,rfl⟩:=hk.all x (List.of_mem_zip hp).1;obtain ⟨n',t',rfl⟩:=hk.all y (List.of_mem_zip hq).1;rw [keyLt'_oneType];exact oneLt_int hQ
    refine wpAny_bind (wpAny_mono (Tim.wpS_sortAll (st:=SortSt.mk' oneType' (if b=true then (keys.zip (ps.map Value.ref).toArray).reverse else keys.zip (ps.map Value.ref).toArray) #[] 7 none) (a₀:=keys.zip (ps.map Value.ref).toArray)
      (Q:=λ _ st'=>(arrOf st').toList.Perm (keys.zip (ps.map Value.ref).toArray).toList∧failedOf st'=none∧Tim.Up (Tim.onKeys ltI) (arrOf st') 0 (keys.zip (ps.map Value.ref).toArray).size) (Tim.onKeys_ord ltI_ord) C ⟨Array.perm_iff_toList_perm.mp hstart,rfl,rfl⟩ rfl (by rw [hzs];omega) λ st' a1 a2 a3=>⟨a1,a2,a3⟩) ?_ λ _ _ e=>e)
    rintro ⟨⟨⟩,st'⟩ s' ⟨rfl,hp,hf,hu⟩;dsimp only;have hp2:=Array.perm_iff_toList_perm.mpr hp;exact sk_tail I F1 F2 hka hk hz hp2 (up_sorted hp2.size_eq.symm hu) hf h
theorem sk_rest {f:Value} (I:Inv X (pins ++ [(kS,seqObj "list" #[] 0),(a,seqObj "list" #[] e1)]) σ H s) (F1:FpOk X pins H kS) (F2:FpOk X pins H a) (hka:kS≠a) (hz:ps.length≤100000)
    (turn:∀ x∈ps,∀ pins' s',Inv X pins' σ H s'→wpAny (model X.prog X.w) A (call f [.ref x]) (EP X pins' σ λ v H'=>v = .int (key x)∧H'=H) (λ _ _=>False) s')
    (h:∀ (s':Shared) (qs:List Addr),qs.Perm ps→qs.Pairwise (λ x y=>if b then key y≤key x else key x≤key y)→Inv X pins σ (upd H a (.lst (qs.map V.ref))) s'→P (.done (.ret .none)) s') :
    wpAny (model X.prog X.w) A (ksk_rest a f b (ps.map Value.ref).toArray e1 (.ref kS)) P E s:=by
  unfold ksk_rest;refine wpAny_bind (wpAny_rule ?_)
  first
    | rw [List.forIn_toArray]
    | (rw [← Array.forIn_toList];simp only [List.toList_toArray])
    | rw [← Array.forIn_toList]
  refine wpAny_bind (ksk_fold (λ i s'=>∃ kA e,Inv X (pins ++ [(kS,seqObj "list" kA e),(a,seqObj "list" #[] e1)]) σ H s'∧IntsAre kA.toList ((ps.map key).take i)) (ps.map Value.ref) 0 s ⟨#[],0,I,by simpa using IntsAre.nil⟩ ?step ?done)
  case step =>
    rintro j x s' hx ⟨kA,e,I',hk⟩;simp only [Nat.zero_add] at hk ⊢;rw [List.getElem?_map] at hx;obtain ⟨y,hy,rfl⟩:∃ y,ps[j]?=some y∧Value.ref y=x:=by
      cases q:ps[j]? with
      | none=>rw [q] at hx;cases hx
      | some y=>rw [q] at hx;cases hx;exact ⟨y,rfl,rfl⟩
    have hj:j < ps.length:=(List.getElem?_eq_some_iff.mp hy).1;have hsz:kA.size≤ps.length:=by
      have h1:=hk.length;rw [Array.length_toList,List.length_take,List.length_map] at h1;omega
    refine wpAny_bind (wpAny_attempt (wpAny_mono (turn y (List.mem_of_getElem? hy) _ s' I') (λ u s'' he=>?_) λ _ _ hF=>hF.elim));obtain ⟨v,H',I2,r,rfl,rfl⟩:=he;obtain ⟨t,rfl⟩:=r;dsimp only;have nk:=I2.pin (kS,seqObj "list" kA e) (by simp);have na:=I2.pin (a,seqObj "list" #[] e1) (by simp);have ek:(ps.map key).take (j + 1)=(ps.map key).take j ++ [key y]:=by rw [List.take_add_one,List.getElem?_map,hy];rfl
    have ea:(kA.push (Value.int (key y) t)).toList=kA.toList ++ [Value.int (key y) t]:=by simp
    refine wpAny_bind (listUpdate_at nk.1 rfl ?_ (by rw [sizeLine_eq];omega) (Nat.le_trans (Nat.le_of_eq (Array.size_push ..)) (by rw [sizeLine_eq];omega)));obtain ⟨c2,hc2⟩:∃ c2,(s''.heap.update kS (Obj.mapSeq (·.push (.int (key y) t)))).get? kS=some (seqObj "list" (kA.push (.int (key y) t)) c2):=⟨_,get?_update_seq nk.1 (·.push (.int (key y) t))⟩;have I3:=I2.unpinned.turn1 (t':=s''.toks) F1 (h':=s''.heap.update kS (Obj.mapSeq (·.push (.int (key y) t)))) λ b o hb e=>by rw [Heap.get?_update_ne _ _ _ _ hb];exact e
    refine wpAny_pure ⟨rfl,kA.push (.int (key y) t),c2,I3.pin2 F1 F2 hc2 (by show (s''.heap.update kS _).get? a=_;rw [Heap.get?_update_ne _ _ _ _ hka.symm];exact na.1) (λ v z=>nomatch z) (λ v z=>nomatch z),by rw [ea,ek];exact ksk_snoc hk⟩
  case done =>
    rintro s' ⟨kA,e,I',hk⟩;have e3:(ps.map key).take (0 + (ps.map Value.ref).length)=ps.map key:=List.take_of_length_le (by rw [List.length_map,List.length_map];omega);rw [e3] at hk;have nk:=I'.pin (kS,seqObj "list" kA e) (by simp);refine wpAny_bind (listItems_at nk.1 rfl ?_);exact sk_end I' F1 F2 hka hk hz h
theorem sk_sort {f:Value} {n:Nat} (I:Inv X pins σ H s) (F2:FpOk X pins H a) (ho:s.heap.get? a=some (seqObj "list" (ps.map Value.ref).toArray n)) (hz:ps.length≤100000)
    (turn:∀ x∈ps,∀ pins' s',Inv X pins' σ H s'→wpAny (model X.prog X.w) A (call f [.ref x]) (EP X pins' σ λ v H'=>v = .int (key x)∧H'=H) (λ _ _=>False) s')
    (h:∀ (s':Shared) (qs:List Addr),qs.Perm ps→qs.Pairwise (λ x y=>if b then key y≤key x else key x≤key y)→Inv X pins σ (upd H a (.lst (qs.map V.ref))) s'→P (.done (.ret .none)) s') :
    wpAny (model X.prog X.w) A (ksk_tree a f b) P E s:=by
  have ha:a < s.heap.objs.size:=Heap.lt_size ho;obtain ⟨e1,ho1⟩:∃ e1,(s.heap.update a (Obj.mapSeq λ _=>(#[]:Array Value))).get? a=some (seqObj "list" #[] e1):=⟨_,get?_update_seq ho λ _=>#[]⟩;have hkS:((s.heap.update a (Obj.mapSeq λ _=>(#[]:Array Value))).push (seqObj "tuple" (ps.map Value.ref).toArray 0)).objs.size=s.heap.objs.size + 1:=by rw [size_push',Heap.size_update]
  unfold ksk_tree;refine wpAny_bind (listItems_at ho rfl ?_);refine wpAny_bind (listUpdate_at ho rfl ?_ (by rw [List.size_toArray,List.length_map,sizeLine_eq];omega) (Nat.zero_le _));refine wpAny_bind (seqEpoch_at ho1 rfl ?_);refine wpAny_bind (wpAny_newTuple ?_ (by show (ps.map Value.ref).length≤_;rw [List.length_map,sizeLine_eq];omega));refine wpAny_bind (wpAny_newList ?_ (Nat.zero_le _));refine wpAny_holding ?_;have I1:=I.turn1 (t':=s.toks) F2 (h':=s.heap.update a (Obj.mapSeq λ _=>(#[]:Array Value))) λ b o hb e=>by rw [Heap.get?_update_ne _ _ _ _ hb];exact e
  have I2:=I1.kept (t':=s.toks) (h':=((s.heap.update a (Obj.mapSeq λ _=>(#[]:Array Value))).push (seqObj "tuple" (ps.map Value.ref).toArray 0)).push (seqObj "list" #[] 0)) λ b u e=>Heap.get?_push_of_some _ (Heap.get?_push_of_some _ e);have F1:FpOk X pins H (((s.heap.update a (Obj.mapSeq λ _=>(#[]:Array Value))).push (seqObj "tuple" (ps.map Value.ref).toArray 0)).objs.size):=by
    rw [hkS];exact I.fpOk (Nat.le_succ _) (I.hok.fresh (Nat.le_succ _))
  refine sk_rest (s:={ s with heap:=((s.heap.update a (Obj.mapSeq λ _=>(#[]:Array Value))).push (seqObj "tuple" (ps.map Value.ref).toArray 0)).push (seqObj "list" #[] 0) })
    (I2.pin2 F1 F2 (Heap.get?_push_size _ rfl) (Heap.get?_push_of_some _ (Heap.get?_push_of_some _ ho1)) (λ v z=>nomatch z) (λ v z=>nomatch z)) F1 F2 (by rw [hkS];exact Nat.ne_of_gt (Nat.lt_succ_of_lt ha)) hz turn h
theorem sk_sorted {f:Value} {l:Addr} {kw:List (Str×Value)} {Q:VK} (I:Inv X pins σ H s) (hl:s.heap.IsList l (ps.map Value.ref).toArray) (hz:ps.length≤100000)
    (ha1:argsOk "sorted" ⟨[.ref l],kw⟩) (ha2:∀ x,argsOk "list.sort" ⟨[.ref x],kw⟩) (ht:∀ x,Builtin.«list.sort» ⟨[.ref x],kw⟩=ksk_tree x f b)
    (turn:∀ x∈ps,∀ pins' s',Inv X pins' σ H s'→wpAny (model X.prog X.w) X.A.in1.in1 (call f [.ref x]) (EP X pins' σ λ v H'=>v = .int (key x)∧H'=H) (λ _ _=>False) s')
    (h:∀ qs:List Addr,qs.Perm ps→qs.Pairwise (λ x y=>if b then key y≤key x else key x≤key y)→∀ a,H a=none→Q (.ref a) (upd H a (.lst (qs.map V.ref)))) :
    wpAny (model X.prog X.w) X.A (call (.builtin "sorted") [.ref l] kw) (EP X pins σ Q) X.xe s:=by
  have hz1:(ps.map Value.ref).length≤sizeLine:=by rw [List.length_map,sizeLine_eq];omega
  refine call_function_entry_kw kind_sorted plain_sorted entry_sorted ha1 ?_;unfold Builtin.«sorted»;refine wpAny_bind (m:=checkCount "sorted" 1 1 _) (wpAny_pure ?_);refine wpAny_bind (collect_list hl ?_ hz1);refine wpAny_bind (wpAny_newList ?_ hz1);have hsz:((s.heap.push (seqObj "list" #[] 0)).update s.heap.objs.size (Obj.mapSeq (· ++ (ps.map Value.ref).toArray))).objs.size=s.heap.objs.size + 1:=by
    rw [Heap.size_update,size_push']
  have hoL:(((s.heap.push (seqObj "list" #[] 0)).update s.heap.objs.size (Obj.mapSeq (· ++ (ps.map Value.ref).toArray))).push (seqObj "list" (ps.map Value.ref).toArray 0)).get? (s.heap.objs.size + 1)=some (seqObj "list" (ps.map Value.ref).toArray 0):=by
    rw [← hsz];exact Heap.get?_push_size _ rfl
  have keep:∀ b o,s.heap.get? b=some o→(((s.heap.push (seqObj "list" #[] 0)).update s.heap.objs.size (Obj.mapSeq (· ++ (ps.map Value.ref).toArray))).push (seqObj "list" (ps.map Value.ref).toArray 0)).get? b=some o:=λ b o q=>by
    have hlt:b < s.heap.objs.size:=Heap.lt_size q;rw [Heap.get?_push_ne _ _ _ (by rw [hsz];exact Nat.ne_of_lt (Nat.lt_succ_of_lt hlt)),Heap.get?_update_ne _ _ _ _ (Nat.ne_of_lt hlt),Heap.get?_push_ne _ _ _ (Nat.ne_of_lt hlt)];exact q
  show wpAny _ _ _ _ _ { s with heap:=((s.heap.push (seqObj "list" #[] 0)).update s.heap.objs.size (Obj.mapSeq (· ++ (ps.map Value.ref).toArray))).push (seqObj "list" (ps.map Value.ref).toArray 0) };rw [hsz];have I1:=I.kept (t':=s.toks) keep;have hf:H (s.heap.objs.size + 1)=none:=I.hok.fresh (Nat.le_succ _);refine wpAny_bind (wpAny_holding (wpAny_call_entry_kw slot_list_sort ⟨_,hoL,rfl⟩ entry_list_sort ?body (ha2 _)))
  case body =>
    have ht':=ht (s.heap.objs.size + 1);show wpAny (model X.prog X.w) X.A.in1.in1 (Builtin.«list.sort» ⟨[.ref (s.heap.objs.size + 1)],kw⟩) _ _ _;rw [ht'];refine sk_sort (s:={ s with heap:=((s.heap.push (seqObj "list" #[] 0)).update s.heap.objs.size (Obj.mapSeq (· ++ (ps.map Value.ref).toArray))).push (seqObj "list" (ps.map Value.ref).toArray 0) })
      I1 (I.fpOk (Nat.le_succ _) hf) hoL hz turn λ s' qs hq hP I2=>⟨_,rfl,?_⟩
    exact wpAny_pure ⟨_,rfl,.ref (s.heap.objs.size + 1),_,I2,rfl,h qs hq hP _ hf⟩
end
section
variable {X:Cx} {k:Nat} {qual x:Str} {params:Arguments} {body:Expr} {scope:Scope} {tb:TE}
noncomputable def rSortK (K:PySem.W.Frag) (qual:Str) (params:Arguments) (body:Expr) (scope:Scope) (tb:TE) (b:Bool) (rest:List V):List V→List V→Hp→VK→Prop:=λ xs zs H Q =>
  ∃ (p f:Addr) (ps:List Addr) (key:Addr→Int),xs=[.ref p]∧zs = .ref f :: rest∧SqL K H p (ps.map V.ref)∧ps.length≤100000∧LamIs H f qual params body scope∧(∀ a∈ps,tb [some (.ref a)] H λ v H'=>v = .int (key a)∧H'=H) ∧
    ∀ qs:List Addr,qs.Perm ps→qs.Pairwise (λ x y=>if b then key y≤key x else key x≤key y)→∀ a,H a=none→Q (.ref a) (upd H a (.lst (qs.map V.ref)))
theorem lam_turn {f:Addr} {H:Hp} {σ:St} {Q:VK} (hr:Room (k + 3) X.A) (S:FnScope [x] [x] scope) (hb:∀ (pm cv ctv u:Value),bindArgs (PySem.W.kla_fn "<lambda>" qual params body scope [] pm cv ctv) ⟨[u],[]⟩=pure [(x,u)])
    (hbody:∀ (f:Addr) (cdv:Value) (A:Around) (outer:List Env) (s:Shared) (H:Hp),PE (cxOf CX0 X.prog X.w X.K X.mg X.base [x] qual scope f cdv A outer s H E0) body tb) (L:LamIs H f qual params body scope) {a:Addr} (h:tb [some (.ref a)] H Q) :
    ∀ pins' s',Inv X pins' σ H s'→wpAny (model X.prog X.w) X.A.in1.in1 (call (.ref f) [.ref a]) (EP X pins' σ Q) (λ _ _=>False) s':=by
  intro pins' s' I;refine wpAny_call (codeAny_mono (lam_call (k:=k) (v:=.ref a) (Room.in1 (Room.in1 hr)) I.env0.in1.in1 L S rfl (λ pm cv ctv=>hb pm cv ctv _) (λ cdv=>hbody f cdv _ _ _ _) h) λ r s2 hq=>?_);cases r with
  | error e=>exact hq
  | ok fl =>
    cases fl with
    | ret u=>exact I.after hq
    | next=>exact False.elim hq
    | brk=>exact False.elim hq
    | cont=>exact False.elim hq
theorem call_sortK (hr:Room (k + 3) X.A) (S:FnScope [x] [x] scope) (hb:∀ (pm cv ctv u:Value),bindArgs (PySem.W.kla_fn "<lambda>" qual params body scope [] pm cv ctv) ⟨[u],[]⟩=pure [(x,u)])
    (hbody:∀ (f:Addr) (cdv:Value) (A:Around) (outer:List Env) (s:Shared) (H:Hp),PE (cxOf CX0 X.prog X.w X.K X.mg X.base [x] qual scope f cdv A outer s H E0) body tb) :
    CallKR X (.builtin "sorted") [Str.ofString "key"] (rSortK X.K qual params body scope tb false []):=by
  intro pins s σ H xs zs us ws Q I r rz h;obtain ⟨p,f,ps,key,rfl,rfl,hl,hz,L,ht,q⟩:=h;obtain ⟨u,rfl,ru⟩:=vals1 r;cases ru;obtain ⟨fv,rfl,rf⟩:=vals1 rz;cases rf;obtain ⟨its,rv,pl,_⟩:=I.list hl;have ei:=vals_refs rv;subst ei;exact sk_sorted (b:=false) (key:=key) I pl.isList hz (ksk_s1 _ _) (λ x=>ksk_l1 _ _) (λ x=>ksk_t1 _ _) (λ a ha=>lam_turn hr S hb hbody L (ht a ha)) q
theorem call_sortKR {b:Bool} (hr:Room (k + 3) X.A) (S:FnScope [x] [x] scope) (hb:∀ (pm cv ctv u:Value),bindArgs (PySem.W.kla_fn "<lambda>" qual params body scope [] pm cv ctv) ⟨[u],[]⟩=pure [(x,u)])
    (hbody:∀ (f:Addr) (cdv:Value) (A:Around) (outer:List Env) (s:Shared) (H:Hp),PE (cxOf CX0 X.prog X.w X.K X.mg X.base [x] qual scope f cdv A outer s H E0) body tb) :
    CallKR X (.builtin "sorted") [Str.ofString "key",Str.ofString "reverse"] (rSortK X.K qual params body scope tb b [.bl b]):=by
  intro pins s σ H xs zs us ws Q I r rz h;obtain ⟨p,f,ps,key,rfl,rfl,hl,hz,L,ht,q⟩:=h;obtain ⟨u,rfl,ru⟩:=vals1 r;cases ru;cases rz with
  | cons rf rz =>
    obtain ⟨bv,rfl,rb⟩:=vals1 rz;cases rf;cases rb;obtain ⟨its,rv,pl,_⟩:=I.list hl;have ei:=vals_refs rv;subst ei;exact sk_sorted (b:=b) (key:=key) I pl.isList hz (ksk_s2 _ _ _) (λ x=>ksk_l2 _ _ _) (λ x=>ksk_t2 _ _ _) (λ a ha=>lam_turn hr S hb hbody L (ht a ha)) q
end
end L2
set_option maxHeartbeats 1000000
namespace Dcp
open PySem PyProof.Rows
theorem lk_list_keys:typeLookup (.type "list") "keys"=pure none:=by rw [typeLookup_type,builtinLookup_eq_fast];kernel_rfl
section
variable {prog:Program} {w:World} {A:Around} {E:Value→Shared→Prop} {s:Shared}
theorem no_keys {a:Addr} {xs:Array Value} {n:Nat} {Q:Option Value→Shared→Prop} (hx:s.heap.get? a=some (seqObj "list" xs n)) (hA:A.handled=none)
    (h:∀ h' tk,(∀ b o,s.heap.get? b=some o→h'.get? b=some o)→Q none { s with heap:=h',toks:=tk }):wpAny (model prog w) A (getAttr? (.ref a) "keys") Q E s:=by
  obtain ⟨hp,g,d,tk,os⟩:=s;have hT:∀ tk',(⟨hp,g,d,tk',os⟩:Shared).TypeIs (.ref a) "list":=λ _=>⟨_,hx,rfl⟩;have f1:=sub_AttributeError;have f3:=F.slot_list_getattribute.lookup;have f4:=F.slot_list_getattribute.bind (.ref a);have f5:=am_list_getattr_none;unfold getAttr? getAttrBy? getAttrBy
  repeat (any_goals (first | assumption | exact hT _ | ((with_reducible show wpAny _ _ (call (Value.builtin "list.__getattribute__") _ _) _ _ _);refine call_meets F.slot_list_getattribute (hT _) am_entry_list_getattribute (F.args_list_getattribute_2 _ _) (meets_getattribute_miss_list a xs n #[] "keys" _ lk_list_keys (by decide +kernel) (by size_fits)) ⟨hx,hA,λ h' tk' e hx'=>?_⟩) | wp_step))
  obtain ⟨t',u',he⟩:=hx'.there;show wpAny _ _ (getattributeRaised _ _ _ _ _ _ _) _ _ _;unfold getattributeRaised
  repeat (any_goals (first | assumption | wp_step))
  all_goals exact h _ _ hx'.keeps
theorem entry_loop:entryFor table "dict.update.loop"=some Builtin.«dict.update.loop»:=entryFor_of_tree (by kernel_rfl)
theorem plain_loop:plainId "dict.update.loop"=true:=by decide +kernel
variable {K:Type} [DecidableEq K] {knd:KeyKind prog w K}
noncomputable def putAll (kvs:List (K×Value)) (ps:List (K×Value)):List (K×Value):=ps.foldl (λ acc kv=>stored acc kv.1 kv.2) kvs
theorem upd_loop {d it l:Addr} {items:Array Value} {ps:List (K×Value)} {R:Result→Shared→Prop} (hA:A.handled=none) (hdi:d≠it) (hdl:d≠l) (hil:it≠l) (hlen:ps.length=items.size) (hz:items.size≤100000)
    : ∀ (m i:Nat) (t:Tok) (s:Shared) (kvs:List (K×Value)),items.size - i=m→i≤items.size→kvs.length≤i→s.heap.IsListIter it l i→s.heap.IsList l items→s.heap.DictOf knd d kvs →
    (∀ (j:Nat) (kv:K×Value),ps[j]?=some kv→∃ p key,items[j]?=some (.ref p)∧p≠d∧p≠it∧s.heap.IsTuple p #[key,kv.2]∧knd.is kv.1 key=true) →
    (∀ h' tk,h'.DictOf knd d (putAll kvs (ps.drop i))→(∀ b o,b≠d→b≠it→s.heap.get? b=some o→h'.get? b=some o)→R (.ok (.ret .none)) { s with heap:=h',toks:=tk }) →
    codeAny (model prog w) A (.builtin "dict.update.loop" ⟨[.ref d,.ref it,.int i t,.none],[]⟩) R s:=by
  intro m
  induction m with
  | zero =>
    intro i t s kvs hm hi hk hit hl hd hps hR;refine codeAny_builtin entry_loop ?_;rw [Around.under_plainId plain_loop _];show wpAny _ A.in1 (pyNext (.ref it) >>= _) _ _ s;refine wpAny_bind (wpAny_pyNext_list_end (A:=A.in1) hA hit hl (by simp;omega) λ h' hx=>?_);refine wpAny_bind (m:=Builtin.Dict.addKeywords d []) (wpAny_pure (wpAny_pure ?_));have e:ps.drop i=[]:=List.drop_eq_nil_of_le (by omega);rw [e] at hR;exact hR h' s.toks (hd.extBut hx hdi) λ b o _ hb e=>hx b o hb e
  | succ m ih =>
    intro i t s kvs hm hi hk hit hl hd hps hR;refine codeAny_builtin entry_loop ?_;rw [Around.under_plainId plain_loop _];show wpAny _ A.in1 (pyNext (.ref it) >>= _) _ _ s;have hi':i < items.size:=by omega
    refine wpAny_bind (wpAny_pyNext_list_item (A:=A.in1) hit hl (Array.getElem?_eq_getElem hi') λ h' hit' hs=>?_);have hip:i < ps.length:=by omega
    obtain ⟨p,key,e1,npd,npi,tup,hkey⟩:=hps i ps[i] (List.getElem?_eq_getElem hip);rw [Array.getElem?_eq_getElem hi'] at e1;rw [Option.some.inj e1];have tup':h'.IsTuple p #[key,ps[i].2]:=by
      obtain ⟨o,ho,r⟩:=tup;exact ⟨o,by rw [hs.2 p npi];exact ho,r⟩
    obtain ⟨o,ho,hc,n,hdat⟩:=id tup';refine wpAny_bind (wpAny_holding (wpAny_bind (wpAny_tryCatch ?_)));unfold Builtin.Dict.pairItems;refine wpAny_bind (wpAny_typeOf (T:="tuple") ⟨o,ho,hc⟩ ?_);rw [if_pos (by decide)];refine wpAny_bind ?_;unfold seqItems?;refine wpAny_bind (wpAny_load ho ?_);rw [hdat];refine wpAny_pure (wpAny_pure ?_);show wpAny _ _ (holding [key,ps[i].2] (dictSet d key ps[i].2)) _ _ _;have hd':h'.DictOf knd d kvs:=hd.sameBut hs hdi;refine wpAny_holding (wpAny_dictSet_pairs hkey hd' (λ h2 hd2 hs2=>?_) (by rw [sizeLine_eq];omega));refine wpAny_pure ⟨plainId_quiet plain_loop _,?_⟩;have keep:∀ b o,b≠d→b≠it→s.heap.get? b=some o→h2.get? b=some o:=λ b o n1 n2 e=>by rw [hs2.2 b n1,hs.2 b n2];exact e
    have hit2:h2.IsListIter it l (i + 1):=by
      obtain ⟨oi,g1,g2⟩:=hit';exact ⟨oi,by rw [hs2.2 it hdi.symm];exact g1,g2⟩
    have hl2:h2.IsList l items:=by
      obtain ⟨ol,g1,g2⟩:=hl;exact ⟨ol,keep l ol hdl.symm hil.symm g1,g2⟩
    have hst:(stored kvs ps[i].1 ps[i].2).length≤i + 1:=by
      have:(stored kvs ps[i].1 ps[i].2).length≤kvs.length + 1:=by
        unfold stored;split<;>simp
      omega
    refine ih (i + 1) _ { s with heap:=h2,toks:=s.toks + 1 } (stored kvs ps[i].1 ps[i].2) (by omega) (by omega) hst hit2 hl2 hd2 (λ j kv ej=>?_) λ h3 tk hd3 k3=>?_
    · obtain ⟨p',key',f1,f2,f3,f4,f5⟩:=hps j kv ej;refine ⟨p',key',f1,f2,f3,?_,f5⟩;obtain ⟨o',g1,g2⟩:=f4;exact ⟨o',keep p' o' f2 f3 g1,g2⟩
    · refine hR h3 tk ?_ λ b o n1 n2 e=>k3 b o n1 n2 (keep b o n1 n2 e);rw [← List.getElem_cons_drop hip];exact hd3
theorem call_dict {l:Addr} {items:Array Value} {n:Nat} {ps:List (K×Value)} {Q:Value→Shared→Prop} (hA:A.handled=none) (hl:s.heap.get? l=some (seqObj "list" items n)) (hlen:ps.length=items.size) (hz:items.size≤100000)
    (hps:∀ (j:Nat) (kv:K×Value),ps[j]?=some kv→∃ p key,items[j]?=some (.ref p)∧s.heap.IsTuple p #[key,kv.2]∧knd.is kv.1 key=true)
    (h:∀ h' tk,h'.DictOf knd s.heap.objs.size (putAll [] ps)→(∀ b o,s.heap.get? b=some o→h'.get? b=some o)→Q (.ref s.heap.objs.size) { s with heap:=h',toks:=tk }) :
    wpAny (model prog w) A (call (.type "dict") [.ref l]) Q E s:=by
  refine callType_codes (Q₁:=λ obj s₁=>obj = .ref s.heap.objs.size∧s₁ = { s with heap:=s.heap.push { cls:=.type "dict",data:=.dict #[] } }) F.kt_called_dict (F.kt_typeCall_dict_1 _) F.entry_dict_init (kt_code_dict_new _ ⟨rfl,rfl⟩) ?_;rintro obj s₁ ⟨rfl,rfl⟩;have hnew:(s.heap.push { cls:=.type "dict",data:=.dict #[] }).DictOf knd s.heap.objs.size []:=Heap.DictOf.new s.heap;have hl1:(s.heap.push { cls:=.type "dict",data:=.dict #[] }).get? l=some (seqObj "list" items n):=Heap.get?_push_of_some _ hl;refine ⟨hnew.typeIs,F.args_dict_init_2 _ _,?_⟩;unfold Builtin.«dict.__init__»;refine wpAny_bind ?_;unfold Builtin.Dict.selfAndRest;refine wpAny_bind (wpAny_notOrdered_dict hnew.typeIs ?_);show wpAny _ _ (pure (s.heap.objs.size,[Value.ref l])) _ _ _;refine wpAny_pure ?_;show wpAny _ _ (Builtin.Dict.updateFrom "dict.__init__" s.heap.objs.size (.ref l) [] .none) _ _ _;unfold Builtin.Dict.updateFrom;refine wpAny_bind (wpAny_typeOf (T:="list") ⟨_,hl1,rfl⟩ ?_);rw [if_pos (by decide)];refine wpAny_bind (no_keys hl1 (by exact hA) λ h2 tk2 k2=>?_);rw [if_pos (by rfl)];refine wpAny_bind (wpAny_rule ?_);have kk:∀ b o,s.heap.get? b=some o→h2.get? b=some o:=λ b o e=>k2 b o (Heap.get?_push_of_some _ e);have hl2:h2.IsList l items:=⟨_,kk l _ hl,rfl,n,rfl⟩;have hd2:h2.DictOf knd s.heap.objs.size []:=by
    obtain ⟨o,es,ep,g1,g2⟩:=hnew;exact ⟨o,es,ep,k2 _ _ g1,g2⟩
  have hlt:l < s.heap.objs.size:=Heap.lt_size hl;have hdl:s.heap.objs.size < h2.objs.size:=by
    obtain ⟨o,es,ep,g1,_⟩:=hd2;exact Heap.lt_size g1
  refine wpAny_bind (wpAny_pyIter_list hl2 ?_);refine wpAny_pure ⟨plainId_quiet plain_loop _,?_⟩;refine upd_loop (A:=A.in1) (d:=s.heap.objs.size) (it:=h2.objs.size) (l:=l) (items:=items) (ps:=ps) hA (Nat.ne_of_lt hdl) (Nat.ne_of_gt hlt) (Nat.ne_of_gt (Nat.lt_trans hlt hdl)) hlen hz items.size 0 _ _ [] (by omega) (by omega) (Nat.le_refl _) ⟨_,Heap.get?_push_size _ rfl,rfl,rfl⟩ ?_ (hd2.push _) (λ j kv e=>?_) λ h' tk hd' k'=>?_
  · obtain ⟨o,g1,g2⟩:=hl2;exact ⟨o,Heap.get?_push_of_some _ g1,g2⟩
  · obtain ⟨p,key,e1,tup,hk⟩:=hps j kv e;obtain ⟨o,g1,g2⟩:=tup;have hp:=Heap.lt_size g1;exact ⟨p,key,e1,Nat.ne_of_lt hp,Nat.ne_of_lt (Nat.lt_trans hp hdl),⟨o,Heap.get?_push_of_some _ (kk p o g1),g2⟩,hk⟩
  · refine ⟨rfl,h h' tk hd' λ b o e=>?_⟩;have hb:=Heap.lt_size e;exact k' b o (Nat.ne_of_lt hb) (Nat.ne_of_lt (Nat.lt_trans hb hdl)) (Heap.get?_push_of_some _ (kk b o e))
end
end Dcp
set_option maxHeartbeats 400000
namespace L2
open PySem PySem.Spec PyProof.Rows
section
variable {X:Cx}
theorem pairs_raw {pins:List (Addr×Obj)} {σ:St} {H:Hp} {s:Shared} (I:Inv X pins σ H s):∀ {ps:List (Key×V)} {vs:List V} {its:List Value},Vals vs its→ps.length=vs.length→(∀ (j:Nat) (kv:Key×V),ps[j]?=some kv→∃ p,vs[j]?=some (.ref p)∧H p=some (.tup [kV kv.1,kv.2])) →
    ∃ rs:List (Key×Value),KV ps rs∧rs.length=its.length∧∀ (j:Nat) (kv:Key×Value),rs[j]?=some kv→∃ p key,its[j]?=some (.ref p)∧s.heap.IsTuple p #[key,kv.2]∧(mixKind X.prog X.w).is kv.1 key=true
  | [],[],_,r,_,_=>by cases r;exact ⟨[],.nil,rfl,λ j kv e=>by simp at e⟩
  | [],_ :: _,_,_,h,_=>by simp at h
  | _ :: _,[],_,_,h,_=>by simp at h
  | kv :: ps,v :: vs,_,r,hlen,hp=>by
    cases r with
    | @cons _ u _ us h t =>
      obtain ⟨rs,q1,q2,q3⟩:=pairs_raw I t (by simpa using hlen) λ j kv' e=>by
        have:=hp (j + 1) kv' (by simpa using e);simpa using this
      obtain ⟨p,e1,e2⟩:=hp 0 kv rfl;have ev:v = .ref p:=Option.some.inj e1;subst ev;have eu:u = .ref p:=h;subst eu;obtain ⟨ws,rw',⟨o,g1,g2,n,g3⟩,_⟩:=I.tuple (SqT.of (K:=X.K) e2);cases rw' with
      | @cons _ u1 _ w1 r1 t1 =>
        cases t1 with
        | @cons _ u2 _ w2 r2 t2 =>
          cases t2;refine ⟨(kv.1,u2) :: rs,.cons ⟨rfl,r2⟩ q1,by simp [q2],λ j kv' e=>?_⟩;cases j with
          | zero =>
            have e':(kv.1,u2)=kv':=by simpa using e
            subst e';exact ⟨p,u1,rfl,⟨o,g1,g2,n,by simpa using g3⟩,kV_is r1⟩
          | succ j=>exact q3 j kv' (by simpa using e)
theorem call_dictP (hc:X.calm=true):CallR X (.type "dict") (λ xs H Q=>∃ (l:Addr) (vs:List V) (ps:List (Key×V)),xs=[.ref l]∧H l=some (.lst vs)∧ps.length=vs.length∧vs.length≤100000 ∧
    (∀ (j:Nat) (kv:Key×V),ps[j]?=some kv→∃ p,vs[j]?=some (.ref p)∧H p=some (.tup [kV kv.1,kv.2]))∧∀ a,H a=none→Q (.ref a) (upd H a (.dK (mergeK [] ps)))):=by
  intro pins s σ H xs us Q I r h;obtain ⟨l,vs,ps,rfl,hl,hlen,hz,hp,q⟩:=h;obtain ⟨u,rfl,ru⟩:=vals1 r;cases ru;obtain ⟨z,its,n,rv,hlen2,hg⟩:=I.lstM hl;obtain ⟨rs,q1,q2,q3⟩:=pairs_raw I rv hlen hp;refine Dcp.call_dict (knd:=mixKind X.prog X.w) (ps:=rs) (I.ok.hd hc) hg (by simpa using q2) (by simp;omega) (λ j kv e=>?_) λ h' tk hd k=>?_
  · obtain ⟨p,key,f1,f2,f3⟩:=q3 j kv e;exact ⟨p,key,by simpa using f1,f2,f3⟩
  · have hd':h'.DictOf (mixKind X.prog X.w) s.heap.objs.size (merged [] rs):=hd;have hlm:=length_mergeK ps [];have I2:=I.laid (a:=s.heap.objs.size) (o:=.dK (mergeK [] ps)) (t':=tk) k (Nat.le_refl _) ⟨by rw [sizeLine_eq];simp at hlm;omega,by
      have:=I.big;simp;exact Nat.ne_of_gt this,merged [] rs,KV.merge q1 .nil,hd'⟩
    exact ⟨.ref s.heap.objs.size,_,I2,rfl,q _ I.fresh⟩
end
end L2
namespace Ln
noncomputable def sm (f:Nat→Int):Nat→Int
  | 0=>0
  | n + 1=>sm f n + f n
theorem sm_same {f g:Nat→Int}:∀ {n:Nat},(∀ c,c < n→f c=g c)→sm f n=sm g n
  | 0,_=>rfl
  | n + 1,h=>by
    unfold sm;rw [sm_same λ c hc=>h c (by omega),h n (by omega)]
theorem sm_one {f g:Nat→Int} {c:Nat}:∀ {n:Nat},c < n→(∀ d,d < n→d≠c→f d=g d)→sm f n=sm g n + f c - g c
  | 0,h,_=>by omega
  | n + 1,h,hs=>by
    unfold sm
    by_cases e:c=n
    · subst e;rw [sm_same (f:=f) (g:=g) λ d hd=>hs d (by omega) (by omega)];omega
    · rw [sm_one (f:=f) (g:=g) (c:=c) (by omega) λ d hd hne=>hs d (by omega) hne,hs n (by omega) λ z=>e z.symm];omega
theorem sm_add {f g:Nat→Int}:∀ {n:Nat},sm (λ c=>f c + g c) n=sm f n + sm g n
  | 0=>rfl
  | n + 1=>by
    unfold sm;rw [sm_add];omega
theorem sm_mul {f:Nat→Int} {k:Int}:∀ {n:Nat},sm (λ c=>k * f c) n=k * sm f n
  | 0=>by unfold sm;omega
  | n + 1=>by
    unfold sm;rw [sm_mul,Int.mul_add]
theorem sm_zero:∀ {n:Nat},sm (λ _=>0) n=0
  | 0=>rfl
  | n + 1=>by
    unfold sm;rw [sm_zero];omega
theorem sm_swap {f:Nat→Nat→Int} {m:Nat}:∀ {n:Nat},sm (λ c=>sm (f c) m) n=sm (λ i=>sm (λ c=>f c i) n) m
  | 0=>by
    show (0:Int)=sm (λ _=>0) m;rw [sm_zero]
  | n + 1=>by
    show sm (λ c=>sm (f c) m) n + sm (f n) m=sm (λ i=>sm (λ c=>f c i) n + f n i) m;rw [sm_swap,sm_add]
theorem sm_le {f g:Nat→Int}:∀ {n:Nat},(∀ c,c < n→f c≤g c)→sm f n≤sm g n
  | 0,_=>Int.le_refl _
  | n + 1,h=>by
    unfold sm;have h1:=sm_le (f:=f) (g:=g) (n:=n) λ c hc=>h c (by omega);have h2:=h n (by omega);omega
theorem sm_rise (h:Nat→Int) (s e:Nat):∀ {m:Nat},s≤e→sm (λ i=>if s≤i∧i < e then h (i + 1) - h i else 0) m=h (min (max m s) e) - h s
  | 0,hse=>by
    unfold sm;rw [show min (max 0 s) e=s by omega];omega
  | m + 1,hse=>by
    unfold sm;rw [sm_rise h s e hse]
    by_cases c1:m < s
    · rw [if_neg (by omega),show min (max m s) e=s by omega,show min (max (m + 1) s) e=s by omega];omega
    · by_cases c2:m < e
      · rw [if_pos ⟨by omega,c2⟩,show min (max m s) e=m by omega,show min (max (m + 1) s) e=m + 1 by omega];omega
      · rw [if_neg (by omega),show min (max m s) e=e by omega,show min (max (m + 1) s) e=e by omega];omega
structure Net where
  N:Nat
  n:Nat
  s:Nat→Nat
  e:Nat→Nat
  w:Nat→Int
structure Net.Ok (G:Net):Prop where
  lt:∀ c,c < G.n→G.s c < G.e c
  le:∀ c,c < G.n→G.e c < G.N
  w:∀ c,c < G.n→0≤G.w c
noncomputable def one (b:Bool):Int:=if b then 1 else 0
noncomputable def Net.at (G:Net) (c i:Nat):Bool:=decide (G.s c≤i) && decide (i < G.e c)
noncomputable def Net.used (G:Net) (has:Nat→Bool) (i:Nat):Int:=sm (λ c=>one (has c && G.at c i)) G.n
inductive Move (G:Net) (has:Nat→Bool) (R:Int):Nat→Nat→Int→Option Nat→Prop where
  | idle (i:Nat) (h:i + 1 < G.N):Move G has R i (i + 1) 0 none
  | take (c:Nat) (h:c < G.n) (f:has c=false):Move G has R (G.s c) (G.e c) (G.w c) (some c)
  | fill (i:Nat) (h:i + 1 < G.N) (u:G.used has i < R):Move G has R (i + 1) i 0 none
  | give (c:Nat) (h:c < G.n) (f:has c=true):Move G has R (G.e c) (G.s c) (-(G.w c)) (some c)
noncomputable def Feas (G:Net) (has:Nat→Bool) (R:Int) (h:Nat→Int):Prop:=∀ u v g k,Move G has R u v g k→h u + g≤h v
section
variable {G:Net} {has:Nat→Bool} {R:Int}
theorem Move.bounds (ok:G.Ok) {u v:Nat} {g:Int} {k:Option Nat} (m:Move G has R u v g k):u < G.N∧v < G.N∧u≠v:=by
  cases m with
  | idle i h=>omega
  | take c h f=>have:=ok.lt c h;have:=ok.le c h;omega
  | fill i h u=>omega
  | give c h f=>have:=ok.lt c h;have:=ok.le c h;omega
theorem feas_none (ok:G.Ok):Feas G (λ _=>false) 0 λ i=>(i:Int) * sm G.w G.n:=by
  have nn:∀ {m:Nat},m≤G.n→0≤sm G.w m:=λ {m} hm=>by
    have:=sm_le (f:=λ _=>0) (g:=G.w) (n:=m) λ c hc=>ok.w c (by omega)
    rwa [sm_zero] at this
  have big:∀ {m c:Nat},c < m→m≤G.n→G.w c≤sm G.w m:=by
    intro m
    induction m with
    | zero=>intro c hc;omega
    | succ m ih =>
      intro c hc hm;unfold sm;have h2:=ok.w m (by omega)
      by_cases e:c=m
      · subst e;have:=nn (m:=c) (by omega);omega
      · have:=ih (c:=c) (by omega) (by omega);omega
  intro u v g k m;have W:=nn (m:=G.n) (Nat.le_refl _);cases m with
  | idle _ h =>
    show (u:Int) * _ + 0≤((u + 1:Nat):Int) * _;rw [show ((u + 1:Nat):Int)=(u:Int) + 1 by omega,Int.add_mul];omega
  | take c h f =>
    have h1:=ok.lt c h;have h2:=big h (Nat.le_refl _);have h3:((G.s c:Int) + 1) * sm G.w G.n≤(G.e c:Int) * sm G.w G.n:=Int.mul_le_mul_of_nonneg_right (by omega) W;rw [Int.add_mul] at h3;show (G.s c:Int) * _ + G.w c≤(G.e c:Int) * _;omega
  | fill _ h hu =>
    have:G.used (λ _=>false) v=0:=by
      unfold Net.used;rw [show (λ c=>one ((λ _=>false) c && G.at c v))=λ _=>0 from funext λ c=>rfl,sm_zero]
    omega
  | give c h f=>cases f
inductive Reach (way:Nat→Nat×Option Nat):Nat→Nat→Prop where
  | zero:Reach way 0 0
  | step {v n:Nat} (h:0 < v) (r:Reach way (way v).1 n):Reach way v (n + 1)
theorem Reach.one {way:Nat→Nat×Option Nat} {v n m:Nat} (h:Reach way v n) (h':Reach way v m):n=m:=by
  induction h generalizing m with
  | zero=>cases h' with
    | zero=>rfl
    | step h r=>omega
  | step h r ih=>cases h' with
    | zero=>omega
    | step h2 r2=>rw [ih r2]
structure Cl (G:Net) (has:Nat→Bool) (R:Int) (p h:Nat→Int) (way:Nat→Nat×Option Nat):Prop where
  le:∀ v,v < G.N→h v≤p v
  ge:∀ v,v < G.N→0≤h v
  par:∀ v,0 < v→v < G.N→∃ g,Move G has R (way v).1 v g (way v).2∧h v≤h (way v).1 + g
  reach:∀ v,v < G.N→∃ n,Reach way v n
theorem Cl.start (ok:G.Ok) {p:Nat→Int} (hp:Feas G has R p) (h0:p 0=0):Cl G has R p (λ _=>0) (λ v=>(v - 1,none)):=by
  have pos:∀ v,v < G.N→0≤p v:=by
    intro v
    induction v with
    | zero=>intro _;omega
    | succ v ih =>
      intro hv;have h1:=ih (by omega);have h2:=hp _ _ _ _ (.idle (has:=has) (R:=R) v hv);omega
  refine ⟨λ v hv=>pos v hv,λ v _=>Int.le_refl _,λ v h1 h2=>⟨0,?_,by simp⟩,λ v hv=>?_⟩
  · have:=Move.idle (G:=G) (has:=has) (R:=R) (v - 1) (by omega);rw [show v - 1 + 1=v by omega] at this;exact this
  · refine ⟨v,?_⟩;clear hv
    induction v with
    | zero=>exact .zero
    | succ v ih=>exact .step (by omega) (by simpa using ih)
noncomputable def setF {α:Type} (f:Nat→α) (v:Nat) (x:α):Nat→α:=λ u=>if u=v then x else f u
theorem setF_same {α:Type} {f:Nat→α} {v:Nat} {x:α}:setF f v x v=x:=by simp [setF]
theorem setF_ne {α:Type} {f:Nat→α} {u v:Nat} {x:α} (h:u≠v):setF f v x u=f u:=by simp [setF,h]
theorem Cl.raise (ok:G.Ok) {p h:Nat→Int} {way:Nat→Nat×Option Nat} (C:Cl G has R p h way) (hp:Feas G has R p) (h0:p 0=0) {u v:Nat} {g:Int} {k:Option Nat} (m:Move G has R u v g k) (hgt:h v < h u + g) :
    Cl G has R p (setF h v (h u + g)) (setF way v (u,k)):=by
  obtain ⟨hu,hv,hne⟩:=m.bounds ok;have hpm:=hp _ _ _ _ m;have hul:=C.le u hu;have v0:v≠0:=λ z=>by
    subst z;have:=C.ge 0 hv;omega
  have up:∀ x,h x≤setF h v (h u + g) x:=λ x=>by
    by_cases e:x=v
    · subst e;rw [setF_same];omega
    · rw [setF_ne e];exact Int.le_refl _
  have key:∀ {x n:Nat},x < G.N→Reach way x n→(∃ n,Reach (setF way v (u,k)) x n)∨p v - h v≤p x - h x:=λ {x n} hx r=>by
    induction r with
    | zero=>exact .inl ⟨0,.zero⟩
    | @step y n hy r ih =>
      by_cases e:y=v
      · subst e;exact .inr (Int.le_refl _)
      · obtain ⟨g',m',le'⟩:=C.par y hy hx;rcases ih (m'.bounds ok).1 with ⟨n',r'⟩ | hs
        · refine .inl ⟨n' + 1,.step hy ?_⟩;rw [setF_ne e];exact r'
        · have:=hp _ _ _ _ m';exact .inr (by omega)
  obtain ⟨nu,ru⟩:=C.reach u hu;have ru':∃ n,Reach (setF way v (u,k)) u n:=by
    rcases key hu ru with r | hs
    · exact r
    · omega
  refine ⟨λ x hx=>?_,λ x hx=>?_,λ x h1 h2=>?_,λ x hx=>?_⟩
  · by_cases e:x=v
    · subst e;rw [setF_same];omega
    · rw [setF_ne e];exact C.le x hx
  · have:=C.ge x hx;have:=up x;omega
  · by_cases e:x=v
    · subst e;rw [setF_same,setF_same];refine ⟨g,m,?_⟩;rw [setF_ne hne];exact Int.le_refl _
    · rw [setF_ne e,setF_ne e];obtain ⟨g',m',le'⟩:=C.par x h1 h2;exact ⟨g',m',by have:=up (way x).1;omega⟩
  · obtain ⟨n,r⟩:=C.reach x hx;clear hx
    induction r with
    | zero=>exact ⟨0,.zero⟩
    | @step y n hy r ih =>
      by_cases e:y=v
      · subst e;obtain ⟨n',r'⟩:=ru';exact ⟨n' + 1,.step hy (by rw [setF_same];exact r')⟩
      · obtain ⟨n',r'⟩:=ih;exact ⟨n' + 1,.step hy (by rw [setF_ne e];exact r')⟩
theorem Cl.zero {p h:Nat→Int} {way:Nat→Nat×Option Nat} (C:Cl G has R p h way) (h0:p 0=0) (hN:0 < G.N):h 0=0:=by
  have:=C.le 0 hN;have:=C.ge 0 hN;omega
theorem Cl.tight {p h:Nat→Int} {way:Nat→Nat×Option Nat} (C:Cl G has R p h way) (hh:Feas G has R h) {v:Nat} (h1:0 < v) (h2:v < G.N):∃ g,Move G has R (way v).1 v g (way v).2∧h v=h (way v).1 + g:=by
  obtain ⟨g,m,le⟩:=C.par v h1 h2;exact ⟨g,m,Int.le_antisymm le (hh _ _ _ _ m)⟩
end
end Ln
namespace Ln
section
variable {G:Net} {has:Nat→Bool} {R:Int}
noncomputable def Net.worth (G:Net) (has:Nat→Bool):Int:=sm (λ c=>if has c then G.w c else 0) G.n
noncomputable def togO (has:Nat→Bool):Option Nat→Nat→Bool
  | none=>has
  | some c=>setF has c (!has c)
theorem used_tog {c i:Nat} (h:c < G.n) (has:Nat→Bool):G.used (setF has c (!has c)) i=G.used has i + (if has c then -1 else 1) * one (G.at c i):=by
  unfold Net.used;rw [sm_one (f:=λ d=>one (setF has c (!has c) d && G.at d i)) (g:=λ d=>one (has d && G.at d i)) h λ d _ hne=>by rw [setF_ne hne]];simp only [setF_same];cases has c<;>cases G.at c i<;>simp [one]<;>omega
theorem worth_tog {c:Nat} (h:c < G.n) (has:Nat→Bool):G.worth (setF has c (!has c))=G.worth has + (if has c then -(G.w c) else G.w c):=by
  unfold Net.worth;rw [sm_one (f:=λ d=>if setF has c (!has c) d then G.w d else 0) (g:=λ d=>if has d then G.w d else 0) h λ d _ hne=>by rw [setF_ne hne]];simp only [setF_same];cases has c<;>simp<;>omega
theorem Move.of {u v:Nat} {g:Int} {c:Nat} (m:Move G has R u v g (some c)):(has c=false∧v=G.e c)∨(has c=true∧v=G.s c):=by
  cases m with
  | take _ _ f=>exact .inl ⟨f,rfl⟩
  | give _ _ f=>exact .inr ⟨f,rfl⟩
structure Wk (G:Net) (has:Nat→Bool) (R:Int) (h:Nat→Int) (way:Nat→Nat×Option Nat) (v:Nat) (has':Nat→Bool):Prop where
  lt:v < G.N
  old:∀ n x m c,Reach way v n→Reach way x m→m≤n→0 < x→x < G.N→(way x).2=some c→has' c=has c
  kept:∀ c,c < G.n→has' c=true→h (G.e c) - G.w c≤h (G.s c)
  left:∀ c,c < G.n→has' c=false→h (G.s c) + G.w c≤h (G.e c)
  cut:∀ i,i + 1 < G.N→∃ a b:Int,0≤a∧0≤b∧b≤1∧G.used has' i=G.used has i + 1 - one (decide (i < v)) - a + b∧(a≠0→h (i + 1)≤h i)∧(b≠0→G.used has i < R∧∀ n m,Reach way v n→Reach way i m→n < m)
  worth:G.worth has'=G.worth has + h (G.N - 1) - h v
theorem Wk.start {p h:Nat→Int} {way:Nat→Nat×Option Nat} (hN:0 < G.N) (hh:Feas G has R h):Wk G has R h way (G.N - 1) has:=by
  refine ⟨by omega,λ _ _ _ _ _ _ _ _ _ _=>rfl,λ c hc f=>?_,λ c hc f=>hh _ _ _ _ (.take c hc f),λ i hi=>⟨0,0,Int.le_refl _,Int.le_refl _,by decide,?_,λ z=>absurd rfl z,λ z=>absurd rfl z⟩,by omega⟩
  · have:=hh _ _ _ _ (.give (R:=R) c hc f);omega
  · rw [show decide (i < G.N - 1)=true by simp;omega];simp [one]
theorem Wk.step (ok:G.Ok) {p h:Nat→Int} {way:Nat→Nat×Option Nat} (C:Cl G has R p h way) (hh:Feas G has R h) {v:Nat} {has':Nat→Bool} (W:Wk G has R h way v has') (h1:0 < v):Wk G has R h way (way v).1 (togO has' (way v).2):=by
  obtain ⟨g,m,tt⟩:=C.tight hh h1 W.lt;obtain ⟨hu,_,hne⟩:=m.bounds ok;obtain ⟨nv,rv⟩:=C.reach v W.lt;have du:∀ n,Reach way (way v).1 n→Reach way v (n + 1):=λ n r=>.step h1 r;have oldv:∀ c,(way v).2=some c→has' c=has c:=λ c e=>W.old nv v nv c rv rv (Nat.le_refl _) h1 W.lt e;have only:∀ x c,0 < x→x < G.N→(way x).2=some c→(way v).2=some c→x=v:=λ x c hx hxN ex ev=>by
    obtain ⟨g1,m1,_⟩:=C.par x hx hxN;rw [ex] at m1;rw [ev] at m;rcases m1.of with ⟨f,e1⟩ | ⟨f,e1⟩<;>rcases m.of with ⟨f',e2⟩ | ⟨f',e2⟩
    · rw [e1,e2]
    · rw [f] at f';cases f'
    · rw [f] at f';cases f'
    · rw [e1,e2]
  have old':∀ n x m' c,Reach way (way v).1 n→Reach way x m'→m'≤n→0 < x→x < G.N→(way x).2=some c→togO has' (way v).2 c=has c:=λ n x m' c r rx hle hx hxN e=>by
    have o:=W.old (n + 1) x m' c (du n r) rx (by omega) hx hxN e;cases ek:(way v).2 with
    | none=>exact o
    | some d =>
      show setF has' d (!has' d) c=has c;have hcd:c≠d:=λ z=>by
        subst z;have:=only x c hx hxN e ek;subst this;have:=rx.one (du n r);omega
      rw [setF_ne hcd];exact o
  have dec:∀ {i:Nat},(∀ n m',Reach way v n→Reach way i m'→n < m')→∀ n m',Reach way (way v).1 n→Reach way i m'→n < m':=λ h n m' r r'=>by
    have:=h (n + 1) m' (du n r) r';omega
  generalize ew:way v=wv at *;obtain ⟨u,k⟩:=wv;dsimp only at *;cases m with
  | idle _ hi =>
    refine ⟨hu,old',W.kept,W.left,λ i hiN=>?_,?_⟩
    · obtain ⟨a,b,a0,b0,b1,e,ha,hb⟩:=W.cut i hiN
      by_cases ei:i=u
      · subst ei;refine ⟨a + 1,b,by omega,b0,b1,?_,λ _=>by omega,λ z=>⟨(hb z).1,dec (hb z).2⟩⟩;have e':G.used has' i=_:=e;show G.used has' i=_;rw [e'];simp [one];omega
      · refine ⟨a,b,a0,b0,b1,?_,ha,λ z=>⟨(hb z).1,dec (hb z).2⟩⟩;show G.used has' i=_;rw [e];have:decide (i < u + 1)=decide (i < u):=by
          rw [Bool.eq_iff_iff,decide_eq_true_eq,decide_eq_true_eq];omega
        rw [this]
    · show G.worth has'=_;rw [W.worth];omega
  | fill _ hi hus =>
    refine ⟨hu,old',W.kept,W.left,λ i hiN=>?_,?_⟩
    · obtain ⟨a,b,a0,b0,b1,e,ha,hb⟩:=W.cut i hiN
      by_cases ei:i=v
      · subst ei;have bz:b=0:=by
          by_cases z:b=0
          · exact z
          · have:=(hb z).2 nv nv rv rv;omega
        refine ⟨a,1,a0,by decide,by decide,?_,ha,λ _=>⟨hus,λ n m' r r'=>?_⟩⟩
        · show G.used has' i=_;rw [e,bz];simp [one];omega
        · have:=(du n r).one r';omega
      · refine ⟨a,b,a0,b0,b1,?_,ha,λ z=>⟨(hb z).1,dec (hb z).2⟩⟩;show G.used has' i=_;rw [e];have:decide (i < v)=decide (i < v + 1):=by
          rw [Bool.eq_iff_iff,decide_eq_true_eq,decide_eq_true_eq];omega
        rw [this]
    · show G.worth has'=_;rw [W.worth];omega
  | take c hc f =>
    have f':has' c=false:=by rw [oldv c rfl,f]
    refine ⟨hu,old',λ d hd fd=>?_,λ d hd fd=>?_,λ i hiN=>?_,?_⟩
    · by_cases e:d=c
      · subst e;omega
      · have fd':setF has' c (!has' c) d=true:=fd;rw [setF_ne e] at fd';exact W.kept d hd fd'
    · by_cases e:d=c
      · subst e;have fd':setF has' d (!has' d) d=false:=fd;rw [setF_same,f'] at fd';cases fd'
      · have fd':setF has' c (!has' c) d=false:=fd;rw [setF_ne e] at fd';exact W.left d hd fd'
    · obtain ⟨a,b,a0,b0,b1,e,ha,hb⟩:=W.cut i hiN;refine ⟨a,b,a0,b0,b1,?_,ha,λ z=>⟨(hb z).1,dec (hb z).2⟩⟩;show G.used (setF has' c (!has' c)) i=_;rw [used_tog hc,f',e];have:=ok.lt c hc;unfold Net.at one
      by_cases x1:i < G.s c
      · have x2:i < G.e c:=by omega
        have x3:¬ G.s c≤i:=by omega
        simp [x1,x2,x3]
      · by_cases x2:i < G.e c
        · have x3:G.s c≤i:=by omega
          simp [x1,x2,x3];omega
        · simp [x1,x2]
    · show G.worth (setF has' c (!has' c))=_;rw [worth_tog hc,f',W.worth];simp;omega
  | give c hc f =>
    have f':has' c=true:=by rw [oldv c rfl,f]
    refine ⟨hu,old',λ d hd fd=>?_,λ d hd fd=>?_,λ i hiN=>?_,?_⟩
    · by_cases e:d=c
      · subst e;have fd':setF has' d (!has' d) d=true:=fd;rw [setF_same,f'] at fd';cases fd'
      · have fd':setF has' c (!has' c) d=true:=fd;rw [setF_ne e] at fd';exact W.kept d hd fd'
    · by_cases e:d=c
      · subst e;omega
      · have fd':setF has' c (!has' c) d=false:=fd;rw [setF_ne e] at fd';exact W.left d hd fd'
    · obtain ⟨a,b,a0,b0,b1,e,ha,hb⟩:=W.cut i hiN;refine ⟨a,b,a0,b0,b1,?_,ha,λ z=>⟨(hb z).1,dec (hb z).2⟩⟩;show G.used (setF has' c (!has' c)) i=_;rw [used_tog hc,f',e];have:=ok.lt c hc;unfold Net.at one
      by_cases x1:i < G.s c
      · have x2:i < G.e c:=by omega
        have x3:¬ G.s c≤i:=by omega
        simp [x1,x2,x3]
      · by_cases x2:i < G.e c
        · have x3:G.s c≤i:=by omega
          simp [x1,x2,x3];omega
        · simp [x1,x2]
    · show G.worth (setF has' c (!has' c))=_;rw [worth_tog hc,f',W.worth];simp;omega
theorem Wk.done {h:Nat→Int} {way:Nat→Nat×Option Nat} {has':Nat→Bool} (W:Wk G has R h way 0 has') (hh:Feas G has R h) (hu:∀ i,i + 1 < G.N→G.used has i≤R) :
    Feas G has' (R + 1) h∧(∀ i,i + 1 < G.N→G.used has' i≤R + 1)∧G.worth has'=G.worth has + h (G.N - 1) - h 0:=by
  refine ⟨λ u v g k m=>?_,λ i hi=>?_,W.worth⟩
  · cases m with
    | idle _ hi=>exact hh _ _ _ _ (.idle _ hi)
    | take c hc f=>exact W.left c hc f
    | fill _ hi hus =>
      obtain ⟨a,b,a0,b0,b1,e,ha,hb⟩:=W.cut v hi
      by_cases z:a=0
      · have hlt:G.used has v < R:=by
          simp [one] at e;omega
        exact hh _ _ _ _ (.fill _ hi hlt)
      · have:=ha z;omega
    | give c hc f =>
      have:=W.kept c hc f;omega
  · obtain ⟨a,b,a0,b0,b1,e,ha,hb⟩:=W.cut i hi;have:=hu i hi;simp [one] at e
    by_cases z:b=0
    · omega
    · have:=(hb z).1;omega
end
end Ln
namespace Ln
section
variable {G:Net} {has:Nat→Bool} {R:Int}
noncomputable def Net.toll (G:Net) (h:Nat→Int) (c:Nat):Int:=h (G.e c) - h (G.s c)
theorem feas_up {h:Nat→Int} (hh:Feas G has R h) {i:Nat} (hi:i + 1 < G.N):h i≤h (i + 1):=by
  have:=hh _ _ _ _ (.idle (has:=has) (R:=R) i hi);omega
theorem feas_mono {h:Nat→Int} (hh:Feas G has R h) {i j:Nat} (hij:i≤j) (hj:j < G.N):h i≤h j:=by
  induction j with
  | zero =>
    have:i=0:=by omega
    subst this;exact Int.le_refl _
  | succ j ih =>
    by_cases e:i=j + 1
    · subst e;exact Int.le_refl _
    · have:=ih (by omega) (by omega);have:=feas_up hh hj;omega
theorem toll_sum (ok:G.Ok) (h:Nat→Int) {c:Nat} (hc:c < G.n):sm (λ i=>one (G.at c i) * (h (i + 1) - h i)) (G.N - 1)=G.toll h c:=by
  have h1:=ok.lt c hc;have h2:=ok.le c hc;have e:sm (λ i=>one (G.at c i) * (h (i + 1) - h i)) (G.N - 1)=sm (λ i=>if G.s c≤i∧i < G.e c then h (i + 1) - h i else 0) (G.N - 1):=by
    refine sm_same λ i _=>?_;unfold Net.at one
    by_cases x:G.s c≤i∧i < G.e c
    · rw [if_pos x];simp [x.1,x.2]
    · rw [if_neg x];have:(decide (G.s c≤i) && decide (i < G.e c))=false:=by
        rw [Bool.eq_false_iff];intro z;rw [Bool.and_eq_true,decide_eq_true_eq,decide_eq_true_eq] at z;exact x z
      rw [this];simp
  rw [e,sm_rise h _ _ (by omega)];rw [show min (max (G.N - 1) (G.s c)) (G.e c)=G.e c by omega];rfl
theorem shown (ok:G.Ok) {h:Nat→Int} (hh:Feas G has R h) (hu:∀ i,i + 1 < G.N→G.used has i≤R) :
    G.worth has=R * sm (λ i=>h (i + 1) - h i) (G.N - 1) + sm (λ c=>max 0 (G.w c - G.toll h c)) G.n:=by
  have e1:sm (λ c=>max 0 (G.w c - G.toll h c)) G.n=sm (λ c=>(if has c then G.w c else 0) + (-1) * (one (has c) * G.toll h c)) G.n:=by
    refine sm_same λ c hc=>?_;unfold Net.toll one;cases f:has c with
    | true =>
      have:=hh _ _ _ _ (.give (R:=R) c hc f);simp;omega
    | false =>
      have:=hh _ _ _ _ (.take (R:=R) c hc f);simp;omega
  have e2:sm (λ c=>one (has c) * G.toll h c) G.n=R * sm (λ i=>h (i + 1) - h i) (G.N - 1):=by
    have e3:sm (λ c=>one (has c) * G.toll h c) G.n=sm (λ c=>sm (λ i=>one (has c && G.at c i) * (h (i + 1) - h i)) (G.N - 1)) G.n:=by
      refine sm_same λ c hc=>?_;rw [← toll_sum ok h hc,← sm_mul];refine sm_same λ i _=>?_;cases has c<;>cases G.at c i<;>simp [one]
    rw [e3,sm_swap,← sm_mul];refine sm_same λ i hi=>?_;have hi':i + 1 < G.N:=by omega
    have e4:sm (λ c=>one (has c && G.at c i) * (h (i + 1) - h i)) G.n=(h (i + 1) - h i) * G.used has i:=by
      unfold Net.used;rw [← sm_mul];exact sm_same λ c _=>Int.mul_comm _ _
    rw [e4];have h1:=feas_up hh hi'
    by_cases x:G.used has i < R
    · have:=hh _ _ _ _ (.fill i hi' x);have z:h (i + 1) - h i=0:=by omega
      rw [z];omega
    · have:=hu i hi';rw [show G.used has i=R by omega,Int.mul_comm]
  rw [e1,sm_add,sm_mul,e2];unfold Net.worth;omega
theorem shown_flat (ok:G.Ok) {h:Nat→Int} (hh:Feas G has R h) (hu:∀ i,i + 1 < G.N→G.used has i≤R) (hz:∀ i,i < G.N→h i=0) (R':Int) :
    G.worth has=R' * sm (λ i=>h (i + 1) - h i) (G.N - 1) + sm (λ c=>max 0 (G.w c - G.toll h c)) G.n:=by
  rw [shown ok hh hu];have:sm (λ i=>h (i + 1) - h i) (G.N - 1)=0:=by
    rw [sm_same (g:=λ _=>0) λ i hi=>by rw [hz i (by omega),hz (i + 1) (by omega)];rfl,sm_zero]
  rw [this];omega
noncomputable def swp (h:Nat→Int):List (Nat×Nat×Int)→Nat→Int
  | []=>h
  | (u,v,g) :: ms=>swp (if h v < h u + g then setF h v (h u + g) else h) ms
theorem swp_up:∀ (ms:List (Nat×Nat×Int)) (h:Nat→Int) (x:Nat),h x≤swp h ms x
  | [],h,x=>Int.le_refl _
  | (u,v,g) :: ms,h,x=>by
    refine Int.le_trans ?_ (swp_up ms _ x)
    by_cases c:h v < h u + g
    · rw [if_pos c]
      by_cases e:x=v
      · subst e;rw [setF_same];omega
      · rw [setF_ne e];exact Int.le_refl _
    · rw [if_neg c];exact Int.le_refl _
theorem swp_out:∀ (ms:List (Nat×Nat×Int)) (h:Nat→Int) (x:Nat),(∀ m∈ms,m.2.1≠x)→swp h ms x=h x
  | [],h,x,_=>rfl
  | (u,v,g) :: ms,h,x,hn=>by
    unfold swp;rw [swp_out ms _ x λ m hm=>hn m (List.mem_cons_of_mem _ hm)];have hv:x≠v:=λ z=>hn (u,v,g) (by simp) z.symm
    by_cases c:h v < h u + g
    · rw [if_pos c,setF_ne hv]
    · rw [if_neg c]
theorem swp_settles:∀ (ms:List (Nat×Nat×Int)) (h:Nat→Int),ms.Pairwise (λ a b=>b.2.1≠a.1)→(∀ m∈ms,m.1≠m.2.1)→∀ m∈ms,swp h ms m.1 + m.2.2≤swp h ms m.2.1
  | [],h,_,_,m,hm=>by simp at hm
  | (u,v,g) :: ms,h,hp,hne,m,hm=>by
    obtain ⟨h1,h2⟩:=List.pairwise_cons.mp hp;rcases List.mem_cons.mp hm with rfl | hm'
    · unfold swp;have huv:u≠v:=hne (u,v,g) (by simp);have o:=swp_out ms (if h v < h u + g then setF h v (h u + g) else h) u λ m hm=>h1 m hm;have up:=swp_up ms (if h v < h u + g then setF h v (h u + g) else h) v;show swp _ ms u + g≤swp _ ms v;rw [o]
      by_cases c:h v < h u + g
      · rw [if_pos c] at up ⊢;rw [setF_ne huv];rw [setF_same] at up;exact up
      · rw [if_neg c] at up ⊢;omega
    · exact swp_settles ms _ h2 (λ m hm=>hne m (List.mem_cons_of_mem _ hm)) m hm'
end
end Ln
namespace Ln
end Ln
namespace Ln
noncomputable abbrev Rs:=List (Int×Int×Int)
noncomputable def netOf (rs:Rs) (pts:List Int):Net:=⟨pts.length,rs.length,λ c=>pts.idxOf (Lg.rq rs c).1,λ c=>pts.idxOf ((Lg.rq rs c).2.1 + 1),λ c=>(Lg.rq rs c).2.2⟩
structure Pts (rs:Rs) (pts:List Int):Prop where
  ord:pts.Pairwise (· < ·)
  fst:∀ c,c < rs.length→(Lg.rq rs c).1∈pts
  lst:∀ c,c < rs.length→(Lg.rq rs c).2.1 + 1∈pts
  good:∀ c,c < rs.length→(Lg.rq rs c).1≤(Lg.rq rs c).2.1∧0≤(Lg.rq rs c).2.2
theorem idx_lt {pts:List Int} {x:Int} (h:x∈pts):pts.idxOf x < pts.length:=List.idxOf_lt_length_of_mem h
theorem idx_get {pts:List Int} {x:Int} (h:x∈pts):pts[pts.idxOf x]'(idx_lt h)=x:=List.getElem_idxOf (idx_lt h)
theorem ord_lt {pts:List Int} (o:pts.Pairwise (· < ·)) {i j:Nat} (hi:i < pts.length) (hj:j < pts.length):pts[i] < pts[j]↔i < j:=by
  have f:=List.pairwise_iff_getElem.mp o;constructor
  · intro h;rcases Nat.lt_trichotomy i j with z | z | z
    · exact z
    · subst z;omega
    · have:=f j i hj hi z;omega
  · exact f i j hi hj
theorem ord_le {pts:List Int} (o:pts.Pairwise (· < ·)) {i j:Nat} (hi:i < pts.length) (hj:j < pts.length):pts[i]≤pts[j]↔i≤j:=by
  have:=ord_lt o hj hi;constructor
  · intro h;rcases Nat.lt_or_ge j i with z | z
    · have:=this.mpr z;omega
    · exact z
  · intro h;rcases Int.lt_or_le pts[j] pts[i] with z | z
    · have:=this.mp z;omega
    · exact z
theorem net_ok {rs:Rs} {pts:List Int} (p:Pts rs pts):(netOf rs pts).Ok:=by
  refine ⟨λ c hc=>?_,λ c hc=>idx_lt (p.lst c hc),λ c hc=>(p.good c hc).2⟩;have h1:=idx_get (p.fst c hc);have h2:=idx_get (p.lst c hc);refine (ord_lt p.ord (idx_lt (p.fst c hc)) (idx_lt (p.lst c hc))).mp ?_;rw [h1,h2];have:=(p.good c hc).1;omega
theorem net_at {rs:Rs} {pts:List Int} (p:Pts rs pts) {c i:Nat} (hc:c < rs.length) (hi:i < pts.length):(netOf rs pts).at c i=(decide ((Lg.rq rs c).1≤pts[i]) && decide (pts[i]≤(Lg.rq rs c).2.1)):=by
  have h1:=idx_get (p.fst c hc);have h2:=idx_get (p.lst c hc);have a1:=ord_le p.ord (idx_lt (p.fst c hc)) hi;have a2:=ord_lt p.ord hi (idx_lt (p.lst c hc));rw [h1] at a1;rw [h2] at a2;unfold Net.at netOf;congr 1
  · exact decide_eq_decide.mpr a1.symm
  · refine decide_eq_decide.mpr ?_;rw [← a2];omega
section
variable (G:Net) (has:Nat→Bool)
noncomputable def chg (m i:Nat):Int:=sm (λ c=>one (has c && decide (G.s c=i)) - one (has c && decide (G.e c=i))) m
theorem sm_pt (b:Bool) (x:Nat):∀ m,sm (λ i=>one (b && decide (x=i))) m=one (b && decide (x < m))
  | 0=>by simp [sm,one]
  | m + 1=>by
    unfold sm;rw [sm_pt b x m];cases b with
    | false=>simp [one]
    | true =>
      by_cases h1:x < m
      · have h2:x≠m:=by omega
        have h3:x < m + 1:=by omega
        simp [one,h1,h2,h3]
      · by_cases h2:x=m
        · subst h2;simp [one]
        · have h3:¬ x < m + 1:=by omega
          simp [one,h1,h2,h3]
theorem sm_sub {f g:Nat→Int}:∀ {n:Nat},sm (λ c=>f c - g c) n=sm f n - sm g n
  | 0=>rfl
  | n + 1=>by
    unfold sm;rw [sm_sub];omega
variable {G has}
theorem chg_used (ok:G.Ok) (i:Nat):sm (chg G has G.n) (i + 1)=G.used has i:=by
  unfold chg;rw [show sm (λ i=>sm (λ c=>one (has c && decide (G.s c=i)) - one (has c && decide (G.e c=i))) G.n) (i + 1)=sm (λ c=>sm (λ i=>one (has c && decide (G.s c=i)) - one (has c && decide (G.e c=i))) (i + 1)) G.n from sm_swap.symm];unfold Net.used;refine sm_same λ c hc=>?_;rw [sm_sub,sm_pt,sm_pt];have h1:=ok.lt c hc;unfold Net.at;cases has c with
  | false=>simp [one]
  | true =>
    by_cases a:G.s c≤i
    · have a':G.s c < i + 1:=by omega
      by_cases b:i < G.e c
      · have b':¬ G.e c < i + 1:=by omega
        simp [one,a,a',b,b']
      · have b':G.e c < i + 1:=by omega
        simp [one,a,a',b,b']
    · have a':¬ G.s c < i + 1:=by omega
      have b':¬ G.e c < i + 1:=by omega
      simp [one,a,a',b']
theorem chg_step {m i:Nat}:chg G has (m + 1) i=chg G has m i + (one (has m && decide (G.s m=i)) - one (has m && decide (G.e m=i))):=rfl
end
noncomputable abbrev Mv:=Nat×Nat×Int×Option Nat
noncomputable def bare (m:Mv):Nat×Nat×Int:=(m.1,m.2.1,m.2.2.1)
section
variable (G:Net) (has:Nat→Bool) (R:Int)
noncomputable def onw:List Mv:=(List.range (G.N - 1)).map (λ i=>(i,i + 1,0,none)) ++ ((List.range G.n).filter λ c=>!has c).map λ c=>(G.s c,G.e c,G.w c,some c)
noncomputable def bkw:List Mv:=((List.range (G.N - 1)).filter λ i=>decide (G.used has i < R)).map (λ i=>(i + 1,i,0,none)) ++ ((List.range G.n).filter λ c=>has c).map λ c=>(G.e c,G.s c,-(G.w c),some c)
variable {G has R}
theorem onw_move (ok:G.Ok) {m:Mv} (h:m∈onw G has):Move G has R m.1 m.2.1 m.2.2.1 m.2.2.2∧m.1 < m.2.1:=by
  unfold onw at h;rcases List.mem_append.mp h with h | h
  · obtain ⟨i,hi,rfl⟩:=List.mem_map.mp h;rw [List.mem_range] at hi;exact ⟨.idle i (by omega),by show i < i + 1;omega⟩
  · obtain ⟨c,hc,rfl⟩:=List.mem_map.mp h;rw [List.mem_filter,List.mem_range] at hc;exact ⟨.take c hc.1 (by simpa using hc.2),ok.lt c hc.1⟩
theorem bkw_move (ok:G.Ok) {m:Mv} (h:m∈bkw G has R):Move G has R m.1 m.2.1 m.2.2.1 m.2.2.2∧m.2.1 < m.1:=by
  unfold bkw at h;rcases List.mem_append.mp h with h | h
  · obtain ⟨i,hi,rfl⟩:=List.mem_map.mp h;rw [List.mem_filter,List.mem_range] at hi;exact ⟨.fill i (by omega) (by simpa using hi.2),by show i < i + 1;omega⟩
  · obtain ⟨c,hc,rfl⟩:=List.mem_map.mp h;rw [List.mem_filter,List.mem_range] at hc;exact ⟨.give c hc.1 (by simpa using hc.2),ok.lt c hc.1⟩
theorem move_in {u v:Nat} {g:Int} {k:Option Nat} (m:Move G has R u v g k):(u,v,g,k)∈onw G has∨(u,v,g,k)∈bkw G has R:=by
  cases m with
  | idle _ h=>exact .inl (List.mem_append_left _ (List.mem_map.mpr ⟨u,List.mem_range.mpr (by omega),rfl⟩))
  | take c h f=>exact .inl (List.mem_append_right _ (List.mem_map.mpr ⟨c,List.mem_filter.mpr ⟨List.mem_range.mpr h,by simp [f]⟩,rfl⟩))
  | fill _ h hu=>exact .inr (List.mem_append_left _ (List.mem_map.mpr ⟨v,List.mem_filter.mpr ⟨List.mem_range.mpr (by omega),by simpa using hu⟩,rfl⟩))
  | give c h f=>exact .inr (List.mem_append_right _ (List.mem_map.mpr ⟨c,List.mem_filter.mpr ⟨List.mem_range.mpr h,f⟩,rfl⟩))
noncomputable def Set (h:Nat→Int) (ms:List Mv):Prop:=∀ m∈ms,h m.1 + m.2.2.1≤h m.2.1
theorem feas_of {h:Nat→Int} (h1:Set h (onw G has)) (h2:Set h (bkw G has R)):Feas G has R h:=λ u v g k m=>by
  rcases move_in m with z | z
  · exact h1 _ z
  · exact h2 _ z
theorem set_perm {h:Nat→Int} {ms ns:List Mv} (p:ms.Perm ns) (s:Set h ms):Set h ns:=λ m hm=>s m (p.mem_iff.mpr hm)
noncomputable def swpM (h:Nat→Int) (ms:List Mv):Nat→Int:=swp h (ms.map bare)
theorem swpM_snoc (h:Nat→Int):∀ (ms:List Mv) (m:Mv),swpM h (ms ++ [m])=if swpM h ms m.2.1 < swpM h ms m.1 + m.2.2.1 then setF (swpM h ms) m.2.1 (swpM h ms m.1 + m.2.2.1) else swpM h ms:=by
  intro ms;unfold swpM
  induction ms generalizing h with
  | nil=>intro m;rfl
  | cons a ms ih =>
    intro m;rw [List.cons_append,List.map_cons,List.map_cons];show swp (if h (bare a).2.1 < h (bare a).1 + (bare a).2.2 then _ else h) (List.map bare (ms ++ [m]))=_;rw [ih];rfl
theorem set_onw (ok:G.Ok) {ms:List Mv} (p:ms.Perm (onw G has)) (o:ms.Pairwise λ a b=>a.1≤b.1) (h:Nat→Int):Set (swpM h ms) (onw G has):=by
  refine set_perm p λ m hm=>?_;have mv:∀ m∈ms,m.1 < m.2.1:=λ m hm=>(onw_move (R:=0) ok (p.mem_iff.mp hm)).2;refine swp_settles (ms.map bare) h ?_ ?_ (bare m) (List.mem_map.mpr ⟨m,hm,rfl⟩)
  · rw [List.pairwise_map];refine List.Pairwise.imp_of_mem (λ {a b} _ hb hab=>?_) o;have:=mv b hb;show b.2.1≠a.1;omega
  · intro x hx;obtain ⟨a,ha,rfl⟩:=List.mem_map.mp hx;have:=mv a ha;show a.1≠a.2.1;omega
theorem set_bkw (ok:G.Ok) {ms:List Mv} (p:ms.Perm (bkw G has R)) (o:ms.Pairwise λ a b=>b.1≤a.1) (h:Nat→Int):Set (swpM h ms) (bkw G has R):=by
  refine set_perm p λ m hm=>?_;have mv:∀ m∈ms,m.2.1 < m.1:=λ m hm=>(bkw_move ok (p.mem_iff.mp hm)).2;refine swp_settles (ms.map bare) h ?_ ?_ (bare m) (List.mem_map.mpr ⟨m,hm,rfl⟩)
  · rw [List.pairwise_map];refine List.Pairwise.imp_of_mem (λ {a b} _ hb hab=>?_) o;have:=mv b hb;show b.2.1≠a.1;omega
  · intro x hx;obtain ⟨a,ha,rfl⟩:=List.mem_map.mp hx;have:=mv a ha;show a.1≠a.2.1;omega
theorem set_zero (ok:G.Ok):Set (λ _=>0) (bkw G has R):=λ m hm=>by
  obtain ⟨mv,_⟩:=bkw_move ok hm;show 0 + m.2.2.1≤0;obtain ⟨u,v,g,k⟩:=m;show 0 + g≤0;have mv:Move G has R u v g k:=mv;unfold bkw at hm;rcases List.mem_append.mp hm with h | h
  · obtain ⟨i,hi,e⟩:=List.mem_map.mp h;cases e;omega
  · obtain ⟨c,hc,e⟩:=List.mem_map.mp h;cases e;rw [List.mem_filter,List.mem_range] at hc;have:=ok.w c hc.1;omega
noncomputable def room (G:Net) (p h:Nat→Int):Nat:=(sm (λ v=>p v - h v) G.N).toNat
theorem room_lt {p h h':Nat→Int} (le:∀ v,v < G.N→h' v≤p v) (up:∀ v,v < G.N→h v≤h' v) {v:Nat} (hv:v < G.N) (hlt:h v < h' v):room G p h' < room G p h:=by
  have key:∀ {n:Nat},v < n→n≤G.N→sm (λ v=>p v - h' v) n < sm (λ v=>p v - h v) n:=by
    intro n
    induction n with
    | zero=>intro h;omega
    | succ n ih =>
      intro h1 h2;unfold sm
      by_cases e:v=n
      · subst e;have:=sm_le (f:=λ v=>p v - h' v) (g:=λ v=>p v - h v) (n:=v) λ c hc=>by have:=up c (by omega);omega
        omega
      · have:=ih (by omega) (by omega);have:=up n (by omega);omega
  have h1:=key hv (Nat.le_refl _);have h0:0≤sm (λ v=>p v - h' v) G.N:=by
    have:=sm_le (f:=λ _=>0) (g:=λ v=>p v - h' v) (n:=G.N) λ c hc=>by have:=le c hc;omega
    rwa [sm_zero] at this
  unfold room;omega
end
end Ln
namespace Ln
theorem sum_filt (p:Nat→Bool) (f:Nat→Int):∀ n,(((List.range n).filter p).map f).sum=sm (λ c=>if p c then f c else 0) n
  | 0=>rfl
  | n + 1=>by
    rw [List.range_succ,List.filter_append,List.map_append,List.sum_append,sum_filt p f n];show _=sm (λ c=>if p c then f c else 0) n + (if p n then f n else 0);cases h:p n<;>simp [List.filter,h]
theorem len_filt (p:Nat→Bool):∀ n,((((List.range n).filter p).length:Nat):Int)=sm (λ c=>one (p c)) n
  | 0=>rfl
  | n + 1=>by
    rw [List.range_succ,List.filter_append,List.length_append];unfold sm;rw [← len_filt p n];cases h:p n<;>simp [List.filter,h,one]
theorem sum_map (f:Nat→Int) (n:Nat):((List.range n).map f).sum=sm f n:=by
  have:=sum_filt (λ _=>true) f n;rw [List.filter_eq_self.mpr λ _ _=>rfl] at this;rw [this];exact sm_same λ _ _=>rfl
noncomputable def tollsL (pts:List Int) (h:Nat→Int):List (Int×Int):=((List.range (pts.length - 1)).filter λ i=>decide (0 < h (i + 1) - h i)).map λ i=>(pts.getD i 0,h (i + 1) - h i)
noncomputable def sumT (ts:List (Int×Int)):Int:=(ts.map (·.2)).sum
noncomputable def inT (ts:List (Int×Int)) (f l:Int):Int:=((ts.filter λ t=>decide (f≤t.1) && decide (t.1≤l)).map (·.2)).sum
noncomputable def gainsL (rs:Rs) (ts:List (Int×Int)):Int:=(rs.map λ r=>max 0 (r.2.2 - inT ts r.1 r.2.1)).sum
noncomputable def worthL (rs:Rs) (ns:List Int):Int:=(ns.map λ c=>(Lg.rq rs c.toNat).2.2).sum
noncomputable def choiceL (has:Nat→Bool) (n:Nat):List Int:=((List.range n).filter λ c=>has c).map λ (c:Nat)=>(c:Int)
theorem tolls_ord {rs:Rs} {pts:List Int} (p:Pts rs pts) (h:Nat→Int):((tollsL pts h).map (·.1)).Pairwise (· < ·):=by
  unfold tollsL;rw [List.map_map,List.pairwise_map];have r:(List.range (pts.length - 1)).Pairwise (· < ·):=List.pairwise_lt_range;refine List.Pairwise.imp_of_mem (λ {a b} ha hb hab=>?_) (r.filter _);have h1:=List.mem_range.mp (List.mem_filter.mp ha).1;have h2:=List.mem_range.mp (List.mem_filter.mp hb).1;show pts.getD a 0 < pts.getD b 0;have e1:pts.getD a 0=pts[a]'(by omega):=by simp [List.getD,show a < pts.length by omega]
  have e2:pts.getD b 0=pts[b]'(by omega):=by simp [List.getD,show b < pts.length by omega]
  rw [e1,e2];exact (ord_lt p.ord (by omega) (by omega)).mpr hab
theorem tolls_pos (pts:List Int) (h:Nat→Int):∀ t∈tollsL pts h,0≤t.2:=λ t ht=>by
  obtain ⟨i,hi,rfl⟩:=List.mem_map.mp ht;have:=(List.mem_filter.mp hi).2;rw [decide_eq_true_eq] at this;show 0≤h (i + 1) - h i;omega
section
variable {rs:Rs} {pts:List Int} {has:Nat→Bool} {R:Int} {h:Nat→Int}
theorem tolls_sum (hh:Feas (netOf rs pts) has R h):sumT (tollsL pts h)=sm (λ i=>h (i + 1) - h i) (pts.length - 1):=by
  unfold sumT tollsL;rw [List.map_map];show (((List.range (pts.length - 1)).filter λ i=>decide (0 < h (i + 1) - h i)).map λ i=>h (i + 1) - h i).sum=_;rw [sum_filt];refine sm_same λ i hi=>?_;have:=feas_up hh (i:=i) (show i + 1 < pts.length by omega)
  by_cases z:0 < h (i + 1) - h i
  · rw [if_pos (by simpa using z)]
  · rw [if_neg (by simpa using z)];omega
theorem tolls_in (p:Pts rs pts) (hh:Feas (netOf rs pts) has R h) {c:Nat} (hc:c < rs.length):inT (tollsL pts h) (Lg.rq rs c).1 (Lg.rq rs c).2.1=(netOf rs pts).toll h c:=by
  rw [← toll_sum (net_ok p) h hc];unfold inT tollsL;rw [List.filter_map,List.map_map,List.filter_filter];show (((List.range (pts.length - 1)).filter λ i=>((decide ((Lg.rq rs c).1≤pts.getD i 0) && decide (pts.getD i 0≤(Lg.rq rs c).2.1)) && decide (0 < h (i + 1) - h i))).map λ i=>h (i + 1) - h i).sum=sm _ (pts.length - 1);rw [sum_filt];refine sm_same λ i hi=>?_;have:=feas_up hh (i:=i) (show i + 1 < pts.length by omega);rw [net_at p hc (show i < pts.length by omega)];have e1:pts.getD i 0=pts[i]'(by omega):=by simp [List.getD,show i < pts.length by omega]
  rw [e1];cases (decide ((Lg.rq rs c).1≤pts[i]'(by omega)) && decide (pts[i]'(by omega)≤(Lg.rq rs c).2.1)) with
  | false=>simp [one]
  | true =>
    rw [Bool.true_and]
    by_cases z:0 < h (i + 1) - h i
    · rw [if_pos (by simpa using z)];simp [one]
    · rw [if_neg (by simpa using z)];simp [one];omega
theorem map_rq (rs:Rs) (f:Int×Int×Int→Int):(rs.map f).sum=sm (λ c=>f (Lg.rq rs c)) rs.length:=by
  rw [← sum_map];congr 1;apply List.ext_getElem
  · simp
  · intro i h1 h2;simp [Lg.rq,List.getD,show i < rs.length by simpa using h1]
theorem gains_eq (p:Pts rs pts) (hh:Feas (netOf rs pts) has R h):gainsL rs (tollsL pts h)=sm (λ c=>max 0 ((netOf rs pts).w c - (netOf rs pts).toll h c)) rs.length:=by
  unfold gainsL;rw [map_rq rs λ r=>max 0 (r.2.2 - inT (tollsL pts h) r.1 r.2.1)];refine sm_same λ c hc=>?_;rw [tolls_in p hh hc];rfl
theorem worth_eq (has:Nat→Bool):worthL rs (choiceL has rs.length)=(netOf rs pts).worth has:=by
  unfold worthL choiceL;rw [List.map_map];show (((List.range rs.length).filter λ c=>has c).map λ (c:Nat)=>(Lg.rq rs ((c:Int)).toNat).2.2).sum=_;rw [sum_filt];exact sm_same λ c hc=>by rw [Int.toNat_natCast];rfl
noncomputable def thereN (rs:Rs) (ns:List Int) (d:Int):List Int:=ns.filter λ c=>decide ((Lg.rq rs c.toNat).1≤d) && decide (d≤(Lg.rq rs c.toNat).2.1)
theorem there_used (p:Pts rs pts) (has:Nat→Bool) {c:Nat} (hc:c < rs.length):(((thereN rs (choiceL has rs.length) (Lg.rq rs c).1).length:Nat):Int)=(netOf rs pts).used has ((netOf rs pts).s c):=by
  unfold thereN choiceL;rw [List.filter_map,List.length_map,List.filter_filter,len_filt];refine sm_same λ d hd=>?_;have hs:=idx_lt (p.fst c hc);have:=net_at p hd hs;rw [idx_get (p.fst c hc)] at this;show one ((decide ((Lg.rq rs ((d:Int)).toNat).1≤(Lg.rq rs c).1) && decide ((Lg.rq rs c).1≤(Lg.rq rs ((d:Int)).toNat).2.1)) && has d)=one (has d && (netOf rs pts).at d (pts.idxOf (Lg.rq rs c).1));rw [this,Int.toNat_natCast,Bool.and_comm]
theorem fits_choice (p:Pts rs pts) (hu:∀ i,i + 1 < pts.length→(netOf rs pts).used has i≤R):∀ c∈choiceL has rs.length,(((thereN rs (choiceL has rs.length) (Lg.rq rs c.toNat).1).length:Nat):Int)≤R:=λ c hc=>by
  obtain ⟨d,hd,rfl⟩:=List.mem_map.mp hc;rw [List.mem_filter,List.mem_range] at hd;rw [Int.toNat_natCast,there_used p has hd.1];have h1:=(net_ok p).lt d hd.1;have h2:=(net_ok p).le d hd.1;have h2:(netOf rs pts).e d < pts.length:=h2;exact hu _ (by omega)
theorem choice_ord (has:Nat→Bool) (n:Nat):(choiceL has n).Pairwise (· < ·):=by
  unfold choiceL;rw [List.pairwise_map];have r:(List.range n).Pairwise (· < ·):=List.pairwise_lt_range;exact (r.filter _).imp λ {a b} h=>by omega
theorem choice_in {has:Nat→Bool} {n:Nat} {c:Int} (h:c∈choiceL has n):0≤c∧c < n:=by
  obtain ⟨d,hd,rfl⟩:=List.mem_map.mp h;rw [List.mem_filter,List.mem_range] at hd;omega
theorem best_eq (p:Pts rs pts) (hh:Feas (netOf rs pts) has R h) (hu:∀ i,i + 1 < pts.length→(netOf rs pts).used has i≤R):worthL rs (choiceL has rs.length)=R * sumT (tollsL pts h) + gainsL rs (tollsL pts h):=by
  rw [worth_eq (pts:=pts),tolls_sum hh,gains_eq p hh];exact shown (net_ok p) hh hu
theorem best_flat (p:Pts rs pts) (hh:Feas (netOf rs pts) has R h) (hu:∀ i,i + 1 < pts.length→(netOf rs pts).used has i≤R) (hz:∀ i,i < pts.length→h i=0) (R':Int):worthL rs (choiceL has rs.length)=R' * sumT (tollsL pts h) + gainsL rs (tollsL pts h):=by
  rw [worth_eq (pts:=pts),tolls_sum hh,gains_eq p hh];exact shown_flat (net_ok p) hh hu hz R'
end
end Ln
set_option maxHeartbeats 2000000
namespace L2
open PySem PySem.Spec PyProof.Rows
theorem pe_fldK {X:Cx} {K:PySem.W.Frag} {e:Expr} {f:Str} {pos:Pos} {ta:TE} (he:PE X e ta) (hb:attributeBase e f X.env (eval e X.env)=eval e X.env) (hK:X.K=K:=by rfl):PE X (.Attribute e f pos) (tFld K ta f):=hK ▸ pe_fld he hb
theorem passX0 {P:Program} {w:World} {X:Cx}:Passes (CXE P w) X E0:=λ _ _ _ _ _ _ _ h=>by
  obtain ⟨_,_,_,q⟩:=h;exact q.elim
theorem ixN_nat {n j:Nat} (h:j < n):ixN n (j:Int)=some j:=by
  unfold ixN;rw [if_pos (by omega)];simp [h]
theorem flat_ints (ns:List Int):(ns.map V.int).all flatV=true:=by
  rw [List.all_map];exact List.all_eq_true.mpr λ _ _=>rfl
theorem eqL_ints:∀ (xs ys:List Int),eqL (xs.map V.int) (ys.map V.int)=decide (xs=ys)
  | [],[]=>rfl
  | [],y :: ys=>by simp [eqL]
  | x :: xs,[]=>by simp [eqL]
  | x :: xs,y :: ys=>by
    rw [List.map_cons,List.map_cons];unfold eqL;rw [eqL_ints xs ys];show (x == y && decide (xs=ys))=_
    by_cases h1:x=y<;>by_cases h2:xs=ys<;>simp [h1,h2]
theorem rising_ext:∀ {xs ys:List Int},xs.Pairwise (· < ·)→ys.Pairwise (· < ·)→(∀ n,n∈xs↔n∈ys)→xs=ys
  | [],[],_,_,_=>rfl
  | [],y :: ys,_,_,h=>by have:=(h y).mpr (by simp);simp at this
  | x :: xs,[],_,_,h=>by have:=(h x).mp (by simp);simp at this
  | x :: xs,y :: ys,hx,hy,h=>by
    obtain ⟨a1,a2⟩:=List.pairwise_cons.mp hx;obtain ⟨b1,b2⟩:=List.pairwise_cons.mp hy;have e:x=y:=by
      rcases List.mem_cons.mp ((h x).mp (by simp)) with e | e
      · exact e
      · rcases List.mem_cons.mp ((h y).mpr (by simp)) with e' | e'
        · exact e'.symm
        · have:=b1 x e;have:=a1 y e';omega
    subst e;rw [rising_ext a2 b2 λ n=>?_];constructor
    · intro hn;rcases List.mem_cons.mp ((h n).mp (List.mem_cons_of_mem _ hn)) with e | e
      · have:=a1 n hn;omega
      · exact e
    · intro hn;rcases List.mem_cons.mp ((h n).mpr (List.mem_cons_of_mem _ hn)) with e | e
      · have:=b1 n hn;omega
      · exact e
theorem trip_eq {X:Cx} {H:Hp} {p:Addr} {i j k:Int} (h:H p=some (.tup [.int i,.int j,.int k])):EqD X H 8 (.ref p) (.ref p) true:=by
  have:=eqd_tup (X:=X) (n:=7) (e:=λ _=>true) (SqT.of (K:=X.K) h) (SqT.of (K:=X.K) h) rfl (λ _ _ _=>rfl) λ n x y ex ey=>by
    rw [ex] at ey;cases ey;have hx:∃ z,x = .int z:=by
      match n,ex with
      | 0,ex=>exact ⟨i,(Option.some.inj ex).symm⟩
      | 1,ex=>exact ⟨j,(Option.some.inj ex).symm⟩
      | 2,ex=>exact ⟨k,(Option.some.inj ex).symm⟩
    obtain ⟨z,rfl⟩:=hx;have:=(eqd_flat (X:=X) (H:=H) (x:=.int z) (y:=.int z) rfl rfl).mono (Nat.zero_le 7)
    rwa [show eqV (.int z) (.int z)=true by show (z == z)=true;simp] at this
  exact this
end L2
namespace Sp
open PySem L2
seal PE PA PS PSs PT PG PGs PI PW PTs
section
variable {P:Program} {w:World} {K:PySem.W.Frag} {mg:Str→Option Value} {base:Heap}
theorem rq_at {rs:List (Int×Int×Int)} {i:Nat} {r:Int×Int×Int} (h:rs[i]?=some r):Lg.rq rs i=r:=by
  unfold Lg.rq;simp [List.getD,h]
theorem reqs_at {H:Hp} {a:Addr} {rs:List (Int×Int×Int)} {xs:List V} (h:ReqsAt H a rs) (hx:H a=some (.lst xs)) {j:Nat} {x:V} (e:xs[j]?=some x):∃ p,x = .ref p∧H p=some (.tup (trip (Lg.rq rs j))):=by
  obtain ⟨ys,h1,h2,h3⟩:=h;rw [hx] at h1;cases h1;have hj:j < rs.length:=by have:=(List.getElem?_eq_some_iff.mp e).1;omega
  obtain ⟨p,ep,hp⟩:=h3 j rs[j] (List.getElem?_eq_getElem hj);rw [e] at ep;cases ep;exact ⟨p,rfl,by rw [rq_at (List.getElem?_eq_getElem hj)];exact hp⟩
structure ClsOk (K:PySem.W.Frag) (C:Addr):Prop where
  cl:Cls K C
  ha:PySem.W.findIn K (.ref C) "__class__"=some (some (.builtin "object.__class__"))
  hn:PySem.W.specialIn K (.builtin "object.__class__") "__get__"=some (some (.builtin "getset_descriptor.__get__"))
  htk:PySem.W.takesIn K (.builtin "object.__class__")=some true
  hm:PySem.W.mroIn K C (.type "object")=some true
theorem made_same {H:Hp} {x dx:Addr} {o1 o2:HO} (hx:H x=none) (hd:H dx=none):Same H (upd (upd H dx o1) x o2):=λ b u e=>by
  rw [upd_ne (ne_of_none e hx),upd_ne (ne_of_none e hd)];exact e
theorem same_over {H H':Hp} {x:Addr} {o:HO} (hx:H x=none) (h:Same H H'):Same H (upd H' x o):=λ b u e=>by
  rw [upd_ne (ne_of_none e hx)];exact h b u e
theorem rq_mem {rs:List (Int×Int×Int)} {c:Nat} (h:c < rs.length):Lg.rq rs c∈rs:=by
  unfold Lg.rq;rw [List.getD_eq_getElem?_getD,List.getElem?_eq_getElem h];exact List.getElem_mem h
theorem flat_zero (n:Nat):(List.replicate n [V.int 0]).flatten=(List.replicate n (0:Int)).map V.int:=by
  induction n with
  | zero=>rfl
  | succ n ih=>rw [List.replicate_succ,List.flatten_cons,ih,List.replicate_succ];rfl
theorem sc_lwhole:FnScope ["_law_number"] ["_law_number"] (defScope s__law_whole):=⟨rfl,rfl,rfl,by decide +kernel,rfl,by decide +kernel,by decide +kernel⟩
noncomputable def sp_lwhole:Sp:=λ vs H Q _=>∃ i:Int,vs=[.int i]∧Q (.bl true) H
theorem ok_lwhole (B:Bl mg) (D:FnAt K mg "_law_whole" s__law_whole ["_law_number"]):Def P w K mg base CX0 1 "_law_whole" ["_law_number"] sp_lwhole:=by
  refine D.ok sc_lwhole (λ vs H Q E h=>?_) λ f cdv A outer s H vs Q E hr h=>?_
  · obtain ⟨i,rfl,_⟩:=h;rfl
  · obtain ⟨i,rfl,q⟩:=h;refine ⟨_,pss_one (ps_ret (pe_and (pe_isi B.isinstance B.int PyProof.Rows.Boot.«int» (pv 0)) (pe_one (pe_not (pe_isi B.isinstance B.bool PyProof.Rows.Boot.«bool» (pv 0)))))),?_⟩;obtain ⟨k1,k2,_⟩:=kits (K:=K) (H:=H) (TyOf.int i);exact ⟨_,rfl,_,_,_,rfl,TyOf.int i,k1,_,rfl,iteT ⟨_,rfl,_,_,_,rfl,TyOf.int i,k2,_,rfl,q⟩⟩
theorem sc_lchosen:FnScope ["_law_requests_here","_law_some"] ["_law_requests_here","_law_some"] (defScope s__law_chosen):=⟨rfl,rfl,rfl,by decide +kernel,rfl,by decide +kernel,by decide +kernel⟩
noncomputable def sp_lchosen (K:PySem.W.Frag):Sp:=λ vs H Q _=>∃ (a b:Addr) (ns:List Int) (ys:List V),vs=[.ref b,.ref a]∧H a=some (.lst (ns.map V.int))∧SqL K H b ys∧ns.length≤4000∧∀ H',Same H H'→Q (.bl (choiceB ns ys.length)) H'
theorem ok_lchosen (B:Bl mg) (GW:Def P w K mg base CX0 1 "_law_whole" ["_law_number"] sp_lwhole) (D:FnAt K mg "_law_chosen" s__law_chosen ["_law_requests_here","_law_some"]) :
    Def P w K mg base CX0 2 "_law_chosen" ["_law_requests_here","_law_some"] (sp_lchosen K):=by
  refine D.ok sc_lchosen (λ vs H Q E h=>?_) λ f cdv A outer s H vs Q E hr h=>?_
  · obtain ⟨a,b,ns,ys,rfl,_⟩:=h;rfl
  · obtain ⟨a,b,ns,ys,rfl,ha,hb,hz,q⟩:=h;have hr1:Room 1 _:=hr.mono (by decide);refine ⟨_,pss_cons (ps_if (pt_not (pt_val (pe_callB (call_all_bools rfl) (by rfl) B.all PyProof.Rows.Boot.«all» (pa_cons
        (pe_comp ["_law_at"] [0] rfl (pi_list (pv 1)) λ cl s H fp C=>⟨pg_name (i:=0) (show (["_law_at","_law_requests_here"]:List Str).Nodup by decide +kernel) rfl (Or.inl rfl),pts_nil,
          pe_and (pe_def GW hr1 rfl pass0 (pa_cons (pv 0) pa_nil)) (pe_one (pe_chain op_le op_lt pe_int (pv 0) (pe_callB (call_lenK (K:=K)) (by rfl) B.len PySem.boot_len (pa_cons (pv 1) pa_nil))))⟩) pa_nil)))) (pss_one (ps_ret pe_bl)) pss_nil)
      (pss_one (ps_ret (pe_cmpR (op_eqF (K:=K) hr.units) (pv 1) (pe_callB (call_sortX rfl) (by rfl) B.sorted PyProof.Rows.Boot.«sorted» (pa_cons (pe_callTy (call_setX rfl) (by rfl) B.set PyProof.Rows.Boot.«set» (pa_cons (pv 1) pa_nil)) pa_nil)) (nomark _)))),?_⟩
    refine ⟨_,rfl,a,rfl,⟨_,SqL.of ha⟩,λ D hD=>?_⟩;refine comp_each (yields_list (ns.map V.int)) (λ σ=>∃ o,σ=[o,some (.ref b)]) (λ j=>.bl (decide (0≤ns.getD j 0) && decide (ns.getD j 0 < (ys.length:Int)))) hD (by rw [List.length_map];omega) (λ H3 s3=>SqL.of (s3 _ _ ha)) ⟨_,rfl⟩ ?_ ?_
    · rintro j v σ H3 H3' hj ⟨rfl,hx⟩ s3 ⟨o,rfl⟩ Ky hK;obtain ⟨h1,rfl⟩:=int_at hx;refine ⟨_,rfl,_,rfl,_,rfl,iteT ⟨_,rfl,_,_,rfl,rfl,_,rfl,?_⟩⟩
      by_cases h0:0≤ns.getD j 0
      · refine iteP (by simpa using h0) ⟨_,rfl,b,ys,rfl,.inl (s3.seq hb),_,_,rfl,rfl,hK _ _ _ (Same.refl _) ⟨_,rfl⟩ ?_⟩;rw [decide_eq_true h0,Bool.true_and]
      · refine iteN (by simpa using h0) (hK _ _ _ (Same.refl _) ⟨_,rfl⟩ ?_);rw [decide_eq_false h0,Bool.false_and]
    · intro H3 s3 hD3;have e1:((List.range (ns.map V.int).length).map λ j=>decide (0≤ns.getD j 0) && decide (ns.getD j 0 < (ys.length:Int))).all id=ns.all λ c=>decide (0≤c) && decide (c < (ys.length:Int)):=by
        rw [List.length_map];exact all_range ns λ c=>decide (0≤c) && decide (c < (ys.length:Int))
      refine ⟨D,(List.range (ns.map V.int).length).map λ j=>decide (0≤ns.getD j 0) && decide (ns.getD j 0 < (ys.length:Int)),rfl,SqL.of (by rw [hD3,List.map_map];rfl),_,rfl,?_⟩;rw [e1];have q':=q;unfold choiceB at q';have ha3:=s3 _ _ ha;cases hc:ns.all λ c=>decide (0≤c) && decide (c < (ys.length:Int)) with
      | false =>
        rw [hc] at q';exact iteT (q' H3 s3)
      | true =>
        rw [hc] at q';refine iteF ⟨_,rfl,_,rfl,a,ns,rfl,SqL.of ha3,hz,λ p hp=>?_⟩;refine ⟨p,_,rfl,upd_same,?_,λ ms hms ho l hl=>?_⟩
        · exact Nat.le_trans (Stb.seen_len _ _) hz
        · obtain ⟨r1,r2⟩:=rising_of hms ho;have s4:=(same_laid (o:=SetX P w p (Stb.seen (λ i=>ns.getD i 0) ns.length)) hp).trans (same_laid (o:=.lst (ms.map V.int)) hl);refine ⟨a,l,_,_,rfl,rfl,SqL.of (s4 _ _ ha3),SqL.of upd_same,flat_ints _,flat_ints _,?_⟩;have e:(if false=true then !eqL (ns.map V.int) (ms.map V.int) else eqL (ns.map V.int) (ms.map V.int))=(true && risesB ns):=by
            rw [if_neg Bool.false_ne_true,eqL_ints,Bool.true_and,Bool.eq_iff_iff,decide_eq_true_eq,rises_iff];exact ⟨λ z=>z ▸ r1,λ z=>rising_ext z r1 λ n=>(r2 n).symm⟩
          rw [e];exact q' _ (s3.trans s4)
noncomputable def onB (rs:List (Int×Int×Int)) (d:Int) (c:Int):Bool:=decide ((Lg.rq rs c.toNat).1≤d) && decide (d≤(Lg.rq rs c.toNat).2.1)
theorem taken_ints (ns:List Int) (p:Int→Bool):takenV (λ j=>p (ns.getD j 0)) (λ j=>.int (ns.getD j 0)) ns.length=(ns.filter p).map V.int:=by
  unfold takenV
  conv=>rhs;rw [← range_getD ns 0]
  rw [List.filter_map,List.map_map];rfl
theorem reqs_ix {H:Hp} {b:Addr} {rs:List (Int×Int×Int)} (h:ReqsAt H b rs) {c:Int} (h0:0≤c) (h1:c.toNat < rs.length):∃ xs p,H b=some (.lst xs)∧atI xs c=some (.ref p)∧H p=some (.tup (trip (Lg.rq rs c.toNat))):=by
  obtain ⟨xs,e1,e2,e3⟩:=h;obtain ⟨p,e4,e5⟩:=e3 c.toNat rs[c.toNat] (List.getElem?_eq_getElem h1);exact ⟨xs,p,e1,atI_int h0 e4,by rw [rq_at (List.getElem?_eq_getElem h1)];exact e5⟩
theorem sc_lthere:FnScope ["_law_requests_here","_law_some","_law_day"] ["_law_requests_here","_law_some","_law_day"] (defScope s__law_there):=⟨rfl,rfl,rfl,by decide +kernel,rfl,by decide +kernel,by decide +kernel⟩
noncomputable def sp_lthere (K:PySem.W.Frag):Sp:=λ vs H Q _=>∃ (a b:Addr) (ns:List Int) (d:Int) (rs:List (Int×Int×Int)),vs=[.ref b,.ref a,.int d]∧H a=some (.lst (ns.map V.int))∧ReqsAt H b rs∧(∀ c∈ns,0≤c∧c.toNat < rs.length)∧ns.length≤60000 ∧
  ∀ l H',Same H H'→H l=none→H' l=some (.lst ((ns.filter (onB rs d)).map V.int))→Q (.ref l) H'
theorem ok_lthere (D:FnAt K mg "_law_there" s__law_there ["_law_requests_here","_law_some","_law_day"]):Def P w K mg base CX0 1 "_law_there" ["_law_requests_here","_law_some","_law_day"] (sp_lthere K):=by
  refine D.ok sc_lthere (λ vs H Q E h=>?_) λ f cdv A outer s H vs Q E hr h=>?_
  · obtain ⟨a,b,ns,d,rs,rfl,_⟩:=h;rfl
  · obtain ⟨a,b,ns,d,rs,rfl,ha,hR,hin,hz,q⟩:=h;refine ⟨_,pss_one (ps_ret (pe_comp ["_law_at"] [0,2] rfl (pi_list (pv 1)) λ cl s H fp C=>⟨pg_name (i:=0) (show (["_law_at","_law_requests_here","_law_day"]:List Str).Nodup by decide +kernel) rfl (Or.inl rfl),
      pts_one (pt_chain op_le op_le (pe_ix (ix_tupK (K:=K)) (pe_ix (ix_listK (K:=K)) (pv 1) (pv 0) (λ _ _=>rfl)) pe_int (λ _ _=>rfl)) (pv 2) (pe_ix (ix_tupK (K:=K)) (pe_ix (ix_listK (K:=K)) (pv 1) (pv 0) (λ _ _=>rfl)) pe_int (λ _ _=>rfl))),pv 0⟩)),?_⟩
    refine ⟨_,rfl,a,rfl,⟨_,SqL.of ha⟩,λ D hD=>?_⟩;refine comp_filt (yields_list (ns.map V.int)) (λ σ=>∃ o,σ=[o,some (.ref b),some (.int d)]) (λ j=>onB rs d (ns.getD j 0)) (λ j=>.int (ns.getD j 0)) hD (by rw [List.length_map];omega) (λ H3 s3=>SqL.of (s3 _ _ ha)) ⟨_,rfl⟩ ?_ ?_
    · rintro j v σ H3 H3' hj ⟨rfl,hxj⟩ s3 ⟨o,rfl⟩ Ky Kn hY hN;obtain ⟨h1,rfl⟩:=int_at hxj;obtain ⟨c0,c1⟩:=hin _ (show ns.getD j 0∈ns by rw [getD_at h1];exact List.getElem_mem h1);obtain ⟨xs,p,e1,e2,e3⟩:=reqs_ix (reqs_same s3 hR) c0 c1;unfold onB at hY hN;generalize ns.getD j 0=c at *;refine ⟨_,rfl,_,rfl,b,_,_,_,rfl,rfl,SqL.of e1,e2,p,_,_,_,rfl,rfl,SqT.of e3,(show atI (trip (Lg.rq rs c.toNat)) 0=some (.int (Lg.rq rs c.toNat).1) from rfl),_,rfl,_,_,rfl,rfl,_,rfl,?_⟩
      by_cases h1:(Lg.rq rs c.toNat).1≤d
      · refine iteP (by simpa using h1) ⟨_,rfl,_,rfl,b,_,_,_,rfl,rfl,SqL.of e1,e2,p,_,_,_,rfl,rfl,SqT.of e3,(show atI (trip (Lg.rq rs c.toNat)) 1=some (.int (Lg.rq rs c.toNat).2.1) from rfl),_,_,rfl,rfl,_,rfl,?_⟩
        by_cases h2:d≤(Lg.rq rs c.toNat).2.1
        · exact iteP (by simpa using h2) ⟨_,rfl,hY _ _ _ (Same.refl _) ⟨_,rfl⟩ (by simp [h1,h2]) rfl⟩
        · exact iteN (by simpa using h2) (hN _ _ (Same.refl _) ⟨_,rfl⟩ (by simp [h2]))
      · refine iteN (by simpa using h1) ⟨_,rfl,?_⟩;exact iteF (hN _ _ (Same.refl _) ⟨_,rfl⟩ (by simp [h1]))
    · intro H3 s3 hD3;refine q D H3 s3 hD ?_;rw [hD3,List.length_map,taken_ints ns (onB rs d)]
theorem reqs_copy {H:Hp} {b p:Addr} {rs:List (Int×Int×Int)} {xs:List V} (h:ReqsAt H b rs) (hb:H b=some (.lst xs)) (hp:H p=none):ReqsAt (upd H p (.lst xs)) p rs:=by
  obtain ⟨ys,e1,e2,e3⟩:=h;rw [hb] at e1;cases e1;exact ⟨_,upd_same,e2,λ i r e=>let ⟨p',e4,e5⟩:=e3 i r e;⟨p',e4,same_laid hp _ _ e5⟩⟩
end
end Sp
set_option maxHeartbeats 1000000
namespace L2
open PySem PySem.Spec PyProof.Rows
theorem pg_four {X:Cx} {K:PySem.W.Frag} {x y z v:Str} {k:Nat} {p1 p2 p3 p4 pos:Pos} (i j l m:Nat) (hc:X.calm=true) (hN:X.N.Nodup) (hi:X.N[i]?=some x:=by rfl) (hj:X.N[j]?=some y:=by rfl) (hl:X.N[l]?=some z:=by rfl) (hm:X.N[m]?=some v:=by rfl)
    (hx:X.env.scope.names.lookup x=some .local:=by rfl) (hy:X.env.scope.names.lookup y=some .local:=by rfl) (hz:X.env.scope.names.lookup z=some .local:=by rfl) (hv:X.env.scope.names.lookup v=some .local:=by rfl)
    (hs:(assignEach [.Name x p1,.Name y p2,.Name z p3,.Name v p4] X.env).map (·.2)=assign (.Name x p1) X.env :: (assignEach [.Name y p2,.Name z p3,.Name v p4] X.env).map (·.2):=by rfl) (hs2:(assignEach [.Name y p2,.Name z p3,.Name v p4] X.env).map (·.2)=assign (.Name y p2) X.env :: (assignEach [.Name z p3,.Name v p4] X.env).map (·.2):=by rfl)
    (hs3:(assignEach [.Name z p3,.Name v p4] X.env).map (·.2)=assign (.Name z p3) X.env :: (assignEach [.Name v p4] X.env).map (·.2):=by rfl) (hs4:(assignEach [.Name v p4] X.env).map (·.2)=[assign (.Name v p4) X.env]:=by rfl)
    (hn:(assignEach [.Name x p1,.Name y p2,.Name z p3,.Name v p4] X.env).length=4:=by rfl) (hst:(assignEach [.Name x p1,.Name y p2,.Name z p3,.Name v p4] X.env).findIdx? (·.1)=none:=by rfl) (hK:X.K=K:=by rfl) :
    PG X (.Tuple [.Name x p1,.Name y p2,.Name z p3,.Name v p4] k pos) (gTup K 4 (gCons (gName i) (gCons (gName j) (gCons (gName l) (gCons (gName m) gNil))))) :=
  hK ▸ pg_tup hc (pgs_cons (pg_name hN hi (.inl hx) (.inr hx)) (pgs_cons (pg_name hN hj (.inl hy) (.inr hy)) (pgs_cons (pg_name hN hl (.inl hz) (.inr hz)) (pgs_cons (pg_name hN hm (.inl hv) (.inr hv)) pgs_nil hs4) hs3) hs2) hs) hn hst
noncomputable def TupsAt (H:Hp) (a:Addr) (vs:List (List V)):Prop:=∃ xs:List V,H a=some (.lst xs)∧xs.length=vs.length∧∀ (i:Nat) v,vs[i]?=some v→∃ p,xs[i]?=some (.ref p)∧H p=some (.tup v)
noncomputable def Fx (S:Addr→Prop) (H H':Hp):Prop:=∀ b u,H b=some u→¬ S b→H' b=some u
theorem Fx.refl {S:Addr→Prop} {H:Hp}:Fx S H H:=λ _ _ e _=>e
theorem Fx.trans {S:Addr→Prop} {H H1 H2:Hp} (a:Fx S H H1) (b:Fx S H1 H2):Fx S H H2:=λ c u e n=>b c u (a c u e n) n
theorem Fx.of {S:Addr→Prop} {H H1:Hp} (a:Same H H1):Fx S H H1:=λ c u e _=>a c u e
theorem Fx.mono {S T:Addr→Prop} {H H1:Hp} (a:Fx S H H1) (h:∀ b,S b→T b):Fx T H H1:=λ c u e n=>a c u e λ z=>n (h c z)
theorem Fx.upd {S:Addr→Prop} {H H1:Hp} {a:Addr} {o:HO} (x:Fx S H H1) (h:S a∨H a=none):Fx S H (upd H1 a o):=λ c u e n=>by
  rw [upd_ne λ z=>?_]
  · exact x c u e n
  · subst z;rcases h with h | h
    · exact n h
    · rw [e] at h;cases h
theorem TupsAt.fx {S:Addr→Prop} {H H':Hp} {a:Addr} {vs:List (List V)} (h:TupsAt H a vs) (s:Fx S H H') (ha:¬ S a) (hS:∀ b v,S b→H b≠some (.tup v)):TupsAt H' a vs:=by
  obtain ⟨xs,e1,e2,e3⟩:=h;refine ⟨xs,s a _ e1 ha,e2,λ i v e=>?_⟩;obtain ⟨p,h1,h2⟩:=e3 i v e;exact ⟨p,h1,s p _ h2 λ z=>hS p v z h2⟩
theorem TupsAt.same {H H':Hp} {a:Addr} {vs:List (List V)} (h:TupsAt H a vs) (s:Same H H'):TupsAt H' a vs:=h.fx (S:=λ _=>False) (λ b u e _=>s b u e) (λ z=>z) λ _ _ z=>z.elim
theorem TupsAt.list {H:Hp} {a:Addr} {vs:List (List V)} (h:TupsAt H a vs):∃ xs,H a=some (.lst xs)∧xs.length=vs.length:=let ⟨xs,e1,e2,_⟩:=h;⟨xs,e1,e2⟩
theorem TupsAt.at_ {H:Hp} {a:Addr} {vs:List (List V)} {xs:List V} (h:TupsAt H a vs) (hx:H a=some (.lst xs)) {j:Nat} {x:V} (e:xs[j]?=some x):∃ p v,x = .ref p∧vs[j]?=some v∧H p=some (.tup v):=by
  obtain ⟨ys,h1,h2,h3⟩:=h;rw [hx] at h1;cases h1;have hj:j < vs.length:=by have:=(List.getElem?_eq_some_iff.mp e).1;omega
  obtain ⟨p,ep,hp⟩:=h3 j vs[j] (List.getElem?_eq_getElem hj);rw [e] at ep;cases ep;exact ⟨p,vs[j],rfl,List.getElem?_eq_getElem hj,hp⟩
theorem TupsAt.cat {H:Hp} {a b l:Addr} {vs ws:List (List V)} {xs ys:List V} (ha:TupsAt H a vs) (hb:TupsAt H b ws) (hx:H a=some (.lst xs)) (hy:H b=some (.lst ys)) (hl:H l=none):TupsAt (upd H l (.lst (xs ++ ys))) l (vs ++ ws):=by
  obtain ⟨xs',h1,h2,h3⟩:=ha;obtain ⟨ys',k1,k2,k3⟩:=hb;rw [hx] at h1;cases h1;rw [hy] at k1;cases k1;refine ⟨_,upd_same,by rw [List.length_append,List.length_append,h2,k2],λ i v e=>?_⟩
  by_cases hi:i < vs.length
  · rw [List.getElem?_append_left hi] at e;obtain ⟨p,e1,e2⟩:=h3 i v e;exact ⟨p,by rw [List.getElem?_append_left (by omega)];exact e1,by rw [upd_ne (ne_of_none e2 hl)];exact e2⟩
  · rw [List.getElem?_append_right (by omega)] at e;obtain ⟨p,e1,e2⟩:=k3 _ v e;exact ⟨p,by rw [List.getElem?_append_right (by omega),h2];exact e1,by rw [upd_ne (ne_of_none e2 hl)];exact e2⟩
noncomputable def tupH (H:Hp) (a:Addr):List V:=match H a with
  | some (.tup v)=>v
  | _=>[]
theorem tupH_at {H:Hp} {a:Addr} {v:List V} (h:H a=some (.tup v)):tupH H a=v:=by unfold tupH;rw [h]
theorem tups_refs {H:Hp} {a:Addr} {vs:List (List V)} (h:TupsAt H a vs):∃ ps:List Addr,H a=some (.lst (ps.map V.ref))∧ps.map (tupH H)=vs∧∀ p∈ps,H p=some (.tup (tupH H p)):=by
  obtain ⟨xs,h1,h2,h3⟩:=h;have key:∀ (xs:List V) (vs:List (List V)),xs.length=vs.length→(∀ (i:Nat) v,vs[i]?=some v→∃ p,xs[i]?=some (.ref p)∧H p=some (.tup v))→∃ ps:List Addr,xs=ps.map V.ref∧ps.map (tupH H)=vs∧∀ p∈ps,H p=some (.tup (tupH H p)):=by
    intro xs
    induction xs with
    | nil =>
      intro vs hl _;have:vs=[]:=List.length_eq_zero_iff.mp (by simpa using hl.symm);subst this;exact ⟨[],rfl,rfl,λ p hp=>by simp at hp⟩
    | cons x xs ih =>
      intro vs hl hr;cases vs with
      | nil=>simp at hl
      | cons v vs =>
        obtain ⟨p,e1,e2⟩:=hr 0 v rfl;obtain ⟨ps,e3,e4,e5⟩:=ih vs (by simpa using hl) λ i r' e=>by
          obtain ⟨p',a1,a2⟩:=hr (i + 1) r' (by simpa using e);exact ⟨p',by simpa using a1,a2⟩
        have ex:x = .ref p:=by simpa using e1
        have ek:=tupH_at e2;refine ⟨p :: ps,by rw [ex,e3];rfl,by rw [List.map_cons,ek,e4],λ q hq=>?_⟩;rcases List.mem_cons.mp hq with rfl | hq
        · rw [ek];exact e2
        · exact e5 q hq
  obtain ⟨ps,e1,e2,e3⟩:=key xs vs h2 h3;exact ⟨ps,by rw [h1,e1],e2,e3⟩
theorem refs_tups {H:Hp} {a:Addr} {ps:List Addr} (h:H a=some (.lst (ps.map V.ref))) (hp:∀ p∈ps,H p=some (.tup (tupH H p))):TupsAt H a (ps.map (tupH H)):=by
  refine ⟨_,h,by simp,λ i r e=>?_⟩;rw [List.getElem?_map] at e;cases ei:ps[i]? with
  | none=>rw [ei] at e;cases e
  | some p =>
    rw [ei] at e;cases e;exact ⟨p,by rw [List.getElem?_map,ei];rfl,hp p (List.mem_of_getElem? ei)⟩
theorem perm_map_inv {α β:Type} {f:α→β}:∀ {ms:List α} {l:List β},l.Perm (ms.map f)→∃ ms':List α,l=ms'.map f∧ms'.Perm ms
  | [],l,h=>⟨[],List.perm_nil.mp h,.nil⟩
  | m :: ms,l,h=>by
    have hm:f m∈l:=h.mem_iff.mpr (by simp);obtain ⟨l1,l2,rfl⟩:=List.append_of_mem hm;have h2:(l1 ++ l2).Perm (ms.map f):=by
      have:=List.perm_middle.symm.trans h;exact List.Perm.cons_inv this
    obtain ⟨ms',e,p⟩:=perm_map_inv h2;obtain ⟨a,b,rfl,e1,e2⟩:=List.map_eq_append_iff.mp e.symm;exact ⟨a ++ m :: b,by rw [List.map_append,List.map_cons,e1,e2],List.perm_middle.trans (p.cons m)⟩
section
variable {J:It} {n:Nat} {Ok:Hp→Prop} {item:Nat→V→Hp→Hp→Prop}
theorem comp_tups {g:TG} {tt:TT} {te:TE} {R:Hp→Prop} {H1:Hp} {σ0:St} {D:Addr} (Y:Yields J n Ok item) (S:St→Prop) (p:Nat→Bool) (f:Nat→List V) (hD:H1 D=none) (hn:n≤100000) (hok:∀ H,Same H1 H→Ok H) (s0:S σ0)
    (hs:∀ i x σ H H',i < n→item i x H H'→Same H1 H→S σ→∀ (Ky:St→V→Hp→Prop) (Kn:St→Hp→Prop),(∀ σ3 q H5,Same H H5→H q=none→H5 q=some (.tup (f i))→S σ3→p i=true→Ky σ3 (.ref q) H5)→(∀ σ3 H4,Same H H4→S σ3→p i=false→Kn σ3 H4) →
      g x σ H' λ σ3 H3=>tt σ3 H3 λ b H4=>if b=true then te σ3 H4 λ y H5=>Ky σ3 y H5 else Kn σ3 H4)
    (hq:∀ H,Same H1 H→TupsAt H D (((List.range n).filter p).map f)→R H) :
    ∃ W:Nat→Nat→List V→St→Hp→Prop,(∃ m,W 0 m [] σ0 (upd H1 D (.lst [])))∧∀ i m ys σ' H',W i m ys σ' H' →
      (J.stop i H'∧R H')∨(J.go i H'∧∃ N:List V→St→Hp→Prop,(∀ zs σ2 H2,N zs σ2 H2→∃ m',m' < m∧W (i + 1) m' zs σ2 H2)∧∀ x H2,J.yld i H' x H2→g x σ' H2 λ σ3 H3=>tt σ3 H3 λ b H4 =>
        if b=true then te σ3 H4 λ y H5=>H5 D=some (.lst ys)∧ys.length < sizeLine∧N (ys ++ [y]) σ3 (upd H5 D (.lst (ys ++ [y])))
        else N ys σ3 H4):=by
  have lenF:∀ i,(((List.range i).filter p).map f).length≤i:=λ i=>by
    rw [List.length_map];exact Nat.le_trans (List.length_filter_le _ _) (by simp)
  refine comp_by Y (λ i ys σ H=>S σ∧Same H1 H∧H D=some (.lst ys)∧ys.length=(((List.range i).filter p).map f).length∧∀ (j:Nat) v,(((List.range i).filter p).map f)[j]?=some v→∃ q,ys[j]?=some (.ref q)∧H q=some (.tup v))
    (λ i ys σ H _ z=>hok H z.2.1) ⟨s0,Sp.same_laid hD,upd_same,rfl,λ j r e=>by simp at e⟩ ?_ ?_
  · rintro i x ys σ H H' hi it ⟨hS,sm,hDl,hyl,hys⟩;refine hs i x σ H H' hi it sm hS (λ σ3 y H5=>H5 D=some (.lst ys)∧ys.length < sizeLine∧S σ3∧Same H1 (upd H5 D (.lst (ys ++ [y])))∧upd H5 D (.lst (ys ++ [y])) D=some (.lst (ys ++ [y]))∧(ys ++ [y]).length=(((List.range (i + 1)).filter p).map f).length ∧
        ∀ (j:Nat) v,(((List.range (i + 1)).filter p).map f)[j]?=some v→∃ q,(ys ++ [y])[j]?=some (.ref q)∧upd H5 D (.lst (ys ++ [y])) q=some (.tup v))
      (λ σ3 H4=>S σ3∧Same H1 H4∧H4 D=some (.lst ys)∧ys.length=(((List.range (i + 1)).filter p).map f).length∧∀ (j:Nat) v,(((List.range (i + 1)).filter p).map f)[j]?=some v→∃ q,ys[j]?=some (.ref q)∧H4 q=some (.tup v)) (λ σ3 q H5 s5 hq5 hqt hS3 hp=>?_) (λ σ3 H4 s4 hS3 hp=>?_)
    · have er:((List.range (i + 1)).filter p).map f=((List.range i).filter p).map f ++ [f i]:=by
        rw [List.range_succ,List.filter_append,List.map_append];simp [hp]
      have hnq:q≠D:=λ z=>by rw [z,hDl] at hq5;cases hq5
      refine ⟨s5 _ _ hDl,by have:=lenF i;rw [sizeLine_eq];omega,hS3,λ b u e=>?_,upd_same,by rw [er,List.length_append,List.length_append,hyl];rfl,λ j v e=>?_⟩
      · rw [upd_ne (ne_of_none e hD)];exact s5 _ _ (sm _ _ e)
      · rw [er] at e
        by_cases hj:j < (((List.range i).filter p).map f).length
        · rw [List.getElem?_append_left hj] at e;obtain ⟨p',e1,e2⟩:=hys j v e;refine ⟨p',by rw [List.getElem?_append_left (by omega)];exact e1,?_⟩;rw [upd_ne (λ z=>by rw [z,hDl] at e2;cases e2)];exact s5 _ _ e2
        · have hj':j=(((List.range i).filter p).map f).length:=by
            have:=(List.getElem?_eq_some_iff.mp e).1;rw [List.length_append] at this;simp only [List.length_singleton] at this;omega
          rw [List.getElem?_append_right (by omega),hj',Nat.sub_self] at e;cases e;refine ⟨q,by rw [List.getElem?_append_right (by omega),hj',hyl,Nat.sub_self];rfl,?_⟩;rw [upd_ne hnq];exact hqt
    · have er:((List.range (i + 1)).filter p).map f=((List.range i).filter p).map f:=by
        rw [List.range_succ,List.filter_append,List.map_append];simp [hp]
      rw [er];exact ⟨hS3,λ b u e=>s4 _ _ (sm _ _ e),s4 _ _ hDl,hyl,λ j v e=>let ⟨q,e1,e2⟩:=hys j v e;⟨q,e1,s4 _ _ e2⟩⟩
  · rintro ys σ H ⟨_,sm,hDl,hyl,hys⟩;exact hq H sm ⟨ys,hDl,hyl,hys⟩
end
noncomputable def MtAt (K:PySem.W.Frag) (C:Addr) (x qual:Str) (st:Stmt) (ps:List Str):Prop:=∃ f fd,Meth K C x f∧Fun K x qual st f fd∧Binds K fd ps []
noncomputable def Mtd (P:Program) (w:World) (K:PySem.W.Frag) (mg:Str→Option Value) (base:Heap) (k:Nat) (C:Addr) (x:Str) (ps:List Str) (sp:Sp):Prop:=∃ f fd,Meth K C x f∧Binds K fd ps []∧FnOk P w K mg base CX0 k f fd ps sp
section
variable {P:Program} {w:World} {K:PySem.W.Frag} {mg:Str→Option Value} {base:Heap} {C:Addr} {x qual:Str} {st:Stmt} {N ps:List Str} {k:Nat} {sp:Sp}
theorem MtAt.ok (D:MtAt K C x qual st ps) (S:FnScope N ps (defScope st)) (len:∀ vs H Q E,sp vs H Q E→vs.length=ps.length)
    (hbody:∀ (f:Addr) (cdv:Value) (A:Around) (outer:List Env) (s:Shared) (H:Hp) (vs:List V) (Q:VK) (E:XK),Room k (A.deeper (envOfC qual (defScope st) s.heap.objs.size f cdv))→sp vs H Q E →
      ∃ t,PSs (cxOf CX0 P w K mg base N qual (defScope st) f cdv A outer s H E).nox (defBody st) t∧t { nx:=λ _ H'=>Q .non H',rt:=Q } (start N vs) H):Mtd P w K mg base (k + 1) C x ps sp:=by
  obtain ⟨f,fd,hm,F,b⟩:=D;exact ⟨f,fd,hm,b,F.ok S len (hbody f)⟩
noncomputable def MtAtC (K:PySem.W.Frag) (C:Addr) (x qual:Str) (st:Stmt) (ps:List Str) (c:Addr):Prop:=∃ (f:Addr) (oc:Value) (od:Option Addr) (kV doc pm:Value) (an:Option Addr) (ct:Value) (osl:Array (Option Value)),
  Meth K C x f∧K.lookup f=some ⟨oc,od,.func (PySem.W.fnOf x qual (defArgs st) (defBody st) (defScope st) .none kV doc pm an (.ref c) ct),osl⟩∧PySem.W.codeIn K (.ref c) qual=true∧Binds K (PySem.W.fnOf x qual (defArgs st) (defBody st) (defScope st) .none kV doc pm an (.ref c) ct) ps []
theorem MtAtC.ok {c:Addr} (D:MtAtC K C x qual st ps c) (S:FnScope N ps (defScope st)) (len:∀ vs H Q E,sp vs H Q E→vs.length=ps.length)
    (hbody:∀ (f:Addr) (A:Around) (outer:List Env) (s:Shared) (H:Hp) (vs:List V) (Q:VK) (E:XK),Room k (A.deeper (envOfC qual (defScope st) s.heap.objs.size f (.ref c)))→sp vs H Q E →
      ∃ t,PSs (cxOf CX0 P w K mg base N qual (defScope st) f (.ref c) A outer s H E).nox (defBody st) t∧t { nx:=λ _ H'=>Q .non H',rt:=Q } (start N vs) H):Mtd P w K mg base (k + 1) C x ps sp:=by
  obtain ⟨f,oc,od,kV,doc,pm,an,ct,osl,hm,lk,hc,b⟩:=D;refine ⟨f,_,hm,b,fn_of lk hc S len λ A outer s H vs Q E hr hsp=>?_⟩;obtain ⟨t,h,q⟩:=hbody f A outer s H vs Q E hr hsp;exact ⟨t,h.nox,q⟩
end
section
variable {X:Cx} {k:Nat} {C:Addr} {x:Str} {ps:List Str} {sp:Sp} {p pos:Pos} {o:Expr} {ta:TE}
theorem pe_mtd0 {pl:Sem Bool} (D:Mtd X.prog X.w X.K X.mg X.base k C x ps sp) (he:PE X o ta) (c:Cls X.K C) (hr:Room k X.A)
    (ht:eval (.Call (.Attribute o x p) [] [] pos) X.env=(do
      let ov ← eval o X.env
      standAt p.atName
      let (f,first) ← holding [ov] (getMethod ov x pl)
      callWith pos f first (backTo pos (starEach [] X.env)) (backToKw pos (keywordEach [] X.env))):=by rfl):PE X (.Call (.Attribute o x p) [] [] pos) (tMeth C x sp [] E0 ta tNil):=by
  obtain ⟨f,fd,hm,b,F⟩:=D;exact pe_meth0 he c hm F hr b .nil pass0 ht
end
end L2
namespace Sp
open PySem L2
theorem none_of_same {H H':Hp} {a:Addr} (s:Same H H') (h:H' a=none):H a=none:=by
  cases z:H a with
  | none=>rfl
  | some u=>rw [s _ _ z] at h;cases h
end Sp
namespace Sp
open PySem L2
seal PE PA PS PSs PT PG PGs PI PW PTs
section
variable {P:Program} {w:World} {K:PySem.W.Frag} {mg:Str→Option Value} {base:Heap}
theorem sc_points:FnScope ["requests","firsts","ends"] ["requests"] (defScope s_points_of):=⟨rfl,rfl,rfl,by decide +kernel,rfl,by decide +kernel,by decide +kernel⟩
noncomputable def sp_points:Sp:=λ vs H Q _=>∃ (a:Addr) (rs:List (Int×Int×Int)),vs=[.ref a]∧ReqsAt H a rs∧GoodR rs∧rs.length≤2000∧∀ (l:Addr) (pts:List Int) (H':Hp),Same H H'→H l=none→H' l=some (.lst (pts.map V.int))→Ln.Pts rs pts→pts.length≤4000→Q (.ref l) H'
theorem ok_points (B:Bl mg) (D:FnAt K mg "points_of" s_points_of ["requests"]):Def P w K mg base CX0 1 "points_of" ["requests"] sp_points:=by
  refine D.ok sc_points (λ vs H Q E h=>?_) λ f cdv A outer s H vs Q E hr h=>?_
  · obtain ⟨a,rs,rfl,_⟩:=h;rfl
  · obtain ⟨a,rs,rfl,hR,hg,hz,q⟩:=h;refine ⟨_,pss_cons (ps_setC (i:=1) sc_points.nd rfl ["first","last","price"] [] rfl (pi_list (pv 0)) λ cl s H fp C=>⟨pg_three (K:=K) 0 1 2 rfl (show (["first","last","price"]:List Str).Nodup by decide +kernel),pts_nil,pv 0⟩)
      (pss_cons (ps_setC (i:=2) sc_points.nd rfl ["first","last","price"] [] rfl (pi_list (pv 0)) λ cl s H fp C=>⟨pg_three (K:=K) 0 1 2 rfl (show (["first","last","price"]:List Str).Nodup by decide +kernel),pts_nil,pe_op op_add (pv 1) pe_int⟩)
      (pss_one (ps_ret (pe_callB (call_sortX rfl) (by rfl) B.sorted PyProof.Rows.Boot.«sorted» (pa_cons (pe_callTy (call_setX rfl) (by rfl) B.set PyProof.Rows.Boot.«set» (pa_cons (pe_op op_cat (pv 1) (pv 2)) pa_nil)) pa_nil))))),?_⟩
    obtain ⟨xs,hx,hxl,hxs⟩:=id hR;refine ⟨_,rfl,a,rfl,⟨_,SqL.of hx⟩,λ D1 hD1=>?_⟩;refine comp_each (yields_list xs) (λ σ=>∃ o1 o2 o3,σ=[o1,o2,o3]) (λ j=>.int (Lg.rq rs j).1) hD1 (by omega) (λ H3 s3=>SqL.of (s3 _ _ hx)) ⟨_,_,_,rfl⟩ ?_ ?_
    · rintro j v σ H3 H3' hj ⟨rfl,hxj⟩ s3 ⟨o1,o2,o3,rfl⟩ Ky hK;obtain ⟨p,rfl,hp⟩:=reqs_at hR hx hxj;exact ⟨p,_,rfl,SqT.of (s3 _ _ hp),rfl,_,_,rfl,_,_,rfl,_,_,rfl,rfl,_,rfl,hK _ _ _ (Same.refl _) ⟨_,_,_,rfl⟩ rfl⟩
    intro H1 s1 h1;refine ⟨_,rfl,a,rfl,⟨_,SqL.of (s1 _ _ hx)⟩,λ D2 hD2=>?_⟩;refine comp_each (yields_list xs) (λ σ=>∃ o1 o2 o3,σ=[o1,o2,o3]) (λ j=>.int ((Lg.rq rs j).2.1 + 1)) hD2 (by omega) (λ H3 s3=>SqL.of (s3 _ _ (s1 _ _ hx))) ⟨_,_,_,rfl⟩ ?_ ?_
    · rintro j v σ H3 H3' hj ⟨rfl,hxj⟩ s3 ⟨o1,o2,o3,rfl⟩ Ky hK;obtain ⟨p,rfl,hp⟩:=reqs_at hR hx hxj;exact ⟨p,_,rfl,SqT.of (s3 _ _ (s1 _ _ hp)),rfl,_,_,rfl,_,_,rfl,_,_,rfl,rfl,_,rfl,_,_,rfl,rfl,hK _ _ _ (Same.refl _) ⟨_,_,_,rfl⟩ rfl⟩
    intro H2 s2 h2;rw [hxl] at h1 h2;have hl1:=s2 _ _ h1;refine ⟨_,rfl,_,rfl,D1,D2,_,_,rfl,rfl,hl1,h2,by rw [sizeLine_eq];simp;omega,λ p3 hp3=>?_⟩;have e3:(List.range rs.length).map (λ j=>V.int (Lg.rq rs j).1) ++ (List.range rs.length).map (λ j=>V.int ((Lg.rq rs j).2.1 + 1))=((List.range rs.length).map (λ j=>(Lg.rq rs j).1) ++ (List.range rs.length).map (λ j=>(Lg.rq rs j).2.1 + 1)).map V.int:=by
      rw [List.map_append,List.map_map,List.map_map];rfl
    refine ⟨p3,_,rfl,SqL.of (by rw [upd_same,e3]),by simp;omega,λ p4 hp4=>⟨p4,_,rfl,upd_same,Nat.le_trans (Stb.seen_len _ _) (by simp;omega),λ ms hms ho l hl=>?_⟩⟩;obtain ⟨r1,r2⟩:=rising_of hms ho;have s5:=((s1.trans s2).trans (same_laid hp3)).trans ((same_laid hp4).trans (same_laid (o:=.lst (ms.map V.int)) hl));refine q l ms _ s5 ?_ upd_same ⟨r1,λ c hc=>?_,λ c hc=>?_,λ c hc=>hg _ (rq_mem hc)⟩ ?_
    · exact none_of_same (((s1.trans s2).trans (same_laid hp3)).trans (same_laid hp4)) hl
    · refine (r2 _).mpr (List.mem_append_left _ (List.mem_map.mpr ⟨c,List.mem_range.mpr hc,rfl⟩))
    · refine (r2 _).mpr (List.mem_append_right _ (List.mem_map.mpr ⟨c,List.mem_range.mpr hc,rfl⟩))
    · rw [hms.length_eq];exact Nat.le_trans (Stb.seen_len _ _) (by simp;omega)
noncomputable def optV:Option Nat→V
  | none=>.non
  | some c=>.int (c:Nat)
noncomputable def quad (m:Ln.Mv):List V:=[.int (m.1:Nat),.int (m.2.1:Nat),.int m.2.2.1,optV m.2.2.2]
noncomputable def htL (n:Nat) (h:Nat→Int):List V:=(List.range n).map λ v=>V.int (h v)
noncomputable def HtAt (H:Hp) (a:Addr) (n:Nat) (h:Nat→Int):Prop:=H a=some (.lst (htL n h))
noncomputable def WyAt (H:Hp) (a:Addr) (n:Nat) (way:Nat→Nat×Option Nat):Prop:=∃ xs:List V,H a=some (.lst xs)∧xs.length=n∧∀ v,0 < v→v < n→∃ p,xs[v]?=some (.ref p)∧H p=some (.tup [.int ((way v).1:Nat),optV (way v).2])
theorem htL_len (n:Nat) (h:Nat→Int):(htL n h).length=n:=by simp [htL]
theorem htL_get {n:Nat} {h:Nat→Int} {v:Nat} (hv:v < n):atI (htL n h) (v:Nat)=some (.int (h v)):=atI_nat (by simp [htL,hv])
theorem htL_set {n:Nat} {h:Nat→Int} {v:Nat} {x:Int}:(htL n h).set v (.int x)=htL n (Ln.setF h v x):=by
  unfold htL;apply List.ext_getElem
  · simp
  · intro i h1 h2;rw [List.getElem_set];rw [List.getElem_map,List.getElem_map,List.getElem_range]
    by_cases e:v=i
    · subst e;rw [if_pos rfl,Ln.setF_same]
    · rw [if_neg e,Ln.setF_ne λ z=>e z.symm]
theorem WyAt.fx {S:Addr→Prop} {H H':Hp} {a:Addr} {n:Nat} {way:Nat→Nat×Option Nat} (h:WyAt H a n way) (s:Fx S H H') (ha:¬ S a) (hS:∀ b v,S b→H b≠some (.tup v)):WyAt H' a n way:=by
  obtain ⟨xs,e1,e2,e3⟩:=h;refine ⟨xs,s a _ e1 ha,e2,λ v h1 h2=>?_⟩;obtain ⟨p,q1,q2⟩:=e3 v h1 h2;exact ⟨p,q1,s p _ q2 λ z=>hS p _ z q2⟩
theorem WyAt.put {H:Hp} {a t:Addr} {n:Nat} {way:Nat→Nat×Option Nat} {xs:List V} {v u:Nat} {k:Option Nat} (h:WyAt H a n way) (hx:H a=some (.lst xs)) (ht:H t=some (.tup [.int (u:Nat),optV k])) (hv:v < n) :
    WyAt (upd H a (.lst (xs.set v (.ref t)))) a n (Ln.setF way v (u,k)):=by
  obtain ⟨ys,e1,e2,e3⟩:=h;rw [hx] at e1;cases e1;have nt:∀ b y,H b=some (.tup y)→b≠a:=λ b y e z=>by rw [z,hx] at e;cases e
  refine ⟨_,upd_same,by rw [List.length_set];exact e2,λ w h1 h2=>?_⟩
  by_cases e:w=v
  · subst e;refine ⟨t,by rw [List.getElem?_set_self (by omega)],?_⟩;rw [upd_ne (nt t _ ht),Ln.setF_same];exact ht
  · obtain ⟨p,q1,q2⟩:=e3 w h1 h2;refine ⟨p,by rw [List.getElem?_set_ne λ z=>e z.symm];exact q1,?_⟩;rw [upd_ne (nt p _ q2),Ln.setF_ne e];exact q2
theorem sc_sweep:FnScope ["moves","heights","ways","changed","start","end","gain","count"] ["moves","heights","ways"] (defScope s_sweep):=⟨rfl,rfl,rfl,by decide +kernel,rfl,by decide +kernel,by decide +kernel⟩
noncomputable def sp_sweep:Sp:=λ vs H Q _=>∃ (pm pe pw:Addr) (ms:List Ln.Mv) (h p:Nat→Int) (way:Nat→Nat×Option Nat) (G:Ln.Net) (has:Nat→Bool) (R:Int),vs=[.ref pm,.ref pe,.ref pw]∧TupsAt H pm (ms.map quad)∧HtAt H pe G.N h∧WyAt H pw G.N way∧pe≠pw∧pm≠pe∧pm≠pw ∧
  G.Ok∧Ln.Feas G has R p∧p 0=0∧Ln.Cl G has R p h way∧(∀ m∈ms,Ln.Move G has R m.1 m.2.1 m.2.2.1 m.2.2.2) ∧
  ∀ (b:Bool) way' H',Ln.Cl G has R p (Ln.swpM h ms) way'→(b=false→Ln.swpM h ms=h)→(b=true→Ln.room G p (Ln.swpM h ms) < Ln.room G p h)→Fx (λ c=>c=pe∨c=pw) H H'→HtAt H' pe G.N (Ln.swpM h ms)→WyAt H' pw G.N way'→Q (.bl b) H'
theorem ok_sweep (D:FnAt K mg "sweep" s_sweep ["moves","heights","ways"]):Def P w K mg base CX0 1 "sweep" ["moves","heights","ways"] sp_sweep:=by
  refine D.ok sc_sweep (λ vs H Q E h=>?_) λ f cdv A outer s H vs Q E hr h=>?_
  · obtain ⟨pm,pe,pw,ms,h,p,way,G,has,R,rfl,_⟩:=h;rfl
  · obtain ⟨pm,pe,pw,ms,h,p,way,G,has,R,rfl,hM,hE,hW,n1,n2,n3,ok,hp,p0,hC,hmv,q⟩:=h;refine ⟨_,pss_cons (ps_set (i:=3) sc_sweep.nd rfl (Or.inl rfl) pe_bl)
      (pss_cons (ps_for PassesOwn.never rfl (pi_list (pv 0)) (pg_four (K:=K) 4 5 6 7 rfl sc_sweep.nd)
        (pss_one (ps_if (pt_cmpR op_gt (pe_op op_add (pe_ix ix_list (pv 1) (pv 4) (λ _ _=>rfl)) (pv 6)) (pe_ix ix_list (pv 1) (pv 5) (λ _ _=>rfl)) (nomark _))
          (pss_cons (ps_asg (pe_op op_add (pe_ix ix_list (pv 1) (pv 4) (λ _ _=>rfl)) (pv 6)) (pg_sub (pv 1) (pv 5) set_list))
          (pss_cons (ps_asg (pe_tup (pa_cons (pv 4) (pa_cons (pv 7) pa_nil))) (pg_sub (pv 2) (pv 5) set_list))
          (pss_one (ps_set (i:=3) sc_sweep.nd rfl (Or.inl rfl) pe_bl)))) pss_nil)))
      (pss_one (ps_ret (pv 3)))),?_⟩
    obtain ⟨xs,hx,hxl⟩:=hM.list;rw [List.length_map] at hxl;have hSt:∀ (b:Addr) (v:List V),(b=pe∨b=pw)→H b≠some (.tup v):=λ b v hb z=>by
      rcases hb with rfl | rfl
      · rw [hE] at z;cases z
      · obtain ⟨ys,e,_⟩:=hW;rw [e] at z;cases z
    refine ⟨_,rfl,pm,rfl,⟨_,SqL.of hx⟩,?_⟩;refine for_by (yields_list xs) (λ i σ H2=>∃ b way' o4 o5 o6 o7,σ=[some (.ref pm),some (.ref pe),some (.ref pw),some (.bl b),o4,o5,o6,o7]∧Fx (λ c=>c=pe∨c=pw) H H2∧HtAt H2 pe G.N (Ln.swpM h (ms.take i))∧WyAt H2 pw G.N way' ∧
        Ln.Cl G has R p (Ln.swpM h (ms.take i)) way'∧(b=false→Ln.swpM h (ms.take i)=h)∧(b=true→Ln.room G p (Ln.swpM h (ms.take i)) < Ln.room G p h)) (λ i σ H2 _ z=>?_) ?_ ?_ ?_
    · obtain ⟨b,way',o4,o5,o6,o7,_,sF,_⟩:=z;exact SqL.of (sF _ _ hx λ z=>z.elim n2 n3)
    · exact ⟨false,way,none,none,none,none,rfl,Fx.refl,hE,hW,hC,λ _=>rfl,λ z=>nomatch z⟩
    · rintro i x σ H2' H2 hi ⟨rfl,hxi⟩ ⟨b,way',o4,o5,o6,o7,rfl,sF,hE2,hW2,hC2,hb0,hb1⟩;obtain ⟨t,v4,rfl,hv4,ht⟩:=hM.at_ hx hxi;rw [List.getElem?_map] at hv4;obtain ⟨m,hm,rfl⟩:∃ m,ms[i]?=some m∧quad m=v4:=by
        cases z:ms[i]? with
        | none=>rw [z] at hv4;cases hv4
        | some m=>rw [z] at hv4;cases hv4;exact ⟨m,rfl,rfl⟩
      have mv:=hmv m (List.mem_of_getElem? hm);obtain ⟨hu,hv,hne⟩:=mv.bounds ok;have ht2:H2 t=some (.tup (quad m)):=sF _ _ ht λ z=>hSt t _ z ht;have et:ms.take (i + 1)=ms.take i ++ [m]:=by rw [List.take_add_one,hm];rfl
      have es:=Ln.swpM_snoc h (ms.take i) m;rw [← et] at es;obtain ⟨u,v,g,k⟩:=m;generalize hgd:Ln.swpM h (ms.take i)=hh at *;refine ⟨t,_,rfl,SqT.of ht2,rfl,_,_,rfl,_,_,rfl,_,_,rfl,_,_,rfl,rfl,?_⟩;refine ⟨_,rfl,_,rfl,pe,_,_,_,rfl,rfl,SqL.of hE2,htL_get hu,_,rfl,_,_,rfl,rfl,_,rfl,_,rfl,pe,_,_,_,rfl,rfl,SqL.of hE2,htL_get hv,_,_,rfl,rfl,_,rfl,?_⟩
      by_cases hgt:hh v < hh u + g
      · rw [if_pos hgt] at es;have hgt':hh v < hh u + g:=hgt;have C3:=hC2.raise ok hp p0 mv hgt;refine iteP (by simpa using hgt) ?_;refine ⟨_,rfl,_,rfl,pe,_,_,_,rfl,rfl,SqL.of hE2,htL_get hu,_,rfl,_,_,rfl,rfl,_,rfl,_,rfl,pe,_,_,v,rfl,rfl,hE2,ixN_nat (by rw [htL_len];exact hv),?_⟩;rw [htL_set];have hW3:WyAt (upd H2 pe (.lst (htL G.N (Ln.setF hh v (hh u + g))))) pw G.N way':=hW2.fx (S:=λ c=>c=pe) (Fx.refl.upd (.inl rfl)) (λ z=>n1 z.symm) λ b y z e=>by subst z;rw [hE2] at e;cases e
        have hE3:HtAt (upd H2 pe (.lst (htL G.N (Ln.setF hh v (hh u + g))))) pe G.N (Ln.setF hh v (hh u + g)):=upd_same;have sF3:Fx (λ c=>c=pe∨c=pw) H (upd H2 pe (.lst (htL G.N (Ln.setF hh v (hh u + g))))):=sF.upd (.inl (.inl rfl));generalize upd H2 pe (.lst (htL G.N (Ln.setF hh v (hh u + g))))=H3 at hW3 hE3 sF3 ⊢;refine ⟨_,rfl,_,rfl,by show 2≤sizeLine;decide,λ t2 ht3=>?_⟩;obtain ⟨ys,hy,hyl,_⟩:=id hW3;have tw:t2≠pw:=(ne_of_none hy ht3).symm;have te:t2≠pe:=(ne_of_none hE3 ht3).symm;have sl:Same H3 (upd H3 t2 (.tup [.int (u:Nat),optV k])):=same_laid ht3;have hW4:WyAt (upd H3 t2 (.tup [.int (u:Nat),optV k])) pw G.N way':=hW3.fx (S:=λ _=>False) (Fx.of sl) (λ z=>z) λ _ _ z=>z.elim;refine ⟨_,rfl,_,rfl,pw,ys,_,v,rfl,rfl,sl _ _ hy,ixN_nat (by rw [hyl];exact hv),?_⟩;have hW5:=hW4.put (v:=v) (u:=u) (k:=k) (sl _ _ hy) upd_same hv;have sF5:Fx (λ c=>c=pe∨c=pw) H (upd (upd H3 t2 (.tup [.int (u:Nat),optV k])) pw (.lst (ys.set v (.ref t2)))):=by
          refine Fx.upd (λ b y e n=>?_) (.inl (.inr rfl));exact sl _ _ (sF3 b y e n)
        refine ⟨true,_,_,_,_,_,rfl,sF5,?_,hW5,by rw [es];exact C3,λ z=>(by cases z),λ _=>?_⟩
        · rw [es];show upd (upd H3 t2 _) pw _ pe=_;rw [upd_ne n1,upd_ne te.symm];exact hE3
        · rw [es];have r1:Ln.room G p (Ln.setF hh v (hh u + g)) < Ln.room G p hh:=Ln.room_lt (λ y hy=>C3.le y hy) (λ y _=>by
            by_cases e:y=v
            · subst e;rw [Ln.setF_same];omega
            · rw [Ln.setF_ne e];exact Int.le_refl _) hv (by rw [Ln.setF_same];exact hgt')
          cases b with
          | false=>rw [hb0 rfl] at r1 ⊢;exact r1
          | true=>exact Nat.lt_trans r1 (hb1 rfl)
      · rw [if_neg hgt] at es;refine iteN (by simpa using hgt) ?_;exact ⟨b,way',_,_,_,_,rfl,sF,by rw [es];exact hE2,hW2,by rw [es];exact hC2,by rw [es];exact hb0,by rw [es];exact hb1⟩
    · rintro σ H2 ⟨b,way',o4,o5,o6,o7,rfl,sF,hE2,hW2,hC2,hb0,hb1⟩;have e:ms.take xs.length=ms:=List.take_of_length_le (by omega);rw [e] at hE2 hC2 hb0 hb1;exact ⟨_,rfl,q b way' H2 hC2 hb0 hb1 sF hE2 hW2⟩
end
end Sp
namespace L2
open PySem PySem.Spec PyProof.Rows
theorem get_list {X:Cx}:PGet X (λ x y H Q=>∃ p xs j v,x = .ref p∧y = .int (j:Nat)∧SqL X.K H p xs∧xs[j]?=some v∧Q v H):=by
  intro pins s σ H o i ov iv Q I ro ri h;obtain ⟨p,xs,j,v,rfl,rfl,hq,he,q⟩:=h;cases ro;obtain ⟨t,rfl⟩:=ri;obtain ⟨its,r,pl,hz⟩:=I.list hq;obtain ⟨w,ew,rw'⟩:=r.get he;have hn:=line63;have hj:j < xs.length:=(List.getElem?_eq_some_iff.mp he).1;exact wpAny_getItem_list pl.isList (by omega) (by omega) (by simpa using ew) ⟨v,H,I,rw',q⟩
end L2
namespace Sp
open PySem L2
seal PE PA PS PSs PT PG PGs PI PW PTs
structure LineT (K:PySem.W.Frag) (mg:Str→Option Value) (base:Heap) (CN fI:Addr) (dI:FuncData) (c1 P1 c2 P2:Addr):Prop where
  mC:mg "Line"=some (.ref CN)
  cl:Cls K CN
  nr:NoAttr K CN "rooms"
  np:NoAttr K CN "points"
  nm:NoAttr K CN "moves"
  nh:NoAttr K CN "has"
  ne:NoAttr K CN "heights"
  nw:NoAttr K CN "ways"
  mke:Mk K CN fI
  fI:Fun K "__init__" "Line.__init__" s_Line___init__ fI dI
  bI:Binds K dI ["self","requests","taken","rooms"] []
  ru:MtAt K CN "rooms_used" "Line.rooms_used" s_Line_rooms_used ["self"]
  mo:MtAtC K CN "moves_onward" "Line.moves_onward" s_Line_moves_onward ["self"] c1
  mb:MtAtC K CN "moves_backward" "Line.moves_backward" s_Line_moves_backward ["self"] c2
  cb:MtAt K CN "climb" "Line.climb" s_Line_climb ["self"]
  gr:MtAt K CN "growth" "Line.growth" s_Line_growth ["self"]
  ad:MtAt K CN "add_room" "Line.add_room" s_Line_add_room ["self"]
  ch:MtAt K CN "choice" "Line.choice" s_Line_choice ["self"]
  dt:MtAt K CN "day_tolls" "Line.day_tolls" s_Line_day_tolls ["self"]
  t1:CodeTab K mg base c1 P1
  t2:CodeTab K mg base c2 P2
  n12:P1≠P2
noncomputable def lnFs (R:Int) (pp pm ph pe pw:Addr):List (Str×V):=[("rooms",.int R),("points",.ref pp),("moves",.ref pm),("has",.ref ph),("heights",.ref pe),("ways",.ref pw)]
noncomputable def hasL (n:Nat) (has:Nat→Bool):List V:=(List.range n).map λ c=>V.bl (has c)
noncomputable def takeM (rs:Ln.Rs) (pts:List Int) (c:Nat):Ln.Mv:=((Ln.netOf rs pts).s c,(Ln.netOf rs pts).e c,(Ln.netOf rs pts).w c,some c)
structure LineAt (CN:Addr) (H:Hp) (x dx pp pm ph pe pw:Addr) (rs:Ln.Rs) (pts:List Int) (has:Nat→Bool) (R:Int):Prop where
  ins:H x=some (.ins CN dx (lnFs R pp pm ph pe pw))
  pt:H pp=some (.lst (pts.map V.int))
  mv:TupsAt H pm (((List.range rs.length).map (takeM rs pts)).map quad)
  hs:H ph=some (.lst (hasL rs.length has))
  ok:Ln.Pts rs pts
  rl:rs.length≤2000
  pl:pts.length≤4000
  a1:ph≠pp
  a2:ph≠pm
section
variable {P:Program} {w:World} {K:PySem.W.Frag} {mg:Str→Option Value} {base:Heap} {CN fI c1 P1 c2 P2:Addr} {dI:FuncData} {H H':Hp} {x dx pp pm ph pe pw:Addr} {rs:Ln.Rs} {pts:List Int} {has:Nat→Bool} {R:Int}
theorem LineAt.fx {S:Addr→Prop} (L:LineAt CN H x dx pp pm ph pe pw rs pts has R) (s:Fx S H H') (n1:¬ S x) (n2:¬ S pp) (n3:¬ S pm) (n4:¬ S ph) (hS:∀ b v,S b→H b≠some (.tup v)):LineAt CN H' x dx pp pm ph pe pw rs pts has R :=
  ⟨s _ _ L.ins n1,s _ _ L.pt n2,L.mv.fx s n3 hS,s _ _ L.hs n4,L.ok,L.rl,L.pl,L.a1,L.a2⟩
theorem LineAt.same (L:LineAt CN H x dx pp pm ph pe pw rs pts has R) (s:Same H H'):LineAt CN H' x dx pp pm ph pe pw rs pts has R :=
  L.fx (S:=λ _=>False) (Fx.of s) (λ z=>z) (λ z=>z) (λ z=>z) (λ z=>z) λ _ _ z=>z.elim
theorem lk_r:(lnFs R pp pm ph pe pw).lookup (Str.ofString "rooms")=some (.int R):=rfl
theorem lk_p:(lnFs R pp pm ph pe pw).lookup (Str.ofString "points")=some (.ref pp):=rfl
theorem lk_m:(lnFs R pp pm ph pe pw).lookup (Str.ofString "moves")=some (.ref pm):=rfl
theorem lk_h:(lnFs R pp pm ph pe pw).lookup (Str.ofString "has")=some (.ref ph):=rfl
theorem lk_e:(lnFs R pp pm ph pe pw).lookup (Str.ofString "heights")=some (.ref pe):=rfl
theorem lk_w:(lnFs R pp pm ph pe pw).lookup (Str.ofString "ways")=some (.ref pw):=rfl
theorem hasL_len (n:Nat) (has:Nat→Bool):(hasL n has).length=n:=by simp [hasL]
theorem hasL_get {n c:Nat} (h:c < n):atI (hasL n has) (c:Nat)=some (.bl (has c)):=atI_nat (by simp [hasL,h])
theorem LineAt.move (L:LineAt CN H x dx pp pm ph pe pw rs pts has R) {xs:List V} (hx:H pm=some (.lst xs)) {j:Nat} {v:V} (e:xs[j]?=some v):j < rs.length∧∃ p,v = .ref p∧H p=some (.tup (quad (takeM rs pts j))):=by
  obtain ⟨p,y,rfl,hy,hp⟩:=L.mv.at_ hx e;have hj:j < rs.length:=by
    have:=(List.getElem?_eq_some_iff.mp hy).1;simpa using this
  refine ⟨hj,p,rfl,?_⟩;rw [List.getElem?_map,List.getElem?_map,List.getElem?_range hj] at hy;cases hy;exact hp
theorem LineAt.mlist (L:LineAt CN H x dx pp pm ph pe pw rs pts has R):∃ xs,H pm=some (.lst xs)∧xs.length=rs.length:=by
  obtain ⟨xs,h1,h2⟩:=L.mv.list;exact ⟨xs,h1,by rw [h2];simp⟩
theorem sc_used:FnScope ["self","changes","start","end","price","count","used","now","change"] ["self"] (defScope s_Line_rooms_used):=⟨rfl,rfl,rfl,by decide +kernel,rfl,by decide +kernel,by decide +kernel⟩
noncomputable def sp_used (CN:Addr):Sp:=λ vs H Q _=>∃ (x dx pp pm ph pe pw:Addr) (rs:Ln.Rs) (pts:List Int) (has:Nat→Bool) (R:Int),vs=[.ref x]∧LineAt CN H x dx pp pm ph pe pw rs pts has R ∧
  ∀ l H',Same H H'→H l=none→H' l=some (.lst (htL (pts.length - 1) ((Ln.netOf rs pts).used has)))→Q (.ref l) H'
theorem flat_ht (n:Nat):(List.replicate n [V.int 0]).flatten=htL n λ _=>0:=by
  rw [flat_zero];unfold htL;apply List.ext_getElem
  · simp
  · intro i h1 h2;simp
theorem cut_last (xs:List V):cutV xs none (some (-1))=xs.take (xs.length - 1):=by
  unfold cutV;have e1:HT.sIx xs.length 0 none=0:=rfl;have e2:HT.sIx xs.length xs.length (some (-1))=xs.length - 1:=by
    unfold HT.sIx;simp;omega
  rw [e1,e2];rfl
theorem htL_take (n m:Nat) (h:Nat→Int) (hm:m≤n):(htL n h).take m=htL m h:=by
  unfold htL;rw [← List.map_take,List.take_range,Nat.min_eq_left hm]
theorem htL_at {n:Nat} {h:Nat→Int} {v:Nat} {x:V} (e:(htL n h)[v]?=some x):v < n∧x = .int (h v):=by
  have hv:v < n:=by
    have:=(List.getElem?_eq_some_iff.mp e).1
    rwa [htL_len] at this
  refine ⟨hv,?_⟩;unfold htL at e;rw [List.getElem?_map,List.getElem?_range hv] at e;cases e;rfl
theorem htL_ix {n:Nat} {h:Nat→Int} {v:Nat} (hv:v < n):(htL n h)[v]?=some (.int (h v)):=by simp [htL,hv]
theorem htL_snoc (n:Nat) (h:Nat→Int):htL n h ++ [.int (h n)]=htL (n + 1) h:=by
  unfold htL;rw [List.range_succ,List.map_append];rfl
theorem htL_ext {n:Nat} {h k:Nat→Int} (e:∀ v,v < n→h v=k v):htL n h=htL n k:=by
  unfold htL;exact List.map_congr_left λ v hv=>by rw [e v (List.mem_range.mp hv)]
theorem ok_used (B:Bl mg) (T:LineT K mg base CN fI dI c1 P1 c2 P2):Mtd P w K mg base 1 CN "rooms_used" ["self"] (sp_used CN):=by
  refine T.ru.ok sc_used (λ vs H Q E h=>?_) λ f cdv A outer s H vs Q E hr h=>?_
  · obtain ⟨x,dx,pp,pm,ph,pe,pw,rs,pts,has,R,rfl,_⟩:=h;rfl
  · obtain ⟨x,dx,pp,pm,ph,pe,pw,rs,pts,has,R,rfl,L,q⟩:=h;refine ⟨_,pss_cons (ps_set (i:=1) sc_used.nd rfl (Or.inl rfl) (pe_op op_rep (pe_lst (pa_cons pe_int pa_nil)) (pe_callB call_len_seq (by rfl) B.len PySem.boot_len (pa_cons (pe_fld (pv 0) rfl) pa_nil))))
      (pss_cons (ps_for PassesOwn.never rfl (pi_list (pe_fld (pv 0) rfl)) (pg_four (K:=K) 2 3 4 5 rfl sc_used.nd)
        (pss_one (ps_if (pt_val (pe_ix ix_list (pe_fld (pv 0) rfl) (pv 5) (λ _ _=>rfl)))
          (pss_cons (ps_augS (pv 1) (pv 2) get_list pe_int ip_add set_list) (pss_one (ps_augS (pv 1) (pv 3) get_list pe_int ip_sub set_list))) pss_nil)))
      (pss_cons (ps_set (i:=6) sc_used.nd rfl (Or.inl rfl) (pe_lst pa_nil))
      (pss_cons (ps_set (i:=7) sc_used.nd rfl (Or.inl rfl) pe_int)
      (pss_cons (ps_for PassesOwn.never rfl (pi_list (pe_slice sl_list (pv 1) po_none (po_some (pe_un un_neg pe_int)))) (pg_name (i:=8) sc_used.nd rfl (Or.inl rfl))
        (pss_cons (ps_aug (i:=7) sc_used.nd rfl (Or.inl rfl) (pv 8) ip_add)
        (pss_one (ps_expr (pe_bm PySem.F.plainAttrs_list PySem.F.slot_list_append PySem.F.type_list_append mt_append (pv 6) (pa_cons (pv 7) pa_nil))))))
      (pss_one (ps_ret (pv 6))))))),?_⟩
    obtain ⟨xs,hx,hxl⟩:=L.mlist;have hpl:=L.pl;have hrl:=L.rl;have ok:=Ln.net_ok L.ok;refine ⟨by show 1≤sizeLine;decide,λ l0 hl0=>?_⟩;have s0:Same H (upd H l0 (.lst [.int 0])):=same_laid hl0;refine (rdF (s0 _ _ L.ins) T.cl T.np lk_p ⟨pp,_,rfl,.inl (SqL.of (s0 _ _ L.pt)),l0,_,_,rfl,rfl,upd_same,by rw [List.length_map];omega,by rw [List.length_map];omega,by rw [List.length_map,sizeLine_eq];simp;omega,λ la hla=>?_⟩);rw [List.length_map,Int.toNat_natCast,flat_ht];have s1:Same H (upd (upd H l0 (.lst [.int 0])) la (.lst (htL pts.length λ _=>0))):=s0.trans (same_laid hla);have hA1:upd (upd H l0 (.lst [.int 0])) la (.lst (htL pts.length λ _=>0)) la=some (.lst (htL pts.length λ _=>0)):=upd_same;have hlaN:H la=none:=by
      cases z:H la with
      | none=>rfl
      | some u=>rw [s0 _ _ z] at hla;cases hla
    generalize upd (upd H l0 (.lst [.int 0])) la (.lst (htL pts.length λ _=>0))=H1 at s1 hA1 ⊢;refine (rdF (s1 _ _ L.ins) T.cl T.nm lk_m ⟨pm,rfl,⟨_,SqL.of (s1 _ _ hx)⟩,?_⟩);refine for_by (yields_list xs) (λ i σ H2=>∃ o2 o3 o4 o5,σ=[some (.ref x),some (.ref la),o2,o3,o4,o5,none,none,none]∧Same H H2∧H2 la=some (.lst (htL pts.length (Ln.chg (Ln.netOf rs pts) has i)))) (λ i σ H2 _ z=>?_) ?_ ?_ ?_
    · obtain ⟨o2,o3,o4,o5,_,s2,_⟩:=z;exact SqL.of (s2 _ _ hx)
    · exact ⟨none,none,none,none,rfl,s1,hA1⟩
    · rintro i v σ H2' H2 hi ⟨rfl,hxi⟩ ⟨o2,o3,o4,o5,rfl,s2,hA2⟩;obtain ⟨hi',p,rfl,hp⟩:=L.move hx hxi;have h1:=ok.lt i hi';have h2:=ok.le i hi';have he2:(Ln.netOf rs pts).e i < pts.length:=h2;have hs2:(Ln.netOf rs pts).s i < pts.length:=Nat.lt_trans h1 he2;refine ⟨p,_,rfl,SqT.of (s2 _ _ hp),rfl,_,_,rfl,_,_,rfl,_,_,rfl,_,_,rfl,rfl,?_⟩;refine (rdF (s2 _ _ L.ins) T.cl T.nh lk_h ⟨_,rfl,ph,_,_,_,rfl,rfl,SqL.of (s2 _ _ L.hs),hasL_get hi',_,rfl,?_⟩);cases hb:has i with
      | false =>
        refine iteF ⟨_,_,_,_,rfl,s2,?_⟩;rw [hA2];congr 2;refine htL_ext λ v hv=>?_;rw [Ln.chg_step,hb];simp [Ln.one]
      | true =>
        have s3:Same H (upd H2 la (.lst (htL pts.length (Ln.setF (Ln.chg (Ln.netOf rs pts) has i) ((Ln.netOf rs pts).s i) (Ln.chg (Ln.netOf rs pts) has i ((Ln.netOf rs pts).s i) + 1))))):=same_over hlaN s2;refine iteT ⟨_,rfl,_,rfl,la,_,_,_,rfl,rfl,SqL.of hA2,htL_ix hs2,_,_,rfl,rfl,la,_,_,_,rfl,rfl,hA2,ixN_nat (by rw [htL_len];exact hs2),?_⟩;rw [htL_set];refine ⟨_,rfl,_,rfl,la,_,_,_,rfl,rfl,SqL.of upd_same,htL_ix he2,_,_,rfl,rfl,la,_,_,_,rfl,rfl,upd_same,ixN_nat (by rw [htL_len];exact h2),?_⟩;rw [htL_set];refine ⟨_,_,_,_,rfl,same_over hlaN s3,?_⟩;rw [upd_same];congr 2;refine htL_ext λ v hv=>?_;show Ln.setF (Ln.setF (Ln.chg (Ln.netOf rs pts) has i) ((Ln.netOf rs pts).s i) (Ln.chg (Ln.netOf rs pts) has i ((Ln.netOf rs pts).s i) + 1)) ((Ln.netOf rs pts).e i) (Ln.setF (Ln.chg (Ln.netOf rs pts) has i) ((Ln.netOf rs pts).s i) (Ln.chg (Ln.netOf rs pts) has i ((Ln.netOf rs pts).s i) + 1) ((Ln.netOf rs pts).e i) - 1) v=_;rw [Ln.chg_step,hb]
        by_cases e1:v=(Ln.netOf rs pts).e i
        · have e2:v≠(Ln.netOf rs pts).s i:=by omega
          subst e1;rw [Ln.setF_same,Ln.setF_ne e2];simp [Ln.one,e2.symm];omega
        · rw [Ln.setF_ne e1]
          by_cases e2:v=(Ln.netOf rs pts).s i
          · subst e2;rw [Ln.setF_same];simp [Ln.one,Ne.symm e1]
          · rw [Ln.setF_ne e2];simp [Ln.one,Ne.symm e1,Ne.symm e2]
    · rintro σ H2 ⟨o2,o3,o4,o5,rfl,s2,hA2⟩;rw [hxl] at hA2;refine ⟨by show 0≤sizeLine;decide,λ lu hlu=>?_⟩;have hluN:H lu=none:=by
        cases z:H lu with
        | none=>rfl
        | some u=>rw [s2 _ _ z] at hlu;cases hlu
      have nul:la≠lu:=ne_of_none hA2 hlu;have s3:Same H2 (upd H2 lu (.lst [])):=same_laid hlu;refine ⟨_,rfl,_,rfl,_,rfl,la,_,rfl,SqL.of (s3 _ _ hA2),λ lc hlc=>?_⟩;rw [cut_last,htL_len,htL_take _ _ _ (by omega)];have ncl:lu≠lc:=ne_of_none upd_same hlc;have s4:=s3.trans (same_laid (o:=.lst (htL (pts.length - 1) (Ln.chg (Ln.netOf rs pts) has rs.length))) hlc);have hC4:upd (upd H2 lu (.lst [])) lc (.lst (htL (pts.length - 1) (Ln.chg (Ln.netOf rs pts) has rs.length))) lc=some (.lst (htL (pts.length - 1) (Ln.chg (Ln.netOf rs pts) has rs.length))):=upd_same;have hU4:upd (upd H2 lu (.lst [])) lc (.lst (htL (pts.length - 1) (Ln.chg (Ln.netOf rs pts) has rs.length))) lu=some (.lst []):=by rw [upd_ne ncl,upd_same]
      generalize upd (upd H2 lu (.lst [])) lc (.lst (htL (pts.length - 1) (Ln.chg (Ln.netOf rs pts) has rs.length)))=H4 at s4 hC4 hU4 ⊢;refine ⟨lc,rfl,⟨_,SqL.of hC4⟩,?_⟩;refine for_by (yields_list (htL (pts.length - 1) (Ln.chg (Ln.netOf rs pts) has rs.length))) (λ i σ H5=>∃ o2 o3 o4 o5 o8,σ=[some (.ref x),some (.ref la),o2,o3,o4,o5,some (.ref lu),some (.int (Ln.sm (Ln.chg (Ln.netOf rs pts) has rs.length) i)),o8]∧Same H H5∧H5 lc=some (.lst (htL (pts.length - 1) (Ln.chg (Ln.netOf rs pts) has rs.length))) ∧
          H5 lu=some (.lst (htL i λ v=>Ln.sm (Ln.chg (Ln.netOf rs pts) has rs.length) (v + 1)))) (λ i σ H5 _ z=>?_) ?_ ?_ ?_
      · obtain ⟨o2,o3,o4,o5,o8,_,_,h5,_⟩:=z;exact SqL.of h5
      · exact ⟨o2,o3,o4,o5,none,rfl,s2.trans s4,hC4,hU4⟩
      · rintro i v σ H5' H5 hi ⟨rfl,hvi⟩ ⟨o2,o3,o4,o5,o8,rfl,s5,hC5,hU5⟩;obtain ⟨hi',rfl⟩:=htL_at hvi;refine ⟨_,rfl,_,rfl,_,_,rfl,rfl,_,rfl,.inl ⟨rfl,_,SqL.of hU5⟩,_,rfl,lu,_,_,rfl,rfl,hU5,by rw [htL_len,sizeLine_eq];omega,?_⟩;refine ⟨_,_,_,_,_,rfl,same_over hluN s5,by rw [upd_ne ncl.symm];exact hC5,?_⟩;rw [upd_same];congr 2;exact htL_snoc i λ v=>Ln.sm (Ln.chg (Ln.netOf rs pts) has rs.length) (v + 1)
      · rintro σ H5 ⟨o2,o3,o4,o5,o8,rfl,s5,hC5,hU5⟩;refine ⟨_,rfl,q lu H5 s5 hluN ?_⟩;rw [hU5,htL_len];congr 2;exact htL_ext λ v _=>Ln.chg_used ok v
end
end Sp
namespace Sp
open PySem L2
seal PE PA PS PSs PT PG PGs PI PW PTs
noncomputable def lamOf (st:Stmt):Expr:=match (defBody st).getLastD (.Pass ⟨0,0,0,0⟩) with
  | .Return (some (.Call _ _ (k :: _) _)) _=>k.value
  | _=>.Constant .none 0 ⟨0,0,0,0⟩
noncomputable def lamPos:Expr→Pos
  | .Lambda _ _ _ p=>p
  | _=>⟨0,0,0,0⟩
noncomputable def lamBody:Expr→Expr
  | .Lambda _ b _ _=>b
  | e=>e
noncomputable def lamArgs:Expr→Arguments
  | .Lambda a _ _ _=>a
  | _=>⟨[],[],none,[],[],none,[]⟩
noncomputable def lamScope:Expr→Scope
  | .Lambda _ _ s _=>s
  | _=>{ kind:=.function,names:=[],isGenerator:=false,isCoroutine:=false }
noncomputable abbrev lam1:Expr:=lamOf s_Line_moves_onward
noncomputable abbrev lam2:Expr:=lamOf s_Line_moves_backward
noncomputable def q1:Str:=(("Line.moves_onward":Str) ++ ".<locals>.") ++ "<lambda>"
noncomputable def q2:Str:=(("Line.moves_backward":Str) ++ ".<locals>.") ++ "<lambda>"
noncomputable def Tab1 (H:Hp) (P1:Addr):Prop:=TabIs H P1 (lamPos lam1) q1
noncomputable def Tab2 (H:Hp) (P2:Addr):Prop:=TabIs H P2 (lamPos lam2) q2
noncomputable def hdI:List V→Int
  | .int i :: _=>i
  | _=>0
theorem TabIs.fx {S:Addr→Prop} {H H':Hp} {P:Addr} {pos:Pos} {q:Str} (h:TabIs H P pos q) (s:Fx S H H') (hP:¬ S P) (hS:∀ b o u,S b→H b≠some (.frz o u)):TabIs H' P pos q:=by
  rcases h with h | ⟨c,h,oc,vs,t,h1,h2⟩
  · exact .inl (s _ _ h hP)
  · exact .inr ⟨c,s _ _ h hP,oc,vs,t,s _ _ h1 λ z=>hS c _ _ z h1,h2⟩
theorem TabIs.same {H H':Hp} {P:Addr} {pos:Pos} {q:Str} (h:TabIs H P pos q) (s:Same H H'):TabIs H' P pos q:=TabIs.fx h (S:=λ _=>False) (Fx.of s) (λ z=>z) λ _ _ _ z=>z.elim
section
variable {P:Program} {w:World} {K:PySem.W.Frag} {mg:Str→Option Value} {base:Heap} {CN fI c1 P1 c2 P2:Addr} {dI:FuncData} {H H':Hp} {x dx pp pm ph pe pw:Addr} {rs:Ln.Rs} {pts:List Int} {has:Nat→Bool} {R:Int}
theorem rd_sortK {p3 f:Addr} {ms0:List Ln.Mv} {b:Bool} {rest:List V} {qual:Str} {params:Arguments} {body:Expr} {scope:Scope} {Q:VK} (hT:TupsAt H p3 (ms0.map quad)) (hz:ms0.length≤100000) (hL:LamIs H f qual params body scope)
    (q:∀ (l:Addr) (ms:List Ln.Mv) (H':Hp),Same H H'→H l=none→ms.Perm ms0→ms.Pairwise (λ a c=>if b then c.1≤a.1 else a.1≤c.1)→TupsAt H' l (ms.map quad)→Q (.ref l) H'):rSortK K qual params body scope (tOp (rIxT K) (tVar 0) (tC (.int 0))) b rest [.ref p3] (.ref f :: rest) H Q:=by
  obtain ⟨ps,h1,h2,h3⟩:=tups_refs hT;have hlen:ps.length=ms0.length:=by have:=congrArg List.length h2;simpa using this
  have hq:∀ p∈ps,∃ m,tupH H p=quad m:=λ p hp=>by
    have:tupH H p∈ms0.map quad:=by rw [← h2];exact List.mem_map.mpr ⟨p,hp,rfl⟩
    obtain ⟨m,_,e⟩:=List.mem_map.mp this;exact ⟨m,e.symm⟩
  refine ⟨p3,f,ps,λ a=>hdI (tupH H a),rfl,rfl,SqL.of h1,by omega,hL,λ a ha=>?_,λ qs hqp ho l hl=>?_⟩
  · obtain ⟨m,em⟩:=hq a ha;have:=h3 a ha;rw [em] at this;refine ⟨_,rfl,a,_,_,_,rfl,rfl,SqT.of this,(show atI (quad m) 0=some (.int (m.1:Nat)) from rfl),?_,rfl⟩;show V.int (m.1:Nat)=V.int (hdI (tupH H a));rw [em];rfl
  · have hp:(qs.map (tupH H)).Perm (ms0.map quad):=by rw [← h2];exact hqp.map _
    obtain ⟨ms,e,pm⟩:=perm_map_inv hp;have key:∀ p∈qs,tupH (upd H l (.lst (qs.map V.ref))) p=tupH H p:=λ p hp=>by
      have:=h3 p (hqp.mem_iff.mp hp);unfold tupH;rw [upd_ne (ne_of_none this hl)]
    have em:qs.map (tupH (upd H l (.lst (qs.map V.ref))))=qs.map (tupH H):=List.map_congr_left key;refine q l ms _ (same_laid hl) hl pm ?_ ?_
    · have o1:(qs.map (tupH H)).Pairwise λ x y=>if b then hdI y≤hdI x else hdI x≤hdI y:=List.pairwise_map.mpr ho
      rw [e] at o1;refine (List.pairwise_map.mp o1).imp λ {a c} h=>?_;cases b with
      | false =>
        have h':(a.1:Int)≤(c.1:Int):=h;show a.1≤c.1;omega
      | true =>
        have h':(c.1:Int)≤(a.1:Int):=h;show c.1≤a.1;omega
    · rw [← e,← em];refine refs_tups upd_same λ p hp=>?_;rw [key p hp,upd_ne (ne_of_none (h3 p (hqp.mem_iff.mp hp)) hl)];exact h3 p (hqp.mem_iff.mp hp)
theorem tups_some {D pm:Addr} {vs:List (List V)} {xs:List V} {p:Nat→Bool} (h:TupsAt H pm vs) (hx:H pm=some (.lst xs)) (s:Same H H') (hD:H' D=some (.lst (takenV p (λ j=>xs.getD j .non) xs.length))):TupsAt H' D (((List.range vs.length).filter p).map λ j=>vs.getD j []):=by
  obtain ⟨ys,e1,e2,e3⟩:=id h;rw [hx] at e1;cases e1;refine ⟨_,hD,by unfold takenV;rw [List.length_map,List.length_map,e2],λ i v e=>?_⟩;rw [List.getElem?_map] at e;unfold takenV;rw [e2,List.getElem?_map];cases z:((List.range vs.length).filter p)[i]? with
  | none=>rw [z] at e;cases e
  | some j =>
    rw [z] at e;cases e;have hj:j < vs.length:=List.mem_range.mp (List.mem_filter.mp (List.mem_of_getElem? z)).1;obtain ⟨q,q1,q2⟩:=e3 j vs[j] (List.getElem?_eq_getElem hj);refine ⟨q,?_,?_⟩
    · show some (xs.getD j .non)=some (.ref q);rw [List.getD_eq_getElem?_getD,q1];rfl
    · show H' q=some (HO.tup (vs.getD j []));rw [List.getD_eq_getElem?_getD,List.getElem?_eq_getElem hj];exact s _ _ q2
theorem sc_lam1:FnScope ["move"] ["move"] (lamScope lam1):=⟨rfl,rfl,rfl,by decide +kernel,rfl,by decide +kernel,by decide +kernel⟩
theorem sc_lam2:FnScope ["move"] ["move"] (lamScope lam2):=⟨rfl,rfl,rfl,by decide +kernel,rfl,by decide +kernel,by decide +kernel⟩
theorem sc_onw:FnScope ["self","idle","taking"] ["self"] (defScope s_Line_moves_onward):=⟨rfl,rfl,rfl,by decide +kernel,rfl,by decide +kernel,by decide +kernel⟩
noncomputable def sp_onw (CN P1:Addr):Sp:=λ vs H Q _=>∃ (x dx pp pm ph pe pw:Addr) (rs:Ln.Rs) (pts:List Int) (has:Nat→Bool) (R:Int),vs=[.ref x]∧LineAt CN H x dx pp pm ph pe pw rs pts has R∧Tab1 H P1 ∧
  ∀ (l:Addr) (ms:List Ln.Mv) (H':Hp),Fx (λ b=>b=P1) H H'→Tab1 H' P1→H l=none→ms.Perm (Ln.onw (Ln.netOf rs pts) has)→ms.Pairwise (λ a c=>a.1≤c.1)→TupsAt H' l (ms.map quad)→Q (.ref l) H'
theorem ok_onw (B:Bl mg) (T:LineT K mg base CN fI dI c1 P1 c2 P2):Mtd P w K mg base 4 CN "moves_onward" ["self"] (sp_onw CN P1):=by
  refine T.mo.ok sc_onw (λ vs H Q E h=>?_) λ f A outer s H vs Q E hr h=>?_
  · obtain ⟨x,dx,pp,pm,ph,pe,pw,rs,pts,has,R,rfl,_⟩:=h;rfl
  · obtain ⟨x,dx,pp,pm,ph,pe,pw,rs,pts,has,R,rfl,L,hT,q⟩:=h;refine ⟨_,pss_cons (ps_setC (i:=1) sc_onw.nd rfl ["place"] [] rfl (pi_range1 rfl B.range (pa_cons (pe_op op_sub (pe_callB call_len_seq (by rfl) B.len PySem.boot_len (pa_cons (pe_fld (pv 0) rfl) pa_nil)) pe_int) pa_nil)) λ cl s H fp C =>
        ⟨pg_name (i:=0) (show (["place"]:List Str).Nodup by decide +kernel) rfl (Or.inl rfl),pts_nil,pe_tup (pa_cons (pv 0) (pa_cons (pe_op op_add (pv 0) pe_int) (pa_cons pe_int (pa_cons pe_non pa_nil))))⟩)
      (pss_cons (ps_setC (i:=2) sc_onw.nd rfl ["move"] [0] rfl (pi_list (pe_fld (pv 0) rfl)) λ cl s H fp C =>
        ⟨pg_name (i:=0) (show (["move","self"]:List Str).Nodup by decide +kernel) rfl (Or.inl rfl),pts_one (pt_not (pt_val (pe_ix (ix_listK (K:=K)) (pe_fldK (K:=K) (pv 1) rfl) (pe_ix (ix_tupK (K:=K)) (pv 0) pe_int (λ _ _=>rfl)) (λ _ _=>rfl)))),pv 0⟩)
      (pss_one (ps_ret (pe_callBK (call_sortK (k:=0) (x:="move") (qual:=q1) (params:=lamArgs lam1) (body:=lamBody lam1) (scope:=lamScope lam1) hr sc_lam1 (λ _ _ _ _=>rfl) (λ _ _ _ _ _ _=>pe_ix (ix_tupK (K:=K)) (pv 0) pe_int (λ _ _=>rfl))) rfl B.sorted PyProof.Rows.Boot.«sorted»
        (pa_cons (pe_op op_cat (pv 1) (pv 2)) pa_nil) (pk_cons (pe_lam rfl T.t1) pk_nil))))),?_⟩
    obtain ⟨xs,hx,hxl⟩:=L.mlist;have hpl:=L.pl;have hrl:=L.rl;refine (rdF L.ins T.cl T.np lk_p ⟨pp,_,rfl,.inl (SqL.of L.pt),_,_,rfl,rfl,_,rfl,by rw [List.length_map];omega,by rw [List.length_map];omega,λ D1 hD1=>?_⟩);have en:(((pts.map V.int).length:Int) - 1).toNat=pts.length - 1:=by rw [List.length_map];omega
    rw [en];refine comp_tups (tt:=tYes) yields_range (λ σ=>∃ o1,σ=[o1]) (λ _=>true) (λ i=>quad (i,i + 1,0,none)) hD1 (by omega) (λ _ _=>trivial) ⟨_,rfl⟩ ?_ ?_
    · rintro j v σ H3' H3 hj ⟨rfl,rfl⟩ s3 ⟨o1,rfl⟩ Ky Kn hY _;refine ⟨_,rfl,_,rfl,_,_,rfl,rfl,by show 4≤sizeLine;decide,λ p5 hp5=>hY _ p5 _ (same_laid hp5) hp5 ?_ ⟨_,rfl⟩ rfl⟩;rw [upd_same];show some (HO.tup [.int (0 + (j:Int)),.int (0 + (j:Int) + 1),.int 0,.non])=some (HO.tup [.int (j:Nat),.int ((j + 1:Nat):Int),.int 0,.non]);rw [Int.zero_add];rfl
    intro H1 s1 h1;rw [List.filter_eq_self.mpr λ _ _=>rfl] at h1;refine (rdF (s1 _ _ L.ins) T.cl T.nm lk_m ⟨pm,rfl,⟨_,SqL.of (s1 _ _ hx)⟩,λ D2 hD2=>?_⟩);refine comp_filt (yields_list xs) (λ σ=>∃ o1,σ=[o1,some (.ref x)]) (λ j=>!has j) (λ j=>xs.getD j .non) hD2 (by omega) (λ H3 s3=>SqL.of (s3 _ _ (s1 _ _ hx))) ⟨_,rfl⟩ ?_ ?_
    · rintro j v σ H3' H3 hj ⟨rfl,hxj⟩ s3 ⟨o1,rfl⟩ Ky Kn hY hN;obtain ⟨hj',p,rfl,hp⟩:=L.move hx hxj;have S3:=s1.trans s3;refine (rdF (S3 _ _ L.ins) T.cl T.nh lk_h ⟨_,rfl,p,_,_,_,rfl,rfl,SqT.of (S3 _ _ hp),(show atI (quad (takeM rs pts j)) 3=some (.int (j:Nat)) from rfl),ph,_,_,_,rfl,rfl,SqL.of (S3 _ _ L.hs),hasL_get hj',_,rfl,?_⟩);cases hb:has j with
      | false=>exact iteT ⟨_,rfl,hY _ _ _ (Same.refl _) ⟨_,rfl⟩ (by rw [hb];rfl) (by rw [List.getD_eq_getElem?_getD,hxj];rfl)⟩
      | true=>exact iteF (hN _ _ (Same.refl _) ⟨_,rfl⟩ (by rw [hb];rfl))
    intro H2 s2 h2;have S2:=s1.trans s2;have L1:=L.same s1;have t2:=tups_some L1.mv (s1 _ _ hx) s2 h2;have t1:=h1.same s2;obtain ⟨y1,g1,k1⟩:=t1.list;have hl2:(takenV (λ j=>!has j) (λ j=>xs.getD j .non) xs.length).length≤2000:=Nat.le_trans (takenV_len _ _ _) (by omega);refine ⟨_,rfl,_,rfl,D1,D2,_,_,rfl,rfl,g1,h2,?_,λ p3 hp3=>?_⟩
    · rw [k1,sizeLine_eq,List.length_map,List.length_range];omega
    have t3:=t1.cat t2 g1 h2 hp3;have S3:Same H (upd H2 p3 (.lst (y1 ++ takenV (λ j=>!has j) (λ j=>xs.getD j .non) xs.length))):=S2.trans (same_laid hp3);generalize upd H2 p3 (.lst (y1 ++ takenV (λ j=>!has j) (λ j=>xs.getD j .non) xs.length))=H3 at t3 S3 ⊢;have eo:(List.range (pts.length - 1)).map (λ i=>quad (i,i + 1,0,none)) ++ ((List.range (((List.range rs.length).map (takeM rs pts)).map quad).length).filter λ j=>!has j).map (λ j=>(((List.range rs.length).map (takeM rs pts)).map quad).getD j [])=(Ln.onw (Ln.netOf rs pts) has).map quad:=by
      unfold Ln.onw;rw [List.length_map,List.length_map,List.length_range,List.map_append];have e1:((List.range ((Ln.netOf rs pts).N - 1)).map λ i=>((i,i + 1,0,none):Ln.Mv)).map quad=(List.range (pts.length - 1)).map λ i=>quad (i,i + 1,0,none):=by rw [List.map_map];rfl
      rw [e1];have e2:(((List.range (Ln.netOf rs pts).n).filter λ c=>!has c).map λ c=>((Ln.netOf rs pts).s c,(Ln.netOf rs pts).e c,(Ln.netOf rs pts).w c,some c)).map quad=((List.range rs.length).filter λ c=>!has c).map λ c=>quad (takeM rs pts c):=by rw [List.map_map];rfl
      rw [e2];congr 1;refine List.map_congr_left λ j hj=>?_;have hj':j < rs.length:=List.mem_range.mp (List.mem_filter.mp hj).1;rw [List.getD_eq_getElem?_getD,List.getElem?_map,List.getElem?_map,List.getElem?_range hj'];rfl
    rw [eo] at t3;refine ⟨TabIs.same hT S3,λ f5 H5 hT5 s5 hL5=>?_⟩;have F5:Fx (λ b=>b=P1) H H5:=λ b u e n=>s5 b u n (S3 b u e);have nP:∀ b v,b=P1→H3 b≠some (.tup v):=λ b v hb z=>by
      subst hb;rcases TabIs.same hT S3 with e | ⟨_,e,_⟩
      · rw [e] at z;cases z
      · rw [e] at z;cases z
    have nP2:¬ p3=P1:=λ hb=>by
      subst hb;obtain ⟨ys,e1,_⟩:=t3.list;rcases TabIs.same hT S3 with e | ⟨_,e,_⟩
      · rw [e] at e1;cases e1
      · rw [e] at e1;cases e1
    have t5:TupsAt H5 p3 ((Ln.onw (Ln.netOf rs pts) has).map quad):=t3.fx (S:=λ b=>b=P1) (λ b u e n=>s5 b u n e) nP2 nP;refine rd_sortK t5 ?_ hL5 λ l ms H' s' hl hpm ho ht=>?_
    · unfold Ln.onw;have:=List.length_filter_le (λ c=>!has c) (List.range rs.length);rw [List.length_append,List.length_map,List.length_map,List.length_range];rw [List.length_range] at this;show pts.length - 1 + _≤_;have e:(Ln.netOf rs pts).n=rs.length:=rfl;rw [e];omega
    · refine q l ms H' (F5.trans (Fx.of s')) (TabIs.same hT5 s') ?_ hpm ho ht;cases z:H l with
      | none=>rfl
      | some u =>
        by_cases e:l=P1
        · subst e;rcases hT5 with e | ⟨_,e,_⟩
          · rw [e] at hl;cases hl
          · rw [e] at hl;cases hl
        · rw [F5 _ _ z e] at hl;cases hl
end
end Sp
namespace Sp
open PySem L2
seal PE PA PS PSs PT PG PGs PI PW PTs
section
variable {P:Program} {w:World} {K:PySem.W.Frag} {mg:Str→Option Value} {base:Heap} {CN fI c1 P1 c2 P2:Addr} {dI:FuncData} {H H':Hp} {x dx pp pm ph pe pw:Addr} {rs:Ln.Rs} {pts:List Int} {has:Nat→Bool} {R:Int}
theorem TabIs.there {P0:Addr} {pos:Pos} {q:Str} (h:TabIs H P0 pos q):∃ ps,H P0=some (.tbl ps):=by
  rcases h with e | ⟨_,e,_⟩
  · exact ⟨_,e⟩
  · exact ⟨_,e⟩
theorem sc_bkw:FnScope ["self","filling","giving_up"] ["self"] (defScope s_Line_moves_backward):=⟨rfl,rfl,rfl,by decide +kernel,rfl,by decide +kernel,by decide +kernel⟩
noncomputable def sp_bkw (CN P2:Addr):Sp:=λ vs H Q _=>∃ (x dx pp pm ph pe pw:Addr) (rs:Ln.Rs) (pts:List Int) (has:Nat→Bool) (R:Int),vs=[.ref x]∧LineAt CN H x dx pp pm ph pe pw rs pts has R∧Tab2 H P2 ∧
  ∀ (l:Addr) (ms:List Ln.Mv) (H':Hp),Fx (λ b=>b=P2) H H'→Tab2 H' P2→H l=none→ms.Perm (Ln.bkw (Ln.netOf rs pts) has R)→ms.Pairwise (λ a c=>c.1≤a.1)→TupsAt H' l (ms.map quad)→Q (.ref l) H'
theorem ok_bkw (B:Bl mg) (T:LineT K mg base CN fI dI c1 P1 c2 P2) (GU:Mtd P w K mg base 1 CN "rooms_used" ["self"] (sp_used CN)):Mtd P w K mg base 4 CN "moves_backward" ["self"] (sp_bkw CN P2):=by
  refine T.mb.ok sc_bkw (λ vs H Q E h=>?_) λ f A outer s H vs Q E hr h=>?_
  · obtain ⟨x,dx,pp,pm,ph,pe,pw,rs,pts,has,R,rfl,_⟩:=h;rfl
  · obtain ⟨x,dx,pp,pm,ph,pe,pw,rs,pts,has,R,rfl,L,hT,q⟩:=h;have hr1:Room 1 _:=hr.mono (by decide);refine ⟨_,pss_cons (ps_setC (i:=1) sc_bkw.nd rfl ["place","used"] [0] rfl (pi_enum rfl B.enumerate (pa_cons (pe_mtd0 GU (pv 0) T.cl hr1) pa_nil)) λ cl s H fp C =>
        ⟨pg_two (K:=K) 0 1 rfl (show (["place","used","self"]:List Str).Nodup by decide +kernel),pts_one (pt_cmpR op_lt (pv 1) (pe_fldK (K:=K) (pv 2) rfl) (nomark _)),pe_tup (pa_cons (pe_op op_add (pv 0) pe_int) (pa_cons (pv 0) (pa_cons pe_int (pa_cons pe_non pa_nil))))⟩)
      (pss_cons (ps_setC (i:=2) sc_bkw.nd rfl ["start","end","price","count"] [0] rfl (pi_list (pe_fld (pv 0) rfl)) λ cl s H fp C =>
        ⟨pg_four (K:=K) 0 1 2 3 rfl (show (["start","end","price","count","self"]:List Str).Nodup by decide +kernel),pts_one (pt_val (pe_ix (ix_listK (K:=K)) (pe_fldK (K:=K) (pv 4) rfl) (pv 3) (λ _ _=>rfl))),
          pe_tup (pa_cons (pv 1) (pa_cons (pv 0) (pa_cons (pe_un un_neg (pv 2)) (pa_cons (pv 3) pa_nil))))⟩)
      (pss_one (ps_ret (pe_callBK (call_sortKR (b:=true) (k:=0) (x:="move") (qual:=q2) (params:=lamArgs lam2) (body:=lamBody lam2) (scope:=lamScope lam2) hr sc_lam2 (λ _ _ _ _=>rfl) (λ _ _ _ _ _ _=>pe_ix (ix_tupK (K:=K)) (pv 0) pe_int (λ _ _=>rfl))) rfl B.sorted PyProof.Rows.Boot.«sorted»
        (pa_cons (pe_op op_cat (pv 1) (pv 2)) pa_nil) (pk_cons (pe_lam rfl T.t2) (pk_cons pe_bl pk_nil)))))),?_⟩
    obtain ⟨xs,hx,hxl⟩:=L.mlist;have hpl:=L.pl;have hrl:=L.rl;refine ⟨_,rfl,x,dx,_,rfl,L.ins,by rfl,?_⟩;unfold tNil;refine ⟨x,dx,pp,pm,ph,pe,pw,rs,pts,has,R,rfl,L,λ lu H0 s0 hlu hU=>?_⟩;refine ⟨lu,rfl,⟨_,SqL.of hU⟩,λ D1 hD1=>?_⟩;refine comp_tups (yields_enum (htL (pts.length - 1) ((Ln.netOf rs pts).used has))) (λ σ=>∃ o1 o2,σ=[o1,o2,some (.ref x)]) (λ i=>decide ((Ln.netOf rs pts).used has i < R)) (λ i=>quad (i + 1,i,0,none)) hD1 (by rw [htL_len];omega) (λ H3 s3=>SqL.of (s3 _ _ hU)) ⟨_,_,rfl⟩ ?_ ?_
    · rintro j v σ H3 H3' hj ⟨T',y,hT',rfl,rfl,hyj⟩ s3 ⟨o1,o2,rfl⟩ Ky Kn hY hN;obtain ⟨hj',rfl⟩:=htL_at hyj;have sT:Same H3 (upd H3 T' (.tup [.int (j:Nat),.int ((Ln.netOf rs pts).used has j)])):=same_laid hT';refine ⟨T',_,rfl,SqT.of upd_same,rfl,_,_,rfl,_,_,rfl,rfl,?_⟩;refine ⟨_,rfl,rdF (((s0.trans s3).trans sT) _ _ L.ins) T.cl T.nr lk_r ⟨_,_,rfl,rfl,_,rfl,?_⟩⟩
      by_cases hb:(Ln.netOf rs pts).used has j < R
      · refine iteP (by simpa using hb) ⟨_,rfl,_,_,rfl,rfl,_,rfl,by show 4≤sizeLine;decide,λ p5 hp5=>hY _ p5 _ (sT.trans (same_laid hp5)) (none_of_same sT hp5) ?_ ⟨_,_,rfl⟩ (by simpa using hb)⟩;rw [upd_same];rfl
      · exact iteN (by simpa using hb) (hN _ _ sT ⟨_,_,rfl⟩ (by simpa using hb))
    intro H1 s1 h1;rw [htL_len] at h1;have S1:=s0.trans s1;refine (rdF (S1 _ _ L.ins) T.cl T.nm lk_m ⟨pm,rfl,⟨_,SqL.of (S1 _ _ hx)⟩,λ D2 hD2=>?_⟩);refine comp_tups (yields_list xs) (λ σ=>∃ o1 o2 o3 o4,σ=[o1,o2,o3,o4,some (.ref x)]) (λ j=>has j) (λ j=>quad ((Ln.netOf rs pts).e j,(Ln.netOf rs pts).s j,-((Ln.netOf rs pts).w j),some j)) hD2 (by omega) (λ H3 s3=>SqL.of (s3 _ _ (S1 _ _ hx))) ⟨_,_,_,_,rfl⟩ ?_ ?_
    · rintro j v σ H3' H3 hj ⟨rfl,hxj⟩ s3 ⟨o1,o2,o3,o4,rfl⟩ Ky Kn hY hN;obtain ⟨hj',p,rfl,hp⟩:=L.move hx hxj;have S3:=S1.trans s3;refine ⟨p,_,rfl,SqT.of (S3 _ _ hp),rfl,_,_,rfl,_,_,rfl,_,_,rfl,_,_,rfl,rfl,?_⟩;refine (rdF (S3 _ _ L.ins) T.cl T.nh lk_h ⟨_,rfl,ph,_,_,_,rfl,rfl,SqL.of (S3 _ _ L.hs),hasL_get hj',_,rfl,?_⟩);cases hb:has j with
      | false=>exact iteF (hN _ _ (Same.refl _) ⟨_,_,_,_,rfl⟩ hb)
      | true=>exact iteT ⟨_,rfl,_,rfl,_,rfl,_,rfl,_,rfl,by show 4≤sizeLine;decide,λ p5 hp5=>hY _ p5 _ (same_laid hp5) hp5 (by rw [upd_same];rfl) ⟨_,_,_,_,rfl⟩ hb⟩
    intro H2 s2 h2;have S2:=S1.trans s2;have t1:=h1.same s2;obtain ⟨y1,g1,k1⟩:=t1.list;obtain ⟨y2,g2,k2⟩:=h2.list;have e1:y1.length≤4000:=by
      rw [k1,List.length_map];have:=List.length_filter_le (λ i=>decide ((Ln.netOf rs pts).used has i < R)) (List.range (pts.length - 1));rw [List.length_range] at this;omega
    have e2:y2.length≤2000:=by
      rw [k2,List.length_map];have:=List.length_filter_le (λ j=>has j) (List.range xs.length);rw [List.length_range] at this;omega
    refine ⟨_,rfl,_,rfl,D1,D2,_,_,rfl,rfl,g1,g2,by rw [sizeLine_eq];omega,λ p3 hp3=>?_⟩;have t3:=t1.cat h2 g1 g2 hp3;have S3:Same H (upd H2 p3 (.lst (y1 ++ y2))):=S2.trans (same_laid hp3);generalize upd H2 p3 (.lst (y1 ++ y2))=H3 at t3 S3 ⊢;have eo:((List.range (pts.length - 1)).filter λ i=>decide ((Ln.netOf rs pts).used has i < R)).map (λ i=>quad (i + 1,i,0,none)) ++ ((List.range xs.length).filter λ j=>has j).map (λ j=>quad ((Ln.netOf rs pts).e j,(Ln.netOf rs pts).s j,-((Ln.netOf rs pts).w j),some j))=(Ln.bkw (Ln.netOf rs pts) has R).map quad:=by
      unfold Ln.bkw;rw [List.map_append,List.map_map,List.map_map,hxl];rfl
    rw [eo] at t3;refine ⟨TabIs.same hT S3,λ f5 H5 hT5 s5 hL5=>?_⟩;have F5:Fx (λ b=>b=P2) H H5:=λ b u e n=>s5 b u n (S3 b u e);obtain ⟨tps,htp⟩:=TabIs.there (TabIs.same hT S3);have t5:TupsAt H5 p3 ((Ln.bkw (Ln.netOf rs pts) has R).map quad):=t3.fx (S:=λ b=>b=P2) (λ b u e n=>s5 b u n e) (λ hb=>by
      subst hb;obtain ⟨ys,e1,_⟩:=t3.list;rw [htp] at e1;cases e1) λ b v hb z=>by subst hb;rw [htp] at z;cases z
    refine rd_sortK t5 ?_ hL5 λ l ms H' s' hl hpm ho ht=>?_
    · have:=congrArg List.length eo;rw [List.length_append,List.length_map,List.length_map,List.length_map] at this;rw [k1,List.length_map] at e1;rw [k2,List.length_map] at e2;omega
    · refine q l ms H' (F5.trans (Fx.of s')) (TabIs.same hT5 s') ?_ hpm ho ht;cases z:H l with
      | none=>rfl
      | some u =>
        by_cases e:l=P2
        · subst e;obtain ⟨tp,h5⟩:=TabIs.there hT5;rw [h5] at hl;cases hl
        · rw [F5 _ _ z e] at hl;cases hl
end
end Sp
namespace Sp
open PySem L2
seal PE PA PS PSs PT PG PGs PI PW PTs
structure ClimbAt (CN P1 P2:Addr) (S:Addr→Prop) (H0 H:Hp) (x dx pp pm ph la lw lo lb:Addr) (rs:Ln.Rs) (pts:List Int) (has:Nat→Bool) (R:Int) (mo mb:List Ln.Mv) (h:Nat→Int) (way:Nat→Nat×Option Nat):Prop where
  ln:LineAt CN H x dx pp pm ph la lw rs pts has R
  to:TupsAt H lo (mo.map quad)
  tb:TupsAt H lb (mb.map quad)
  ht:HtAt H la pts.length h
  wy:WyAt H lw pts.length way
  t1:Tab1 H P1
  t2:Tab2 H P2
  fx:Fx S H0 H
section
variable {P:Program} {w:World} {K:PySem.W.Frag} {mg:Str→Option Value} {base:Heap} {CN fI c1 P1 c2 P2:Addr} {dI:FuncData} {H0 H H':Hp} {x dx pp pm ph pe pw la lw lo lb:Addr} {rs:Ln.Rs} {pts:List Int} {has:Nat→Bool} {R:Int}
structure Off (la lw pp pm ph lo lb:Addr):Prop where
  ne:la≠lw
  p:pp≠la∧pp≠lw
  m:pm≠la∧pm≠lw
  h:ph≠la∧ph≠lw
  o:lo≠la∧lo≠lw
  b:lb≠la∧lb≠lw
theorem ClimbAt.swept {S:Addr→Prop} {mo mb:List Ln.Mv} {h h':Nat→Int} {way way':Nat→Nat×Option Nat} (C:ClimbAt CN P1 P2 S H0 H x dx pp pm ph la lw lo lb rs pts has R mo mb h way) (O:Off la lw pp pm ph lo lb) (n1:H0 la=none) (n2:H0 lw=none)
    (s:Fx (λ c=>c=la∨c=lw) H H') (hE:HtAt H' la pts.length h') (hW:WyAt H' lw pts.length way'):ClimbAt CN P1 P2 S H0 H' x dx pp pm ph la lw lo lb rs pts has R mo mb h' way':=by
  obtain ⟨ys,hy,_⟩:=id C.wy;have hE0:H la=some (.lst (htL pts.length h)):=C.ht;have off:∀ {b:Addr},b≠la∧b≠lw→¬ (b=la∨b=lw):=λ hb z=>z.elim hb.1 hb.2;have nt:∀ (b:Addr) (v:List V),(b=la∨b=lw)→H b≠some (.tup v):=λ b v hb z=>by
    rcases hb with rfl | rfl
    · rw [hE0] at z;cases z
    · rw [hy] at z;cases z
  have nf:∀ (b:Addr) (o:Obj) (u:HO),(b=la∨b=lw)→H b≠some (.frz o u):=λ b o u hb z=>by
    rcases hb with rfl | rfl
    · rw [hE0] at z;cases z
    · rw [hy] at z;cases z
  have ntb:∀ {b:Addr} {ps:Array Value},H b=some (.tbl ps)→¬ (b=la∨b=lw):=λ e hb=>by
    rcases hb with rfl | rfl
    · rw [hE0] at e;cases e
    · rw [hy] at e;cases e
  obtain ⟨q1,e1⟩:=TabIs.there C.t1;obtain ⟨q2,e2⟩:=TabIs.there C.t2;refine ⟨C.ln.fx s (λ hb=>?_) (off O.p) (off O.m) (off O.h) nt,C.to.fx s (off O.o) nt,C.tb.fx s (off O.b) nt,hE,hW,TabIs.fx C.t1 s (ntb e1) nf,TabIs.fx C.t2 s (ntb e2) nf,λ b u e n=>s b u (C.fx b u e n) λ hb=>?_⟩
  · have:=C.ln.ins;rcases hb with rfl | rfl
    · rw [hE0] at this;cases this
    · rw [hy] at this;cases this
  · rcases hb with rfl | rfl
    · rw [n1] at e;cases e
    · rw [n2] at e;cases e
theorem sc_climb:FnScope ["self","onward","backward","changed"] ["self"] (defScope s_Line_climb):=⟨rfl,rfl,rfl,by decide +kernel,rfl,by decide +kernel,by decide +kernel⟩
noncomputable def sp_climb (CN P1 P2:Addr):Sp:=λ vs H Q _=>∃ (x dx pp pm ph pe pw:Addr) (rs:Ln.Rs) (pts:List Int) (has:Nat→Bool) (R:Int) (p:Nat→Int),vs=[.ref x]∧LineAt CN H x dx pp pm ph pe pw rs pts has R∧Tab1 H P1∧Tab2 H P2∧Ln.Feas (Ln.netOf rs pts) has R p∧p 0=0 ∧
  ∀ la lw h way H',Fx (λ b=>b=x∨b=P1∨b=P2) H H'→LineAt CN H' x dx pp pm ph la lw rs pts has R→Tab1 H' P1→Tab2 H' P2→HtAt H' la pts.length h→WyAt H' lw pts.length way→Ln.Cl (Ln.netOf rs pts) has R p h way→Ln.Feas (Ln.netOf rs pts) has R h →
    la≠lw→H la=none→H lw=none→Q .non H'
theorem putE:putF "heights" (.ref la) (lnFs R pp pm ph pe pw)=lnFs R pp pm ph la pw:=by rfl
theorem putW:putF "ways" (.ref lw) (lnFs R pp pm ph pe pw)=lnFs R pp pm ph pe lw:=by rfl
theorem fresh_fx {S:Addr→Prop} {a:Addr} (s:Fx S H H') (h:H' a=none) (hS:∀ b,S b→∃ u,H' b=some u):H a=none:=by
  cases z:H a with
  | none=>rfl
  | some u =>
    by_cases e:S a
    · obtain ⟨v,e⟩:=hS a e;rw [h] at e;cases e
    · rw [s _ _ z e] at h;cases h
theorem ok_climb (B:Bl mg) (T:LineT K mg base CN fI dI c1 P1 c2 P2) (GO:Mtd P w K mg base 4 CN "moves_onward" ["self"] (sp_onw CN P1)) (GB:Mtd P w K mg base 4 CN "moves_backward" ["self"] (sp_bkw CN P2)) (GS:Def P w K mg base CX0 1 "sweep" ["moves","heights","ways"] sp_sweep) :
    Mtd P w K mg base 5 CN "climb" ["self"] (sp_climb CN P1 P2):=by
  refine T.cb.ok sc_climb (λ vs H Q E h=>?_) λ f cdv A outer s H vs Q E hr h=>?_
  · obtain ⟨x,dx,pp,pm,ph,pe,pw,rs,pts,has,R,p,rfl,_⟩:=h;rfl
  · obtain ⟨x,dx,pp,pm,ph,pe,pw,rs,pts,has,R,p,rfl,L,hT1,hT2,hp,p0,q⟩:=h;have hr1:Room 1 _:=hr.mono (by decide);refine ⟨_,pss_cons (ps_fld (pv 0) (pe_op op_rep (pe_lst (pa_cons pe_int pa_nil)) (pe_callB call_len_seq (by rfl) B.len PySem.boot_len (pa_cons (pe_fld (pv 0) rfl) pa_nil))) rfl)
      (pss_cons (ps_fld (pv 0) (pe_comp ["place"] [] rfl (pi_range1 rfl B.range (pa_cons (pe_callB call_len_seq (by rfl) B.len PySem.boot_len (pa_cons (pe_fld (pv 0) rfl) pa_nil)) pa_nil)) λ cl s H fp C =>
        ⟨pg_name (i:=0) (show (["place"]:List Str).Nodup by decide +kernel) rfl (Or.inl rfl),pts_nil,pe_tup (pa_cons (pe_op op_sub (pv 0) pe_int) (pa_cons pe_non pa_nil))⟩) rfl)
      (pss_cons (ps_set (i:=1) sc_climb.nd rfl (Or.inl rfl) (pe_mtd0 GO (pv 0) T.cl hr))
      (pss_cons (ps_set (i:=2) sc_climb.nd rfl (Or.inl rfl) (pe_mtd0 GB (pv 0) T.cl hr))
      (pss_cons (ps_set (i:=3) sc_climb.nd rfl (Or.inl rfl) pe_bl)
      (pss_one (ps_while PassesOwn.never (pt_val (pv 3)) (pss_one (ps_set (i:=3) sc_climb.nd rfl (Or.inl rfl)
        (pe_and (pe_def GS hr1 rfl pass0 (pa_cons (pv 1) (pa_cons (pe_fld (pv 0) rfl) (pa_cons (pe_fld (pv 0) rfl) pa_nil)))) (pe_one (pe_def GS hr1 rfl pass0 (pa_cons (pv 2) (pa_cons (pe_fld (pv 0) rfl) (pa_cons (pe_fld (pv 0) rfl) pa_nil)))))))))))))),?_⟩
    have hpl:=L.pl;have hrl:=L.rl;have ok:=Ln.net_ok L.ok;refine ⟨by show 1≤sizeLine;decide,λ l0 hl0=>?_⟩;have s0:Same H (upd H l0 (.lst [.int 0])):=same_laid hl0;refine (rdF (s0 _ _ L.ins) T.cl T.np lk_p ⟨pp,_,rfl,.inl (SqL.of (s0 _ _ L.pt)),l0,_,_,rfl,rfl,upd_same,by rw [List.length_map];omega,by rw [List.length_map];omega,by rw [List.length_map,sizeLine_eq];simp;omega,λ la hla=>?_⟩);rw [List.length_map,Int.toNat_natCast,flat_ht];have s1:Same H (upd (upd H l0 (.lst [.int 0])) la (.lst (htL pts.length λ _=>0))):=s0.trans (same_laid hla);have hlaN:H la=none:=none_of_same s0 hla;have hE1:HtAt (upd (upd H l0 (.lst [.int 0])) la (.lst (htL pts.length λ _=>0))) la pts.length λ _=>0:=upd_same;generalize upd (upd H l0 (.lst [.int 0])) la (.lst (htL pts.length λ _=>0))=H1 at s1 hE1 ⊢;have L1:=L.same s1;refine ⟨_,rfl,x,CN,dx,_,rfl,L1.ins,T.cl,T.ne,by show 6 < 1000;decide,?_⟩;rw [putE];have xla:la≠x:=ne_of hE1 L1.ins λ z=>nomatch z;have nx:∀ {b:Addr} {xs:List V},H1 b=some (.lst xs)→b≠x:=λ e=>ne_of e L1.ins λ z=>nomatch z;have F2:Fx (λ b=>b=x) H (upd H1 x (.ins CN dx (lnFs R pp pm ph la pw))):=(Fx.of s1).upd (.inl rfl);obtain ⟨xs,hx,hxl⟩:=L1.mlist;have L2:LineAt CN (upd H1 x (.ins CN dx (lnFs R pp pm ph la pw))) x dx pp pm ph la pw rs pts has R:=by
      refine ⟨upd_same,by rw [upd_ne (nx L1.pt)];exact L1.pt,L1.mv.fx (S:=λ b=>b=x) (Fx.refl.upd (.inl rfl)) (nx hx) (λ b v hb z=>by subst hb;rw [L1.ins] at z;cases z),by rw [upd_ne (nx L1.hs)];exact L1.hs,L.ok,L.rl,L.pl,L.a1,L.a2⟩
    have hE2:HtAt (upd H1 x (.ins CN dx (lnFs R pp pm ph la pw))) la pts.length λ _=>0:=by
      show upd H1 x _ la=_;rw [upd_ne xla];exact hE1
    generalize upd H1 x (.ins CN dx (lnFs R pp pm ph la pw))=H2 at F2 L2 hE2 ⊢;refine (rdF L2.ins T.cl T.np lk_p ⟨pp,_,rfl,.inl (SqL.of L2.pt),_,rfl,by rw [List.length_map];omega,by rw [List.length_map];omega,λ lw hlw=>?_⟩);have en:(((pts.map V.int).length:Int)).toNat=pts.length:=by rw [List.length_map];omega
    rw [en];refine comp_tups (tt:=tYes) yields_range (λ σ=>∃ o1,σ=[o1]) (λ _=>true) (λ i=>[.int ((i:Int) - 1),.non]) hlw (by omega) (λ _ _=>trivial) ⟨_,rfl⟩ ?_ ?_
    · rintro j v σ H3' H3 hj ⟨rfl,rfl⟩ s3 ⟨o1,rfl⟩ Ky Kn hY _;refine ⟨_,rfl,_,_,rfl,rfl,by show 2≤sizeLine;decide,λ p5 hp5=>hY _ p5 _ (same_laid hp5) hp5 ?_ ⟨_,rfl⟩ rfl⟩;rw [upd_same];show some (HO.tup [.int (0 + (j:Int) - 1),.non])=_;rw [Int.zero_add]
    intro H3 s3 h3;rw [List.filter_eq_self.mpr λ _ _=>rfl] at h3;have hW3:WyAt H3 lw pts.length λ v=>(v - 1,none):=by
      obtain ⟨ys,e1,e2,e3⟩:=h3;refine ⟨ys,e1,by rw [e2];simp,λ v h1 h2=>?_⟩;obtain ⟨p',e4,e5⟩:=e3 v [.int ((v:Int) - 1),.non] (by rw [List.getElem?_map,List.getElem?_range h2];rfl);refine ⟨p',e4,?_⟩;rw [e5];show _=some (HO.tup [.int (((v - 1:Nat):Nat):Int),.non]);rw [show ((v:Int) - 1)=((v - 1:Nat):Int) by omega]
    have L3:=L2.same s3;obtain ⟨ws,hws,_⟩:=id hW3;refine ⟨_,rfl,x,CN,dx,_,rfl,L3.ins,T.cl,T.nw,by show 6 < 1000;decide,?_⟩;rw [putW];have hlwN:H lw=none:=fresh_fx F2 hlw λ b hb=>⟨_,by subst hb;exact L2.ins⟩;have nx3:∀ {b:Addr} {xs:List V},H3 b=some (.lst xs)→b≠x:=λ e=>ne_of e L3.ins λ z=>nomatch z;have ntx:∀ (b:Addr) (v:List V),b=x→H3 b≠some (.tup v):=λ b v hb z=>by subst hb;rw [L3.ins] at z;cases z
    obtain ⟨xs3,hx3,_⟩:=L3.mlist;have F3:Fx (λ b=>b=x) H3 (upd H3 x (.ins CN dx (lnFs R pp pm ph la lw))):=Fx.refl.upd (.inl rfl);have F4:Fx (λ b=>b=x) H (upd H3 x (.ins CN dx (lnFs R pp pm ph la lw))):=(F2.trans (Fx.of s3)).trans F3;have L4:LineAt CN (upd H3 x (.ins CN dx (lnFs R pp pm ph la lw))) x dx pp pm ph la lw rs pts has R:=by
      refine ⟨upd_same,by rw [upd_ne (nx3 L3.pt)];exact L3.pt,L3.mv.fx F3 (nx3 hx3) ntx,by rw [upd_ne (nx3 L3.hs)];exact L3.hs,L.ok,L.rl,L.pl,L.a1,L.a2⟩
    have hE4:HtAt (upd H3 x (.ins CN dx (lnFs R pp pm ph la lw))) la pts.length λ _=>0:=by
      show upd H3 x _ la=_;rw [upd_ne xla];exact s3 _ _ hE2
    have hW4:WyAt (upd H3 x (.ins CN dx (lnFs R pp pm ph la lw))) lw pts.length λ v=>(v - 1,none):=hW3.fx F3 (nx3 hws) ntx;have tb4:∀ {q:Str} {pos:Pos} {P0:Addr},TabIs H P0 pos q→TabIs (upd H3 x (.ins CN dx (lnFs R pp pm ph la lw))) P0 pos q:=λ {q pos P0} t=>by
      obtain ⟨tp,et⟩:=TabIs.there t;exact TabIs.fx t F4 (λ z=>by subst z;rw [L.ins] at et;cases et) λ b o u hb z=>by subst hb;rw [L.ins] at z;cases z
    have t14:=tb4 hT1;have t24:=tb4 hT2;have law:la≠lw:=by
      have e2:H2 la=some (.lst (htL pts.length λ _=>0)):=hE2;exact ne_of_none e2 hlw
    generalize upd H3 x (.ins CN dx (lnFs R pp pm ph la lw))=H4 at F4 L4 hE4 hW4 t14 t24 ⊢;refine ⟨_,rfl,x,dx,_,rfl,L4.ins,by rfl,?_⟩
    try unfold tNil
    refine ⟨x,dx,pp,pm,ph,la,lw,rs,pts,has,R,rfl,L4,t14,λ lo mo H5 F5 t15 hlo pmo omo to5=>?_⟩;obtain ⟨tp1,et1⟩:=TabIs.there t14;obtain ⟨tp2,et2⟩:=TabIs.there t24;obtain ⟨ws4,hws4,_⟩:=id hW4;obtain ⟨xs4,hx4,_⟩:=L4.mlist;have hE4':H4 la=some (.lst (htL pts.length λ _=>0)):=hE4;have nP:∀ {P0 b:Addr} {tp:Array Value} {G:Hp} {u:HO},G P0=some (.tbl tp)→G b=some u→u≠.tbl tp→¬ b=P0:=λ e1 e2 e3 z=>by subst z;rw [e1] at e2;cases e2;exact e3 rfl
    have nPt:∀ {P0:Addr} {tp:Array Value} {G:Hp},G P0=some (.tbl tp)→∀ (b:Addr) (v:List V),b=P0→G b≠some (.tup v):=λ e1 b v hb z=>by subst hb;rw [e1] at z;cases z
    have nPf:∀ {P0:Addr} {tp:Array Value} {G:Hp},G P0=some (.tbl tp)→∀ (b:Addr) (o:Obj) (u:HO),b=P0→G b≠some (.frz o u):=λ e1 b o u hb z=>by subst hb;rw [e1] at z;cases z
    have L5:=L4.fx F5 (nP et1 L4.ins (λ z=>nomatch z)) (nP et1 L4.pt (λ z=>nomatch z)) (nP et1 hx4 (λ z=>nomatch z)) (nP et1 L4.hs (λ z=>nomatch z)) (nPt et1);have hE5:HtAt H5 la pts.length λ _=>0:=F5 _ _ hE4' (nP et1 hE4' (λ z=>nomatch z));have hW5:WyAt H5 lw pts.length λ v=>(v - 1,none):=hW4.fx F5 (nP et1 hws4 (λ z=>nomatch z)) (nPt et1);have t25:Tab2 H5 P2:=TabIs.fx t24 F5 (λ z=>T.n12 z.symm) (nPf et1);refine ⟨_,rfl,x,dx,_,rfl,L5.ins,by rfl,?_⟩
    try unfold tNil
    refine ⟨x,dx,pp,pm,ph,la,lw,rs,pts,has,R,rfl,L5,t25,λ lb mb H6 F6 t26 hlb pmb omb tb6=>?_⟩;obtain ⟨tp3,et3⟩:=TabIs.there t25;obtain ⟨ws5,hws5,_⟩:=id hW5;obtain ⟨xs5,hx5,_⟩:=L5.mlist;have hE5':H5 la=some (.lst (htL pts.length λ _=>0)):=hE5;obtain ⟨ys5,hy5,_⟩:=to5.list;have L6:=L5.fx F6 (nP et3 L5.ins (λ z=>nomatch z)) (nP et3 L5.pt (λ z=>nomatch z)) (nP et3 hx5 (λ z=>nomatch z)) (nP et3 L5.hs (λ z=>nomatch z)) (nPt et3);have hE6:HtAt H6 la pts.length λ _=>0:=F6 _ _ hE5' (nP et3 hE5' (λ z=>nomatch z));have hW6:WyAt H6 lw pts.length λ v=>(v - 1,none):=hW5.fx F6 (nP et3 hws5 (λ z=>nomatch z)) (nPt et3);have t16:Tab1 H6 P1:=TabIs.fx t15 F6 (λ z=>T.n12 z) (nPf et3);have to6:TupsAt H6 lo (mo.map quad):=to5.fx F6 (nP et3 hy5 (λ z=>nomatch z)) (nPt et3);have FX:Fx (λ b=>b=x∨b=P1∨b=P2) H H6:=(F4.mono λ b hb=>.inl hb).trans ((F5.mono λ b hb=>.inr (.inl hb)).trans (F6.mono λ b hb=>.inr (.inr hb)));have O:Off la lw pp pm ph lo lb:=by
      have a1:∀ {b u},H b=some u→b≠la∧b≠lw:=λ e=>⟨λ z=>(by subst z;rw [hlaN] at e;cases e),λ z=>(by subst z;rw [hlwN] at e;cases e)⟩;obtain ⟨xs0,hx0,_⟩:=L.mlist;exact ⟨law,a1 L.pt,a1 hx0,a1 L.hs,⟨(ne_of_none hE4' hlo).symm,(ne_of_none hws4 hlo).symm⟩,⟨(ne_of_none hE5' hlb).symm,(ne_of_none hws5 hlb).symm⟩⟩
    have mvo:∀ m∈mo,Ln.Move (Ln.netOf rs pts) has R m.1 m.2.1 m.2.2.1 m.2.2.2:=λ m hm=>(Ln.onw_move ok (pmo.mem_iff.mp hm)).1;have mvb:∀ m∈mb,Ln.Move (Ln.netOf rs pts) has R m.1 m.2.1 m.2.2.1 m.2.2.2:=λ m hm=>(Ln.bkw_move ok (pmb.mem_iff.mp hm)).1;have C6:ClimbAt CN P1 P2 (λ b=>b=x∨b=P1∨b=P2) H H6 x dx pp pm ph la lw lo lb rs pts has R mo mb (λ _=>0) (λ v=>(v - 1,none)):=⟨L6,to6,tb6,hE6,hW6,t16,t26,FX⟩;refine ⟨λ m σ H7=>∃ (b:Bool) (h:Nat→Int) (way:Nat→Nat×Option Nat),σ=[some (.ref x),some (.ref lo),some (.ref lb),some (.bl b)]∧ClimbAt CN P1 P2 (λ b=>b=x∨b=P1∨b=P2) H H7 x dx pp pm ph la lw lo lb rs pts has R mo mb h way ∧
      Ln.Cl (Ln.netOf rs pts) has R p h way∧Ln.Set h (Ln.bkw (Ln.netOf rs pts) has R)∧(b=false→Ln.Feas (Ln.netOf rs pts) has R h)∧m=(if b then Ln.room (Ln.netOf rs pts) p h + 1 else 0),⟨_,true,_,_,rfl,C6,Ln.Cl.start ok hp p0,Ln.set_zero ok,(λ z=>nomatch z),rfl⟩,?_⟩
    rintro m σ H7 ⟨b,h,way,rfl,C7,hC,hSb,hF,rfl⟩;refine ⟨_,rfl,_,rfl,?_⟩;cases b with
    | false =>
      refine iteF (q la lw h way H7 C7.fx C7.ln C7.t1 C7.t2 C7.ht C7.wy hC (hF rfl) law hlaN hlwN)
    | true =>
      refine iteT ⟨λ σ H8=>∃ (b:Bool) (h':Nat→Int) (way':Nat→Nat×Option Nat),σ=[some (.ref x),some (.ref lo),some (.ref lb),some (.bl b)]∧ClimbAt CN P1 P2 (λ b=>b=x∨b=P1∨b=P2) H H8 x dx pp pm ph la lw lo lb rs pts has R mo mb h' way' ∧
        Ln.Cl (Ln.netOf rs pts) has R p h' way'∧Ln.Set h' (Ln.bkw (Ln.netOf rs pts) has R)∧(b=false→Ln.Feas (Ln.netOf rs pts) has R h')∧(b=true→Ln.room (Ln.netOf rs pts) p h' < Ln.room (Ln.netOf rs pts) p h),λ σ' H8 z=>?_,?_⟩
      · obtain ⟨b,h',way',e1,e2,e3,e4,e5,e6⟩:=z;refine ⟨_,?_,b,h',way',e1,e2,e3,e4,e5,rfl⟩;cases b with
        | false=>show 0 < _;rw [if_pos rfl];omega
        | true=>have:=e6 rfl;rw [if_pos rfl,if_pos rfl];omega
      · refine ⟨_,rfl,rdF C7.ln.ins T.cl T.ne lk_e (rdF C7.ln.ins T.cl T.nw lk_w ?_)⟩;refine ⟨lo,la,lw,mo,h,p,way,Ln.netOf rs pts,has,R,rfl,C7.to,C7.ht,C7.wy,law,O.o.1,O.o.2,ok,hp,p0,hC,mvo,λ b1 way1 H8 hC1 z0 z1 F8 hE8 hW8=>?_⟩;have C8:=C7.swept O hlaN hlwN F8 hE8 hW8;have so:=Ln.set_onw ok pmo omo h;refine ⟨_,rfl,?_⟩;cases b1 with
        | false =>
          have eh:=z0 rfl;refine iteF ?_;rw [eh] at so C8 hC1;exact ⟨false,h,way1,rfl,C8,hC1,hSb,λ _=>Ln.feas_of so hSb,λ z=>nomatch z⟩
        | true =>
          have r1:=z1 rfl;refine iteT ?_;refine ⟨_,rfl,rdF C8.ln.ins T.cl T.ne lk_e (rdF C8.ln.ins T.cl T.nw lk_w ?_)⟩;refine ⟨lb,la,lw,mb,_,p,way1,Ln.netOf rs pts,has,R,rfl,C8.tb,C8.ht,C8.wy,law,O.b.1,O.b.2,ok,hp,p0,hC1,mvb,λ b2 way2 H9 hC2 y0 y1 F9 hE9 hW9=>?_⟩;have C9:=C8.swept O hlaN hlwN F9 hE9 hW9;have sb:=Ln.set_bkw (R:=R) ok pmb omb (Ln.swpM h mo);cases b2 with
          | false =>
            have eh:=y0 rfl;rw [eh] at sb C9 hC2;exact ⟨false,_,way2,rfl,C9,hC2,sb,λ _=>Ln.feas_of so sb,λ z=>nomatch z⟩
          | true =>
            have r2:=y1 rfl;exact ⟨true,_,way2,rfl,C9,hC2,sb,(λ z=>nomatch z),λ _=>Nat.lt_trans r2 r1⟩
end
end Sp
namespace Sp
open PySem L2
seal PE PA PS PSs PT PG PGs PI PW PTs
section
variable {P:Program} {w:World} {K:PySem.W.Frag} {mg:Str→Option Value} {base:Heap} {CN fI c1 P1 c2 P2:Addr} {dI:FuncData} {H0 H H':Hp} {x dx pp pm ph pe pw la lw lo lb:Addr} {rs:Ln.Rs} {pts:List Int} {has:Nat→Bool} {R:Int}
theorem reqs_tups {a:Addr}:ReqsAt H a rs↔TupsAt H a (rs.map trip):=by
  constructor
  · rintro ⟨xs,h1,h2,h3⟩;refine ⟨xs,h1,by rw [h2,List.length_map],λ i v e=>?_⟩;rw [List.getElem?_map] at e;cases z:rs[i]? with
    | none=>rw [z] at e;cases e
    | some r=>rw [z] at e;cases e;exact h3 i r z
  · rintro ⟨xs,h1,h2,h3⟩;exact ⟨xs,h1,by rw [h2,List.length_map],λ i r e=>h3 i (trip r) (by rw [List.getElem?_map,e];rfl)⟩
theorem reqs_fx {S:Addr→Prop} {a:Addr} (h:ReqsAt H a rs) (s:Fx S H H') (ha:¬ S a) (hS:∀ b v,S b→H b≠some (.tup v)):ReqsAt H' a rs:=reqs_tups.mpr ((reqs_tups.mp h).fx s ha hS)
theorem merge_get {pts:List Int} (o:pts.Pairwise (· < ·)):∀ {m:Nat},m≤pts.length→∀ {i:Nat},i < m→valV (mergeK [] ((List.range m).map λ i=>((Sum.inl (pts.getD i 0):Key),V.int (i:Nat)))) (Sum.inl (pts.getD i 0))=some (.int (i:Nat)):=by
  intro m
  induction m with
  | zero=>intro _ i h;omega
  | succ m ih =>
    intro hm i hi;rw [List.range_succ,List.map_append];unfold mergeK;rw [List.foldl_append];show valV (putK _ (Sum.inl (pts.getD m 0)) (.int (m:Nat))) (Sum.inl (pts.getD i 0))=_;rw [valV_put]
    by_cases e:i=m
    · subst e;rw [if_pos rfl]
    · have:(Sum.inl (pts.getD i 0):Key)≠Sum.inl (pts.getD m 0):=λ z=>by
        have z:pts.getD i 0=pts.getD m 0:=by injection z
        rw [getD_at (by omega),getD_at (by omega)] at z;have:=(Ln.ord_lt o (show i < pts.length by omega) (show m < pts.length by omega)).mpr (by omega);omega
      rw [if_neg this];exact ih (by omega) (by omega)
noncomputable def hasOf (tk:List Int) (c:Nat):Bool:=decide ((c:Int)∈tk)
theorem hasL_set {n c:Nat} {f:Nat→Bool} {b:Bool}:(hasL n f).set c (.bl b)=hasL n (Ln.setF f c b):=by
  unfold hasL;apply List.ext_getElem
  · simp
  · intro i h1 h2;rw [List.getElem_set];rw [List.getElem_map,List.getElem_map,List.getElem_range]
    by_cases e:c=i
    · subst e;rw [if_pos rfl,Ln.setF_same]
    · rw [if_neg e,Ln.setF_ne λ z=>e z.symm]
theorem hasL_ext {n:Nat} {f g:Nat→Bool} (e:∀ c,c < n→f c=g c):hasL n f=hasL n g:=by
  unfold hasL;exact List.map_congr_left λ v hv=>by rw [e v (List.mem_range.mp hv)]
theorem flat_bl (n:Nat):(List.replicate n [V.bl false]).flatten=hasL n λ _=>false:=by
  induction n with
  | zero=>rfl
  | succ n ih =>
    rw [List.replicate_succ',List.flatten_append,ih];unfold hasL;rw [List.range_succ,List.map_append];rfl
theorem sc_init:FnScope ["self","requests","taken","rooms","places","count"] ["self","requests","taken","rooms"] (defScope s_Line___init__):=⟨rfl,rfl,rfl,by decide +kernel,rfl,by decide +kernel,by decide +kernel⟩
noncomputable def sp_init (CN P1 P2:Addr):Sp:=λ vs H Q _=>∃ (x dx a b:Addr) (rs:Ln.Rs) (tk:List Int) (R:Int),vs=[.ref x,.ref a,.ref b,.int R]∧H x=some (.ins CN dx [])∧ReqsAt H a rs∧GoodR rs∧rs.length≤2000∧H b=some (.lst (tk.map V.int))∧(∀ c∈tk,0≤c∧c.toNat < rs.length)∧Tab1 H P1∧Tab2 H P2 ∧
  (∀ pts,Ln.Pts rs pts→∃ p,Ln.Feas (Ln.netOf rs pts) (hasOf tk) R p∧p 0=0) ∧
  ∀ pp pm ph la lw pts h p way H',Fx (λ b=>b=x∨b=P1∨b=P2) H H'→LineAt CN H' x dx pp pm ph la lw rs pts (hasOf tk) R→Tab1 H' P1→Tab2 H' P2→HtAt H' la pts.length h→WyAt H' lw pts.length way→Ln.Feas (Ln.netOf rs pts) (hasOf tk) R p→p 0=0→Ln.Cl (Ln.netOf rs pts) (hasOf tk) R p h way→Ln.Feas (Ln.netOf rs pts) (hasOf tk) R h →
    la≠lw→ph≠la→ph≠lw→H ph=none→Q .non H'
theorem ok_init (B:Bl mg) (T:LineT K mg base CN fI dI c1 P1 c2 P2) (GP:Def P w K mg base CX0 1 "points_of" ["requests"] sp_points) (GC:Mtd P w K mg base 5 CN "climb" ["self"] (sp_climb CN P1 P2)) :
    FnOk P w K mg base CX0 6 fI dI ["self","requests","taken","rooms"] (sp_init CN P1 P2):=by
  refine T.fI.ok sc_init (λ vs H Q E h=>?_) λ cdv A outer s H vs Q E hr h=>?_
  · obtain ⟨x,dx,a,b,rs,tk,R,rfl,_⟩:=h;rfl
  · obtain ⟨x,dx,a,b,rs,tk,R,rfl,hx0,hR,hg,hrl,hb,htk,hT1,hT2,hpot,q⟩:=h;have hr1:Room 1 _:=hr.mono (by decide);refine ⟨_,pss_cons (ps_fld (pv 0) (pv 3) rfl)
      (pss_cons (ps_fld (pv 0) (pe_def GP hr1 rfl pass0 (pa_cons (pv 1) pa_nil)) rfl)
      (pss_cons (ps_set (i:=4) sc_init.nd rfl (Or.inr rfl) (pe_callTy (call_dictP rfl) (by rfl) B.dict PyProof.Rows.Boot.«dict» (pa_cons (pe_comp ["place","point"] [] rfl (pi_enum rfl B.enumerate (pa_cons (pe_fld (pv 0) rfl) pa_nil)) λ cl s H fp C =>
          ⟨pg_two (K:=K) 0 1 rfl (show (["place","point"]:List Str).Nodup by decide +kernel),pts_nil,pe_tup (pa_cons (pv 1) (pa_cons (pv 0) pa_nil))⟩) pa_nil)))
      (pss_cons (ps_fld (pv 0) (pe_comp ["count","request"] [4] rfl (pi_enum rfl B.enumerate (pa_cons (pv 1) pa_nil)) λ cl s H fp C =>
          ⟨pg_two (K:=K) 0 1 rfl (show (["count","request","places"]:List Str).Nodup by decide +kernel),pts_nil,pe_tup (pa_cons (pe_dget (hu_of hr) (pv 2) (pe_ix (ix_tupK (K:=K)) (pv 1) pe_int (λ _ _=>rfl)) (λ _ _=>rfl))
            (pa_cons (pe_dget (hu_of hr) (pv 2) (pe_op op_add (pe_ix (ix_tupK (K:=K)) (pv 1) pe_int (λ _ _=>rfl)) pe_int) (λ _ _=>rfl)) (pa_cons (pe_ix (ix_tupK (K:=K)) (pv 1) pe_int (λ _ _=>rfl)) (pa_cons (pv 0) pa_nil))))⟩) rfl)
      (pss_cons (ps_fld (pv 0) (pe_op op_rep (pe_lst (pa_cons pe_bl pa_nil)) (pe_callB call_len_seq (by rfl) B.len PySem.boot_len (pa_cons (pv 1) pa_nil))) rfl)
      (pss_cons (ps_for PassesOwn.never rfl (pi_list (pv 2)) (pg_name (i:=5) sc_init.nd rfl (Or.inl rfl)) (pss_one (ps_asg pe_bl (pg_sub (pe_fld (pv 0) rfl) (pv 5) set_list))))
      (pss_cons (ps_fld (pv 0) (pe_lst pa_nil) rfl)
      (pss_cons (ps_fld (pv 0) (pe_lst pa_nil) rfl)
      (pss_one (ps_expr (pe_mtd0 GC (pv 0) T.cl hr)))))))))),?_⟩
    obtain ⟨xs,hxs,hxl,_⟩:=id hR;have nxt:∀ {G:Hp} {fs:List (Str×V)},G x=some (.ins CN dx fs)→∀ (b:Addr) (v:List V),b=x→G b≠some (.tup v):=λ e b v hb z=>by subst hb;rw [e] at z;cases z
    have nxf:∀ {G:Hp} {fs:List (Str×V)},G x=some (.ins CN dx fs)→∀ (b:Addr) (o:Obj) (u:HO),b=x→G b≠some (.frz o u):=λ e b o u hb z=>by subst hb;rw [e] at z;cases z
    have nx:∀ {G:Hp} {fs:List (Str×V)} {c:Addr} {u:HO},G x=some (.ins CN dx fs)→G c=some u→(∀ fs',u≠.ins CN dx fs')→¬ c=x:=λ e1 e2 e3 z=>by subst z;rw [e1] at e2;cases e2;exact e3 _ rfl
    have ax:¬ a=x:=nx hx0 hxs λ _ z=>nomatch z;have bx:¬ b=x:=nx hx0 hb λ _ z=>nomatch z;refine ⟨_,rfl,_,rfl,x,CN,dx,_,rfl,hx0,T.cl,T.nr,by show 0 < 1000;decide,?_⟩;have F1:Fx (λ c=>c=x) H (upd H x (.ins CN dx [("rooms",.int R)])):=Fx.refl.upd (.inl rfl);have hx1:upd H x (.ins CN dx [("rooms",.int R)]) x=some (.ins CN dx [("rooms",.int R)]):=upd_same;rw [show putF (Str.ofString "rooms") (V.int R) []=[(Str.ofString "rooms",V.int R)] from rfl];generalize upd H x (.ins CN dx [("rooms",.int R)])=H1 at F1 hx1 ⊢;have hR1:=reqs_fx hR F1 ax (nxt hx0);refine ⟨_,rfl,a,rs,rfl,hR1,hg,hrl,λ pp pts H2 s2 hpp hpt2 hP hpl=>?_⟩;have hx2:=s2 _ _ hx1;refine ⟨_,rfl,x,CN,dx,_,rfl,hx2,T.cl,T.np,by show 1 < 1000;decide,?_⟩;have F3:Fx (λ c=>c=x) H2 (upd H2 x (.ins CN dx [("rooms",.int R),("points",.ref pp)])):=Fx.refl.upd (.inl rfl);have hx3:upd H2 x (.ins CN dx [("rooms",.int R),("points",.ref pp)]) x=some (.ins CN dx [("rooms",.int R),("points",.ref pp)]):=upd_same;have ppx:¬ pp=x:=nx hx2 hpt2 λ _ z=>nomatch z;have FH3:=(F1.trans (Fx.of s2)).trans F3;rw [show putF (Str.ofString "points") (V.ref pp) [(Str.ofString "rooms",V.int R)]=[(Str.ofString "rooms",V.int R),(Str.ofString "points",V.ref pp)] from rfl];generalize upd H2 x (.ins CN dx [("rooms",.int R),("points",.ref pp)])=H3 at F3 hx3 FH3 ⊢;have hpt3:=F3 _ _ hpt2 ppx;have ok:=Ln.net_ok hP;refine (rdF hx3 T.cl T.np (show ([("rooms",V.int R),("points",V.ref pp)]:List (Str×V)).lookup (Str.ofString "points")=some (.ref pp) from rfl) ⟨pp,rfl,⟨_,SqL.of hpt3⟩,λ D1 hD1=>?_⟩);refine comp_tups (tt:=tYes) (yields_enum (pts.map V.int)) (λ σ=>∃ o1 o2,σ=[o1,o2]) (λ _=>true) (λ i=>[.int (pts.getD i 0),.int (i:Nat)]) hD1 (by rw [List.length_map];omega) (λ H4 s4=>SqL.of (s4 _ _ hpt3)) ⟨_,_,rfl⟩ ?_ ?_
    · rintro j v σ H4 H4' hj ⟨T',y,hT',rfl,rfl,hyj⟩ s4 ⟨o1,o2,rfl⟩ Ky Kn hY _;obtain ⟨_,rfl⟩:=int_at hyj;have sT:Same H4 (upd H4 T' (.tup [.int (j:Nat),.int (pts.getD j 0)])):=same_laid hT';refine ⟨T',_,rfl,SqT.of upd_same,rfl,_,_,rfl,_,_,rfl,rfl,?_⟩;exact ⟨_,rfl,_,rfl,by show 2≤sizeLine;decide,λ p5 hp5=>hY _ p5 _ (sT.trans (same_laid hp5)) (none_of_same sT hp5) upd_same ⟨_,_,rfl⟩ rfl⟩
    intro H4 s4 h4;rw [List.filter_eq_self.mpr λ _ _=>rfl,List.length_map] at h4;obtain ⟨d4,g4,l4,k4⟩:=h4;rw [List.length_map,List.length_range] at l4;refine ⟨D1,d4,(List.range pts.length).map λ i=>((Sum.inl (pts.getD i 0):Key),V.int (i:Nat)),rfl,g4,by rw [List.length_map,List.length_range,l4],by omega,λ j kv e=>?_,λ pd hpd=>?_⟩
    · rw [List.getElem?_map] at e;cases z:(List.range pts.length)[j]? with
      | none=>rw [z] at e;cases e
      | some i =>
        rw [z] at e;cases e;have hj:j < pts.length:=by have:=(List.getElem?_eq_some_iff.mp z).1;simpa using this
        rw [List.getElem?_range hj] at z;cases z;obtain ⟨p',e1,e2⟩:=k4 j [.int (pts.getD j 0),.int (j:Nat)] (by rw [List.getElem?_map,List.getElem?_range hj];rfl);exact ⟨p',e1,e2⟩
    have s5:Same H3 (upd H4 pd (.dK (mergeK [] ((List.range pts.length).map λ i=>((Sum.inl (pts.getD i 0):Key),V.int (i:Nat)))))):=s4.trans (same_laid hpd);have hd5:upd H4 pd (.dK (mergeK [] ((List.range pts.length).map λ i=>((Sum.inl (pts.getD i 0):Key),V.int (i:Nat))))) pd=some (.dK (mergeK [] ((List.range pts.length).map λ i=>((Sum.inl (pts.getD i 0):Key),V.int (i:Nat))))):=upd_same;generalize upd H4 pd (.dK (mergeK [] ((List.range pts.length).map λ i=>((Sum.inl (pts.getD i 0):Key),V.int (i:Nat)))))=H5 at s5 hd5 ⊢;have F5:=FH3.trans (Fx.of s5);have hR5:=reqs_fx hR F5 ax (nxt hx0);have hxs5:H5 a=some (.lst xs):=F5 _ _ hxs ax;have look:∀ {d:Int},d∈pts→valV (mergeK [] ((List.range pts.length).map λ i=>((Sum.inl (pts.getD i 0):Key),V.int (i:Nat)))) (Sum.inl d)=some (.int ((pts.idxOf d:Nat):Int)):=λ {d} hd=>by
      have:=merge_get hP.ord (Nat.le_refl _) (Ln.idx_lt hd)
      rwa [getD_at (Ln.idx_lt hd),Ln.idx_get hd] at this
    refine ⟨_,rfl,a,rfl,⟨_,SqL.of hxs5⟩,λ pm hpm=>?_⟩;refine comp_tups (tt:=tYes) (yields_enum xs) (λ σ=>∃ o1 o2,σ=[o1,o2,some (.ref pd)]) (λ _=>true) (λ i=>quad (takeM rs pts i)) hpm (by omega) (λ H6 s6=>SqL.of (s6 _ _ hxs5)) ⟨_,_,rfl⟩ ?_ ?_
    · rintro j v σ H6 H6' hj ⟨T',y,hT',rfl,rfl,hyj⟩ s6 ⟨o1,o2,rfl⟩ Ky Kn hY _;obtain ⟨p,rfl,hp⟩:=reqs_at hR5 hxs5 hyj;have hj':j < rs.length:=by omega
      have sT:Same H6 (upd H6 T' (.tup [.int (j:Nat),.ref p])):=same_laid hT';have S6:=s6.trans sT;have hp6:=S6 _ _ hp;have hd6:=S6 _ _ hd5;refine ⟨T',_,rfl,SqT.of upd_same,rfl,_,_,rfl,_,_,rfl,rfl,?_⟩;refine ⟨_,rfl,_,rfl,p,_,_,_,rfl,rfl,SqT.of hp6,(show atI (trip (Lg.rq rs j)) 0=some (.int (Lg.rq rs j).1) from rfl),pd,_,rfl,by rw [← look (hP.fst j hj')];exact DGet.k (k:=Sum.inl _) hd6,?_⟩;refine ⟨_,rfl,_,rfl,p,_,_,_,rfl,rfl,SqT.of hp6,(show atI (trip (Lg.rq rs j)) 1=some (.int (Lg.rq rs j).2.1) from rfl),_,_,rfl,rfl,pd,_,rfl,by rw [← look (hP.lst j hj')];exact DGet.k (k:=Sum.inl _) hd6,?_⟩;refine ⟨_,rfl,p,_,_,_,rfl,rfl,SqT.of hp6,(show atI (trip (Lg.rq rs j)) 2=some (.int (Lg.rq rs j).2.2) from rfl),_,rfl,by show 4≤sizeLine;decide,λ p5 hp5=>hY _ p5 _ (sT.trans (same_laid hp5)) (none_of_same sT hp5) ?_ ⟨_,_,rfl⟩ rfl⟩;rw [upd_same];rfl
    intro H6 s6 h6;rw [List.filter_eq_self.mpr λ _ _=>rfl,hxl] at h6;have F6:=F5.trans (Fx.of s6);have hx6:H6 x=some (.ins CN dx [("rooms",.int R),("points",.ref pp)]):=s6 _ _ (s5 _ _ hx3);have hpt6:H6 pp=some (.lst (pts.map V.int)):=s6 _ _ (s5 _ _ hpt3);obtain ⟨ms6,hm6,_⟩:=h6.list;have pmx:¬ pm=x:=nx hx6 hm6 λ _ z=>nomatch z;refine ⟨_,rfl,x,CN,dx,_,rfl,hx6,T.cl,T.nm,by show 2 < 1000;decide,?_⟩;have F7':Fx (λ c=>c=x) H6 (upd H6 x (.ins CN dx [("rooms",.int R),("points",.ref pp),("moves",.ref pm)])):=Fx.refl.upd (.inl rfl);have hx7:upd H6 x (.ins CN dx [("rooms",.int R),("points",.ref pp),("moves",.ref pm)]) x=some (.ins CN dx [("rooms",.int R),("points",.ref pp),("moves",.ref pm)]):=upd_same;have F7:=F6.trans F7';rw [show putF (Str.ofString "moves") (V.ref pm) [(Str.ofString "rooms",V.int R),(Str.ofString "points",V.ref pp)]=[(Str.ofString "rooms",V.int R),(Str.ofString "points",V.ref pp),(Str.ofString "moves",V.ref pm)] from rfl];generalize upd H6 x (.ins CN dx [("rooms",.int R),("points",.ref pp),("moves",.ref pm)])=H7 at F7' hx7 F7 ⊢;have hpt7:=F7' _ _ hpt6 ppx;have hmv7:TupsAt H7 pm ((List.range rs.length).map λ i=>quad (takeM rs pts i)):=h6.fx F7' pmx (nxt hx6);have hxs7:=F7 _ _ hxs ax;refine ⟨by show 1≤sizeLine;decide,λ l0 hl0=>?_⟩;have s8a:Same H7 (upd H7 l0 (.lst [.bl false])):=same_laid hl0;refine ⟨_,rfl,a,_,rfl,.inl (SqL.of (s8a _ _ hxs7)),l0,_,_,rfl,rfl,upd_same,by omega,by omega,by rw [sizeLine_eq];simp;omega,λ ph hph=>?_⟩;rw [hxl,Int.toNat_natCast,flat_bl];have s8:Same H7 (upd (upd H7 l0 (.lst [.bl false])) ph (.lst (hasL rs.length λ _=>false))):=s8a.trans (same_laid hph);have hs8:upd (upd H7 l0 (.lst [.bl false])) ph (.lst (hasL rs.length λ _=>false)) ph=some (.lst (hasL rs.length λ _=>false)):=upd_same;have hph7:=none_of_same s8a hph;generalize upd (upd H7 l0 (.lst [.bl false])) ph (.lst (hasL rs.length λ _=>false))=H8 at s8 hs8 ⊢;have hphN:H ph=none:=fresh_fx F7 hph7 λ c hc=>⟨_,by subst hc;exact hx7⟩;have hx8:=s8 _ _ hx7;refine ⟨_,rfl,x,CN,dx,_,rfl,hx8,T.cl,T.nh,by show 3 < 1000;decide,?_⟩;rw [show putF (Str.ofString "has") (V.ref ph) [(Str.ofString "rooms",V.int R),(Str.ofString "points",V.ref pp),(Str.ofString "moves",V.ref pm)]=[(Str.ofString "rooms",V.int R),(Str.ofString "points",V.ref pp),(Str.ofString "moves",V.ref pm),(Str.ofString "has",V.ref ph)] from rfl];have F9':Fx (λ c=>c=x) H8 (upd H8 x (.ins CN dx [(Str.ofString "rooms",V.int R),(Str.ofString "points",V.ref pp),(Str.ofString "moves",V.ref pm),(Str.ofString "has",V.ref ph)])):=Fx.refl.upd (.inl rfl);have hx9:upd H8 x (.ins CN dx [(Str.ofString "rooms",V.int R),(Str.ofString "points",V.ref pp),(Str.ofString "moves",V.ref pm),(Str.ofString "has",V.ref ph)]) x=some (.ins CN dx [(Str.ofString "rooms",V.int R),(Str.ofString "points",V.ref pp),(Str.ofString "moves",V.ref pm),(Str.ofString "has",V.ref ph)]):=upd_same;have F9:=(F7.trans (Fx.of s8)).trans F9';generalize upd H8 x (.ins CN dx [(Str.ofString "rooms",V.int R),(Str.ofString "points",V.ref pp),(Str.ofString "moves",V.ref pm),(Str.ofString "has",V.ref ph)])=H9 at F9' hx9 F9 ⊢;have phx:¬ ph=x:=nx hx8 hs8 λ _ z=>nomatch z;obtain ⟨ms7,hm7,_⟩:=hmv7.list;have php:ph≠pp:=λ z=>by rw [z,hpt7] at hph7;cases hph7
    have phm:ph≠pm:=λ z=>by rw [z,hm7] at hph7;cases hph7
    have hpt9:=F9' _ _ (s8 _ _ hpt7) ppx;have hmv9:TupsAt H9 pm ((List.range rs.length).map λ i=>quad (takeM rs pts i)):=(hmv7.same s8).fx F9' pmx (nxt hx8);have hs9:=F9' _ _ hs8 phx;refine ⟨_,rfl,b,rfl,⟨_,SqL.of (F9 _ _ hb bx)⟩,?_⟩;refine for_by (yields_list (tk.map V.int)) (λ i σ G=>∃ o5,σ=[some (.ref x),some (.ref a),some (.ref b),some (.int R),some (.ref pd),o5]∧Fx (λ c=>c=x) H G∧G x=some (.ins CN dx [(Str.ofString "rooms",V.int R),(Str.ofString "points",V.ref pp),(Str.ofString "moves",V.ref pm),(Str.ofString "has",V.ref ph)])∧G pp=some (.lst (pts.map V.int))∧TupsAt G pm ((List.range rs.length).map λ i=>quad (takeM rs pts i)) ∧
      G ph=some (.lst (hasL rs.length (hasOf (tk.take i))))) (λ i σ G _ z=>?_) ?_ ?_ ?_
    · obtain ⟨o5,_,zF,_⟩:=z;exact SqL.of (zF _ _ hb bx)
    · refine ⟨none,rfl,F9,hx9,hpt9,hmv9,?_⟩;rw [hs9];exact congrArg (λ l=>some (HO.lst l)) (hasL_ext λ c _=>by simp [hasOf])
    · rintro i v σ G' G hi ⟨rfl,hvi⟩ ⟨o5,rfl,zF,zx,zp,zm,zh⟩;obtain ⟨hi',rfl⟩:=int_at hvi;have hmem:tk.getD i 0∈tk:=by rw [getD_at hi'];exact List.getElem_mem hi'
      obtain ⟨c0,c1'⟩:=htk _ hmem;have ec:tk.getD i 0=(((tk.getD i 0).toNat:Nat):Int):=by omega
      have eix:ixN (hasL rs.length (hasOf (tk.take i))).length (tk.getD i 0)=some (tk.getD i 0).toNat:=by
        have:=ixN_nat (n:=(hasL rs.length (hasOf (tk.take i))).length) (j:=(tk.getD i 0).toNat) (by rw [hasL_len];exact c1')
        rwa [← ec] at this
      refine (rdF zx T.cl T.nh (show ([(Str.ofString "rooms",V.int R),(Str.ofString "points",V.ref pp),(Str.ofString "moves",V.ref pm),(Str.ofString "has",V.ref ph)]:List (Str×V)).lookup (Str.ofString "has")=some (.ref ph) from rfl) ⟨_,rfl,ph,_,_,_,rfl,rfl,zh,eix,?_⟩);rw [hasL_set];have zF':Fx (λ c=>c=ph) G (upd G ph (.lst (hasL rs.length (Ln.setF (hasOf (tk.take i)) (tk.getD i 0).toNat true)))):=Fx.refl.upd (.inl rfl);refine ⟨_,rfl,zF.upd (.inr hphN),by rw [upd_ne λ z=>phx z.symm];exact zx,by rw [upd_ne php.symm];exact zp,zm.fx zF' (λ z=>phm z.symm) (λ c v hc e=>by subst hc;rw [zh] at e;cases e),?_⟩;rw [upd_same];congr 2;refine hasL_ext λ c hc=>?_;have et:tk.take (i + 1)=tk.take i ++ [tk.getD i 0]:=by rw [List.take_succ_eq_append_getElem hi',getD_at hi']
      unfold hasOf;rw [et]
      by_cases e:c=(tk.getD i 0).toNat
      · have:(c:Int)=tk.getD i 0:=by omega
        rw [e,Ln.setF_same,← e,this];simp
      · have:(c:Int)≠tk.getD i 0:=by omega
        rw [Ln.setF_ne e];refine decide_eq_decide.mpr ?_;rw [List.mem_append,List.mem_singleton];exact ⟨.inl,λ z=>z.elim id λ z=>absurd z this⟩
    rintro σ G ⟨o5,rfl,zF,zx,zp,zm,zh⟩;rw [List.length_map,List.take_length] at zh;refine ⟨by show 0≤sizeLine;decide,λ le hle=>?_⟩;have s10:Same G (upd G le (.lst [])):=same_laid hle;refine ⟨_,rfl,x,CN,dx,_,rfl,s10 _ _ zx,T.cl,T.ne,by show 4 < 1000;decide,?_⟩;rw [show putF (Str.ofString "heights") (V.ref le) [(Str.ofString "rooms",V.int R),(Str.ofString "points",V.ref pp),(Str.ofString "moves",V.ref pm),(Str.ofString "has",V.ref ph)]=[(Str.ofString "rooms",V.int R),(Str.ofString "points",V.ref pp),(Str.ofString "moves",V.ref pm),(Str.ofString "has",V.ref ph),(Str.ofString "heights",V.ref le)] from rfl];have G10':Fx (λ c=>c=x) G (upd (upd G le (.lst [])) x (.ins CN dx [(Str.ofString "rooms",V.int R),(Str.ofString "points",V.ref pp),(Str.ofString "moves",V.ref pm),(Str.ofString "has",V.ref ph),(Str.ofString "heights",V.ref le)])):=(Fx.of s10).upd (.inl rfl);have zx10:upd (upd G le (.lst [])) x (.ins CN dx [(Str.ofString "rooms",V.int R),(Str.ofString "points",V.ref pp),(Str.ofString "moves",V.ref pm),(Str.ofString "has",V.ref ph),(Str.ofString "heights",V.ref le)]) x=some (.ins CN dx [(Str.ofString "rooms",V.int R),(Str.ofString "points",V.ref pp),(Str.ofString "moves",V.ref pm),(Str.ofString "has",V.ref ph),(Str.ofString "heights",V.ref le)]):=upd_same;generalize upd (upd G le (.lst [])) x (.ins CN dx [(Str.ofString "rooms",V.int R),(Str.ofString "points",V.ref pp),(Str.ofString "moves",V.ref pm),(Str.ofString "has",V.ref ph),(Str.ofString "heights",V.ref le)])=G1 at G10' zx10 ⊢;refine ⟨by show 0≤sizeLine;decide,λ lw0 hlw0=>?_⟩;have s11:Same G1 (upd G1 lw0 (.lst [])):=same_laid hlw0;refine ⟨_,rfl,x,CN,dx,_,rfl,s11 _ _ zx10,T.cl,T.nw,by show 5 < 1000;decide,?_⟩;rw [show putF (Str.ofString "ways") (V.ref lw0) [(Str.ofString "rooms",V.int R),(Str.ofString "points",V.ref pp),(Str.ofString "moves",V.ref pm),(Str.ofString "has",V.ref ph),(Str.ofString "heights",V.ref le)]=lnFs R pp pm ph le lw0 from rfl];have G11':Fx (λ c=>c=x) G1 (upd (upd G1 lw0 (.lst [])) x (.ins CN dx (lnFs R pp pm ph le lw0))):=(Fx.of s11).upd (.inl rfl);have zx11:upd (upd G1 lw0 (.lst [])) x (.ins CN dx (lnFs R pp pm ph le lw0)) x=some (.ins CN dx (lnFs R pp pm ph le lw0)):=upd_same;generalize upd (upd G1 lw0 (.lst [])) x (.ins CN dx (lnFs R pp pm ph le lw0))=G2 at G11' zx11 ⊢;have GG:=G10'.trans G11';have FH:=zF.trans GG;have LL:LineAt CN G2 x dx pp pm ph le lw0 rs pts (hasOf tk) R:=by
      refine ⟨zx11,GG _ _ zp ppx,?_,GG _ _ zh phx,hP,hrl,hpl,php,phm⟩;rw [List.map_map];exact zm.fx GG pmx (nxt zx)
    have tb:∀ {q:Str} {pos:Pos} {P0:Addr},TabIs H P0 pos q→TabIs G2 P0 pos q:=λ {q pos P0} t=>by
      obtain ⟨tp,et⟩:=TabIs.there t;exact TabIs.fx t FH (λ z=>by subst z;rw [hx0] at et;cases et) (nxf hx0)
    obtain ⟨pot,hpo,hp0⟩:=hpot pts hP;refine ⟨_,rfl,x,dx,_,rfl,LL.ins,by rfl,?_⟩
    try unfold tNil
    refine ⟨x,dx,pp,pm,ph,le,lw0,rs,pts,hasOf tk,R,pot,rfl,LL,tb hT1,tb hT2,hpo,hp0,λ la lw h way H' F' L' t1' t2' hE hW hC hF n1 nla nlw=>?_⟩;refine q pp pm ph la lw pts h pot way H' ((FH.mono λ c hc=>.inl hc).trans F') L' t1' t2' hE hW hpo hp0 hC hF n1 (λ z=>?_) (λ z=>?_) hphN
    · have:=LL.hs;rw [z,nla] at this;cases this
    · have:=LL.hs;rw [z,nlw] at this;cases this
end
end Sp
namespace Sp
open PySem L2
seal PE PA PS PSs PT PG PGs PI PW PTs
section
variable {P:Program} {w:World} {K:PySem.W.Frag} {mg:Str→Option Value} {base:Heap} {CN fI c1 P1 c2 P2:Addr} {dI:FuncData} {H0 H H':Hp} {x dx pp pm ph pe pw la lw lo lb:Addr} {rs:Ln.Rs} {pts:List Int} {has:Nat→Bool} {R:Int}
theorem htL_ints (n:Nat) (h:Nat→Int):htL n h=((List.range n).map h).map V.int:=by
  unfold htL;rw [List.map_map];rfl
theorem sc_growth:FnScope ["self"] ["self"] (defScope s_Line_growth):=⟨rfl,rfl,rfl,by decide +kernel,rfl,by decide +kernel,by decide +kernel⟩
noncomputable def sp_growth (CN:Addr):Sp:=λ vs H Q _=>∃ (x dx pp pm ph pe pw:Addr) (rs:Ln.Rs) (pts:List Int) (has:Nat→Bool) (R:Int) (h:Nat→Int),vs=[.ref x]∧LineAt CN H x dx pp pm ph pe pw rs pts has R∧HtAt H pe pts.length h ∧
  ∀ m H',Same H H'→(pts=[]→m=0)→(∀ v,v < pts.length→h v≤m)→(pts≠[]→∃ v,v < pts.length∧m=h v)→Q (.int m) H'
theorem ok_growth (B:Bl mg) (T:LineT K mg base CN fI dI c1 P1 c2 P2):Mtd P w K mg base 1 CN "growth" ["self"] (sp_growth CN):=by
  refine T.gr.ok sc_growth (λ vs H Q E h=>?_) λ f cdv A outer s H vs Q E hr h=>?_
  · obtain ⟨x,dx,pp,pm,ph,pe,pw,rs,pts,has,R,h,rfl,_⟩:=h;rfl
  · obtain ⟨x,dx,pp,pm,ph,pe,pw,rs,pts,has,R,h,rfl,L,hE,q⟩:=h;refine ⟨_,pss_one (ps_ret (pe_callBK (call_maxD rfl) rfl B.max PyProof.Rows.Boot.«max» (pa_cons (pe_fld (pv 0) rfl) pa_nil) (pk_cons pe_int pk_nil))),?_⟩;refine (rdF L.ins T.cl T.ne lk_e ⟨pe,(List.range pts.length).map h,.int 0,rfl,rfl,SqL.of (by rw [← htL_ints];exact hE),λ e=>?_,λ m hm ha=>?_⟩)
    · have:pts=[]:=by
        have:=congrArg List.length e;simpa using this
      subst this;exact q 0 H (Same.refl _) (λ _=>rfl) (λ v hv=>by simp at hv) λ z=>absurd rfl z
    · obtain ⟨v,hv,rfl⟩:=List.mem_map.mp hm;have hv':=List.mem_range.mp hv;exact q (h v) H (Same.refl _) (λ z=>by subst z;simp at hv') (λ u hu=>ha _ (List.mem_map.mpr ⟨u,List.mem_range.mpr hu,rfl⟩)) λ _=>⟨v,hv',rfl⟩
theorem sc_lchoice:FnScope ["self"] ["self"] (defScope s_Line_choice):=⟨rfl,rfl,rfl,by decide +kernel,rfl,by decide +kernel,by decide +kernel⟩
noncomputable def sp_lchoice (CN:Addr):Sp:=λ vs H Q _=>∃ (x dx pp pm ph pe pw:Addr) (rs:Ln.Rs) (pts:List Int) (has:Nat→Bool) (R:Int),vs=[.ref x]∧LineAt CN H x dx pp pm ph pe pw rs pts has R ∧
  ∀ l H',Same H H'→H l=none→H' l=some (.lst ((Ln.choiceL has rs.length).map V.int))→Q (.ref l) H'
theorem ok_lchoice (B:Bl mg) (T:LineT K mg base CN fI dI c1 P1 c2 P2):Mtd P w K mg base 1 CN "choice" ["self"] (sp_lchoice CN):=by
  refine T.ch.ok sc_lchoice (λ vs H Q E h=>?_) λ f cdv A outer s H vs Q E hr h=>?_
  · obtain ⟨x,dx,pp,pm,ph,pe,pw,rs,pts,has,R,rfl,_⟩:=h;rfl
  · obtain ⟨x,dx,pp,pm,ph,pe,pw,rs,pts,has,R,rfl,L,q⟩:=h;refine ⟨_,pss_one (ps_ret (pe_comp ["count","had"] [] rfl (pi_enum rfl B.enumerate (pa_cons (pe_fld (pv 0) rfl) pa_nil)) λ cl s H fp C=>⟨pg_two (K:=K) 0 1 rfl (show (["count","had"]:List Str).Nodup by decide +kernel),pts_one (pt_val (pv 1)),pv 0⟩)),?_⟩;have hrl:=L.rl;refine (rdF L.ins T.cl T.nh lk_h ⟨ph,rfl,⟨_,SqL.of L.hs⟩,λ D hD=>?_⟩);refine comp_filt (yields_enum (hasL rs.length has)) (λ σ=>∃ o1 o2,σ=[o1,o2]) (λ j=>has j) (λ j=>.int (j:Nat)) hD (by rw [hasL_len];omega) (λ H3 s3=>SqL.of (s3 _ _ L.hs)) ⟨_,_,rfl⟩ ?_ ?_
    · rintro j v σ H3 H3' hj ⟨T',y,hT',rfl,rfl,hyj⟩ s3 ⟨o1,o2,rfl⟩ Ky Kn hY hN;rw [hasL_len] at hj;unfold hasL at hyj;rw [List.getElem?_map,List.getElem?_range hj] at hyj;cases hyj;refine ⟨T',_,rfl,SqT.of upd_same,rfl,_,_,rfl,_,_,rfl,rfl,_,rfl,_,rfl,?_⟩;cases hb:has j with
      | false=>exact iteF (hN _ _ (same_laid hT') ⟨_,_,rfl⟩ hb)
      | true=>exact iteT ⟨_,rfl,hY _ _ _ (same_laid hT') ⟨_,_,rfl⟩ hb rfl⟩
    · intro H3 s3 hD3;refine q D H3 s3 hD ?_;rw [hD3,hasL_len];unfold takenV Ln.choiceL;rw [List.map_map];rfl
noncomputable def pairV (t:Int×Int):List V:=[.int t.1,.int t.2]
theorem sc_dtolls:FnScope ["self","rises"] ["self"] (defScope s_Line_day_tolls):=⟨rfl,rfl,rfl,by decide +kernel,rfl,by decide +kernel,by decide +kernel⟩
noncomputable def sp_dtolls (CN:Addr):Sp:=λ vs H Q _=>∃ (x dx pp pm ph pe pw:Addr) (rs:Ln.Rs) (pts:List Int) (has:Nat→Bool) (R:Int) (h:Nat→Int),vs=[.ref x]∧LineAt CN H x dx pp pm ph pe pw rs pts has R∧HtAt H pe pts.length h ∧
  ∀ l H',Same H H'→H l=none→TupsAt H' l ((Ln.tollsL pts h).map pairV)→Q (.ref l) H'
theorem htL_drop (n:Nat) (h:Nat→Int):(htL n h).drop 1=htL (n - 1) λ v=>h (v + 1):=by
  unfold htL;apply List.ext_getElem
  · simp
  · intro i h1 h2;rw [List.getElem_drop,List.getElem_map,List.getElem_map,List.getElem_range,List.getElem_range,Nat.add_comm]
theorem ok_dtolls (B:Bl mg) (T:LineT K mg base CN fI dI c1 P1 c2 P2):Mtd P w K mg base 1 CN "day_tolls" ["self"] (sp_dtolls CN):=by
  refine T.dt.ok sc_dtolls (λ vs H Q E h=>?_) λ f cdv A outer s H vs Q E hr h=>?_
  · obtain ⟨x,dx,pp,pm,ph,pe,pw,rs,pts,has,R,h,rfl,_⟩:=h;rfl
  · obtain ⟨x,dx,pp,pm,ph,pe,pw,rs,pts,has,R,h,rfl,L,hE,q⟩:=h;refine ⟨_,pss_cons (ps_setC (i:=1) sc_dtolls.nd rfl ["low","high"] [] rfl (pi_zip rfl B.zip (pa_cons (pe_fld (pv 0) rfl) (pa_cons (pe_slice sl_list (pe_fld (pv 0) rfl) (po_some pe_int) po_none) pa_nil))) λ cl s H fp C =>
        ⟨pg_two (K:=K) 0 1 rfl (show (["low","high"]:List Str).Nodup by decide +kernel),pts_nil,pe_op op_sub (pv 1) (pv 0)⟩)
      (pss_one (ps_ret (pe_comp ["point","rise"] [] rfl (pi_zip rfl B.zip (pa_cons (pe_fld (pv 0) rfl) (pa_cons (pv 1) pa_nil))) λ cl s H fp C =>
        ⟨pg_two (K:=K) 0 1 rfl (show (["point","rise"]:List Str).Nodup by decide +kernel),pts_one (pt_cmpR op_gt (pv 1) pe_int (nomark _)),pe_tup (pa_cons (pv 0) (pa_cons (pv 1) pa_nil))⟩))),?_⟩
    have hpl:=L.pl;have hE':H pe=some (.lst (htL pts.length h)):=hE;refine (rdF L.ins T.cl T.ne lk_e (rdF L.ins T.cl T.ne lk_e ⟨_,rfl,pe,_,rfl,SqL.of hE',λ lc hlc=>?_⟩));have s1:Same H (upd H lc (.lst (cutV (htL pts.length h) (some 1) none))):=same_laid hlc;have hc1:upd H lc (.lst (cutV (htL pts.length h) (some 1) none)) lc=some (.lst (htL (pts.length - 1) λ v=>h (v + 1))):=by rw [upd_same,cut_tail,htL_drop]
    generalize upd H lc (.lst (cutV (htL pts.length h) (some 1) none))=H1 at s1 hc1 ⊢;refine ⟨pe,lc,rfl,⟨_,SqL.of (s1 _ _ hE')⟩,⟨_,SqL.of hc1⟩,λ D1 hD1=>?_⟩;have hmin:min (htL pts.length h).length (htL (pts.length - 1) λ v=>h (v + 1)).length=pts.length - 1:=by rw [htL_len,htL_len];omega
    refine comp_each (yields_zip (htL pts.length h) (htL (pts.length - 1) λ v=>h (v + 1))) (λ σ=>∃ o1 o2,σ=[o1,o2]) (λ j=>.int (h (j + 1) - h j)) hD1 (by rw [hmin];omega) (λ H3 s3=>⟨SqL.of (s3 _ _ (s1 _ _ hE')),SqL.of (s3 _ _ hc1)⟩) ⟨_,_,rfl⟩ ?_ ?_
    · rintro j v σ H3 H3' hj ⟨T',y,z,hT',rfl,rfl,hyj,hzj⟩ s3 ⟨o1,o2,rfl⟩ Ky hK;obtain ⟨_,rfl⟩:=htL_at hyj;obtain ⟨_,rfl⟩:=htL_at hzj;exact ⟨T',_,rfl,SqT.of upd_same,rfl,_,_,rfl,_,_,rfl,rfl,_,rfl,_,rfl,_,_,rfl,rfl,hK _ _ _ (same_laid hT') ⟨_,_,rfl⟩ rfl⟩
    intro H2 s2 h2;rw [hmin] at h2;have S2:=s1.trans s2;have h2':H2 D1=some (.lst (htL (pts.length - 1) λ j=>h (j + 1) - h j)):=h2;refine (rdF (S2 _ _ L.ins) T.cl T.np lk_p ⟨_,rfl,pp,D1,rfl,⟨_,SqL.of (S2 _ _ L.pt)⟩,⟨_,SqL.of h2'⟩,λ D2 hD2=>?_⟩);have hmin2:min (pts.map V.int).length (htL (pts.length - 1) λ j=>h (j + 1) - h j).length=pts.length - 1:=by rw [htL_len,List.length_map];omega
    refine comp_tups (yields_zip (pts.map V.int) (htL (pts.length - 1) λ j=>h (j + 1) - h j)) (λ σ=>∃ o1 o2,σ=[o1,o2]) (λ i=>decide (0 < h (i + 1) - h i)) (λ i=>pairV (pts.getD i 0,h (i + 1) - h i)) hD2 (by rw [hmin2];omega) (λ H3 s3=>⟨SqL.of (s3 _ _ (S2 _ _ L.pt)),SqL.of (s3 _ _ h2')⟩) ⟨_,_,rfl⟩ ?_ ?_
    · rintro j v σ H3 H3' hj ⟨T',y,z,hT',rfl,rfl,hyj,hzj⟩ s3 ⟨o1,o2,rfl⟩ Ky Kn hY hN;obtain ⟨_,rfl⟩:=int_at hyj;obtain ⟨_,rfl⟩:=htL_at hzj;have sT:Same H3 (upd H3 T' (.tup [.int (pts.getD j 0),.int (h (j + 1) - h j)])):=same_laid hT';refine ⟨T',_,rfl,SqT.of upd_same,rfl,_,_,rfl,_,_,rfl,rfl,?_⟩;refine ⟨_,rfl,_,_,rfl,rfl,_,rfl,?_⟩
      by_cases hb:0 < h (j + 1) - h j
      · exact iteP (by simpa using hb) ⟨_,rfl,_,rfl,by show 2≤sizeLine;decide,λ p5 hp5=>hY _ p5 _ (sT.trans (same_laid hp5)) (none_of_same sT hp5) (by rw [upd_same];rfl) ⟨_,_,rfl⟩ (decide_eq_true hb)⟩
      · exact iteN (by simpa using hb) (hN _ _ sT ⟨_,_,rfl⟩ (decide_eq_false hb))
    intro H3 s3 h3;rw [hmin2] at h3;refine q D2 H3 (S2.trans s3) (none_of_same S2 hD2) ?_;unfold Ln.tollsL;rw [List.map_map];exact h3
end
end Sp
namespace Ln
theorem Move.cnt {G:Net} {has:Nat→Bool} {R:Int} {u v:Nat} {g:Int} {c:Nat} (m:Move G has R u v g (some c)):c < G.n:=by
  cases m with
  | take _ h _=>exact h
  | give _ h _=>exact h
end Ln
namespace Sp
open PySem L2
seal PE PA PS PSs PT PG PGs PI PW PTs
section
variable {P:Program} {w:World} {K:PySem.W.Frag} {mg:Str→Option Value} {base:Heap} {CN fI c1 P1 c2 P2:Addr} {dI:FuncData} {H0 H H':Hp} {x dx pp pm ph pe pw la lw lo lb:Addr} {rs:Ln.Rs} {pts:List Int} {has:Nat→Bool} {R:Int}
structure LineUp (CN P1 P2:Addr) (H:Hp) (x dx pp pm ph pe pw:Addr) (rs:Ln.Rs) (pts:List Int) (has:Nat→Bool) (R:Int) (h p:Nat→Int) (way:Nat→Nat×Option Nat):Prop where
  ln:LineAt CN H x dx pp pm ph pe pw rs pts has R
  t1:Tab1 H P1
  t2:Tab2 H P2
  ht:HtAt H pe pts.length h
  wy:WyAt H pw pts.length way
  fp:Ln.Feas (Ln.netOf rs pts) has R p
  p0:p 0=0
  cl:Ln.Cl (Ln.netOf rs pts) has R p h way
  fh:Ln.Feas (Ln.netOf rs pts) has R h
  n1:pe≠pw
  n2:ph≠pe
  n3:ph≠pw
theorem sc_add:FnScope ["self","place","way"] ["self"] (defScope s_Line_add_room):=⟨rfl,rfl,rfl,by decide +kernel,rfl,by decide +kernel,by decide +kernel⟩
noncomputable def sp_add (CN P1 P2:Addr):Sp:=λ vs H Q _=>∃ (x dx pp pm ph pe pw:Addr) (rs:Ln.Rs) (pts:List Int) (has:Nat→Bool) (R:Int) (h p:Nat→Int) (way:Nat→Nat×Option Nat),vs=[.ref x]∧LineUp CN P1 P2 H x dx pp pm ph pe pw rs pts has R h p way∧pts≠[]∧(∀ i,i + 1 < pts.length→(Ln.netOf rs pts).used has i≤R) ∧
  ∀ la lw has' h' way' H',Fx (λ b=>b=x∨b=ph∨b=P1∨b=P2) H H'→LineUp CN P1 P2 H' x dx pp pm ph la lw rs pts has' (R + 1) h' h way'→(∀ i,i + 1 < pts.length→(Ln.netOf rs pts).used has' i≤R + 1)→(Ln.netOf rs pts).worth has'=(Ln.netOf rs pts).worth has + h (pts.length - 1)→H la=none→H lw=none→Q .non H'
theorem putR {R':Int}:putF "rooms" (.int R') (lnFs R pp pm ph pe pw)=lnFs R' pp pm ph pe pw:=by rfl
theorem ok_add (B:Bl mg) (T:LineT K mg base CN fI dI c1 P1 c2 P2) (GC:Mtd P w K mg base 5 CN "climb" ["self"] (sp_climb CN P1 P2)):Mtd P w K mg base 6 CN "add_room" ["self"] (sp_add CN P1 P2):=by
  refine T.ad.ok sc_add (λ vs H Q E h=>?_) λ f cdv A outer s H vs Q E hr h=>?_
  · obtain ⟨x,dx,pp,pm,ph,pe,pw,rs,pts,has,R,h,p,way,rfl,_⟩:=h;rfl
  · obtain ⟨x,dx,pp,pm,ph,pe,pw,rs,pts,has,R,h,p,way,rfl,U,hne,hus,q⟩:=h;refine ⟨_,pss_cons (ps_set (i:=1) sc_add.nd rfl (Or.inl rfl) (pe_op op_sub (pe_callB call_len_seq (by rfl) B.len PySem.boot_len (pa_cons (pe_fld (pv 0) rfl) pa_nil)) pe_int))
      (pss_cons (ps_while PassesOwn.never (pt_cmpR op_gt (pv 1) pe_int (nomark _))
        (pss_cons (ps_set (i:=2) sc_add.nd rfl (Or.inl rfl) (pe_ix ix_list (pe_fld (pv 0) rfl) (pv 1) (λ _ _=>rfl)))
        (pss_cons (ps_if (pt_cmpR op_notN (pe_ix ix_tup (pv 2) pe_int (λ _ _=>rfl)) pe_non (nomark _))
          (pss_one (ps_asg (pe_not (pe_ix ix_list (pe_fld (pv 0) rfl) (pe_ix ix_tup (pv 2) pe_int (λ _ _=>rfl)) (λ _ _=>rfl))) (pg_sub (pe_fld (pv 0) rfl) (pe_ix ix_tup (pv 2) pe_int (λ _ _=>rfl)) set_list))) pss_nil)
        (pss_one (ps_set (i:=1) sc_add.nd rfl (Or.inl rfl) (pe_ix ix_tup (pv 2) pe_int (λ _ _=>rfl)))))))
      (pss_cons (ps_fldaug (pv 0) pe_int in_add)
      (pss_one (ps_expr (pe_mtd0 GC (pv 0) T.cl hr))))),?_⟩
    have L:=U.ln;have hpl:=L.pl;have hN:0 < pts.length:=List.length_pos_iff.mpr hne;have ok:=Ln.net_ok L.ok;refine (rdF L.ins T.cl T.np lk_p ⟨pp,_,rfl,.inl (SqL.of L.pt),_,_,rfl,rfl,?_⟩);obtain ⟨ws,hws,hwl,hwy⟩:=id U.wy;have hE:H pe=some (.lst (htL pts.length h)):=U.ht;obtain ⟨xs,hx,hxl⟩:=L.mlist;obtain ⟨tp1,et1⟩:=TabIs.there U.t1;obtain ⟨tp2,et2⟩:=TabIs.there U.t2;have xph:¬ x=ph:=ne_of L.ins L.hs λ z=>nomatch z;have nt:∀ (b:Addr) (v:List V),b=ph→H b≠some (.tup v):=λ b v hb z=>by subst hb;rw [L.hs] at z;cases z
    have nf:∀ (b:Addr) (o:Obj) (u:HO),b=ph→H b≠some (.frz o u):=λ b o u hb z=>by subst hb;rw [L.hs] at z;cases z
    obtain ⟨m0,hm0⟩:=U.cl.reach (pts.length - 1) (show pts.length - 1 < pts.length by omega);refine ⟨λ m σ H2=>∃ (v:Nat) (has':Nat→Bool) (o2:Option V),σ=[some (.ref x),some (.int (v:Nat)),o2]∧Ln.Wk (Ln.netOf rs pts) has R h way v has'∧Ln.Reach way v m∧H2 ph=some (.lst (hasL rs.length has'))∧Fx (λ b=>b=ph) H H2,⟨m0,pts.length - 1,has,none,?_,Ln.Wk.start (p:=p) hN U.fh,hm0,L.hs,Fx.refl⟩,?_⟩
    · show [some (V.ref x),some (V.int (((pts.map V.int).length:Int) - 1)),none]=_;rw [List.length_map,show ((pts.length:Int) - 1)=((pts.length - 1:Nat):Int) by omega]
    rintro m σ H2 ⟨v,has',o2,rfl,hW,hRe,hP2,F2⟩;refine ⟨_,rfl,_,_,rfl,rfl,_,rfl,?_⟩;have L2':H2 x=some (.ins CN dx (lnFs R pp pm ph pe pw)):=F2 _ _ L.ins xph
    by_cases hv:0 < v
    · refine iteP (by simpa using hv) ?_;have hvN:v < pts.length:=hW.lt;obtain ⟨g,mv,tt⟩:=U.cl.tight U.fh hv hvN;obtain ⟨hu,_,_⟩:=mv.bounds ok;obtain ⟨t,et,ht⟩:=hwy v hv hvN;have ht2:H2 t=some (.tup [.int ((way v).1:Nat),optV (way v).2]):=F2 _ _ ht λ z=>nt t _ z ht;have hws2:H2 pw=some (.lst ws):=F2 _ _ hws λ z=>U.n3 z.symm;cases hRe with
      | zero=>omega
      | @step _ m' _ hRe' =>
        refine ⟨λ σ H3=>∃ (v':Nat) (has'':Nat→Bool) (o2:Option V),σ=[some (.ref x),some (.int (v':Nat)),o2]∧Ln.Wk (Ln.netOf rs pts) has R h way v' has''∧Ln.Reach way v' m'∧H3 ph=some (.lst (hasL rs.length has''))∧Fx (λ b=>b=ph) H H3,λ σ' H3 z=>⟨m',Nat.lt_succ_self _,z⟩,?_⟩;have hW2:=hW.step ok U.cl U.fh hv;refine (rdF L2' T.cl T.nw lk_w ⟨_,rfl,pw,ws,_,_,rfl,rfl,SqL.of hws2,atI_nat et,?_⟩);refine ⟨_,rfl,t,_,_,_,rfl,rfl,SqT.of ht2,(show atI [V.int ((way v).1:Nat),optV (way v).2] 1=some (optV (way v).2) from rfl),rfl,_,rfl,?_⟩;cases hk:(way v).2 with
        | none =>
          rw [hk] at ht2 hW2;refine iteF ⟨_,rfl,t,_,_,_,rfl,rfl,SqT.of ht2,(show atI [V.int ((way v).1:Nat),optV none] 0=some (.int ((way v).1:Nat)) from rfl),(way v).1,has',_,rfl,hW2,hRe',hP2,F2⟩
        | some c =>
          rw [hk] at ht2 hW2 mv;have hc:c < rs.length:=mv.cnt;refine iteT (rdF L2' T.cl T.nh lk_h ⟨_,rfl,t,_,_,_,rfl,rfl,SqT.of ht2,(show atI [V.int ((way v).1:Nat),optV (some c)] 1=some (.int (c:Nat)) from rfl),ph,_,_,_,rfl,rfl,SqL.of hP2,hasL_get hc,_,rfl,?_⟩);refine (rdF L2' T.cl T.nh lk_h ⟨_,rfl,t,_,_,_,rfl,rfl,SqT.of ht2,(show atI [V.int ((way v).1:Nat),optV (some c)] 1=some (.int (c:Nat)) from rfl),ph,_,_,c,rfl,rfl,hP2,ixN_nat (by rw [hasL_len];exact hc),?_⟩);rw [hasL_set];have tph:t≠ph:=λ z=>nt t _ z ht;refine ⟨_,rfl,t,_,_,_,rfl,rfl,SqT.of (by rw [upd_ne tph];exact ht2),(show atI [V.int ((way v).1:Nat),optV (some c)] 0=some (.int ((way v).1:Nat)) from rfl),(way v).1,_,_,rfl,hW2,hRe',upd_same,F2.upd (.inl rfl)⟩
    · refine iteN (by simpa using hv) ?_;have hv0:v=0:=by omega
      subst hv0;obtain ⟨w1,w2,w3⟩:=hW.done U.fh hus;have h0:h 0=0:=U.cl.zero U.p0 hN;have F3:Fx (λ b=>b=x∨b=ph) H (upd H2 x (.ins CN dx (lnFs (R + 1) pp pm ph pe pw))):=(F2.mono λ b hb=>.inr hb).upd (.inl (.inl rfl));have L3:LineAt CN (upd H2 x (.ins CN dx (lnFs (R + 1) pp pm ph pe pw))) x dx pp pm ph pe pw rs pts has' (R + 1):=by
        refine ⟨upd_same,F3 _ _ L.pt ?_,L.mv.fx F3 ?_ ?_,?_,L.ok,L.rl,L.pl,L.a1,L.a2⟩
        · rintro (z | z)
          · subst z;have:=L.pt;rw [L.ins] at this;cases this
          · exact L.a1 z.symm
        · rintro (z | z)
          · subst z;rw [L.ins] at hx;cases hx
          · exact L.a2 z.symm
        · rintro b v (z | z) e
          · subst z;rw [L.ins] at e;cases e
          · exact nt b v z e
        · rw [upd_ne λ z=>xph z.symm];exact hP2
      have tb3:∀ {q:Str} {pos:Pos} {P0:Addr},TabIs H P0 pos q→TabIs (upd H2 x (.ins CN dx (lnFs (R + 1) pp pm ph pe pw))) P0 pos q:=λ {q pos P0} t=>by
        obtain ⟨tp,et⟩:=TabIs.there t;refine TabIs.fx t F3 ?_ ?_
        · rintro (z | z)
          · subst z;rw [L.ins] at et;cases et
          · subst z;rw [L.hs] at et;cases et
        · rintro b o u (z | z) e
          · subst z;rw [L.ins] at e;cases e
          · exact nf b o u z e
      have t13:=tb3 U.t1;have t23:=tb3 U.t2;refine ⟨_,rfl,x,CN,dx,_,_,rfl,L2',T.cl,T.nr,lk_r,_,_,rfl,rfl,dx,_,L2',by show 6 < 1000;decide,?_⟩;rw [putR];generalize upd H2 x (.ins CN dx (lnFs (R + 1) pp pm ph pe pw))=H3 at F3 L3 t13 t23 ⊢;refine ⟨_,rfl,x,dx,_,rfl,L3.ins,by rfl,?_⟩
      try unfold tNil
      refine ⟨x,dx,pp,pm,ph,pe,pw,rs,pts,has',R + 1,h,rfl,L3,t13,t23,w1,h0,λ la lw h' way' H4 F4 L4 t14 t24 hE4 hW4 hC4 hF4 nlw nla nlw2=>?_⟩;have th3:∀ b,(b=x∨b=ph)→∃ u,H3 b=some u:=λ b hb=>by
        rcases hb with rfl | rfl
        · exact ⟨_,L3.ins⟩
        · exact ⟨_,L3.hs⟩
      refine q la lw has' h' way' H4 ((F3.mono ?_).trans (F4.mono ?_)) ⟨L4,t14,t24,hE4,hW4,w1,h0,hC4,hF4,nlw,λ z=>?_,λ z=>?_⟩ w2 (by rw [w3,h0];show (Ln.netOf rs pts).worth has + h (pts.length - 1) - 0=_;omega) (fresh_fx F3 nla th3) (fresh_fx F3 nlw2 th3)
      · rintro b (z | z)
        · exact .inl z
        · exact .inr (.inl z)
      · rintro b (z | z | z)
        · exact .inl z
        · exact .inr (.inr (.inl z))
        · exact .inr (.inr (.inr z))
      · have:=L3.hs;rw [z,nla] at this;cases this
      · have:=L3.hs;rw [z,nlw2] at this;cases this
theorem sc_filled:FnScope ["requests","rooms","line"] ["requests","rooms"] (defScope s_filled):=⟨rfl,rfl,rfl,by decide +kernel,rfl,by decide +kernel,by decide +kernel⟩
noncomputable def sp_filled (CN P1 P2:Addr):Sp:=λ vs H Q _=>∃ (a:Addr) (rs:Ln.Rs) (R:Int),vs=[.ref a,.int R]∧ReqsAt H a rs∧GoodR rs∧rs.length≤2000∧0≤R∧Tab1 H P1∧Tab2 H P2 ∧
  ∀ x dx pp pm ph pe pw pts has R' h p way H',Fx (λ b=>b=P1∨b=P2) H H'→H x=none→LineUp CN P1 P2 H' x dx pp pm ph pe pw rs pts has R' h p way→(∀ i,i + 1 < pts.length→(Ln.netOf rs pts).used has i≤R')→R'≤R→(R'=R∨∀ v,v < pts.length→h v=0)→Q (.ref x) H'
theorem ok_filled (B:Bl mg) (T:LineT K mg base CN fI dI c1 P1 c2 P2) (GI:FnOk P w K mg base CX0 6 fI dI ["self","requests","taken","rooms"] (sp_init CN P1 P2)) (GG:Mtd P w K mg base 1 CN "growth" ["self"] (sp_growth CN)) (GA:Mtd P w K mg base 6 CN "add_room" ["self"] (sp_add CN P1 P2))
    (D:FnAt K mg "filled" s_filled ["requests","rooms"]):Def P w K mg base CX0 8 "filled" ["requests","rooms"] (sp_filled CN P1 P2):=by
  refine D.ok sc_filled (λ vs H Q E h=>?_) λ f cdv A outer s H vs Q E hr h=>?_
  · obtain ⟨a,rs,R,rfl,_⟩:=h;rfl
  · obtain ⟨a,rs,R,rfl,hR,hg,hrl,hR0,hT1,hT2,q⟩:=h;have hr1:Room 1 _:=hr.mono (by decide);have hr6:Room 6 _:=hr.mono (by decide);refine ⟨_,pss_cons (ps_set (i:=2) sc_filled.nd rfl (Or.inl rfl) (pe_make T.mke GI hr rfl T.mC T.bI .nil pass0 (pa_cons (pv 0) (pa_cons (pe_lst pa_nil) (pa_cons pe_int pa_nil)))))
      (pss_cons (ps_while PassesOwn.never (PW.pt (pw_and (pt_cmpR op_lt (pe_fld (pv 2) rfl) (pv 1) (nomark _)) (pw_and1 (pt_cmpR op_gt (pe_mtd0 GG (pv 2) T.cl hr1) pe_int (nomark _))))) (pss_one (ps_expr (pe_mtd0 GA (pv 2) T.cl hr6))))
      (pss_one (ps_ret (pv 2)))),?_⟩
    refine ⟨_,rfl,by show 0≤sizeLine;decide,λ lt hlt x dx hx hdx hne=>?_⟩;have s1:Same H (upd H lt (.lst [])):=same_laid hlt;have s2:Same H (upd (upd (upd H lt (.lst [])) dx (.own x)) x (.ins CN dx [])):=s1.trans (made_same hx hdx);have hxN:=none_of_same s1 hx;have htk:upd (upd (upd H lt (.lst [])) dx (.own x)) x (.ins CN dx []) lt=some (.lst (([]:List Int).map V.int)):=made_same hx hdx _ _ upd_same;have hx2:upd (upd (upd H lt (.lst [])) dx (.own x)) x (.ins CN dx []) x=some (.ins CN dx []):=upd_same;show sp_init CN P1 P2 _ (upd (upd (upd H lt (.lst [])) dx (.own x)) x (.ins CN dx [])) _ _;generalize upd (upd (upd H lt (.lst [])) dx (.own x)) x (.ins CN dx [])=H2 at s2 htk hx2 ⊢;have e0:hasOf []=λ _=>false:=by
      funext c;simp [hasOf]
    refine ⟨x,dx,a,lt,rs,[],0,rfl,hx2,reqs_same s2 hR,hg,hrl,htk,λ c hc=>by simp at hc,TabIs.same hT1 s2,TabIs.same hT2 s2,λ pts hP=>⟨_,by rw [e0];exact Ln.feas_none (Ln.net_ok hP),by simp⟩,λ pp pm ph la lw pts h p way H3 F3 L3 t13 t23 hE3 hW3 hp p0 hC hF n1 n2 n3 hph=>⟨rfl,?_⟩⟩;have FH3:Fx (λ b=>b=P1∨b=P2) H H3:=λ b u e n=>F3 b u (s2 b u e) λ z=>by
      rcases z with z | z
      · subst z;rw [hxN] at e;cases e
      · exact n z
    have us0:∀ i,i + 1 < pts.length→(Ln.netOf rs pts).used (hasOf []) i≤0:=λ i _=>by
      unfold Ln.Net.used;have ez:Ln.sm (λ c=>Ln.one (hasOf [] c && (Ln.netOf rs pts).at c i)) (Ln.netOf rs pts).n=Ln.sm (λ _=>0) (Ln.netOf rs pts).n:=Ln.sm_same λ c _=>by rw [e0];rfl
      rw [ez,Ln.sm_zero];exact Int.le_refl _
    refine ⟨λ m σ H4=>∃ (pe pw:Addr) (has:Nat→Bool) (R':Int) (h p:Nat→Int) (way:Nat→Nat×Option Nat),σ=[some (.ref a),some (.int R),some (.ref x)]∧Fx (λ b=>b=P1∨b=P2) H H4∧H ph=none∧LineUp CN P1 P2 H4 x dx pp pm ph pe pw rs pts has R' h p way∧(∀ i,i + 1 < pts.length→(Ln.netOf rs pts).used has i≤R')∧R'≤R∧m=(R - R').toNat,
      ⟨_,la,lw,hasOf [],0,h,p,way,rfl,FH3,?_,⟨L3,t13,t23,hE3,hW3,hp,p0,hC,hF,n1,n2,n3⟩,us0,hR0,rfl⟩,?_⟩
    · exact none_of_same s2 hph
    rintro m σ H4 ⟨pe,pw,has,R',h,p,way,rfl,F4,hphN,U,hus,hle,rfl⟩;have L:=U.ln;refine (rdF L.ins T.cl T.nr lk_r ⟨_,rfl,_,_,rfl,rfl,_,rfl,?_⟩)
    by_cases hlt:R' < R
    · refine iteP (by simpa using hlt) ?_;refine ⟨_,rfl,x,dx,_,rfl,L.ins,by rfl,?_⟩
      try unfold tNil
      refine ⟨x,dx,pp,pm,ph,pe,pw,rs,pts,has,R',h,rfl,L,U.ht,λ mx H5 s5 z1 z2 z3=>⟨_,_,rfl,rfl,_,rfl,?_⟩⟩;have U5:LineUp CN P1 P2 H5 x dx pp pm ph pe pw rs pts has R' h p way:=⟨L.same s5,TabIs.same U.t1 s5,TabIs.same U.t2 s5,s5 _ _ U.ht,U.wy.fx (S:=λ _=>False) (Fx.of s5) (λ z=>z) λ _ _ z=>z.elim,U.fp,U.p0,U.cl,U.fh,U.n1,U.n2,U.n3⟩
      by_cases hgr:0 < mx
      · refine iteP (by simpa using hgr) ?_;have hne:pts≠[]:=λ z=>by have:=z1 z;omega
        refine ⟨λ σ H6=>∃ (pe pw:Addr) (has:Nat→Bool) (h p:Nat→Int) (way:Nat→Nat×Option Nat),σ=[some (.ref a),some (.int R),some (.ref x)]∧Fx (λ b=>b=P1∨b=P2) H H6∧LineUp CN P1 P2 H6 x dx pp pm ph pe pw rs pts has (R' + 1) h p way∧(∀ i,i + 1 < pts.length→(Ln.netOf rs pts).used has i≤R' + 1),λ σ' H6 z=>?_,?_⟩
        · obtain ⟨pe,pw,has,h,p,way,e1,e2,e3,e4⟩:=z;exact ⟨(R - (R' + 1)).toNat,by omega,pe,pw,has,R' + 1,h,p,way,e1,e2,hphN,e3,e4,by omega,rfl⟩
        · refine ⟨_,rfl,x,dx,_,rfl,U5.ln.ins,by rfl,?_⟩
          try unfold tNil
          refine ⟨x,dx,pp,pm,ph,pe,pw,rs,pts,has,R',h,p,way,rfl,U5,hne,hus,λ la lw has' h' way' H6 F6 U6 hus6 _ _ _=>?_⟩;refine ⟨la,lw,has',h',h,way',rfl,λ b u e n=>F6 b u (s5 b u (F4 b u e n)) λ z=>?_,U6,hus6⟩;rcases z with z | z | z
          · subst z;rw [hxN] at e;cases e
          · subst z;rw [hphN] at e;cases e
          · exact n z
      · refine iteN (by simpa using hgr) ⟨_,rfl,q x dx pp pm ph pe pw pts has R' h p way H5 (F4.trans (Fx.of s5)) hxN U5 hus hle (.inr λ v hv=>?_)⟩;have:=z2 v hv;have:=U.cl.ge v hv;omega
    · refine iteN (by simpa using hlt) (iteF ⟨_,rfl,q x dx pp pm ph pe pw pts has R' h p way H4 F4 hxN U hus hle (.inl (by omega))⟩)
end
end Sp
namespace Sp
open PySem L2
seal PE PA PS PSs PT PG PGs PI PW PTs
noncomputable def fitsB (rs:Ln.Rs) (ns:List Int) (R:Int):Bool:=ns.all λ c=>decide (((Ln.thereN rs ns (Lg.rq rs c.toNat).1).length:Int)≤R)
noncomputable def posB (ts:List (Int×Int)):Bool:=ts.all λ t=>decide (0≤t.2)
noncomputable def tollsB (ts:List (Int×Int)):Bool:=posB ts && risesB (ts.map (·.1))
noncomputable def bestB (ns:List Int) (ts:List (Int×Int)) (rs:Ln.Rs) (R:Int):Bool:=choiceB ns rs.length && (fitsB rs ns R && (tollsB ts && decide (Ln.worthL rs ns=R * Ln.sumT ts + Ln.gainsL rs ts)))
theorem choice_in {ns:List Int} {n:Nat} (h:choiceB ns n=true) {c:Int} (hc:c∈ns):0≤c∧c.toNat < n:=by
  unfold choiceB at h;rw [Bool.and_eq_true,List.all_eq_true] at h;have:=h.1 c hc;rw [Bool.and_eq_true,decide_eq_true_eq,decide_eq_true_eq] at this;omega
theorem range_ints (ns:List Int) (f:Int→Int):(List.range (ns.map V.int).length).map (λ j=>V.int (f (ns.getD j 0)))=(ns.map f).map V.int:=by
  rw [List.length_map,List.map_map]
  conv=>rhs;rw [← range_getD ns 0]
  rw [List.map_map];rfl
section
variable {P:Program} {w:World} {K:PySem.W.Frag} {mg:Str→Option Value} {base:Heap}
theorem sc_lworth:FnScope ["_law_requests_here","_law_some"] ["_law_requests_here","_law_some"] (defScope s__law_worth):=⟨rfl,rfl,rfl,by decide +kernel,rfl,by decide +kernel,by decide +kernel⟩
noncomputable def sp_lworth:Sp:=λ vs H Q _=>∃ (a b:Addr) (ns:List Int) (rs:Ln.Rs),vs=[.ref b,.ref a]∧H a=some (.lst (ns.map V.int))∧ReqsAt H b rs∧(∀ c∈ns,0≤c∧c.toNat < rs.length)∧ns.length≤60000∧∀ H',Same H H'→Q (.int (Ln.worthL rs ns)) H'
theorem ok_lworth (B:Bl mg) (D:FnAt K mg "_law_worth" s__law_worth ["_law_requests_here","_law_some"]):Def P w K mg base CX0 1 "_law_worth" ["_law_requests_here","_law_some"] sp_lworth:=by
  refine D.ok sc_lworth (λ vs H Q E h=>?_) λ f cdv A outer s H vs Q E hr h=>?_
  · obtain ⟨a,b,ns,rs,rfl,_⟩:=h;rfl
  · obtain ⟨a,b,ns,rs,rfl,ha,hR,hin,hz,q⟩:=h;refine ⟨_,pss_one (ps_ret (pe_callB (call_sum_ints rfl) (by rfl) B.sum PyProof.Rows.Boot.«sum» (pa_cons (pe_comp ["_law_at"] [0] rfl (pi_list (pv 1)) λ cl s H fp C=>⟨pg_name (i:=0) (show (["_law_at","_law_requests_here"]:List Str).Nodup by decide +kernel) rfl (Or.inl rfl),pts_nil,
      pe_ix (ix_tupK (K:=K)) (pe_ix (ix_listK (K:=K)) (pv 1) (pv 0) (λ _ _=>rfl)) pe_int (λ _ _=>rfl)⟩) pa_nil))),?_⟩
    refine ⟨_,rfl,a,rfl,⟨_,SqL.of ha⟩,λ D hD=>?_⟩;refine comp_each (yields_list (ns.map V.int)) (λ σ=>∃ o,σ=[o,some (.ref b)]) (λ j=>.int (Lg.rq rs (ns.getD j 0).toNat).2.2) hD (by rw [List.length_map];omega) (λ H3 s3=>SqL.of (s3 _ _ ha)) ⟨_,rfl⟩ ?_ ?_
    · rintro j v σ H3 H3' hj ⟨rfl,hxj⟩ s3 ⟨o,rfl⟩ Ky hK;obtain ⟨h1,rfl⟩:=int_at hxj;obtain ⟨c0,c1⟩:=hin _ (show ns.getD j 0∈ns by rw [getD_at h1];exact List.getElem_mem h1);obtain ⟨xs,p,e1,e2,e3⟩:=reqs_ix (reqs_same s3 hR) c0 c1;exact ⟨_,rfl,_,rfl,b,_,_,_,rfl,rfl,SqL.of e1,e2,p,_,_,_,rfl,rfl,SqT.of e3,(show atI (trip (Lg.rq rs (ns.getD j 0).toNat)) 2=some (.int (Lg.rq rs (ns.getD j 0).toNat).2.2) from rfl),hK _ _ _ (Same.refl _) ⟨_,rfl⟩ rfl⟩
    · intro H3 s3 hD3;exact ⟨D,_,rfl,SqL.of (by rw [hD3];exact congrArg (λ l=>some (HO.lst l)) (range_ints ns λ c=>(Lg.rq rs c.toNat).2.2)),q H3 s3⟩
end
end Sp
namespace Sp
open PySem L2
seal PE PA PS PSs PT PG PGs PI PW PTs
section
variable {P:Program} {w:World} {K:PySem.W.Frag} {mg:Str→Option Value} {base:Heap}
theorem tolls_at {H:Hp} {a:Addr} {ts:List (Int×Int)} {xs:List V} (h:TupsAt H a (ts.map pairV)) (hx:H a=some (.lst xs)) {j:Nat} {v:V} (e:xs[j]?=some v):∃ p,j < ts.length∧v = .ref p∧H p=some (.tup [.int (ts.getD j (0,0)).1,.int (ts.getD j (0,0)).2]):=by
  obtain ⟨p,y,rfl,hy,hp⟩:=h.at_ hx e;rw [List.getElem?_map] at hy;cases z:ts[j]? with
  | none=>rw [z] at hy;cases hy
  | some t =>
    rw [z] at hy;cases hy;exact ⟨p,(List.getElem?_eq_some_iff.mp z).1,rfl,by rw [List.getD_eq_getElem?_getD,z];exact hp⟩
theorem range_tolls {α:Type} (ts:List (Int×Int)) (f:Int×Int→α):(List.range ts.length).map (λ j=>f (ts.getD j (0,0)))=ts.map f:=by
  conv=>rhs;rw [← range_getD ts (0,0)]
  rw [List.map_map];rfl
theorem max_eq (x:Int):(if x > 0 then x else 0)=max 0 x:=by omega
theorem sum_take {rs:Ln.Rs} {f:Int×Int×Int→Int} {i:Nat} (hi:i < rs.length):((rs.take (i + 1)).map f).sum=((rs.take i).map f).sum + f (Lg.rq rs i):=by
  rw [List.take_succ_eq_append_getElem hi,List.map_append,List.sum_append,rq_at (List.getElem?_eq_getElem hi)];simp
theorem eq_int (a b:Int):decide (V.int a=V.int b)=decide (a=b):=decide_eq_decide.mpr ⟨λ z=>by injection z,λ z=>by rw [z]⟩
end
end Sp
namespace L2
open PySem PySem.Spec PyProof.Rows
end L2
namespace Sp
open PySem L2
seal PE PA PS PSs PT PG PGs PI PW PTs
structure AnsB (K:PySem.W.Frag) (mg:Str→Option Value) (CA CB CD CL CC fB:Addr) (dB:FuncData):Prop where
  mB:mg "Best"=some (.ref CB)
  okB:ClsOk K CB
  nt:NoAttr K CB "taken"
  nl:NoAttr K CB "tolls"
  mke:Mk K CB fB
  fB:Fun K "__init__" "Best.__init__" s_Best___init__ fB dB
  bB:Binds K dB ["self","taken","tolls"] []
structure BestAt (CB:Addr) (H:Hp) (x dx l1 l2:Addr) (ns:List Int) (ts:List (Int×Int)):Prop where
  ins:H x=some (.ins CB dx [("taken",.ref l1),("tolls",.ref l2)])
  tk:H l1=some (.lst (ns.map V.int))
  tl:TupsAt H l2 (ts.map pairV)
section
variable {P:Program} {w:World} {K:PySem.W.Frag} {mg:Str→Option Value} {base:Heap} {CA CB CD CL CC fB:Addr} {dB:FuncData} {CN fI c1 P1 c2 P2:Addr} {dI:FuncData}
theorem BestAt.same {H H':Hp} {x dx l1 l2:Addr} {ns:List Int} {ts:List (Int×Int)} (h:BestAt CB H x dx l1 l2 ns ts) (s:Same H H'):BestAt CB H' x dx l1 l2 ns ts:=⟨s _ _ h.ins,s _ _ h.tk,h.tl.same s⟩
theorem tups_copy {H:Hp} {t l:Addr} {vs:List (List V)} {xs:List V} (h:TupsAt H t vs) (hx:H t=some (.lst xs)) (hl:H l=none):TupsAt (upd H l (.lst xs)) l vs:=by
  obtain ⟨ys,e1,e2,e3⟩:=h;rw [hx] at e1;cases e1;exact ⟨_,upd_same,e2,λ i v e=>let ⟨p,a,b⟩:=e3 i v e;⟨p,a,by rw [upd_ne (ne_of_none b hl)];exact b⟩⟩
theorem sc_Bi:FnScope ["self","taken","tolls"] ["self","taken","tolls"] (defScope s_Best___init__):=⟨rfl,rfl,rfl,by decide +kernel,rfl,by decide +kernel,by decide +kernel⟩
noncomputable def sp_Bi (CB:Addr):Sp:=λ vs H Q _=>∃ (x dx a t:Addr) (ns:List Int) (ts:List (Int×Int)),vs=[.ref x,.ref a,.ref t]∧H x=some (.ins CB dx [])∧H a=some (.lst (ns.map V.int))∧TupsAt H t (ts.map pairV) ∧
  ∀ l1 l2 H',Fx (λ b=>b=x) H H'→H l1=none→H l2=none→l1≠l2→BestAt CB H' x dx l1 l2 ns ts→Q .non H'
theorem ok_Bi (B:Bl mg) (T:AnsB K mg CA CB CD CL CC fB dB):FnOk P w K mg base CX0 1 fB dB ["self","taken","tolls"] (sp_Bi CB):=by
  refine T.fB.ok sc_Bi (λ vs H Q E h=>?_) λ cdv A outer s H vs Q E hr h=>?_
  · obtain ⟨x,dx,a,t,ns,ts,rfl,_⟩:=h;rfl
  · obtain ⟨x,dx,a,t,ns,ts,rfl,hx,ha,hT,q⟩:=h;refine ⟨_,pss_cons (ps_fld (pv 0) (pe_callTy call_list_of (by rfl) B.list PyProof.Rows.Boot.«list» (pa_cons (pv 1) pa_nil)) rfl) (pss_one (ps_fld (pv 0) (pe_callTy call_list_of (by rfl) B.list PyProof.Rows.Boot.«list» (pa_cons (pv 2) pa_nil)) rfl)),?_⟩;obtain ⟨xs,hxs,_⟩:=hT.list;refine ⟨_,rfl,a,_,rfl,.inl (SqL.of ha),λ l1 hl1=>⟨_,rfl,x,CB,dx,[],rfl,(same_laid hl1) _ _ hx,T.okB.cl,T.nt,by decide,?_⟩⟩;rw [show putF (Str.ofString "taken") (V.ref l1) []=[(Str.ofString "taken",V.ref l1)] from rfl];have s1:Same H (upd H l1 (.lst (ns.map V.int))):=same_laid hl1;have x1:l1≠x:=(ne_of_none hx hl1).symm;have F2':Fx (λ b=>b=x) (upd H l1 (.lst (ns.map V.int))) (upd (upd H l1 (.lst (ns.map V.int))) x (.ins CB dx [(Str.ofString "taken",V.ref l1)])):=Fx.refl.upd (.inl rfl);have F2:Fx (λ b=>b=x) H (upd (upd H l1 (.lst (ns.map V.int))) x (.ins CB dx [(Str.ofString "taken",V.ref l1)])):=(Fx.of s1).trans F2';have hx2:upd (upd H l1 (.lst (ns.map V.int))) x (.ins CB dx [(Str.ofString "taken",V.ref l1)]) x=some (.ins CB dx [(Str.ofString "taken",V.ref l1)]):=upd_same;have h12:upd (upd H l1 (.lst (ns.map V.int))) x (.ins CB dx [(Str.ofString "taken",V.ref l1)]) l1=some (.lst (ns.map V.int)):=by rw [upd_ne x1,upd_same]
    generalize upd (upd H l1 (.lst (ns.map V.int))) x (.ins CB dx [(Str.ofString "taken",V.ref l1)])=H2 at F2 hx2 h12 ⊢;have ntx:∀ (b:Addr) (v:List V),b=x→H b≠some (.tup v):=λ b v hb z=>by subst hb;rw [hx] at z;cases z
    have tx:¬ t=x:=λ z=>by subst z;rw [hx] at hxs;cases hxs
    have hT2:=hT.fx F2 tx ntx;have hxs2:=F2 _ _ hxs tx;refine ⟨_,rfl,t,_,rfl,.inl (SqL.of hxs2),λ l2 hl2=>⟨_,rfl,x,CB,dx,_,rfl,(same_laid hl2) _ _ hx2,T.okB.cl,T.nl,by show 1 < 1000;decide,?_⟩⟩;rw [show putF (Str.ofString "tolls") (V.ref l2) [(Str.ofString "taken",V.ref l1)]=[(Str.ofString "taken",V.ref l1),(Str.ofString "tolls",V.ref l2)] from rfl];have s3:Same H2 (upd H2 l2 (.lst xs)):=same_laid hl2;have t3:=tups_copy hT2 hxs2 hl2;have x2:l2≠x:=(ne_of_none hx2 hl2).symm;have hx3:=s3 _ _ hx2;have F4:Fx (λ b=>b=x) (upd H2 l2 (.lst xs)) (upd (upd H2 l2 (.lst xs)) x (.ins CB dx [(Str.ofString "taken",V.ref l1),(Str.ofString "tolls",V.ref l2)])):=Fx.refl.upd (.inl rfl);refine q l1 l2 _ ((F2.trans (Fx.of s3)).trans F4) hl1 (fresh_fx F2 hl2 λ b hb=>⟨_,by subst hb;exact hx2⟩) (ne_of_none h12 hl2) ⟨upd_same,F4 _ _ (s3 _ _ h12) x1,t3.fx F4 x2 λ b v hb z=>?_⟩;subst hb;rw [hx3] at z;cases z
theorem best_ok {H:Hp} {x dx pp pm ph pe pw:Addr} {rs:Ln.Rs} {pts:List Int} {has:Nat→Bool} {R R':Int} {h p:Nat→Int} {way:Nat→Nat×Option Nat} (U:LineUp CN P1 P2 H x dx pp pm ph pe pw rs pts has R' h p way) (hus:∀ i,i + 1 < pts.length→(Ln.netOf rs pts).used has i≤R') (hle:R'≤R) (hz:R'=R∨∀ v,v < pts.length→h v=0) :
    bestB (Ln.choiceL has rs.length) (Ln.tollsL pts h) rs R=true:=by
  have hP:=U.ln.ok;unfold bestB choiceB fitsB tollsB posB;rw [Bool.and_eq_true,Bool.and_eq_true,Bool.and_eq_true,Bool.and_eq_true,Bool.and_eq_true,List.all_eq_true,List.all_eq_true,List.all_eq_true,rises_iff,rises_iff,decide_eq_true_eq];refine ⟨⟨λ c hc=>?_,Ln.choice_ord has rs.length⟩,λ c hc=>?_,⟨λ t ht=>?_,Ln.tolls_ord hP h⟩,?_⟩
  · have:=Ln.choice_in hc;rw [Bool.and_eq_true,decide_eq_true_eq,decide_eq_true_eq];exact this
  · rw [decide_eq_true_eq];exact Ln.fits_choice hP (λ i hi=>Int.le_trans (hus i hi) hle) c hc
  · rw [decide_eq_true_eq];exact Ln.tolls_pos pts h t ht
  · rcases hz with e | e
    · subst e;exact Ln.best_eq hP U.fh hus
    · exact Ln.best_flat hP U.fh hus e R
theorem sc_best:FnScope ["requests","rooms","line"] ["requests","rooms"] (defScope s_best):=⟨rfl,rfl,rfl,by decide +kernel,rfl,by decide +kernel,by decide +kernel⟩
noncomputable def sp_best (CB P1 P2:Addr):Sp:=λ vs H Q _=>∃ (a:Addr) (rs:Ln.Rs) (R:Int),vs=[.ref a,.int R]∧ReqsAt H a rs∧GoodR rs∧rs.length≤2000∧0≤R∧Tab1 H P1∧Tab2 H P2 ∧
  ∀ y dx l1 l2 ns ts H',Fx (λ b=>b=P1∨b=P2) H H'→H y=none→H l1=none→H l2=none→l1≠l2→BestAt CB H' y dx l1 l2 ns ts→bestB ns ts rs R=true→ns.length≤2000→ts.length≤4000→Tab1 H' P1→Tab2 H' P2→Q (.ref y) H'
theorem ok_best {CQ CR:Addr} (B:Bl mg) (T:AnsB K mg CA CB CD CL CC fB dB) (LT:LineT K mg base CN fI dI c1 P1 c2 P2) (GQ:Def P w K mg base (CXE P w) 5 "check_requests" ["requests"] (sp_creq K CQ)) (GM:Def P w K mg base (CXE P w) 3 "check_rooms" ["rooms"] (sp_croom K CR))
    (GF:Def P w K mg base CX0 8 "filled" ["requests","rooms"] (sp_filled CN P1 P2)) (GC:Mtd P w K mg base 1 CN "choice" ["self"] (sp_lchoice CN)) (GD:Mtd P w K mg base 1 CN "day_tolls" ["self"] (sp_dtolls CN)) (D:FnAt K mg "best" s_best ["requests","rooms"]) :
    Def P w K mg base CX0 9 "best" ["requests","rooms"] (sp_best CB P1 P2):=by
  refine D.ok sc_best (λ vs H Q E h=>?_) λ f cdv A outer s H vs Q E hr h=>?_
  · obtain ⟨a,rs,R,rfl,_⟩:=h;rfl
  · obtain ⟨a,rs,R,rfl,hR,hg,hz,hR0,hT1,hT2,q⟩:=h;have hr1:Room 1 _:=hr.mono (by decide);have hr2:Room 2 _:=hr.mono (by decide);have hr3:Room 3 _:=hr.mono (by decide);have hr5:Room 5 _:=hr.mono (by decide);refine ⟨_,pss_cons (ps_expr (pe_def GQ hr5 rfl passX0 (pa_cons (pv 0) pa_nil)))
      (pss_cons (ps_expr (pe_def GM hr3 rfl passX0 (pa_cons (pv 1) pa_nil)))
      (pss_cons (ps_set (i:=2) sc_best.nd rfl (Or.inl rfl) (pe_def GF hr rfl pass0 (pa_cons (pv 0) (pa_cons (pv 1) pa_nil))))
      (pss_one (ps_ret (pe_make T.mke (ok_Bi B T) hr2 rfl T.mB T.bB .nil pass0 (pa_cons (pe_mtd0 GC (pv 2) LT.cl hr1) (pa_cons (pe_mtd0 GD (pv 2) LT.cl hr1) pa_nil))))))),?_⟩
    refine ⟨_,rfl,_,rfl,.inr ⟨reqs_good hR hg (by omega),λ H1 s1=>?_⟩⟩;refine ⟨_,rfl,_,_,rfl,TyOf.int R,.inr ⟨decide_eq_true hR0,?_⟩⟩;refine ⟨_,rfl,_,rfl,a,rs,R,rfl,reqs_same s1 hR,hg,hz,hR0,TabIs.same hT1 s1,TabIs.same hT2 s1,λ x dx pp pm ph pe pw pts has R' h p way H2 F2 hxN U hus hle hzz=>?_⟩;have L:=U.ln;refine ⟨_,rfl,x,dx,_,rfl,L.ins,by rfl,?_⟩
    try unfold tNil
    refine ⟨x,dx,pp,pm,ph,pe,pw,rs,pts,has,R',rfl,L,λ lc H3 s3 hlc hc3=>?_⟩;have L3:=L.same s3;refine ⟨_,rfl,x,dx,_,rfl,L3.ins,by rfl,?_⟩
    try unfold tNil
    refine ⟨x,dx,pp,pm,ph,pe,pw,rs,pts,has,R',h,rfl,L3,s3 _ _ U.ht,λ lt H4 s4 hlt ht4=>?_⟩;intro y dy hy hdy hne;have S4:=s3.trans s4;have s5:Same H4 (upd (upd H4 dy (.own y)) y (.ins CB dy [])):=made_same hy hdy;have hy5:upd (upd H4 dy (.own y)) y (.ins CB dy []) y=some (.ins CB dy []):=upd_same;show sp_Bi CB _ (upd (upd H4 dy (.own y)) y (.ins CB dy [])) _ _;generalize upd (upd H4 dy (.own y)) y (.ins CB dy [])=H5 at s5 hy5 ⊢;refine ⟨y,dy,lc,lt,Ln.choiceL has rs.length,Ln.tollsL pts h,rfl,hy5,s5 _ _ (s4 _ _ hc3),ht4.same s5,λ l1 l2 H6 F6 hl1 hl2 hne' X6=>⟨rfl,?_⟩⟩;have FA:Fx (λ b=>b=P1∨b=P2) H H4:=((Fx.of s1).trans F2).trans (Fx.of S4);have tbl:∀ {b:Addr},(b=P1∨b=P2)→∃ u,H4 b=some u:=λ {b} hb=>by
      rcases hb with rfl | rfl
      · obtain ⟨tp,e⟩:=TabIs.there (TabIs.same U.t1 S4);exact ⟨_,e⟩
      · obtain ⟨tp,e⟩:=TabIs.there (TabIs.same U.t2 S4);exact ⟨_,e⟩
    have hyN:H y=none:=fresh_fx FA hy λ b hb=>tbl hb;have fr:∀ {l:Addr},H5 l=none→H l=none:=λ {l} e=>fresh_fx FA (none_of_same s5 e) λ b hb=>tbl hb;have yP:∀ {b:Addr} {u:HO},H4 b=some u→b≠y:=λ e z=>by subst z;rw [hy] at e;cases e
    have FB:Fx (λ b=>b=P1∨b=P2) H H6:=λ b u e n=>F6 b u (s5 b u (FA b u e n)) λ z=>by subst z;rw [hyN] at e;cases e
    have nf:∀ (b:Addr) (o:Obj) (u:HO),b=y→H5 b≠some (.frz o u):=λ b o u hb z=>by subst hb;rw [hy5] at z;cases z
    have t16:Tab1 H6 P1:=by
      obtain ⟨tp,e⟩:=TabIs.there (TabIs.same U.t1 S4);exact TabIs.fx (TabIs.same U.t1 (S4.trans s5)) F6 (yP e) nf
    have t26:Tab2 H6 P2:=by
      obtain ⟨tp,e⟩:=TabIs.there (TabIs.same U.t2 S4);exact TabIs.fx (TabIs.same U.t2 (S4.trans s5)) F6 (yP e) nf
    refine q y dy l1 l2 _ _ H6 FB hyN (fr hl1) (fr hl2) hne' X6 (best_ok U hus hle hzz) ?_ ?_ t16 t26
    · unfold Ln.choiceL;rw [List.length_map];have:=List.length_filter_le (λ c=>has c) (List.range rs.length);rw [List.length_range] at this;omega
    · unfold Ln.tollsL;rw [List.length_map];have:=List.length_filter_le (λ i=>decide (0 < h (i + 1) - h i)) (List.range (pts.length - 1));rw [List.length_range] at this;have:=L.pl;omega
end
end Sp
namespace Sp
open PySem L2
seal PE PA PS PSs PT PG PGs PI PW PTs
section
variable {P:Program} {w:World} {K:PySem.W.Frag} {mg:Str→Option Value} {base:Heap}
theorem map_range {α:Type} (ns:List Int) (g:Int→α):(List.range ns.length).map (λ j=>g (ns.getD j 0))=ns.map g:=by
  conv=>rhs;rw [← range_getD ns 0]
  rw [List.map_map];rfl
theorem any_fits (rs:Ln.Rs) (ns:List Int) (R:Int):((List.range (ns.map V.int).length).map λ j=>decide (R < ((ns.filter (onB rs (Lg.rq rs (ns.getD j 0).toNat).1)).length:Int))).any id = !fitsB rs ns R:=by
  have e:(List.range (ns.map V.int).length).map (λ j=>decide (R < ((ns.filter (onB rs (Lg.rq rs (ns.getD j 0).toNat).1)).length:Int)))=ns.map λ c=>decide (R < ((Ln.thereN rs ns (Lg.rq rs c.toNat).1).length:Int)):=by
    rw [List.length_map];exact map_range ns λ c=>decide (R < ((Ln.thereN rs ns (Lg.rq rs c.toNat).1).length:Int))
  rw [e,List.any_map];unfold fitsB;rw [List.not_all_eq_any_not];congr 1;funext c;show decide (R < _) = !decide (_≤R)
  by_cases h:R < ((Ln.thereN rs ns (Lg.rq rs c.toNat).1).length:Int)
  · rw [decide_eq_true h,decide_eq_false (by omega)];rfl
  · rw [decide_eq_false h,decide_eq_true (by omega)];rfl
theorem any_rises (ts:List (Int×Int)):((List.range (ts.length - 1)).map λ k=>decide ((ts.getD (k + 1) (0,0)).1≤(ts.getD k (0,0)).1)).any id = !risesB (ts.map (·.1)):=by
  rw [List.any_map];unfold risesB;rw [List.not_all_eq_any_not,List.length_map];have gd:∀ k,k < ts.length→(ts.map (·.1)).getD k 0=(ts.getD k (0,0)).1:=λ k hk=>by
    rw [List.getD_eq_getElem?_getD,List.getD_eq_getElem?_getD,List.getElem?_map,List.getElem?_eq_getElem hk];rfl
  rw [Bool.eq_iff_iff,List.any_eq_true,List.any_eq_true];constructor
  · rintro ⟨k,hk,e⟩;refine ⟨k,hk,?_⟩;rw [List.mem_range] at hk;rw [gd k (by omega),gd (k + 1) (by omega)];have e:decide ((ts.getD (k + 1) (0,0)).1≤(ts.getD k (0,0)).1)=true:=e;rw [decide_eq_true_eq] at e;rw [decide_eq_false (by omega)];rfl
  · rintro ⟨k,hk,e⟩;refine ⟨k,hk,?_⟩;rw [List.mem_range] at hk;rw [gd k (by omega),gd (k + 1) (by omega)] at e;show decide ((ts.getD (k + 1) (0,0)).1≤(ts.getD k (0,0)).1)=true;rw [decide_eq_true_eq];have e:(!decide ((ts.getD k (0,0)).1 < (ts.getD (k + 1) (0,0)).1))=true:=e;rw [Bool.not_eq_true',decide_eq_false_iff_not] at e;omega
theorem taken_tolls (ts:List (Int×Int)) (f l:Int):takenV (λ j=>decide (f≤(ts.getD j (0,0)).1) && decide ((ts.getD j (0,0)).1≤l)) (λ j=>.int (ts.getD j (0,0)).2) ts.length=((ts.filter λ t=>decide (f≤t.1) && decide (t.1≤l)).map (·.2)).map V.int:=by
  unfold takenV
  conv=>rhs;rw [← range_getD ts (0,0)]
  rw [List.filter_map,List.map_map,List.map_map];rfl
theorem sc_lbest:FnScope ["_law_requests_here","_law_rooms_here","_law_some","_law_tolls","_law_whole_here","_law_first","_law_last","_law_price"] ["_law_requests_here","_law_rooms_here","_law_some","_law_tolls"] (defScope s__law_best):=⟨rfl,rfl,rfl,by decide +kernel,rfl,by decide +kernel,by decide +kernel⟩
noncomputable def sp_lbest:Sp:=λ vs H Q _=>∃ (b a t:Addr) (R:Int) (ns:List Int) (ts:List (Int×Int)) (rs:Ln.Rs),vs=[.ref b,.int R,.ref a,.ref t]∧H a=some (.lst (ns.map V.int))∧TupsAt H t (ts.map pairV)∧ReqsAt H b rs∧ns.length≤4000∧ts.length≤60000∧rs.length≤60000∧-(2 ^ 64) < R∧R < 2 ^ 64 ∧
  ∀ H',Same H H'→Q (.bl (bestB ns ts rs R)) H'
theorem ok_lbest (B:Bl mg) (GW:Def P w K mg base CX0 1 "_law_whole" ["_law_number"] sp_lwhole) (GC:Def P w K mg base CX0 2 "_law_chosen" ["_law_requests_here","_law_some"] (sp_lchosen K)) (GT:Def P w K mg base CX0 1 "_law_there" ["_law_requests_here","_law_some","_law_day"] (sp_lthere K))
    (GV:Def P w K mg base CX0 1 "_law_worth" ["_law_requests_here","_law_some"] sp_lworth) (D:FnAt K mg "_law_best" s__law_best ["_law_requests_here","_law_rooms_here","_law_some","_law_tolls"]) :
    Def P w K mg base CX0 3 "_law_best" ["_law_requests_here","_law_rooms_here","_law_some","_law_tolls"] sp_lbest:=by
  refine D.ok sc_lbest (λ vs H Q E h=>?_) λ f cdv A outer s H vs Q E hr h=>?_
  · obtain ⟨b,a,t,R,ns,ts,rs,rfl,_⟩:=h;rfl
  · obtain ⟨b,a,t,R,ns,ts,rs,rfl,ha,hT,hR,hz1,hz2,hz3,hR0,hR1,q⟩:=h;have hr1:Room 1 _:=hr.mono (by decide);refine ⟨_,pss_cons (ps_if (pt_not (pt_val (pe_def GC hr rfl pass0 (pa_cons (pv 0) (pa_cons (pv 2) pa_nil))))) (pss_one (ps_ret pe_bl)) pss_nil)
      (pss_cons (ps_if (pt_val (pe_callB (call_any_bools rfl) (by rfl) B.any PyProof.Rows.Boot.«any» (pa_cons (pe_comp ["_law_at"] [0,1,2] rfl (pi_list (pv 2)) λ cl s H fp C =>
          ⟨pg_name (i:=0) (show (["_law_at","_law_requests_here","_law_rooms_here","_law_some"]:List Str).Nodup by decide +kernel) rfl (Or.inl rfl),pts_nil,
            pe_cmpR op_gt (pe_callB (call_lenK (K:=K)) (by rfl) B.len PySem.boot_len (pa_cons (pe_def GT hr1 rfl pass0 (pa_cons (pv 1) (pa_cons (pv 3) (pa_cons (pe_ix (ix_tupK (K:=K)) (pe_ix (ix_listK (K:=K)) (pv 1) (pv 0) (λ _ _=>rfl)) pe_int (λ _ _=>rfl)) pa_nil)))) pa_nil)) (pv 2) (nomark _)⟩) pa_nil))) (pss_one (ps_ret pe_bl)) pss_nil)
      (pss_cons (ps_if (pt_not (pt_val (pe_callB (call_all_bools rfl) (by rfl) B.all PyProof.Rows.Boot.«all» (pa_cons (pe_comp ["_law_day","_law_much"] [] rfl (pi_list (pv 3)) λ cl s H fp C =>
          ⟨pg_two (K:=K) 0 1 rfl (show (["_law_day","_law_much"]:List Str).Nodup by decide +kernel),pts_nil,pe_and (pe_def GW hr1 rfl pass0 (pa_cons (pv 0) pa_nil)) (pe_and (pe_def GW hr1 rfl pass0 (pa_cons (pv 1) pa_nil)) (pe_one (pe_cmpR op_ge (pv 1) pe_int (nomark _))))⟩) pa_nil)))) (pss_one (ps_ret pe_bl)) pss_nil)
      (pss_cons (ps_if (pt_val (pe_callB (call_any_bools rfl) (by rfl) B.any PyProof.Rows.Boot.«any» (pa_cons (pe_comp ["_law_k"] [3] rfl (pi_range1 rfl B.range (pa_cons (pe_op op_sub (pe_callB call_len_seq (by rfl) B.len PySem.boot_len (pa_cons (pv 3) pa_nil)) pe_int) pa_nil)) λ cl s H fp C =>
          ⟨pg_name (i:=0) (show (["_law_k","_law_tolls"]:List Str).Nodup by decide +kernel) rfl (Or.inl rfl),pts_nil,pe_cmpR op_ge (pe_ix (ix_tupK (K:=K)) (pe_ix (ix_listK (K:=K)) (pv 1) (pv 0) (λ _ _=>rfl)) pe_int (λ _ _=>rfl))
            (pe_ix (ix_tupK (K:=K)) (pe_ix (ix_listK (K:=K)) (pv 1) (pe_op op_add (pv 0) pe_int) (λ _ _=>rfl)) pe_int (λ _ _=>rfl)) (nomark _)⟩) pa_nil))) (pss_one (ps_ret pe_bl)) pss_nil)
      (pss_cons (ps_set (i:=4) sc_lbest.nd rfl (Or.inl rfl) (pe_op op_mul (pv 1) (pe_callB (call_sum_ints rfl) (by rfl) B.sum PyProof.Rows.Boot.«sum» (pa_cons (pe_comp ["_law_day","_law_much"] [] rfl (pi_list (pv 3)) λ cl s H fp C=>⟨pg_two (K:=K) 0 1 rfl (show (["_law_day","_law_much"]:List Str).Nodup by decide +kernel),pts_nil,pv 1⟩) pa_nil))))
      (pss_cons (ps_for PassesOwn.never rfl (pi_list (pv 0)) (pg_tup rfl (pgs_cons (pg_name (i:=5) sc_lbest.nd rfl (Or.inr rfl)) (pgs_cons (pg_name (i:=6) sc_lbest.nd rfl (Or.inr rfl)) (pgs_cons (pg_name (i:=7) sc_lbest.nd rfl (Or.inl rfl)) pgs_nil))))
        (pss_one (ps_set (i:=4) sc_lbest.nd rfl (Or.inl rfl) (pe_op op_add (pv 4) (pe_callB (call_max2 rfl) (by rfl) B.max PyProof.Rows.Boot.«max» (pa_cons pe_int (pa_cons (pe_op op_sub (pv 7) (pe_callB (call_sum_ints rfl) (by rfl) B.sum PyProof.Rows.Boot.«sum» (pa_cons (pe_comp ["_law_day","_law_much"] [5,6] rfl (pi_list (pv 3)) λ cl s H fp C =>
          ⟨pg_two (K:=K) 0 1 rfl (show (["_law_day","_law_much","_law_first","_law_last"]:List Str).Nodup by decide +kernel),pts_one (pt_chain op_le op_le (pv 2) (pv 0) (pv 3)),pv 1⟩) pa_nil))) pa_nil)))))))
      (pss_one (ps_ret (pe_cmpR op_eq (pe_def GV hr1 rfl pass0 (pa_cons (pv 0) (pa_cons (pv 2) pa_nil))) (pv 4) (nomark _))))))))),?_⟩
    obtain ⟨xs,hx,hxl⟩:=hT.list;rw [List.length_map] at hxl;obtain ⟨ys,hy,hyl,_⟩:=id hR;have q':=q;unfold bestB tollsB at q';refine ⟨_,rfl,_,rfl,a,b,ns,ys,rfl,ha,SqL.of hy,hz1,λ H1 s1=>⟨_,rfl,?_⟩⟩;rw [hyl];cases hc:choiceB ns rs.length with
    | false =>
      rw [hc] at q';exact iteT (q' H1 s1)
    | true =>
    rw [hc,Bool.true_and] at q';have hin:∀ c∈ns,0≤c∧c.toNat < rs.length:=λ c h=>choice_in hc h;refine iteF ⟨_,rfl,a,rfl,⟨_,SqL.of (s1 _ _ ha)⟩,λ D1 hD1=>?_⟩;refine comp_each (yields_list (ns.map V.int)) (λ σ=>∃ o,σ=[o,some (.ref b),some (.int R),some (.ref a)]) (λ j=>.bl (decide (R < ((ns.filter (onB rs (Lg.rq rs (ns.getD j 0).toNat).1)).length:Int)))) hD1 (by rw [List.length_map];omega) (λ H3 s3=>SqL.of (s3 _ _ (s1 _ _ ha))) ⟨_,rfl⟩ ?_ ?_
    · rintro j v σ H3 H3' hj ⟨rfl,hxj⟩ s3 ⟨o,rfl⟩ Ky hK;obtain ⟨h1,rfl⟩:=int_at hxj;obtain ⟨c0,c1⟩:=hin _ (show ns.getD j 0∈ns by rw [getD_at h1];exact List.getElem_mem h1);have S3:=s1.trans s3;obtain ⟨zs,p,e1,e2,e3⟩:=reqs_ix (reqs_same S3 hR) c0 c1;refine ⟨_,rfl,_,rfl,_,rfl,_,rfl,b,_,_,_,rfl,rfl,SqL.of e1,e2,p,_,_,_,rfl,rfl,SqT.of e3,(show atI (trip (Lg.rq rs (ns.getD j 0).toNat)) 0=some (.int (Lg.rq rs (ns.getD j 0).toNat).1) from rfl),?_⟩;refine ⟨a,b,ns,_,rs,rfl,S3 _ _ ha,reqs_same S3 hR,hin,by omega,λ l H4 s4 hl h4=>?_⟩;refine ⟨l,_,rfl,.inl (SqL.of h4),_,rfl,_,_,rfl,rfl,hK _ _ _ s4 ⟨_,rfl⟩ ?_⟩;rw [List.length_map]
    intro H2 s2 h2;have S2:=s1.trans s2;refine ⟨D1,(List.range (ns.map V.int).length).map λ j=>decide (R < ((ns.filter (onB rs (Lg.rq rs (ns.getD j 0).toNat).1)).length:Int)),rfl,SqL.of (by rw [h2,List.map_map];rfl),_,rfl,?_⟩;rw [any_fits];cases hf:fitsB rs ns R with
    | false =>
      rw [hf] at q';exact iteT (q' H2 S2)
    | true =>
    rw [hf,Bool.true_and] at q';refine iteF ⟨_,rfl,t,rfl,⟨_,SqL.of (S2 _ _ hx)⟩,λ D2 hD2=>?_⟩;refine comp_each (yields_list xs) (λ σ=>∃ o1 o2,σ=[o1,o2]) (λ j=>.bl (decide (0≤(ts.getD j (0,0)).2))) hD2 (by omega) (λ H3 s3=>SqL.of (s3 _ _ (S2 _ _ hx))) ⟨_,_,rfl⟩ ?_ ?_
    · rintro j v σ H3 H3' hj ⟨rfl,hxj⟩ s3 ⟨o1,o2,rfl⟩ Ky hK;obtain ⟨p,hj',rfl,hp⟩:=tolls_at hT hx hxj;refine ⟨p,_,rfl,SqT.of (s3 _ _ (S2 _ _ hp)),rfl,_,_,rfl,_,_,rfl,rfl,?_⟩;exact ⟨_,rfl,_,rfl,_,rfl,iteT ⟨_,rfl,_,rfl,_,rfl,iteT ⟨_,rfl,_,_,rfl,rfl,hK _ _ _ (Same.refl _) ⟨_,_,rfl⟩ rfl⟩⟩⟩
    intro H3 s3 h3;have S3:=S2.trans s3;rw [hxl] at h3;refine ⟨D2,(List.range ts.length).map λ j=>decide (0≤(ts.getD j (0,0)).2),rfl,SqL.of (by rw [h3,List.map_map];rfl),_,rfl,?_⟩;have e1:((List.range ts.length).map λ j=>decide (0≤(ts.getD j (0,0)).2)).all id=posB ts:=by
      rw [range_tolls ts λ t=>decide (0≤t.2),List.all_map];rfl
    rw [e1];cases hp:posB ts with
    | false =>
      rw [hp] at q';exact iteT (q' H3 S3)
    | true =>
    rw [hp,Bool.true_and] at q';refine iteF ⟨_,rfl,t,_,rfl,.inl (SqL.of (S3 _ _ hx)),_,_,rfl,rfl,_,rfl,by omega,by omega,λ D3 hD3=>?_⟩;have en:((xs.length:Int) - 1).toNat=ts.length - 1:=by omega
    rw [en];refine comp_each yields_range (λ σ=>∃ o,σ=[o,some (.ref t)]) (λ k=>.bl (decide ((ts.getD (k + 1) (0,0)).1≤(ts.getD k (0,0)).1))) hD3 (by omega) (λ _ _=>trivial) ⟨_,rfl⟩ ?_ ?_
    · rintro j v σ H4' H4 hj ⟨rfl,rfl⟩ s4 ⟨o,rfl⟩ Ky hK;have S4:=S3.trans s4;obtain ⟨p1,_,ep1,hp1⟩:=tolls_at hT hx (List.getElem?_eq_getElem (show j < xs.length by omega));obtain ⟨p2,_,ep2,hp2⟩:=tolls_at hT hx (List.getElem?_eq_getElem (show j + 1 < xs.length by omega));have a1:atI xs (0 + (j:Int))=some (.ref p1):=by
        rw [Int.zero_add,← ep1];exact atI_nat (List.getElem?_eq_getElem (show j < xs.length by omega))
      have a2:atI xs (0 + (j:Int) + 1)=some (.ref p2):=by
        rw [Int.zero_add,← ep2];exact atI_nat (j:=j + 1) (List.getElem?_eq_getElem (show j + 1 < xs.length by omega))
      refine ⟨_,rfl,_,rfl,t,_,_,_,rfl,rfl,SqL.of (S4 _ _ hx),a1,p1,_,_,_,rfl,rfl,SqT.of (S4 _ _ hp1),(show atI [V.int (ts.getD j (0,0)).1,V.int (ts.getD j (0,0)).2] 0=some (.int (ts.getD j (0,0)).1) from rfl),?_⟩;exact ⟨_,rfl,_,rfl,_,_,rfl,rfl,t,_,_,_,rfl,rfl,SqL.of (S4 _ _ hx),a2,p2,_,_,_,rfl,rfl,SqT.of (S4 _ _ hp2),(show atI [V.int (ts.getD (j + 1) (0,0)).1,V.int (ts.getD (j + 1) (0,0)).2] 0=some (.int (ts.getD (j + 1) (0,0)).1) from rfl),_,_,rfl,rfl,hK _ _ _ (Same.refl _) ⟨_,rfl⟩ rfl⟩
    intro H4 s4 h4;have S4:=S3.trans s4;refine ⟨D3,(List.range (ts.length - 1)).map λ k=>decide ((ts.getD (k + 1) (0,0)).1≤(ts.getD k (0,0)).1),rfl,SqL.of (by rw [h4,List.map_map];rfl),_,rfl,?_⟩;rw [any_rises];cases hri:risesB (ts.map (·.1)) with
    | false =>
      rw [hri] at q';exact iteT (q' H4 S4)
    | true =>
    rw [hri,Bool.true_and] at q';refine iteF ⟨_,rfl,_,rfl,t,rfl,⟨_,SqL.of (S4 _ _ hx)⟩,λ D4 hD4=>?_⟩;refine comp_each (yields_list xs) (λ σ=>∃ o1 o2,σ=[o1,o2]) (λ j=>.int (ts.getD j (0,0)).2) hD4 (by omega) (λ H5 s5=>SqL.of (s5 _ _ (S4 _ _ hx))) ⟨_,_,rfl⟩ ?_ ?_
    · rintro j v σ H5 H5' hj ⟨rfl,hxj⟩ s5 ⟨o1,o2,rfl⟩ Ky hK;obtain ⟨p,hj',rfl,hp⟩:=tolls_at hT hx hxj;exact ⟨p,_,rfl,SqT.of (s5 _ _ (S4 _ _ hp)),rfl,_,_,rfl,_,_,rfl,rfl,_,rfl,hK _ _ _ (Same.refl _) ⟨_,_,rfl⟩ rfl⟩
    intro H5 s5 h5;have S5:=S4.trans s5;rw [hxl,range_tolls ts λ t=>V.int t.2] at h5;refine ⟨D4,ts.map (·.2),rfl,SqL.of (by rw [h5,List.map_map];rfl),_,_,rfl,rfl,.inl ⟨hR0,hR1⟩,?_⟩;refine ⟨_,rfl,b,rfl,⟨_,SqL.of (S5 _ _ hy)⟩,?_⟩;refine for_by (yields_list ys) (λ i σ H6=>∃ o5 o6 o7,σ=[some (.ref b),some (.int R),some (.ref a),some (.ref t),some (.int (R * Ln.sumT ts + ((rs.take i).map λ r=>max 0 (r.2.2 - Ln.inT ts r.1 r.2.1)).sum)),o5,o6,o7]∧Same H H6) (λ i σ H6 _ z=>?_) ?_ ?_ ?_
    · obtain ⟨o5,o6,o7,_,s6⟩:=z;exact SqL.of (s6 _ _ hy)
    · refine ⟨none,none,none,?_,S5⟩;show [some (V.ref b),some (V.int R),some (V.ref a),some (V.ref t),some (V.int (R * (ts.map (·.2)).sum)),none,none,none]=[some (V.ref b),some (V.int R),some (V.ref a),some (V.ref t),some (V.int (R * (ts.map (·.2)).sum + 0)),none,none,none];rw [Int.add_zero]
    · rintro i v σ H6' H6 hi ⟨rfl,hyi⟩ ⟨o5,o6,o7,rfl,s6⟩;obtain ⟨p,rfl,hp⟩:=reqs_at hR hy hyi;have hi':i < rs.length:=by omega
      refine ⟨p,_,rfl,SqT.of (s6 _ _ hp),rfl,_,_,rfl,_,_,rfl,_,_,rfl,rfl,?_⟩;refine ⟨_,rfl,_,rfl,_,rfl,t,rfl,⟨_,SqL.of (s6 _ _ hx)⟩,λ D5 hD5=>?_⟩;refine comp_filt (yields_list xs) (λ σ=>∃ o1 o2,σ=[o1,o2,some (.int (Lg.rq rs i).1),some (.int (Lg.rq rs i).2.1)]) (λ j=>decide ((Lg.rq rs i).1≤(ts.getD j (0,0)).1) && decide ((ts.getD j (0,0)).1≤(Lg.rq rs i).2.1)) (λ j=>.int (ts.getD j (0,0)).2) hD5 (by omega) (λ H7 s7=>SqL.of (s7 _ _ (s6 _ _ hx))) ⟨_,_,rfl⟩ ?_ ?_
      · rintro j v σ H7 H7' hj ⟨rfl,hxj⟩ s7 ⟨o1,o2,rfl⟩ Ky Kn hY hN;obtain ⟨p,hj',rfl,hp⟩:=tolls_at hT hx hxj;refine ⟨p,_,rfl,SqT.of (s7 _ _ (s6 _ _ hp)),rfl,_,_,rfl,_,_,rfl,rfl,?_⟩;refine ⟨_,rfl,_,rfl,_,_,rfl,rfl,_,rfl,?_⟩
        by_cases d1:(Lg.rq rs i).1≤(ts.getD j (0,0)).1
        · refine iteP (by simpa using d1) ⟨_,rfl,_,_,rfl,rfl,_,rfl,?_⟩
          by_cases d2:(ts.getD j (0,0)).1≤(Lg.rq rs i).2.1
          · exact iteP (by simpa using d2) ⟨_,rfl,hY _ _ _ (Same.refl _) ⟨_,_,rfl⟩ (by rw [decide_eq_true d1,decide_eq_true d2];rfl) rfl⟩
          · exact iteN (by simpa using d2) (hN _ _ (Same.refl _) ⟨_,_,rfl⟩ (by rw [decide_eq_false d2,Bool.and_false]))
        · refine iteN (by simpa using d1) ⟨_,rfl,iteF (hN _ _ (Same.refl _) ⟨_,_,rfl⟩ (by rw [decide_eq_false d1,Bool.false_and]))⟩
      intro H7 s7 h7;rw [hxl,taken_tolls] at h7;refine ⟨D5,_,rfl,SqL.of h7,_,_,rfl,rfl,_,_,rfl,_,_,rfl,rfl,some (V.int (Lg.rq rs i).1),some (V.int (Lg.rq rs i).2.1),some (V.int (Lg.rq rs i).2.2),?_,s6.trans s7⟩;have e2:=sum_take (f:=λ r=>max 0 (r.2.2 - Ln.inT ts r.1 r.2.1)) hi';rw [e2,← Int.add_assoc,← max_eq];rfl
    · rintro σ H6 ⟨o5,o6,o7,rfl,s6⟩;have e:rs.take ys.length=rs:=List.take_of_length_le (by omega);rw [e];refine ⟨_,rfl,_,rfl,a,b,ns,rs,rfl,s6 _ _ ha,reqs_same s6 hR,hin,by omega,λ H7 s7=>?_⟩;refine ⟨_,rfl,rfl,?_⟩;have q7:=q' H7 (s6.trans s7);rw [← eq_int] at q7;exact q7
end
end Sp
namespace Ln
theorem most {f:Int→Int}:∀ {l:List Int},l≠[]→∃ c∈l,∀ d∈l,f d≤f c
  | [],h=>absurd rfl h
  | [c],_=>⟨c,by simp,λ d hd=>by rw [List.mem_singleton.mp hd];exact Int.le_refl _⟩
  | c :: e :: l,_=>by
    obtain ⟨m,hm,h⟩:=most (f:=f) (l:=e :: l) (by simp)
    by_cases z:f m≤f c
    · refine ⟨c,by simp,λ d hd=>?_⟩;rcases List.mem_cons.mp hd with rfl | hd
      · exact Int.le_refl _
      · exact Int.le_trans (h d hd) z
    · refine ⟨m,List.mem_cons_of_mem _ hm,λ d hd=>?_⟩;rcases List.mem_cons.mp hd with rfl | hd
      · omega
      · exact h d hd
theorem any_day {rs:Rs} {ns:List Int} {R:Int} (h0:0≤R) (h:∀ c∈ns,((thereN rs ns (Lg.rq rs c.toNat).1).length:Int)≤R) (d:Int):((thereN rs ns d).length:Int)≤R:=by
  by_cases e:thereN rs ns d=[]
  · rw [e];exact h0
  · obtain ⟨c,hc,hm⟩:=most (f:=λ c=>(Lg.rq rs c.toNat).1) e;obtain ⟨c1,c2⟩:=List.mem_filter.mp hc;rw [Bool.and_eq_true,decide_eq_true_eq,decide_eq_true_eq] at c2;have h1:=h c c1;have h2:(thereN rs ns d).length≤(thereN rs ns (Lg.rq rs c.toNat).1).length:=by
      unfold thereN;rw [← List.countP_eq_length_filter,← List.countP_eq_length_filter];refine List.countP_mono_left λ x hx hp=>?_;have h3:=hm x (List.mem_filter.mpr ⟨hx,hp⟩);rw [Bool.and_eq_true,decide_eq_true_eq,decide_eq_true_eq] at hp ⊢;exact ⟨h3,Int.le_trans c2.1 hp.2⟩
    omega
theorem inT_cons (t:Int×Int) (ts:List (Int×Int)) (f l:Int):inT (t :: ts) f l=(if f≤t.1∧t.1≤l then t.2 else 0) + inT ts f l:=by
  unfold inT
  by_cases h1:f≤t.1<;>by_cases h2:t.1≤l<;>simp [List.filter,h1,h2]
theorem sum_add2 (ns:List Int) (f g:Int→Int):(ns.map λ c=>f c + g c).sum=(ns.map f).sum + (ns.map g).sum:=by
  induction ns with
  | nil=>rfl
  | cons c ns ih=>simp only [List.map_cons,List.sum_cons,ih];omega
theorem sum_le2 (ns:List Int) {f g:Int→Int} (h:∀ c∈ns,f c≤g c):(ns.map f).sum≤(ns.map g).sum:=by
  induction ns with
  | nil=>exact Int.le_refl _
  | cons c ns ih =>
    simp only [List.map_cons,List.sum_cons];have:=h c (by simp);have:=ih λ d hd=>h d (List.mem_cons_of_mem _ hd);omega
theorem sum_ite (rs:Rs) (d m:Int):∀ ns:List Int,(ns.map λ c=>if (Lg.rq rs c.toNat).1≤d∧d≤(Lg.rq rs c.toNat).2.1 then m else 0).sum=((thereN rs ns d).length:Int) * m
  | []=>by simp [thereN]
  | c :: ns=>by
    have ih:=sum_ite rs d m ns;unfold thereN at *;rw [List.map_cons,List.sum_cons,ih]
    by_cases h:(Lg.rq rs c.toNat).1≤d∧d≤(Lg.rq rs c.toNat).2.1
    · rw [if_pos h,List.filter_cons_of_pos (by simp [h.1,h.2]),List.length_cons];have:(((ns.filter λ c=>decide ((Lg.rq rs c.toNat).1≤d) && decide (d≤(Lg.rq rs c.toNat).2.1)).length + 1:Nat):Int)=((ns.filter λ c=>decide ((Lg.rq rs c.toNat).1≤d) && decide (d≤(Lg.rq rs c.toNat).2.1)).length:Int) + 1:=by omega
      rw [this,Int.add_mul];omega
    · rw [if_neg h,List.filter_cons_of_neg (by simp;intro a;exact Int.lt_of_not_ge λ b=>h ⟨a,b⟩)];omega
theorem toll_le {rs:Rs} {ns:List Int} {R:Int} (hd:∀ d,((thereN rs ns d).length:Int)≤R):∀ {ts:List (Int×Int)},(∀ t∈ts,0≤t.2)→(ns.map λ c=>inT ts (Lg.rq rs c.toNat).1 (Lg.rq rs c.toNat).2.1).sum≤R * sumT ts
  | [],_=>by
    have:(ns.map λ c=>inT [] (Lg.rq rs c.toNat).1 (Lg.rq rs c.toNat).2.1).sum=0:=by
      induction ns with
      | nil=>rfl
      | cons c ns ih =>
        rw [List.map_cons,List.sum_cons];have h2:∀ l:List Int,(l.map λ c=>inT [] (Lg.rq rs c.toNat).1 (Lg.rq rs c.toNat).2.1).sum=0:=λ l=>by
          induction l with
          | nil=>rfl
          | cons c l ih=>rw [List.map_cons,List.sum_cons,ih];rfl
        rw [h2];rfl
    rw [this];show 0≤R * 0;omega
  | t :: ts,hp=>by
    have ih:=toll_le hd (ts:=ts) λ u hu=>hp u (List.mem_cons_of_mem _ hu);have e:(ns.map λ c=>inT (t :: ts) (Lg.rq rs c.toNat).1 (Lg.rq rs c.toNat).2.1)=ns.map λ c=>(if (Lg.rq rs c.toNat).1≤t.1∧t.1≤(Lg.rq rs c.toNat).2.1 then t.2 else 0) + inT ts (Lg.rq rs c.toNat).1 (Lg.rq rs c.toNat).2.1:=List.map_congr_left λ c _=>inT_cons t ts _ _;rw [e,sum_add2,sum_ite];have h1:=hd t.1;have h2:=hp t (by simp);have h3:((thereN rs ns t.1).length:Int) * t.2≤R * t.2:=Int.mul_le_mul_of_nonneg_right h1 h2;have h4:sumT (t :: ts)=t.2 + sumT ts:=by unfold sumT;simp
    rw [h4,Int.mul_add];omega
theorem rise_eq:∀ {xs ys:List Int},xs.Pairwise (· < ·)→ys.Pairwise (· < ·)→(∀ n,n∈xs↔n∈ys)→xs=ys
  | [],[],_,_,_=>rfl
  | [],y :: ys,_,_,h=>by have:=(h y).mpr (by simp);simp at this
  | x :: xs,[],_,_,h=>by have:=(h x).mp (by simp);simp at this
  | x :: xs,y :: ys,hx,hy,h=>by
    obtain ⟨a1,a2⟩:=List.pairwise_cons.mp hx;obtain ⟨b1,b2⟩:=List.pairwise_cons.mp hy;have e:x=y:=by
      rcases List.mem_cons.mp ((h x).mp (by simp)) with e | e
      · exact e
      · rcases List.mem_cons.mp ((h y).mpr (by simp)) with e' | e'
        · exact e'.symm
        · have:=b1 x e;have:=a1 y e';omega
    subst e;rw [rise_eq a2 b2 λ n=>?_];constructor
    · intro hn;rcases List.mem_cons.mp ((h n).mp (List.mem_cons_of_mem _ hn)) with e | e
      · have:=a1 n hn;omega
      · exact e
    · intro hn;rcases List.mem_cons.mp ((h n).mpr (List.mem_cons_of_mem _ hn)) with e | e
      · have:=b1 n hn;omega
      · exact e
theorem as_choice {ns:List Int} {n:Nat} (ho:ns.Pairwise (· < ·)) (hin:∀ c∈ns,0≤c∧c.toNat < n):ns=choiceL (λ c=>decide ((c:Int)∈ns)) n:=by
  refine rise_eq ho (choice_ord _ _) λ c=>⟨λ h=>?_,λ h=>?_⟩
  · obtain ⟨h1,h2⟩:=hin c h;refine List.mem_map.mpr ⟨c.toNat,List.mem_filter.mpr ⟨List.mem_range.mpr h2,?_⟩,by omega⟩;rw [decide_eq_true_eq,show ((c.toNat:Nat):Int)=c by omega];exact h
  · obtain ⟨d,hd,rfl⟩:=List.mem_map.mp h;exact of_decide_eq_true (List.mem_filter.mp hd).2
theorem sum_choice (has:Nat→Bool) (n:Nat) (f:Nat→Int):((choiceL has n).map λ c=>f c.toNat).sum=sm (λ c=>if has c then f c else 0) n:=by
  unfold choiceL;rw [List.map_map];show (((List.range n).filter λ c=>has c).map λ (c:Nat)=>f ((c:Int)).toNat).sum=_;rw [sum_filt];exact sm_same λ c _=>by rw [Int.toNat_natCast]
theorem part_le {rs:Rs} {ns:List Int} (ho:ns.Pairwise (· < ·)) (hin:∀ c∈ns,0≤c∧c.toNat < rs.length) {f:Int×Int×Int→Int} (h0:∀ c,c < rs.length→0≤f (Lg.rq rs c)):(ns.map λ c=>f (Lg.rq rs c.toNat)).sum≤(rs.map f).sum:=by
  rw [as_choice ho hin,sum_choice _ _ λ c=>f (Lg.rq rs c),map_rq];refine sm_le λ c hc=>?_;have:=h0 c hc;split<;>omega
theorem weak {rs:Rs} {ns:List Int} {ts:List (Int×Int)} {R:Int} (h0:0≤R) (ho:ns.Pairwise (· < ·)) (hin:∀ c∈ns,0≤c∧c.toNat < rs.length) (hf:∀ c∈ns,((thereN rs ns (Lg.rq rs c.toNat).1).length:Int)≤R) (hp:∀ t∈ts,0≤t.2):worthL rs ns≤R * sumT ts + gainsL rs ts:=by
  have h1:=toll_le (ts:=ts) (any_day h0 hf) hp;have h2:=part_le (f:=λ r=>max 0 (r.2.2 - inT ts r.1 r.2.1)) ho hin λ c _=>by omega
  have h3:worthL rs ns≤(ns.map λ c=>inT ts (Lg.rq rs c.toNat).1 (Lg.rq rs c.toNat).2.1 + max 0 ((Lg.rq rs c.toNat).2.2 - inT ts (Lg.rq rs c.toNat).1 (Lg.rq rs c.toNat).2.1)).sum:=sum_le2 ns λ c _=>by omega
  rw [sum_add2] at h3;have h4:gainsL rs ts=(rs.map λ r=>max 0 (r.2.2 - inT ts r.1 r.2.1)).sum:=rfl;rw [h4];omega
theorem worth_le {rs:Rs} {ns:List Int} (ho:ns.Pairwise (· < ·)) (hin:∀ c∈ns,0≤c∧c.toNat < rs.length) (hg:∀ c,c < rs.length→0≤(Lg.rq rs c).2.2):worthL rs ns≤(rs.map λ r=>r.2.2).sum:=part_le (f:=λ r=>r.2.2) ho hin hg
theorem worth_all (rs:Rs):worthL rs (choiceL (λ _=>true) rs.length)=(rs.map λ r=>r.2.2).sum:=by
  unfold worthL;rw [sum_choice _ _ λ c=>(Lg.rq rs c).2.2,map_rq];exact sm_same λ c _=>rfl
theorem there_len {rs:Rs} (has:Nat→Bool) (d:Int):(thereN rs (choiceL has rs.length) d).length≤rs.length:=by
  unfold thereN choiceL;refine Nat.le_trans (List.length_filter_le _ _) ?_;rw [List.length_map];refine Nat.le_trans (List.length_filter_le _ _) ?_;simp
end Ln
namespace Sp
open PySem L2
seal PE PA PS PSs PT PG PGs PI PW PTs
theorem bestB_parts {ns:List Int} {ts:List (Int×Int)} {rs:Ln.Rs} {R:Int} (h:bestB ns ts rs R=true):ns.Pairwise (· < ·)∧(∀ c∈ns,0≤c∧c.toNat < rs.length)∧(∀ c∈ns,((Ln.thereN rs ns (Lg.rq rs c.toNat).1).length:Int)≤R)∧(∀ t∈ts,0≤t.2)∧Ln.worthL rs ns=R * Ln.sumT ts + Ln.gainsL rs ts:=by
  unfold bestB tollsB at h;rw [Bool.and_eq_true,Bool.and_eq_true,Bool.and_eq_true,Bool.and_eq_true,decide_eq_true_eq] at h;obtain ⟨h1,h2,⟨h3,_⟩,h5⟩:=h;refine ⟨?_,λ c hc=>choice_in h1 hc,λ c hc=>?_,λ t ht=>?_,h5⟩
  · unfold choiceB at h1;rw [Bool.and_eq_true] at h1;exact (rises_iff _).mp h1.2
  · unfold fitsB at h2;exact of_decide_eq_true (List.all_eq_true.mp h2 c hc)
  · unfold posB at h3;exact of_decide_eq_true (List.all_eq_true.mp h3 t ht)
theorem same_worth {ns ns':List Int} {ts ts':List (Int×Int)} {rs:Ln.Rs} {R:Int} (hR:0≤R) (h:bestB ns ts rs R=true) (h':bestB ns' ts' rs R=true):Ln.worthL rs ns=Ln.worthL rs ns':=by
  obtain ⟨a1,a2,a3,a4,a5⟩:=bestB_parts h;obtain ⟨b1,b2,b3,b4,b5⟩:=bestB_parts h';have:=Ln.weak hR a1 a2 a3 b4;have:=Ln.weak hR b1 b2 b3 a4;omega
theorem all_worth {ns:List Int} {ts:List (Int×Int)} {rs:Ln.Rs} {R:Int} (hg:GoodR rs) (hR:(rs.length:Int)≤R) (h:bestB ns ts rs R=true):Ln.worthL rs ns=(rs.map λ r=>r.2.2).sum:=by
  obtain ⟨a1,a2,a3,a4,a5⟩:=bestB_parts h;have h1:=Ln.worth_le a1 a2 λ c hc=>(hg _ (rq_mem hc)).2;have h2:=Ln.weak (rs:=rs) (ns:=Ln.choiceL (λ _=>true) rs.length) (ts:=ts) (R:=R) (by omega) (Ln.choice_ord _ _) (λ c hc=>by have:=Ln.choice_in hc;omega) (λ c _=>by have:=Ln.there_len (rs:=rs) (λ _=>true) (Lg.rq rs c.toNat).1;omega) a4;rw [Ln.worth_all] at h2;omega
section
variable {P:Program} {w:World} {K:PySem.W.Frag} {mg:Str→Option Value} {base:Heap} {CA CB CD CL CC fB:Addr} {dB:FuncData} {CN fI c1 P1 c2 P2:Addr} {dI:FuncData}
structure Told (F:Nat→Int) (r:Nat) (top worth:Int):Prop where
  z:F 0=0
  up:∀ k,k < r→0≤F (k + 1) - F k
  dn:∀ k,k + 1 < r→F (k + 2) - F (k + 1)≤F (k + 1) - F k
  last:F r=worth
  next:0 < r→top≤F r - F (r - 1)
theorem Told.more {F:Nat→Int} {r:Nat} {top worth top':Int} (T:Told F r top worth) (h0:0≤top) (h1:top'≤top):Told (Ln.setF F (r + 1) (worth + top)) (r + 1) top' (worth + top):=by
  have e:∀ k,k < r + 1→Ln.setF F (r + 1) (worth + top) k=F k:=λ k hk=>Ln.setF_ne (by omega);have el:Ln.setF F (r + 1) (worth + top) (r + 1)=worth + top:=Ln.setF_same;refine ⟨by rw [e 0 (by omega)];exact T.z,λ k hk=>?_,λ k hk=>?_,el,λ _=>?_⟩
  · by_cases z:k=r
    · subst z;rw [el,e k (by omega),T.last];omega
    · rw [e k (by omega),e (k + 1) (by omega)];exact T.up k (by omega)
  · by_cases z:k + 1=r
    · have hn:=T.next (by omega);rw [show k + 2=r + 1 by omega,el,e (k + 1) (by omega),e k (by omega),show F (k + 1)=F r by rw [z],T.last];rw [show r - 1=k by omega,T.last] at hn;omega
    · rw [e k (by omega),e (k + 1) (by omega),e (k + 2) (by omega)];exact T.dn k (by omega)
  · rw [el,show r + 1 - 1=r by omega,e r (by omega),T.last];omega
theorem grow_top {H:Hp} {x dx pp pm ph pe pw:Addr} {rs:Ln.Rs} {pts:List Int} {has:Nat→Bool} {R' m:Int} {h p:Nat→Int} {way:Nat→Nat×Option Nat} (U:LineUp CN P1 P2 H x dx pp pm ph pe pw rs pts has R' h p way) (hne:pts≠[]) (h1:∀ v,v < pts.length→h v≤m) (h2:pts≠[]→∃ v,v < pts.length∧m=h v):m=h (pts.length - 1):=by
  have hN:0 < pts.length:=List.length_pos_iff.mpr hne;obtain ⟨v,hv,e⟩:=h2 hne;have a:=h1 (pts.length - 1) (by omega);have b:=Ln.feas_mono U.fh (i:=v) (j:=pts.length - 1) (by omega) (show pts.length - 1 < pts.length by omega);omega
theorem sc_worths:FnScope ["requests","rooms","line","told"] ["requests","rooms"] (defScope s_worths):=⟨rfl,rfl,rfl,by decide +kernel,rfl,by decide +kernel,by decide +kernel⟩
noncomputable def sp_worths (P1 P2:Addr):Sp:=λ vs H Q _=>∃ (a:Addr) (rs:Ln.Rs) (R:Nat),vs=[.ref a,.int (R:Nat)]∧ReqsAt H a rs∧GoodR rs∧rs.length≤2000∧R≤60000∧Tab1 H P1∧Tab2 H P2 ∧
  ∀ l F cs ts H',Fx (λ b=>b=P1∨b=P2) H H'→H l=none→H' l=some (.lst (htL (R + 1) F))→F 0=0→(∀ k,k < R→0≤F (k + 1) - F k)→(∀ k,k + 1 < R→F (k + 2) - F (k + 1)≤F (k + 1) - F k)→bestB cs ts rs R=true→F R=Ln.worthL rs cs→Tab1 H' P1→Tab2 H' P2→Q (.ref l) H'
theorem flat_one (n:Nat) (v:V):(List.replicate n [v]).flatten=List.replicate n v:=by
  induction n with
  | zero=>rfl
  | succ n ih=>rw [List.replicate_succ,List.flatten_cons,ih,List.replicate_succ];rfl
theorem htL_pad (r n:Nat) (F:Nat→Int):htL (r + 1) F ++ List.replicate n (V.int (F r))=htL (r + n + 1) λ k=>F (min k r):=by
  unfold htL;apply List.ext_getElem
  · simp;omega
  · intro i h1 h2;rw [List.getElem_append];split
    · rename_i h
      have h:i < r + 1:=by simpa using h
      rw [List.getElem_map,List.getElem_map,List.getElem_range,List.getElem_range];show V.int (F i)=V.int (F (min i r));rw [Nat.min_eq_left (by omega)]
    · rename_i h
      have h:¬ i < r + 1:=by simpa using h
      rw [List.getElem_replicate,List.getElem_map,List.getElem_range];show V.int (F r)=V.int (F (min i r));rw [Nat.min_eq_right (by omega)]
theorem ok_worths {CQ CR:Addr} (B:Bl mg) (LT:LineT K mg base CN fI dI c1 P1 c2 P2) (GQ:Def P w K mg base (CXE P w) 5 "check_requests" ["requests"] (sp_creq K CQ)) (GM:Def P w K mg base (CXE P w) 3 "check_rooms" ["rooms"] (sp_croom K CR))
    (GI:FnOk P w K mg base CX0 6 fI dI ["self","requests","taken","rooms"] (sp_init CN P1 P2)) (GG:Mtd P w K mg base 1 CN "growth" ["self"] (sp_growth CN)) (GA:Mtd P w K mg base 6 CN "add_room" ["self"] (sp_add CN P1 P2)) (D:FnAt K mg "worths" s_worths ["requests","rooms"]) :
    Def P w K mg base CX0 8 "worths" ["requests","rooms"] (sp_worths P1 P2):=by
  refine D.ok sc_worths (λ vs H Q E h=>?_) λ f cdv A outer s H vs Q E hr h=>?_
  · obtain ⟨a,rs,R,rfl,_⟩:=h;rfl
  · obtain ⟨a,rs,R,rfl,hR,hg,hrl,hRb,hT1,hT2,q⟩:=h;have hr1:Room 1 _:=hr.mono (by decide);have hr3:Room 3 _:=hr.mono (by decide);have hr5:Room 5 _:=hr.mono (by decide);have hr6:Room 6 _:=hr.mono (by decide);refine ⟨_,pss_cons (ps_expr (pe_def GQ hr5 rfl passX0 (pa_cons (pv 0) pa_nil)))
      (pss_cons (ps_expr (pe_def GM hr3 rfl passX0 (pa_cons (pv 1) pa_nil)))
      (pss_cons (ps_set (i:=2) sc_worths.nd rfl (Or.inl rfl) (pe_make LT.mke GI hr rfl LT.mC LT.bI .nil pass0 (pa_cons (pv 0) (pa_cons (pe_lst pa_nil) (pa_cons pe_int pa_nil)))))
      (pss_cons (ps_set (i:=3) sc_worths.nd rfl (Or.inl rfl) (pe_lst (pa_cons pe_int pa_nil)))
      (pss_cons (ps_while PassesOwn.never (PW.pt (pw_and (pt_cmpR op_lt (pe_fld (pv 2) rfl) (pv 1) (nomark _)) (pw_and1 (pt_cmpR op_gt (pe_mtd0 GG (pv 2) LT.cl hr1) pe_int (nomark _)))))
        (pss_cons (ps_expr (pe_bm PySem.F.plainAttrs_list PySem.F.slot_list_append PySem.F.type_list_append mt_append (pv 3) (pa_cons (pe_op op_add (pe_ix ix_list (pv 3) (pe_un un_neg pe_int) (λ _ _=>rfl)) (pe_mtd0 GG (pv 2) LT.cl hr1)) pa_nil)))
        (pss_one (ps_expr (pe_mtd0 GA (pv 2) LT.cl hr6)))))
      (pss_one (ps_ret (pe_op op_cat (pv 3) (pe_op op_rep (pe_lst (pa_cons (pe_ix ix_list (pv 3) (pe_un un_neg pe_int) (λ _ _=>rfl)) pa_nil)) (pe_op op_sub (pv 1) (pe_fld (pv 2) rfl)))))))))),?_⟩
    refine ⟨_,rfl,_,rfl,.inr ⟨reqs_good hR hg (by omega),λ H0 s0=>?_⟩⟩;refine ⟨_,rfl,_,_,rfl,TyOf.int _,.inr ⟨decide_eq_true (show (0:Int)≤(R:Nat) by omega),?_⟩⟩;have hR0:=reqs_same s0 hR;refine ⟨_,rfl,by show 0≤sizeLine;decide,λ lt hlt x dx hx hdx hne=>?_⟩;have s1:Same H0 (upd H0 lt (.lst [])):=same_laid hlt;have s2:Same H0 (upd (upd (upd H0 lt (.lst [])) dx (.own x)) x (.ins CN dx [])):=s1.trans (made_same hx hdx);have hxN:=none_of_same (s0.trans s1) hx;have htk:upd (upd (upd H0 lt (.lst [])) dx (.own x)) x (.ins CN dx []) lt=some (.lst (([]:List Int).map V.int)):=made_same hx hdx _ _ upd_same;have hx2:upd (upd (upd H0 lt (.lst [])) dx (.own x)) x (.ins CN dx []) x=some (.ins CN dx []):=upd_same;show sp_init CN P1 P2 _ (upd (upd (upd H0 lt (.lst [])) dx (.own x)) x (.ins CN dx [])) _ _;generalize upd (upd (upd H0 lt (.lst [])) dx (.own x)) x (.ins CN dx [])=H2 at s2 htk hx2 ⊢;have e0:hasOf []=λ _=>false:=by
      funext c;simp [hasOf]
    have S2:=s0.trans s2;refine ⟨x,dx,a,lt,rs,[],0,rfl,hx2,reqs_same s2 hR0,hg,hrl,htk,λ c hc=>by simp at hc,TabIs.same hT1 S2,TabIs.same hT2 S2,λ pts hP=>⟨_,by rw [e0];exact Ln.feas_none (Ln.net_ok hP),by simp⟩,λ pp pm ph la lw pts h p way H3 F3 L3 t13 t23 hE3 hW3 hp p0 hC hF n1 n2 n3 hph=>⟨rfl,?_⟩⟩;have hphN:=none_of_same S2 hph;have FH3:Fx (λ b=>b=P1∨b=P2) H H3:=λ b u e n=>F3 b u (S2 b u e) λ z=>by
      rcases z with z | z
      · subst z;rw [hxN] at e;cases e
      · exact n z
    have us0:∀ i,i + 1 < pts.length→(Ln.netOf rs pts).used (hasOf []) i≤((0:Nat):Int):=λ i _=>by
      unfold Ln.Net.used;have ez:Ln.sm (λ c=>Ln.one (hasOf [] c && (Ln.netOf rs pts).at c i)) (Ln.netOf rs pts).n=Ln.sm (λ _=>0) (Ln.netOf rs pts).n:=Ln.sm_same λ c _=>by rw [e0];rfl
      rw [ez,Ln.sm_zero];exact Int.le_refl _
    have w0:(Ln.netOf rs pts).worth (hasOf [])=0:=by
      unfold Ln.Net.worth;have ez:Ln.sm (λ c=>if hasOf [] c then (Ln.netOf rs pts).w c else 0) (Ln.netOf rs pts).n=Ln.sm (λ _=>0) (Ln.netOf rs pts).n:=Ln.sm_same λ c _=>by rw [e0];rfl
      rw [ez,Ln.sm_zero]
    refine ⟨by show 1≤sizeLine;decide,λ lo hlo=>?_⟩;have s4:Same H3 (upd H3 lo (.lst [.int 0])):=same_laid hlo;have hlo4:upd H3 lo (.lst [.int 0]) lo=some (.lst (htL 1 λ _=>0)):=upd_same;have tbl3:∀ {b:Addr},(b=P1∨b=P2)→∃ u,H3 b=some u:=λ {b} hb=>by
      rcases hb with rfl | rfl
      · obtain ⟨tp,e⟩:=TabIs.there t13;exact ⟨_,e⟩
      · obtain ⟨tp,e⟩:=TabIs.there t23;exact ⟨_,e⟩
    have hloN:H lo=none:=fresh_fx FH3 hlo λ b hb=>tbl3 hb;have lox:lo≠x:=(ne_of_none L3.ins hlo).symm;have loh:lo≠ph:=(ne_of_none L3.hs hlo).symm;have F4:=FH3.trans (Fx.of s4);have U4:LineUp CN P1 P2 (upd H3 lo (.lst [.int 0])) x dx pp pm ph la lw rs pts (hasOf []) ((0:Nat):Int) h p way:=⟨L3.same s4,TabIs.same t13 s4,TabIs.same t23 s4,s4 _ _ hE3,hW3.fx (S:=λ _=>False) (Fx.of s4) (λ z=>z) λ _ _ z=>z.elim,hp,p0,hC,hF,n1,n2,n3⟩;generalize upd H3 lo (.lst [.int 0])=H4 at s4 hlo4 F4 U4 ⊢;have oL:∀ {G:Hp} {pe pw:Addr} {has:Nat→Bool} {R':Int} {h p:Nat→Int} {way:Nat→Nat×Option Nat},LineUp CN P1 P2 G x dx pp pm ph pe pw rs pts has R' h p way→True:=λ _=>trivial;refine ⟨λ m σ G=>∃ (pe pw:Addr) (has:Nat→Bool) (r:Nat) (h p:Nat→Int) (way:Nat→Nat×Option Nat) (F:Nat→Int),σ=[some (.ref a),some (.int (R:Nat)),some (.ref x),some (.ref lo)]∧Fx (λ b=>b=P1∨b=P2) H G∧LineUp CN P1 P2 G x dx pp pm ph pe pw rs pts has (r:Nat) h p way∧(∀ i,i + 1 < pts.length→(Ln.netOf rs pts).used has i≤(r:Nat))∧r≤R∧m=R - r ∧
      G lo=some (.lst (htL (r + 1) F))∧lo≠pp∧lo≠pm∧lo≠pe∧lo≠pw∧Told F r (h (pts.length - 1)) ((Ln.netOf rs pts).worth has),⟨_,la,lw,hasOf [],0,h,p,way,λ _=>0,rfl,F4,U4,us0,Nat.zero_le _,rfl,hlo4,?_,?_,?_,?_,⟨rfl,λ k hk=>by omega,λ k hk=>by omega,w0.symm,λ z=>by omega⟩⟩,?_⟩
    · exact (ne_of_none L3.pt hlo).symm
    · obtain ⟨xs,hx,_⟩:=L3.mlist;exact (ne_of_none hx hlo).symm
    · have hE3':H3 la=some (.lst (htL pts.length h)):=hE3;exact (ne_of_none hE3' hlo).symm
    · obtain ⟨xs,hx,_⟩:=id hW3;exact (ne_of_none hx hlo).symm
    rintro m σ G ⟨pe,pw,has,r,h,p,way,F,rfl,FG,U,hus,hle,rfl,hlo5,m1,m2,m3,m4,TT⟩;have L:=U.ln;refine (rdF L.ins LT.cl LT.nr lk_r ⟨_,rfl,_,_,rfl,rfl,_,rfl,?_⟩);have fin:∀ G',Same G G'→(r=R∨∀ v,v < pts.length→h v=0)→tRet (tOp rCat (tVar 3) (tOp rRep (tLst (tCons (tOp (rIxL K) (tVar 3) (tUn (rU λ i=>.int (-i)) (tC (.int 1)))) tNil)) (tOp (rI0 λ i j=>.int (i - j)) (tVar 1) (tFld K (tVar 2) "rooms")))) { nx:=λ _ H'=>Q .non H',rt:=Q } [some (.ref a),some (.int (R:Nat)),some (.ref x),some (.ref lo)] G':=λ G' sG hz=>by
      have hlo6:=sG _ _ hlo5;have hlast:atI (htL (r + 1) F) (-1)=some (.int (F r)):=by
        rw [← htL_snoc];exact atI_last _ _
      refine ⟨_,rfl,_,rfl,_,rfl,lo,_,_,_,rfl,rfl,SqL.of hlo6,hlast,by show 1≤sizeLine;decide,λ l1 hl1=>?_⟩;have sA:Same G' (upd G' l1 (.lst [.int (F r)])):=same_laid hl1;refine ⟨_,rfl,rdF (sA _ _ (sG _ _ L.ins)) LT.cl LT.nr lk_r ⟨_,_,rfl,rfl,l1,_,_,rfl,rfl,upd_same,by omega,by omega,by rw [sizeLine_eq];simp;omega,λ l2 hl2=>?_⟩⟩;have ek:(((R:Nat):Int) - ((r:Nat):Int)).toNat=R - r:=by omega
      rw [ek,flat_one];have sB:=sA.trans (same_laid (o:=.lst (List.replicate (R - r) (.int (F r)))) hl2);refine ⟨lo,l2,_,_,rfl,rfl,sB _ _ hlo6,upd_same,by rw [htL_len,List.length_replicate,sizeLine_eq];omega,λ l3 hl3=>?_⟩;rw [htL_pad,show r + (R - r) + 1=R + 1 by omega];have sC:=sB.trans (same_laid (o:=.lst (htL (R + 1) λ k=>F (min k r))) hl3);have FC:=(FG.trans (Fx.of sG)).trans (Fx.of (S:=λ b=>b=P1∨b=P2) sC);have hB:=best_ok (R:=R) U hus (by omega) (hz.imp (λ z=>by omega) id);have tG:∀ {b:Addr},(b=P1∨b=P2)→∃ u,G b=some u:=λ {b} hb=>by
        rcases hb with rfl | rfl
        · obtain ⟨tp,e⟩:=TabIs.there U.t1;exact ⟨_,e⟩
        · obtain ⟨tp,e⟩:=TabIs.there U.t2;exact ⟨_,e⟩
      refine q l3 _ _ _ _ FC (fresh_fx FG (none_of_same (sG.trans sB) hl3) λ b hb=>tG hb) upd_same ?_ (λ k hk=>?_) (λ k hk=>?_) hB ?_ (TabIs.same U.t1 (sG.trans sC)) (TabIs.same U.t2 (sG.trans sC))
      · show F (min 0 r)=0;rw [Nat.zero_min];exact TT.z
      · show 0≤F (min (k + 1) r) - F (min k r)
        by_cases z:k < r
        · rw [Nat.min_eq_left (by omega),Nat.min_eq_left (by omega)];exact TT.up k z
        · rw [Nat.min_eq_right (by omega),Nat.min_eq_right (by omega)];omega
      · show F (min (k + 2) r) - F (min (k + 1) r)≤F (min (k + 1) r) - F (min k r)
        by_cases z:k + 1 < r
        · rw [Nat.min_eq_left (by omega),Nat.min_eq_left (by omega),Nat.min_eq_left (by omega)];exact TT.dn k z
        · rw [Nat.min_eq_right (show r≤k + 2 by omega),Nat.min_eq_right (show r≤k + 1 by omega)]
          by_cases z2:k < r
          · rw [Nat.min_eq_left (by omega)];have:=TT.up k z2;rw [show k + 1=r by omega] at this;omega
          · rw [Nat.min_eq_right (by omega)];omega
      · show F (min R r)=_;rw [Nat.min_eq_right hle,TT.last,Ln.worth_eq (pts:=pts)]
    by_cases hlt:r < R
    · refine iteP (by simpa using hlt) ?_;refine ⟨_,rfl,x,dx,_,rfl,L.ins,by rfl,?_⟩
      try unfold tNil
      refine ⟨x,dx,pp,pm,ph,pe,pw,rs,pts,has,r,h,rfl,L,U.ht,λ mx G1 sG1 z1 z2 z3=>⟨_,_,rfl,rfl,_,rfl,?_⟩⟩
      by_cases hgr:0 < mx
      · refine iteP (by simpa using hgr) ?_;have hne':pts≠[]:=λ z=>by have:=z1 z;omega
        have etop:=grow_top U hne' z2 z3;have U1:LineUp CN P1 P2 G1 x dx pp pm ph pe pw rs pts has r h p way:=⟨L.same sG1,TabIs.same U.t1 sG1,TabIs.same U.t2 sG1,sG1 _ _ U.ht,U.wy.fx (S:=λ _=>False) (Fx.of sG1) (λ z=>z) λ _ _ z=>z.elim,U.fp,U.p0,U.cl,U.fh,U.n1,U.n2,U.n3⟩;have hlo6:=sG1 _ _ hlo5;have hlast:atI (htL (r + 1) F) (-1)=some (.int (F r)):=by
          rw [← htL_snoc];exact atI_last _ _
        refine ⟨λ σ G=>∃ (pe pw:Addr) (has:Nat→Bool) (h p:Nat→Int) (way:Nat→Nat×Option Nat) (F:Nat→Int),σ=[some (.ref a),some (.int (R:Nat)),some (.ref x),some (.ref lo)]∧Fx (λ b=>b=P1∨b=P2) H G∧LineUp CN P1 P2 G x dx pp pm ph pe pw rs pts has ((r + 1:Nat):Int) h p way∧(∀ i,i + 1 < pts.length→(Ln.netOf rs pts).used has i≤((r + 1:Nat):Int)) ∧
          G lo=some (.lst (htL (r + 1 + 1) F))∧lo≠pp∧lo≠pm∧lo≠pe∧lo≠pw∧Told F (r + 1) (h (pts.length - 1)) ((Ln.netOf rs pts).worth has),λ σ' G' z=>?_,?_⟩
        · obtain ⟨pe,pw,has,h,p,way,F,e1,e2,e3,e4,e5,e6,e7,e8,e9,e10⟩:=z;exact ⟨R - (r + 1),by omega,pe,pw,has,r + 1,h,p,way,F,e1,e2,e3,e4,by omega,rfl,e5,e6,e7,e8,e9,e10⟩
        · refine ⟨_,rfl,.inl ⟨rfl,_,SqL.of hlo6⟩,_,rfl,_,rfl,lo,_,_,_,rfl,rfl,SqL.of hlo6,hlast,_,rfl,x,dx,_,rfl,U1.ln.ins,by rfl,?_⟩
          try unfold tNil
          refine ⟨x,dx,pp,pm,ph,pe,pw,rs,pts,has,r,h,rfl,U1.ln,U1.ht,λ my G2 sG2 y1 y2 y3=>⟨_,_,rfl,rfl,?_⟩⟩;have etop2:=grow_top U1 hne' y2 y3;have hlo7:=sG2 _ _ hlo6;refine ⟨lo,_,_,rfl,rfl,hlo7,by rw [htL_len,sizeLine_eq];omega,?_⟩;have ef:htL (r + 1) F ++ [V.int (F r + my)]=htL (r + 1 + 1) (Ln.setF F (r + 1) ((Ln.netOf rs pts).worth has + h (pts.length - 1))):=by
            rw [← htL_snoc (r + 1),Ln.setF_same,TT.last,etop2];congr 1;exact htL_ext λ v hv=>(Ln.setF_ne (by omega)).symm
          rw [show (λ i j=>V.int (i + j)) (F r) my=V.int (F r + my) from rfl,ef];have Fl:Fx (λ b=>b=lo) G2 (upd G2 lo (.lst (htL (r + 1 + 1) (Ln.setF F (r + 1) ((Ln.netOf rs pts).worth has + h (pts.length - 1)))))):=Fx.refl.upd (.inl rfl);have nlt:∀ (b:Addr) (v:List V),b=lo→G2 b≠some (.tup v):=λ b v hb z=>by subst hb;rw [hlo7] at z;cases z
          have nlf:∀ (b:Addr) (o:Obj) (u:HO),b=lo→G2 b≠some (.frz o u):=λ b o u hb z=>by subst hb;rw [hlo7] at z;cases z
          have S12:=sG1.trans sG2;have tl:∀ {q:Str} {pos:Pos} {P0:Addr},TabIs G2 P0 pos q→TabIs (upd G2 lo (.lst (htL (r + 1 + 1) (Ln.setF F (r + 1) ((Ln.netOf rs pts).worth has + h (pts.length - 1)))))) P0 pos q:=λ {q pos P0} t=>by
            obtain ⟨tp,e⟩:=TabIs.there t;exact TabIs.fx t Fl (λ z=>by subst z;rw [hlo7] at e;cases e) nlf
          have U3:LineUp CN P1 P2 (upd G2 lo (.lst (htL (r + 1 + 1) (Ln.setF F (r + 1) ((Ln.netOf rs pts).worth has + h (pts.length - 1)))))) x dx pp pm ph pe pw rs pts has r h p way:=by
            refine ⟨(L.same S12).fx Fl (λ z=>lox z.symm) (λ z=>m1 z.symm) (λ z=>m2 z.symm) (λ z=>loh z.symm) nlt,tl (TabIs.same U.t1 S12),tl (TabIs.same U.t2 S12),?_,(U1.wy.fx (S:=λ _=>False) (Fx.of sG2) (λ z=>z) λ _ _ z=>z.elim).fx Fl (λ z=>m4 z.symm) nlt,U.fp,U.p0,U.cl,U.fh,U.n1,U.n2,U.n3⟩;show upd G2 lo _ pe=_;rw [upd_ne λ z=>m3 z.symm];exact S12 _ _ U.ht
          have hlo8:upd G2 lo (.lst (htL (r + 1 + 1) (Ln.setF F (r + 1) ((Ln.netOf rs pts).worth has + h (pts.length - 1))))) lo=some (.lst (htL (r + 1 + 1) (Ln.setF F (r + 1) ((Ln.netOf rs pts).worth has + h (pts.length - 1))))):=upd_same;have F3':Fx (λ b=>b=P1∨b=P2) H (upd G2 lo (.lst (htL (r + 1 + 1) (Ln.setF F (r + 1) ((Ln.netOf rs pts).worth has + h (pts.length - 1)))))):=(FG.trans (Fx.of S12)).upd (.inr hloN);generalize upd G2 lo (.lst (htL (r + 1 + 1) (Ln.setF F (r + 1) ((Ln.netOf rs pts).worth has + h (pts.length - 1)))))=G3 at U3 hlo8 F3' ⊢;refine ⟨_,rfl,x,dx,_,rfl,U3.ln.ins,by rfl,?_⟩
          try unfold tNil
          refine ⟨x,dx,pp,pm,ph,pe,pw,rs,pts,has,r,h,p,way,rfl,U3,hne',hus,λ la' lw' has' h' way' G4 F4' U4' hus4 hw4 nla' nlw'=>?_⟩;have hN:0 < pts.length:=List.length_pos_iff.mpr hne';have nlo:¬ (lo=x∨lo=ph∨lo=P1∨lo=P2):=by
            rintro (z | z | z | z)
            · exact lox z
            · exact loh z
            · obtain ⟨tp,e⟩:=TabIs.there U3.t1;rw [← z,hlo8] at e;cases e
            · obtain ⟨tp,e⟩:=TabIs.there U3.t2;rw [← z,hlo8] at e;cases e
          have hlo9:=F4' _ _ hlo8 nlo;have hE4:G4 la'=some (.lst (htL pts.length h')):=U4'.ht;refine ⟨la',lw',has',h',h,way',Ln.setF F (r + 1) ((Ln.netOf rs pts).worth has + h (pts.length - 1)),rfl,λ b u e n=>F4' b u (F3' b u e n) λ z=>?_,?_,λ i hi=>?_,hlo9,m1,m2,λ z=>?_,λ z=>?_,?_⟩
          · rcases z with z | z | z
            · subst z;rw [hxN] at e;cases e
            · subst z;rw [hphN] at e;cases e
            · exact n z
          · rw [show ((r + 1:Nat):Int)=(r:Nat) + 1 by omega];exact U4'
          · have:=hus4 i hi;omega
          · rw [z,nla'] at hlo8;cases hlo8
          · rw [z,nlw'] at hlo8;cases hlo8
          · rw [hw4];exact TT.more (by omega) (U4'.cl.le _ (show pts.length - 1 < pts.length by omega))
      · refine iteN (by simpa using hgr) (fin G1 sG1 (.inr λ v hv=>?_));have:=z2 v hv;have:=U.cl.ge v hv;omega
    · refine iteN (by simpa using hlt) (iteF (fin G (Same.refl _) (.inl (by omega))))
end
end Sp
set_option maxHeartbeats 4000000
namespace L2
open PySem PySem.Spec PyProof.Rows
end L2
namespace Sp
open PySem L2
seal PE PA PS PSs PT PG PGs PI PW PTs
section
variable {P:Program} {w:World} {K:PySem.W.Frag} {mg:Str→Option Value} {base:Heap} {CA CB CD CL CC fB:Addr} {dB:FuncData} {P1 P2:Addr}
structure Calls (P:Program) (w:World) (K:PySem.W.Frag) (mg:Str→Option Value) (base:Heap) (CB P1 P2:Addr):Prop where
  reqs:Def P w K mg base CX0 2 "_law_requests" ["_law_script"] (sp_reqsL K)
  cell:Def P w K mg base CX0 1 "_law_cell_at" ["_law_script","_law_k"] (sp_cell K)
  draw:Def P w K mg base CX0 1 "_law_draw" ["_law_cell","_law_k","_law_many"] sp_draw
  whole:Def P w K mg base CX0 1 "_law_whole" ["_law_number"] sp_lwhole
  lworth:Def P w K mg base CX0 1 "_law_worth" ["_law_requests_here","_law_some"] sp_lworth
  lbest:Def P w K mg base CX0 3 "_law_best" ["_law_requests_here","_law_rooms_here","_law_some","_law_tolls"] sp_lbest
  best:Def P w K mg base CX0 9 "best" ["requests","rooms"] (sp_best CB P1 P2)
  worths:Def P w K mg base CX0 8 "worths" ["requests","rooms"] (sp_worths P1 P2)
theorem lk_t {l1 l2:Addr}:([("taken",V.ref l1),("tolls",V.ref l2)]:List (Str×V)).lookup (Str.ofString "taken")=some (.ref l1):=rfl
theorem lk_l {l1 l2:Addr}:([("taken",V.ref l1),("tolls",V.ref l2)]:List (Str×V)).lookup (Str.ofString "tolls")=some (.ref l2):=rfl
theorem cutN {t u:TS} {D:Ends} {σ:St} {H:Hp} {rt bk ct} (R:St→Hp→Prop) (h1:∀ N:St→Hp→Prop,(∀ σ H,R σ H→N σ H)→t { D with nx:=N } σ H) (h2:∀ σ H,R σ H→u D σ H):tNext (Ends.mk (tSeq t u D) rt bk ct) σ H:=h1 _ h2
theorem cut_head (xs:List V):cutV xs none (some 12)=xs.take 12:=by
  unfold cutV;rw [show HT.sIx xs.length xs.length (some 12)=min 12 xs.length from HT.sIx_nat _ _ 12,HT.sIx_none,Nat.sub_zero,List.drop_zero]
  by_cases h:12≤xs.length
  · rw [Nat.min_eq_left h]
  · rw [Nat.min_eq_right (by omega),List.take_of_length_le (Nat.le_refl _),List.take_of_length_le (by omega)]
theorem sort_rev {ms gs:List Int} (hp:ms.Perm gs) (ho:ms.Pairwise (·≤·)) (hd:gs.Pairwise (λ a b=>b≤a)):ms.reverse=gs :=
  List.Perm.eq_of_pairwise (le:=λ a b=>b≤a) (λ _ _ _ _ h1 h2=>Int.le_antisymm h2 h1) (List.pairwise_reverse.mpr ho) hd ((List.reverse_perm ms).trans hp)
theorem htL_map (n:Nat) (F:Nat→Int):htL n F=((List.range n).map F).map V.int:=by
  unfold htL;rw [List.map_map];rfl
theorem grow_desc {F:Nat→Int} {R:Nat} (dn:∀ k,k + 1 < R→F (k + 2) - F (k + 1)≤F (k + 1) - F k):((List.range R).map λ k=>F (k + 1) - F k).Pairwise (λ a b=>b≤a):=by
  have mono:∀ d i,i + d < R→F (i + d + 1) - F (i + d)≤F (i + 1) - F i:=by
    intro d
    induction d with
    | zero=>intro i _;exact Int.le_refl _
    | succ d ih =>
      intro i h;have h1:=ih i (by omega);have h2:=dn (i + d) (by omega);rw [show i + (d + 1)=i + d + 1 by omega];exact Int.le_trans h2 h1
  rw [List.pairwise_map];refine (List.pairwise_lt_range (n:=R)).imp_of_mem λ {i j} hi hj h=>?_;have:=List.mem_range.mp hj;have h3:=mono (j - i) i (by omega);rw [show i + (j - i)=j by omega] at h3;exact h3
theorem reqs_take {H:Hp} {b p:Addr} {rs:Ln.Rs} {xs:List V} (h:ReqsAt H b rs) (hb:H b=some (.lst xs)) (hp:H p=none):ReqsAt (upd H p (.lst (xs.take 12))) p (rs.take 12):=by
  obtain ⟨ys,e1,e2,e3⟩:=h;rw [hb] at e1;cases e1;refine ⟨_,upd_same,by rw [List.length_take,List.length_take,e2],λ i r e=>?_⟩;have hi:i < 12:=by
    have:=(List.getElem?_eq_some_iff.mp e).1;rw [List.length_take] at this;omega
  rw [List.getElem?_take_of_lt hi] at e;obtain ⟨p',e4,e5⟩:=e3 _ r e;exact ⟨p',by rw [List.getElem?_take_of_lt hi];exact e4,same_laid hp _ _ e5⟩
theorem sum_prices {rs:Ln.Rs}:((List.range rs.length).map λ j=>(Lg.rq rs j).2.2).sum=(rs.map λ r=>r.2.2).sum:=by
  congr 1;apply List.ext_getElem
  · simp
  · intro i h1 h2;simp only [List.length_map,List.length_range] at h1;rw [List.getElem_map,List.getElem_map,List.getElem_range,rq_at (List.getElem?_eq_getElem h1)]
theorem sc_law:FnScope ["_law_script","_law_requests_here","_law_few","_law_some","_law_many","_law_handed","_law_found","_law_growth","_law_told"] ["_law_script"] (defScope s_law):=⟨rfl,rfl,rfl,by decide +kernel,rfl,by decide +kernel,by decide +kernel⟩
noncomputable def spLaw (K:PySem.W.Frag) (P1 P2:Addr):Sp:=λ vs H Q _=>∃ (a:Addr) (ns:List Int),vs=[.ref a]∧SqL K H a (ns.map V.int)∧ns.length≤63∧Tab1 H P1∧Tab2 H P2∧∀ H',Q (.bl true) H'
theorem ok_law {f:Addr} {fd:FuncData} (B:Bl mg) (T:AnsB K mg CA CB CD CL CC fB dB) (C:Calls P w K mg base CB P1 P2) (F:Fun K "law" "law" s_law f fd):FnOk P w K mg base CX0 10 f fd ["_law_script"] (spLaw K P1 P2):=by
  refine F.ok sc_law (λ vs H Q E h=>?_) λ cdv A outer s H vs Q E hr h=>?_
  · obtain ⟨a,ns,rfl,_⟩:=h;rfl
  · obtain ⟨a,ns,rfl,hl,hn,hT1,hT2,q⟩:=h;have hr1:Room 1 _:=hr.mono (by decide);have hr2:Room 2 _:=hr.mono (by decide);have hr3:Room 3 _:=hr.mono (by decide);have hr8:Room 8 _:=hr.mono (by decide);refine ⟨_,pss_cons (ps_set (i:=1) sc_law.nd rfl (Or.inl rfl) (pe_def C.reqs hr2 rfl pass0 (pa_cons (pv 0) pa_nil)))
      (pss_cons (ps_set (i:=2) sc_law.nd rfl (Or.inl rfl) (pe_slice sl_list (pv 1) po_none (po_some pe_int)))
      (pss_cons (ps_for PassesOwn.never rfl (pi_list (pe_lst (pa_cons (pe_tup (pa_cons (pv 1) (pa_cons (pe_def C.draw hr1 rfl pass0 (pa_cons (pe_def C.cell hr1 rfl pass0 (pa_cons (pv 0) (pa_cons pe_int pa_nil))) (pa_cons pe_int (pa_cons pe_int pa_nil)))) pa_nil)))
            (pa_cons (pe_tup (pa_cons (pv 2) (pa_cons (pe_op op_add (pe_callB call_len_seq (by rfl) B.len PySem.boot_len (pa_cons (pv 2) pa_nil)) pe_int) pa_nil))) pa_nil)))) (pg_two (K:=K) 3 4 rfl sc_law.nd)
        (pss_cons (ps_set (i:=5) sc_law.nd rfl (Or.inl rfl) (pe_callTy call_list_of (by rfl) B.list PyProof.Rows.Boot.«list» (pa_cons (pv 3) pa_nil)))
        (pss_cons (ps_set (i:=6) sc_law.nd rfl (Or.inr rfl) (pe_def C.worths hr8 rfl pass0 (pa_cons (pv 5) (pa_cons (pv 4) pa_nil))))
        (pss_cons (ps_if (PW.pt (pw_or (pt_not (pt_val (pe_isi B.isinstance B.list PyProof.Rows.Boot.«list» (pv 6)))) (pw_or (pt_cmpR op_ne (pe_callB call_len_seq (by rfl) B.len PySem.boot_len (pa_cons (pv 6) pa_nil)) (pe_op op_add (pv 4) pe_int) (nomark _))
            (pw_or1 (pt_not (pt_val (pe_callB (call_all_bools rfl) (by rfl) B.all PyProof.Rows.Boot.«all» (pa_cons (pe_comp ["_law_one"] [] rfl (pi_list (pv 6)) λ cl s H fp Cx=>⟨pg_name (i:=0) (show (["_law_one"]:List Str).Nodup by decide +kernel) rfl (Or.inl rfl),pts_nil,
              pe_def C.whole hr1 rfl pass0 (pa_cons (pv 0) pa_nil)⟩) pa_nil)))))))) (pss_one (ps_ret pe_bl)) pss_nil)
        (pss_cons (ps_if (PW.pt (pw_or (pt_cmpR op_ne (pe_ix ix_list (pv 6) pe_int (λ _ _=>rfl)) pe_int (nomark _)) (pw_or1 (pt_cmpR (op_ne_lst hr.units) (pv 5) (pv 3) (nomark _))))) (pss_one (ps_ret pe_bl)) pss_nil)
        (pss_cons (ps_setC (i:=7) sc_law.nd rfl ["_law_k"] [6] rfl (pi_range1 rfl B.range (pa_cons (pv 4) pa_nil)) λ cl s H fp Cx=>⟨pg_name (i:=0) (show (["_law_k","_law_found"]:List Str).Nodup by decide +kernel) rfl (Or.inl rfl),pts_nil,
            pe_op op_sub (pe_ix (ix_listK (K:=K)) (pv 1) (pe_op op_add (pv 0) pe_int) (λ _ _=>rfl)) (pe_ix (ix_listK (K:=K)) (pv 1) (pv 0) (λ _ _=>rfl))⟩)
        (pss_cons (ps_if (PW.pt (pw_or (pt_cmpR (op_neF (K:=K) hr.units) (pv 7) (pe_rev (pe_callB call_sortI (by rfl) B.sorted PyProof.Rows.Boot.«sorted» (pa_cons (pv 7) pa_nil)) (pe_un un_neg pe_int)) (nomark _))
            (pw_or1 (pt_val (pe_callB (call_any_bools rfl) (by rfl) B.any PyProof.Rows.Boot.«any» (pa_cons (pe_comp ["_law_more"] [] rfl (pi_list (pv 7)) λ cl s H fp Cx=>⟨pg_name (i:=0) (show (["_law_more"]:List Str).Nodup by decide +kernel) rfl (Or.inl rfl),pts_nil,pe_cmpR op_lt (pv 0) pe_int (nomark _)⟩) pa_nil)))))) (pss_one (ps_ret pe_bl)) pss_nil)
        (pss_cons (ps_if (PW.pt (pw_and (pt_cmpR op_gt (pv 4) (pe_callB call_len_seq (by rfl) B.len PySem.boot_len (pa_cons (pv 3) pa_nil)) (nomark _))
            (pw_and1 (pt_cmpR op_ne (pe_ix ix_list (pv 6) (pe_un un_neg pe_int) (λ _ _=>rfl)) (pe_callB (call_sum_ints rfl) (by rfl) B.sum PyProof.Rows.Boot.«sum» (pa_cons (pe_comp ["_law_request"] [] rfl (pi_list (pv 3)) λ cl s H fp Cx=>⟨pg_name (i:=0) (show (["_law_request"]:List Str).Nodup by decide +kernel) rfl (Or.inl rfl),pts_nil,pe_ix (ix_tupK (K:=K)) (pv 0) pe_int (λ _ _=>rfl)⟩) pa_nil)) (nomark _))))) (pss_one (ps_ret pe_bl)) pss_nil)
        (pss_cons (ps_set (i:=8) sc_law.nd rfl (Or.inl rfl) (pe_def C.best hr rfl pass0 (pa_cons (pv 3) (pa_cons (pv 4) pa_nil))))
        (pss_cons (ps_if (PW.pt (pw_or (pt_cmpR op_ne (pe_ix ix_list (pv 6) (pe_un un_neg pe_int) (λ _ _=>rfl)) (pe_def C.lworth hr1 rfl pass0 (pa_cons (pv 3) (pa_cons (pe_fld (pv 8) rfl) pa_nil))) (nomark _))
            (pw_or1 (pt_not (pt_val (pe_def C.lbest hr3 rfl pass0 (pa_cons (pv 3) (pa_cons (pv 4) (pa_cons (pe_fld (pv 8) rfl) (pa_cons (pe_fld (pv 8) rfl) pa_nil)))))))))) (pss_one (ps_ret pe_bl)) pss_nil)
        (pss_one (ps_expr (pe_bm PySem.F.plainAttrs_list PySem.F.slot_list_append PySem.F.type_list_append mt_append (pv 6) (pa_cons pe_int pa_nil))))))))))))))
      (pss_one (ps_ret (pe_and (pe_cmpR op_eq (pe_callB call_len_seq (by rfl) B.len PySem.boot_len (pa_cons (pe_def C.worths hr8 rfl pass0 (pa_cons (pv 2) (pa_cons pe_int pa_nil))) pa_nil)) pe_int (nomark _))
        (pe_one (pe_cmpR (op_eqF (K:=K) hr.units) (pe_def C.worths hr8 rfl pass0 (pa_cons (pe_lst pa_nil) (pa_cons pe_int pa_nil))) (pe_lst (pa_cons pe_int (pa_cons pe_int (pa_cons pe_int pa_nil)))) (nomark _)))))))),?_⟩
    refine ⟨_,rfl,a,ns,rfl,hl,hn,λ b rs H1 hbN s1 hR1 hz hok=>?_⟩;have hg:GoodR rs:=λ r hr=>⟨(hok r hr).1,(hok r hr).2.1⟩;obtain ⟨xs,hb1,hbl,_⟩:=id hR1;refine ⟨_,rfl,_,rfl,b,xs,rfl,SqL.of hb1,λ fw hfw=>?_⟩;rw [cut_head];have s2:Same H1 (upd H1 fw (.lst (xs.take 12))):=same_laid hfw;have hf2:upd H1 fw (.lst (xs.take 12)) fw=some (.lst (xs.take 12)):=upd_same;have hRf2:ReqsAt (upd H1 fw (.lst (xs.take 12))) fw (rs.take 12):=reqs_take hR1 hb1 hfw;generalize upd H1 fw (.lst (xs.take 12))=H2 at s2 hf2 hRf2 ⊢;have hfl:(xs.take 12).length=(rs.take 12).length:=by rw [List.length_take,List.length_take,hbl]
    refine ⟨_,rfl,_,rfl,a,ns,3,rfl,(s1.trans s2).seq hl,by decide,_,_,_,rfl,by decide,by decide,λ r H3 h0 h4 s3=>?_⟩;obtain ⟨r,rfl⟩:∃ k:Nat,r=(k:Nat):=⟨r.toNat,by omega⟩;refine ⟨by show 2≤sizeLine;decide,λ t1 ht1=>?_⟩;refine ⟨_,rfl,_,rfl,fw,_,rfl,.inl (SqL.of ((s3.trans (same_laid ht1)) _ _ hf2)),_,_,rfl,rfl,by show 2≤sizeLine;decide,λ t2 ht2=>?_⟩;refine ⟨by show 2≤sizeLine;decide,λ lp hlp=>?_⟩;refine ⟨lp,rfl,⟨_,SqL.of upd_same⟩,?_⟩;have e2:(λ i j=>V.int (i + j)) (((xs.take 12).length:Nat):Int) 2=V.int (((xs.take 12).length + 2:Nat):Int):=by
      show V.int _=V.int _;congr 1
    rw [e2] at hlp ⊢;have sA:Same H3 (upd H3 t1 (.tup [.ref b,.int (r:Nat)])):=same_laid ht1;have hA:upd H3 t1 (.tup [.ref b,.int (r:Nat)]) t1=some (.tup [.ref b,.int (r:Nat)]):=upd_same;generalize upd H3 t1 (.tup [.ref b,.int (r:Nat)])=H4 at sA hA ht2 hlp ⊢;have sB:Same H4 (upd H4 t2 (.tup [.ref fw,.int (((xs.take 12).length + 2:Nat):Int)])):=same_laid ht2;have hB:upd H4 t2 (.tup [.ref fw,.int (((xs.take 12).length + 2:Nat):Int)]) t2=some (.tup [.ref fw,.int (((xs.take 12).length + 2:Nat):Int)]):=upd_same;generalize upd H4 t2 (.tup [.ref fw,.int (((xs.take 12).length + 2:Nat):Int)])=H5 at sB hB hlp ⊢;have sC:Same H5 (upd H5 lp (.lst [.ref t1,.ref t2])):=same_laid hlp;have hC:upd H5 lp (.lst [.ref t1,.ref t2]) lp=some (.lst [.ref t1,.ref t2]):=upd_same;generalize upd H5 lp (.lst [.ref t1,.ref t2])=H6 at sC hC ⊢;have S26:=s3.trans (sA.trans (sB.trans sC));have S6:=s1.trans (s2.trans S26);have hRb6:ReqsAt H6 b rs:=reqs_same (s2.trans S26) hR1;have hRf6:ReqsAt H6 fw (rs.take 12):=reqs_same S26 hRf2;have t16:Tab1 H6 P1:=TabIs.same hT1 S6;have t26:Tab2 H6 P2:=TabIs.same hT2 S6;have each:∀ (j:Nat) (v:V),([V.ref t1,V.ref t2]:List V)[j]?=some v→∃ (t p:Addr) (k:Nat) (rs':Ln.Rs),v = .ref t∧H6 t=some (.tup [.ref p,.int (k:Nat)])∧ReqsAt H6 p rs'∧GoodR rs'∧rs'.length≤126∧k≤200:=λ j v e=>by
      match j,e with
      | 0,e=>exact ⟨t1,b,r,rs,(Option.some.inj e).symm,(sB.trans sC) _ _ hA,hRb6,hg,hz,by omega⟩
      | 1,e=>exact ⟨t2,fw,_,rs.take 12,(Option.some.inj e).symm,sC _ _ hB,hRf6,λ r hr=>hg r (List.mem_of_mem_take hr),by rw [List.length_take];omega,by rw [List.length_take];omega⟩
    generalize ([V.ref t1,V.ref t2]:List V)=tl at each hC ⊢;obtain ⟨tp1,et1⟩:=TabIs.there t16;obtain ⟨tp2,et2⟩:=TabIs.there t26;have nS:∀ {c:Addr} {u:HO},H6 c=some u→(∀ ps,u≠.tbl ps)→¬ (c=P1∨c=P2):=λ e n z=>by
      rcases z with rfl | rfl
      · rw [et1] at e;cases e;exact n _ rfl
      · rw [et2] at e;cases e;exact n _ rfl
    have nT:∀ (c:Addr) (v:List V),(c=P1∨c=P2)→H6 c≠some (.tup v):=λ c v hc e=>nS e (λ _ z=>nomatch z) hc;refine for_by (yields_list tl) (λ i σ H8=>∃ o3 o4 o5 o6 o7 o8:Option V,σ=[some (.ref a),some (.ref b),some (.ref fw),o3,o4,o5,o6,o7,o8]∧Fx (λ c=>c=P1∨c=P2) H6 H8∧Tab1 H8 P1∧Tab2 H8 P2)
      (λ i σ H8 _ ⟨_,_,_,_,_,_,_,F8,_⟩=>SqL.of (F8 _ _ hC (nS hC λ _ z=>nomatch z))) ⟨_,_,_,_,_,_,rfl,Fx.refl,t16,t26⟩ ?_ ?_
    · rintro i v σ H8' H8 hi ⟨rfl,hxj⟩ ⟨o3,o4,o5,o6,o7,o8,rfl,F8,t18,t28⟩;obtain ⟨t,p,k,rs',rfl,ht6,hRp6,hgp,hzp,hk⟩:=each i v hxj;have pS:¬ (p=P1∨p=P2):=by
        obtain ⟨ys,e,_⟩:=id hRp6;exact nS e λ _ z=>nomatch z
      have hRp8:=reqs_fx hRp6 F8 pS nT;obtain ⟨ys,hys8,hyl,_⟩:=id hRp8;refine ⟨t,_,rfl,SqT.of (F8 _ _ ht6 (nS ht6 λ _ z=>nomatch z)),rfl,_,_,rfl,_,_,rfl,rfl,?_⟩;refine ⟨_,rfl,p,ys,rfl,.inl (SqL.of hys8),λ hd hhd=>?_⟩;have s9:Same H8 (upd H8 hd (.lst ys)):=same_laid hhd;have hd9:upd H8 hd (.lst ys) hd=some (.lst ys):=upd_same;have hRd9:ReqsAt (upd H8 hd (.lst ys)) hd rs':=reqs_copy hRp8 hys8 hhd;generalize upd H8 hd (.lst ys)=H9 at s9 hd9 hRd9 ⊢;have t19:=TabIs.same t18 s9;have t29:=TabIs.same t28 s9;refine ⟨_,rfl,_,rfl,hd,rs',k,rfl,hRd9,hgp,by omega,by omega,t19,t29,λ l F cs ts H10 F10 hlN hl10 z0 up dn hBb hFR t110 t210=>?_⟩;have hys10:H10 p=some (.lst ys):=F10 _ _ (s9 _ _ hys8) λ z=>pS z;have hd10:H10 hd=some (.lst ys):=F10 _ _ hd9 λ z=>by
        rcases z with rfl | rfl
        · obtain ⟨_,e⟩:=TabIs.there t19;rw [hd9] at e;cases e
        · obtain ⟨_,e⟩:=TabIs.there t29;rw [hd9] at e;cases e
      have nT9:∀ (c:Addr) (v:List V),(c=P1∨c=P2)→H9 c≠some (.tup v):=λ c v hc e=>by
        rcases hc with rfl | rfl
        · obtain ⟨_,z⟩:=TabIs.there t19;rw [z] at e;cases e
        · obtain ⟨_,z⟩:=TabIs.there t29;rw [z] at e;cases e
      have hRp10:ReqsAt H10 p rs':=reqs_fx (reqs_same s9 hRp8) F10 pS nT9;refine ⟨_,rfl,_,_,_,rfl,TyOf.lst hl10,(kits (TyOf.lst hl10)).2.2.1,_,rfl,iteN (by decide) ?_⟩;refine ⟨_,rfl,l,_,rfl,.inl (SqL.of hl10),_,rfl,_,_,rfl,rfl,rfl,_,rfl,iteN (by simp [htL_len]) ?_⟩;refine ⟨_,rfl,l,rfl,⟨_,SqL.of hl10⟩,λ D1 hD1=>?_⟩;refine comp_each (yields_list (htL (k + 1) F)) (λ σ=>∃ o,σ=[o]) (λ _=>.bl true) hD1 (by rw [htL_len];omega) (λ H3 s3=>SqL.of (s3 _ _ hl10)) ⟨_,rfl⟩ ?_ ?_
      · rintro j v σ H3 H3' hj ⟨rfl,hx⟩ s3 ⟨o,rfl⟩ Ky hK;rw [htL_map] at hx;obtain ⟨h1,rfl⟩:=int_at hx;exact ⟨_,rfl,_,rfl,hK _ _ _ (Same.refl _) ⟨_,rfl⟩ rfl⟩
      intro H11 s11 h11;have hl11:=s11 _ _ hl10;refine ⟨D1,(List.range (htL (k + 1) F).length).map λ _=>true,rfl,SqL.of (by rw [h11,List.map_map];rfl),_,rfl,iteN (by simp) ?_⟩;refine ⟨_,rfl,l,_,_,_,rfl,rfl,SqL.of hl11,htL_get (v:=0) (by omega),rfl,_,rfl,iteN (by simp [z0]) ?_⟩;refine ⟨_,rfl,_,rfl,hd,p,ys,ys,rfl,rfl,SqL.of (s11 _ _ hd10),SqL.of (s11 _ _ hys10),.inl ⟨rfl,λ _=>true,λ j u v ex ey=>?_,_,rfl,iteN (by simp) ?_⟩⟩
      · rw [ex] at ey;cases ey;obtain ⟨p',rfl,hp'⟩:=reqs_at (reqs_same s11 hRp10) (s11 _ _ hys10) ex;exact trip_eq hp'
      refine ⟨_,rfl,_,rfl,by omega,by omega,λ D2 hD2=>?_⟩;have en:((k:Nat):Int).toNat=k:=by omega
      rw [en];refine comp_each yields_range (λ σ=>∃ o,σ=[o,some (.ref l)]) (λ j=>.int (F (j + 1) - F j)) hD2 (by omega) (λ _ _=>trivial) ⟨_,rfl⟩ ?_ ?_
      · rintro j v σ H4' H4 hj ⟨rfl,rfl⟩ s4 ⟨o,rfl⟩ Ky hK;have a1:atI (htL (k + 1) F) (0 + (j:Int))=some (.int (F j)):=by
          rw [Int.zero_add];exact htL_get (by omega)
        have a2:atI (htL (k + 1) F) (0 + (j:Int) + 1)=some (.int (F (j + 1))):=by
          rw [Int.zero_add];exact htL_get (v:=j + 1) (by omega)
        exact ⟨_,rfl,_,rfl,_,_,rfl,rfl,l,_,_,_,rfl,rfl,SqL.of (s4 _ _ hl11),a2,_,rfl,_,rfl,l,_,_,_,rfl,rfl,SqL.of (s4 _ _ hl11),a1,_,_,rfl,rfl,hK _ _ _ (Same.refl _) ⟨_,rfl⟩ rfl⟩
      intro H12 s12 h12;have h12':H12 D2=some (.lst (((List.range k).map λ j=>F (j + 1) - F j).map V.int)):=by
        rw [h12,List.map_map];rfl
      have hgd:=grow_desc dn;have hgl:((List.range k).map λ j=>F (j + 1) - F j).length=k:=by simp
      have hg0:∀ j,j < k→0≤((List.range k).map λ j=>F (j + 1) - F j).getD j 0:=λ j hj=>by
        rw [getD_at (by rw [hgl];exact hj),List.getElem_map,List.getElem_range];exact up j hj
      generalize ((List.range k).map λ j=>F (j + 1) - F j)=gs at h12' hgd hgl hg0;refine ⟨_,rfl,_,rfl,D2,gs,rfl,SqL.of h12',by omega,λ ms hp ho ls hls=>⟨_,rfl,ls,_,rfl,rfl,SqL.of upd_same,λ lr hlr=>?_⟩⟩;have er:(ms.map V.int).reverse=gs.map V.int:=by
        rw [← List.map_reverse,sort_rev hp ho hgd]
      rw [er];have s13:Same H12 (upd (upd H12 ls (.lst (ms.map V.int))) lr (.lst (gs.map V.int))):=(same_laid hls).trans (same_laid hlr);refine ⟨D2,lr,_,_,rfl,rfl,SqL.of (s13 _ _ h12'),SqL.of upd_same,flat_ints _,flat_ints _,_,rfl,iteN (by rw [eqL_ints];simp) ?_⟩;generalize upd (upd H12 ls (.lst (ms.map V.int))) lr (.lst (gs.map V.int))=H13 at s13 ⊢;refine ⟨_,rfl,D2,rfl,⟨_,SqL.of (s13 _ _ h12')⟩,λ D3 hD3=>?_⟩;refine comp_each (yields_list (gs.map V.int)) (λ σ=>∃ o,σ=[o]) (λ _=>.bl false) hD3 (by rw [List.length_map];omega) (λ H3 s3=>SqL.of ((s13.trans s3) _ _ h12')) ⟨_,rfl⟩ ?_ ?_
      · rintro j v σ H3 H3' hj ⟨rfl,hx⟩ s3 ⟨o,rfl⟩ Ky hK;obtain ⟨h1,rfl⟩:=int_at hx;refine ⟨_,rfl,_,_,rfl,rfl,hK _ _ _ (Same.refl _) ⟨_,rfl⟩ ?_⟩;have:=hg0 j (by omega);show V.bl (decide (_ < _))=_;rw [decide_eq_false (by omega)]
      intro H14 s14 h14;refine ⟨D3,(List.range (gs.map V.int).length).map λ _=>false,rfl,SqL.of (by rw [h14,List.map_map];rfl),_,rfl,iteN (by simp) ?_⟩;have S14:=s11.trans (s12.trans (s13.trans s14));have hl14:=S14 _ _ hl10;have hys14:=S14 _ _ hys10;have hRp14:=reqs_same S14 hRp10;have hlast:atI (htL (k + 1) F) (-1)=some (.int (F k)):=by
        rw [← htL_snoc];exact atI_last _ _
      refine cutN (λ σ' H'=>σ'=[some (.ref a),some (.ref b),some (.ref fw),some (.ref p),some (.int (k:Nat)),some (.ref hd),some (.ref l),some (.ref D2),o8]∧Same H14 H') (λ N hN=>?_) ?_
      · refine ⟨_,rfl,_,rfl,p,ys,rfl,.inl (SqL.of hys14),_,_,rfl,rfl,_,rfl,?_⟩
        by_cases hm:ys.length < k
        · refine iteP (by simpa using hm) ⟨_,rfl,_,rfl,l,_,_,_,rfl,rfl,SqL.of hl14,hlast,_,rfl,p,rfl,⟨_,SqL.of hys14⟩,λ D4 hD4=>?_⟩;refine comp_each (yields_list ys) (λ σ=>∃ o,σ=[o]) (λ j=>.int (Lg.rq rs' j).2.2) hD4 (by omega) (λ H3 s3=>SqL.of (s3 _ _ hys14)) ⟨_,rfl⟩ ?_ ?_
          · rintro j v σ H3 H3' hj ⟨rfl,hx⟩ s3 ⟨o,rfl⟩ Ky hK;obtain ⟨p',rfl,hp'⟩:=reqs_at hRp14 hys14 hx;exact ⟨_,rfl,p',_,_,_,rfl,rfl,SqT.of (s3 _ _ hp'),(show atI (trip (Lg.rq rs' j)) 2=some (.int (Lg.rq rs' j).2.2) from rfl),hK _ _ _ (Same.refl _) ⟨_,rfl⟩ rfl⟩
          intro H16 s16 h16;have ew:F k=((List.range ys.length).map λ j=>(Lg.rq rs' j).2.2).sum:=by
            rw [hyl,sum_prices,hFR];exact all_worth hgp (by omega) hBb
          refine ⟨D4,(List.range ys.length).map λ j=>(Lg.rq rs' j).2.2,rfl,SqL.of (by rw [h16,List.map_map];rfl),rfl,_,rfl,iteN (by rw [ew];simp) (hN _ _ ⟨rfl,s16⟩)⟩
        · refine iteN (by simpa using hm) (hN _ _ ⟨rfl,Same.refl _⟩)
      rintro σ' H15 ⟨rfl,s15⟩;have S15:=S14.trans s15;have t115:=TabIs.same t110 S15;have t215:=TabIs.same t210 S15;have hRp15:=reqs_same S15 hRp10;have hl15:=S15 _ _ hl10;refine ⟨_,rfl,_,rfl,p,rs',_,rfl,hRp15,hgp,by omega,by omega,t115,t215,λ y dx l1 l2 ns2 ts2 H16 F16 hyN hl1N hl2N hne X16 hB2 hcl htl t116 t216=>?_⟩;have lS:¬ (l=P1∨l=P2):=λ z=>by
        rcases z with rfl | rfl
        · obtain ⟨_,e⟩:=TabIs.there t115;rw [hl15] at e;cases e
        · obtain ⟨_,e⟩:=TabIs.there t215;rw [hl15] at e;cases e
      have nT15:∀ (c:Addr) (v:List V),(c=P1∨c=P2)→H15 c≠some (.tup v):=λ c v hc e=>by
        rcases hc with rfl | rfl
        · obtain ⟨_,z⟩:=TabIs.there t115;rw [z] at e;cases e
        · obtain ⟨_,z⟩:=TabIs.there t215;rw [z] at e;cases e
      have hl16:H16 l=some (.lst (htL (k + 1) F)):=F16 _ _ hl15 lS;have hRp16:=reqs_fx hRp15 F16 pS nT15;obtain ⟨_,b2,_,_,_⟩:=bestB_parts hB2;have ew:F k=Ln.worthL rs' ns2:=by
        rw [hFR];exact same_worth (by omega) hBb hB2
      refine ⟨_,rfl,_,rfl,l,_,_,_,rfl,rfl,SqL.of hl16,hlast,_,rfl,rdF X16.ins T.okB.cl T.nt lk_t ⟨l1,p,ns2,rs',rfl,X16.tk,hRp16,b2,by omega,λ H17 s17=>⟨rfl,_,rfl,iteN (by rw [ew];simp) ?_⟩⟩⟩;have X17:=X16.same s17;refine ⟨_,rfl,_,rfl,rdF X17.ins T.okB.cl T.nt lk_t (rdF X17.ins T.okB.cl T.nl lk_l ?_)⟩;refine ⟨p,l1,l2,(k:Nat),ns2,ts2,rs',rfl,X17.tk,X17.tl,reqs_same s17 hRp16,by omega,by omega,by omega,by omega,by omega,λ H18 s18=>⟨_,rfl,?_⟩⟩;rw [hB2];refine iteF ?_;have S18:=s17.trans s18;have hl18:=S18 _ _ hl16;refine ⟨_,rfl,.inl ⟨rfl,_,SqL.of hl18⟩,l,_,_,rfl,rfl,hl18,by rw [htL_len,sizeLine_eq];omega,?_⟩;have fr6:∀ {c:Addr},H8 c=none→H6 c=none:=λ e=>fresh_fx F8 e λ d hd'=>by
        rcases hd' with rfl | rfl
        · obtain ⟨_,e⟩:=TabIs.there t18;exact ⟨_,e⟩
        · obtain ⟨_,e⟩:=TabIs.there t28;exact ⟨_,e⟩
      have F18:Fx (λ c=>c=P1∨c=P2) H6 H18:=F8.trans ((Fx.of s9).trans (F10.trans ((Fx.of S15).trans (F16.trans (Fx.of S18)))));have tl:∀ {q:Str} {pos:Pos} {P0:Addr},TabIs H18 P0 pos q→TabIs (upd H18 l (.lst (htL (k + 1) F ++ [.int 0]))) P0 pos q:=λ {q pos P0} t=>by
        obtain ⟨tp,e⟩:=TabIs.there t;exact TabIs.fx t (Fx.refl.upd (S:=λ c=>c=l) (.inl rfl)) (λ z=>by subst z;rw [hl18] at e;cases e) λ c o u hc z=>by subst hc;rw [hl18] at z;cases z
      exact ⟨_,_,_,_,_,_,rfl,F18.upd (.inr (fr6 (none_of_same s9 hlN))),tl (TabIs.same t116 S18),tl (TabIs.same t216 S18)⟩
    · rintro σ H8 ⟨o3,o4,o5,o6,o7,o8,rfl,F8,t18,t28⟩;have fS:¬ (fw=P1∨fw=P2):=by
        obtain ⟨zs,e,_⟩:=id hRf6;exact nS e λ _ z=>nomatch z
      have hRf8:=reqs_fx hRf6 F8 fS nT;refine ⟨_,rfl,fw,rs.take 12,1,rfl,hRf8,λ r hr=>hg r (List.mem_of_mem_take hr),by rw [List.length_take];omega,by omega,t18,t28,λ l F cs ts H9 F9 hlN hl9 z0 up dn hBb hFR t19 t29=>?_⟩;refine ⟨l,_,rfl,.inl (SqL.of hl9),rfl,_,rfl,iteP (by simp [htL_len]) ?_⟩;refine ⟨Nat.zero_le _,λ e0 he0=>?_⟩;refine ⟨e0,[],2,rfl,reqs_nil,λ r hr=>by simp at hr,by simp,by decide,TabIs.same t19 (same_laid he0),TabIs.same t29 (same_laid he0),λ l' F' cs' ts' H11 F11 _ hl11 z0' up' dn' hB' hFR' _ _=>?_⟩;refine ⟨by show 3≤sizeLine;decide,λ e1 he1=>?_⟩;have w0:=all_worth (rs:=[]) (λ r hr=>by simp at hr) (by simp) hB';have u0:=up' 0 (by omega);have u1:=up' 1 (by omega);have e3:htL (2 + 1) F'=([0,0,0]:List Int).map V.int:=by
        show [V.int (F' 0),V.int (F' 1),V.int (F' 2)]=[V.int 0,V.int 0,V.int 0];have a2:F' 2=0:=by
          rw [hFR',w0];rfl
        have a1:F' 1=0:=by
          simp only [Nat.zero_add,Nat.reduceAdd] at u0 u1;omega
        rw [z0',a1,a2]
      rw [e3] at hl11;refine ⟨l',e1,_,_,rfl,rfl,SqL.of ((same_laid he1) _ _ hl11),SqL.of upd_same,rfl,rfl,q _⟩
end
end Sp
namespace L2
open PySem PySem.Spec PyProof.Rows
theorem law_callT {P:Program} {w:World} {K:PySem.W.Frag} {mg mb:Str→Option Value} {k:Nat} {fa a P1 P2:Addr} {fd:FuncData} {x:Str} {sp:Sp} {s₁:Shared} {vs:List Value} {ns:List Int}
    (KX:K.In s₁.heap) (hns:s₁.heap.Ns mainGlobals mg) (hb:s₁.heap.Ns builtinsNs mb) (hbb:∀ x:Str,x≠"__name__"→mb x=bootBuiltins x) (hlim:s₁.heap.NoLimit) (hg:s₁.gens = #[])
    (ha:s₁.heap.get? a=some { cls:=.type "list",data:=.seq vs.toArray }) (hi:IntsAre vs ns) (hl:ns.length≤sizeLine) (hr:Room k callerA)
    (h1:s₁.heap.get? P1=some (PySem.W.tabObj #[])) (h2:s₁.heap.get? P2=some (PySem.W.tabObj #[])) (k1:K.lookup P1=none) (k2:K.lookup P2=none) (i1:isCodeTable s₁.heap P1) (i2:isCodeTable s₁.heap P2) (bm:∃ bm ob,mg "__builtins__"=some (.ref bm)∧bm≠builtinsNs∧s₁.heap.get? bm=some ob∧ob.cls = .type "module"∧ob.dict=some builtinsNs∧ob.data = .plain)
    (F:∀ base:Heap,K.In base→base.Ns mainGlobals mg→base.BuiltinsAt mg P1→base.BuiltinsAt mg P2→FnOk P w K mg base CX0 k fa fd [x] sp) (hbind:∀ (s:Shared) (u:Value),BindsTo s fd ⟨[u],[]⟩ [(x,u)])
    (hsp:∀ H:Hp,H P1=some (.tbl #[])→H P2=some (.tbl #[])→SqL K H a (ns.map V.int)→sp [.ref a] H (λ v _=>v = .bl true) E0) :
    codeAny (model P w) callerA (.call (.ref fa) ⟨[.ref a],[]⟩) (λ r s'=>r = .ok (.ret (.bool true))∧OldK s₁.heap s'.heap∧s'.os=s₁.os∧AllBare s'.gens) s₁:=by
  have rv:=vals_ints hi;have lenV:=hi.length;have a1:a≠P1:=λ z=>by rw [z,h1] at ha;cases ha
  have a2:a≠P2:=λ z=>by rw [z,h2] at ha;cases ha
  have core:∀ H:Hp,H P1=some (.tbl #[])→H P2=some (.tbl #[])→SqL K H a (ns.map V.int)→HOk P w H s₁.heap→(∀ b,H b≠none→b=a∨b=P1∨b=P2)→(H a≠none→K.lookup a=none∧∃ o u,H a=some (.frz o u)) →
      codeAny (model P w) callerA (.call (.ref fa) ⟨[.ref a],[]⟩) (λ r s'=>r = .ok (.ret (.bool true))∧OldK s₁.heap s'.heap∧s'.os=s₁.os∧AllBare s'.gens) s₁:=by
    intro H t1 t2 hS hok hA hK;have base_of:∀ {b:Addr} {o:Obj},s₁.heap.get? b=some o→H b=none→(hidT s₁.heap H).get? b=some o:=λ e n=>hidT_get e n;have noA:∀ {b:Addr} {o:Obj},s₁.heap.get? b=some o→(∀ xs n,o.data≠.seq xs n)→(∀ xs,o.data≠.fields xs)→H b=none:=λ {b o} e d1 d2=>by
      cases q:H b with
      | none=>rfl
      | some u =>
        rcases hA b (by rw [q];simp) with z | z | z
        · subst z;rw [ha] at e;cases e;exact absurd rfl (d1 _ _)
        · subst z;rw [h1] at e;cases e;exact absurd rfl (d2 _)
        · subst z;rw [h2] at e;cases e;exact absurd rfl (d2 _)
    have nsK:∀ {b:Addr} {m:Str→Option Value},s₁.heap.Ns b m→(hidT s₁.heap H).Ns b m:=λ {b m} ⟨o,es,ep,e,d,r⟩=>⟨o,es,ep,base_of e (noA e (λ _ _ z=>by rw [d] at z;cases z) (λ _ z=>by rw [d] at z;cases z)),d,r⟩;have hKb:K.In (hidT s₁.heap H):=λ b o e=>base_of (KX b o e) (by
      cases q:H b with
      | none=>rfl
      | some u =>
        rcases hA b (by rw [q];simp) with z | z | z
        · subst z;rw [(hK (by rw [q];simp)).1] at e;cases e
        · subst z;rw [k1] at e;cases e
        · subst z;rw [k2] at e;cases e)
    have hM:Mod K mg (hidT s₁.heap H):=⟨hKb,nsK hns,⟨mb,nsK hb,hbb⟩,let ⟨mc,h1,h2⟩:=hlim;⟨mc,nsK h1,h2⟩⟩;have hbm:∀ {P0:Addr},s₁.heap.get? P0=some (PySem.W.tabObj #[])→(hidT s₁.heap H).BuiltinsAt mg P0:=λ {P0} hP=>by
      obtain ⟨m,ob,b1,b2,b3,b4,b5,b6⟩:=bm;refine ⟨m,ob,b1,b2,λ z=>?_,λ z=>?_,base_of b3 (noA b3 (λ _ _ z=>by rw [b6] at z;cases z) (λ _ z=>by rw [b6] at z;cases z)),b4,b5,b6⟩
      · obtain ⟨o,es,ep,e,d,_⟩:=hns;rw [← z,b3] at e;cases e;rw [b6] at d;cases d
      · rw [← z,b3] at hP;cases hP;cases b4
    have e0:Env0 P w K mg (hidT s₁.heap H) callerA [] s₁ H:=⟨rfl,hM,λ b o e=>of_hidT e,Nat.le_of_eq (hidT_size _ _),trivial,λ b hb=>absurd (show b∈([]:List Addr) from hb) (by simp),hok,.of_eq hg⟩;refine codeAny_mono ((F _ hKb (nsK hns) (hbm h1) (hbm h2)).run callerA [] s₁ H ⟨[.ref a],[]⟩ [.ref a] [.ref a] _ _ hr e0 (hbind s₁ (.ref a)) (.cons rfl .nil) (hsp H t1 t2 hS)) λ r s' h=>?_;cases r with
    | error e=>exact False.elim h
    | ok fl =>
      cases fl with
      | next=>exact False.elim h
      | brk=>exact False.elim h
      | cont=>exact False.elim h
      | ret u =>
        obtain ⟨v,H',os,bare,un,hok',r',q⟩:=h;have q':v = .bl true:=q;subst q';obtain rfl:u=Value.bool true:=r';have tab:∀ {P0:Addr} {o:Obj},s₁.heap.get? P0=some (PySem.W.tabObj #[])→H P0=some (.tbl #[])→isCodeTable s₁.heap P0→s₁.heap.get? P0=some o→asItWas s₁.heap s'.heap P0 o∧∃ o',s'.heap.get? P0=some o':=λ {P0 o} hP hH ic e=>by
          obtain ⟨more,e2⟩:=un.tbls P0 #[] hH;have e3:s'.heap.get? P0=some { cls:=.none,data:=.fields (#[] ++ more) }:=hok' P0 _ e2;rw [hP] at e;cases e;exact ⟨.inr (.inl ⟨ic,rfl,#[],more,rfl,e3⟩),⟨_,e3⟩⟩
        have all:∀ b o,s₁.heap.get? b=some o→asItWas s₁.heap s'.heap b o∧∃ o',s'.heap.get? b=some o':=λ b o e=>by
          cases q:H b with
          | none =>
            have:=un.keep b o e q (by intro z;exact absurd (show b∈([]:List Addr) from z) (by simp)) (by simp);exact ⟨.inl this,_,this⟩
          | some u =>
            rcases hA b (by rw [q];simp) with z | z | z
            · subst z;obtain ⟨_,ob,u',z2⟩:=hK (by rw [q];simp);have z3:=un.frzs b ob _ z2;obtain ⟨e1,_⟩:=hok b _ z2;obtain ⟨e2,_⟩:=hok' b _ z3;rw [e] at e1;cases e1;exact ⟨.inl e2,_,e2⟩
            · subst z;exact tab h1 t1 i1 e
            · subst z;exact tab h2 t2 i2 e
        exact ⟨rfl,⟨λ b o e=>(all b o e).1,λ b o e=>(all b o e).2⟩,os,bare⟩
  cases hk:K.lookup a with
  | some o =>
    have e:=KX a o hk;rw [ha] at e;cases e;refine core (λ b=>if b=P1 then some (.tbl #[]) else if b=P2 then some (.tbl #[]) else none) (if_pos rfl) ?_ (.inr ⟨_,vs.toArray,_,hk,rfl,rfl,rfl,by rw [List.size_toArray,lenV];exact hl,by simpa using rv⟩) (λ b u z=>?_) (λ b z=>?_) λ z=>absurd (by show (if a=P1 then _ else if a=P2 then _ else none)=none;rw [if_neg a1,if_neg a2]) z
    · by_cases e:P2=P1
      · exact if_pos e
      · exact (if_neg e).trans (if_pos rfl)
    · by_cases e1:b=P1
      · have z':=(if_pos e1).symm.trans z;cases z';subst e1;exact h1
      · have z1:=(if_neg e1).symm.trans z
        by_cases e2:b=P2
        · have z':=(if_pos e2).symm.trans z1;cases z';subst e2;exact h2
        · have z':=(if_neg e2).symm.trans z1;cases z'
    · by_cases e1:b=P1
      · exact .inr (.inl e1)
      · by_cases e2:b=P2
        · exact .inr (.inr e2)
        · exact absurd ((if_neg e1).trans (if_neg e2)) z
  | none =>
    refine core (λ b=>if b=P1 then some (.tbl #[]) else if b=P2 then some (.tbl #[]) else if b=a then some (.frz { cls:=.type "list",data:=.seq vs.toArray } (.lst (ns.map V.int))) else none) (if_pos rfl) ?_ (.inl (.inr ⟨{ cls:=.type "list",data:=.seq vs.toArray },?_⟩)) (λ b u z=>?_) (λ b z=>?_) λ _=>⟨hk,{ cls:=.type "list",data:=.seq vs.toArray },.lst (ns.map V.int),?_⟩
    · by_cases e:P2=P1
      · exact if_pos e
      · exact (if_neg e).trans (if_pos rfl)
    · exact (if_neg a1).trans ((if_neg a2).trans (if_pos rfl))
    · by_cases e1:b=P1
      · have z':=(if_pos e1).symm.trans z;cases z';subst e1;exact h1
      · have z1:=(if_neg e1).symm.trans z
        by_cases e2:b=P2
        · have z':=(if_pos e2).symm.trans z1;cases z';subst e2;exact h2
        · have z2:=(if_neg e2).symm.trans z1
          by_cases e3:b=a
          · have z':=(if_pos e3).symm.trans z2;cases z';subst e3;exact ⟨ha,by rw [List.length_map];exact hl,vs,_,rv,ha⟩
          · have z':=(if_neg e3).symm.trans z2;cases z'
    · by_cases e1:b=P1
      · exact .inr (.inl e1)
      · by_cases e2:b=P2
        · exact .inr (.inr e2)
        · by_cases e3:b=a
          · exact .inl e3
          · exact absurd ((if_neg e1).trans ((if_neg e2).trans (if_neg e3))) z
    · exact (if_neg a1).trans ((if_neg a2).trans (if_pos rfl))
end L2
namespace Sp
open PySem L2
structure TopOk (K:PySem.W.Frag) (mg:Str→Option Value) (CA CB CD CL CC fB:Addr) (dB:FuncData) (CN fI:Addr) (dI:FuncData) (c1 P1 c2 P2 CQ CR:Addr):Prop where
  d_is_whole:FnAt K mg "is_whole" s_is_whole ["value"]
  d_are_days:FnAt K mg "are_days" s_are_days ["first","last"]
  d_is_request:FnAt K mg "is_request" s_is_request ["value"]
  d_are_requests:FnAt K mg "are_requests" s_are_requests ["value"]
  d_are_rooms:FnAt K mg "are_rooms" s_are_rooms ["value"]
  d_check_requests:FnAt K mg "check_requests" s_check_requests ["requests"]
  d_check_rooms:FnAt K mg "check_rooms" s_check_rooms ["rooms"]
  d_points_of:FnAt K mg "points_of" s_points_of ["requests"]
  d_sweep:FnAt K mg "sweep" s_sweep ["moves","heights","ways"]
  d_filled:FnAt K mg "filled" s_filled ["requests","rooms"]
  d_best:FnAt K mg "best" s_best ["requests","rooms"]
  d_worths:FnAt K mg "worths" s_worths ["requests","rooms"]
  d__law_cell_at:FnAt K mg "_law_cell_at" s__law_cell_at ["_law_script","_law_k"]
  d__law_draw:FnAt K mg "_law_draw" s__law_draw ["_law_cell","_law_k","_law_many"]
  d__law_requests:FnAt K mg "_law_requests" s__law_requests ["_law_script"]
  d__law_whole:FnAt K mg "_law_whole" s__law_whole ["_law_number"]
  d__law_chosen:FnAt K mg "_law_chosen" s__law_chosen ["_law_requests_here","_law_some"]
  d__law_there:FnAt K mg "_law_there" s__law_there ["_law_requests_here","_law_some","_law_day"]
  d__law_worth:FnAt K mg "_law_worth" s__law_worth ["_law_requests_here","_law_some"]
  d__law_best:FnAt K mg "_law_best" s__law_best ["_law_requests_here","_law_rooms_here","_law_some","_law_tolls"]
  d_law:FnAt K mg "law" s_law ["_law_script"]
  bl:Bl mg
  erq:Err K mg "BadRequests" CQ
  err:Err K mg "BadRooms" CR
  ans:AnsB K mg CA CB CD CL CC fB dB
  ln:∀ base:Heap,base.BuiltinsAt mg P1→base.BuiltinsAt mg P2→LineT K mg base CN fI dI c1 P1 c2 P2
  l1:K.lookup P1=none
  l2:K.lookup P2=none
  h1:PySem.W.codeHdIn K c1 P1=true
  h2:PySem.W.codeHdIn K c2 P2=true
section
variable {P:Program} {w:World} {K:PySem.W.Frag} {mg:Str→Option Value} {base:Heap} {CA CB CD CL CC fB CN fI c1 P1 c2 P2 CQ CR:Addr} {dB dI:FuncData}
theorem law_of {f:Addr} {fd:FuncData} (T:TopOk K mg CA CB CD CL CC fB dB CN fI dI c1 P1 c2 P2 CQ CR) (b1:base.BuiltinsAt mg P1) (b2:base.BuiltinsAt mg P2) (F:Fun K "law" "law" s_law f fd):FnOk P w K mg base CX0 10 f fd ["_law_script"] (spLaw K P1 P2):=by
  have L:=T.ln base b1 b2;have gW:=ok_whole (P:=P) (w:=w) (base:=base) T.bl T.d_is_whole;have gD:=ok_days gW T.d_are_days;have gR:=ok_req T.bl gW gD T.d_is_request;have gRs:=ok_reqs T.bl gR T.d_are_requests;have gRm:=ok_rooms gW T.d_are_rooms;have gCq:=ok_creq T.erq gRs T.d_check_requests;have gCr:=ok_croom T.err gRm T.d_check_rooms;have gPo:=ok_points (P:=P) (w:=w) (K:=K) (base:=base) T.bl T.d_points_of;have gSw:=ok_sweep (P:=P) (w:=w) (K:=K) (base:=base) T.d_sweep;have gUs:=ok_used (P:=P) (w:=w) T.bl L;have gOn:=ok_onw (P:=P) (w:=w) T.bl L;have gBk:=ok_bkw T.bl L gUs;have gCl:=ok_climb T.bl L gOn gBk gSw;have gIn:=ok_init T.bl L gPo gCl;have gGr:=ok_growth (P:=P) (w:=w) T.bl L;have gLc:=ok_lchoice (P:=P) (w:=w) T.bl L;have gDt:=ok_dtolls (P:=P) (w:=w) T.bl L;have gAd:=ok_add T.bl L gCl;have gFl:=ok_filled T.bl L gIn gGr gAd T.d_filled;have gBe:=ok_best T.bl T.ans L gCq gCr gFl gLc gDt T.d_best;have gC:=ok_cell (P:=P) (w:=w) (base:=base) T.bl T.d__law_cell_at;have gDr:=ok_draw (P:=P) (w:=w) (K:=K) (base:=base) T.d__law_draw;have gL:=ok_reqsL T.bl gC gDr T.d__law_requests;have gLw:=ok_lwhole (P:=P) (w:=w) (K:=K) (base:=base) T.bl T.d__law_whole;have gLh:=ok_lchosen T.bl gLw T.d__law_chosen;have gLt:=ok_lthere (P:=P) (w:=w) (K:=K) (base:=base) T.d__law_there;have gLv:=ok_lworth (P:=P) (w:=w) (K:=K) (base:=base) T.bl T.d__law_worth;have gLb:=ok_lbest T.bl gLw gLh gLt gLv T.d__law_best;have gWs:=ok_worths T.bl L gCq gCr gIn gGr gAd T.d_worths;exact ok_law T.bl T.ans ⟨gL,gC,gDr,gLw,gLv,gLb,gBe,gWs⟩ F
end
theorem fnAt_mk {K:PySem.W.Frag} {h:Heap} {mg:Str→Option Value} {x:Str} {st:Stmt} {ps:List Str} {f:Addr} {oc:Value} {od an:Option Addr} {osl:Array (Option Value)} {kV doc pm cdv ct:Value} (X:K.In h) (G:h.Ns mainGlobals mg)
    (a:PySem.W.nsIn K mainGlobals x=some (some (.ref f))) (l:K.lookup f=some ⟨oc,od,.func (PySem.W.fnOf x x (defArgs st) (defBody st) (defScope st) .none kV doc pm an cdv ct),osl⟩)
    (c:PySem.W.codeIn K cdv x=true) (k:PySem.W.keepIn K (.ref f)=true)
    (hb:∀ (kV doc pm:Value) (an:Option Addr) (cdv ct:Value) (us:List Value),us.length=ps.length→bindArgs (PySem.W.fnOf x x (defArgs st) (defBody st) (defScope st) .none kV doc pm an cdv ct) ⟨us,[]⟩=pure (ps.zip us)):FnAt K mg x st ps:=by
  have F:=fun_mk (st:=st) l c k;exact ⟨f,_,PySem.W.mg_of X G a,F,F.binds hb⟩
theorem err_mk {K:PySem.W.Frag} {h:Heap} {mg:Str→Option Value} {n:Str} {C:Addr} (X:K.In h) (G:h.Ns mainGlobals mg) (a:PySem.W.nsIn K mainGlobals n=some (some (.ref C))) (e:PySem.W.excIn K C vbm "ValueError.__new__"=true):Err K mg n C:=⟨PySem.W.mg_of X G a,e⟩
theorem mtAt_mk {K:PySem.W.Frag} {C:Addr} {x qual:Str} {st:Stmt} {ps:List Str} {f:Addr} {oc:Value} {od an:Option Addr} {osl:Array (Option Value)} {kV doc pm cdv ct:Value} (m:Meth K C x f)
    (l:K.lookup f=some ⟨oc,od,.func (PySem.W.fnOf x qual (defArgs st) (defBody st) (defScope st) .none kV doc pm an cdv ct),osl⟩) (c:PySem.W.codeIn K cdv qual=true) (k:PySem.W.keepIn K (.ref f)=true)
    (hb:∀ (kV doc pm:Value) (an:Option Addr) (cdv ct:Value) (us:List Value),us.length=ps.length→bindArgs (PySem.W.fnOf x qual (defArgs st) (defBody st) (defScope st) .none kV doc pm an cdv ct) ⟨us,[]⟩=pure (ps.zip us)):MtAt K C x qual st ps:=by
  have F:=fun_mk (st:=st) l c k;exact ⟨f,_,m,F,F.binds hb⟩
theorem mtAtC_mk {K:PySem.W.Frag} {C c0:Addr} {x qual:Str} {st:Stmt} {ps:List Str} {f:Addr} {oc:Value} {od an:Option Addr} {osl:Array (Option Value)} {kV doc pm ct:Value} (m:Meth K C x f)
    (l:K.lookup f=some ⟨oc,od,.func (PySem.W.fnOf x qual (defArgs st) (defBody st) (defScope st) .none kV doc pm an (.ref c0) ct),osl⟩) (c:PySem.W.codeIn K (.ref c0) qual=true)
    (hb:∀ (kV doc pm:Value) (an:Option Addr) (cdv ct:Value) (us:List Value),us.length=ps.length→bindArgs (PySem.W.fnOf x qual (defArgs st) (defBody st) (defScope st) .none kV doc pm an cdv ct) ⟨us,[]⟩=pure (ps.zip us)):MtAtC K C x qual st ps c0 :=
  ⟨f,oc,od,kV,doc,pm,an,ct,osl,m,l,c,.all (hb kV doc pm an (.ref c0) ct)⟩
theorem walk {l:PySem.W.OpenLaw} {q:Program} {loose:List Str} {XP:(Str→Option Value)→Heap→Prop} {YP:World→Heap→Prop} {d:DefRec} {K:Params→PySem.W.Frag} {ts:List Addr} (hn:l.most=some 63) (hdf:d.params.defaults=[]) (hdn:d.name = "law")
    (hY:∀ (w:World) (h:Heap),YP w h→(K w.params).In h) (hY2:∀ (w:World) (h:Heap),YP w h→∀ P∈ts,h.get? P=some (PySem.W.tabObj #[]))
    (F:∀ (w:World) (mg:Str→Option Value) (h:Heap),(K w.params).In h→h.Ns mainGlobals mg→∃ CA CB CD CL CC fB dB CN fI dI c1 P1 c2 P2 CQ CR,TopOk (K w.params) mg CA CB CD CL CC fB dB CN fI dI c1 P1 c2 P2 CQ CR∧P1∈ts∧P2∈ts) :
    PySem.W.WalkO q loose XP YP l.row.toRowW d [] (λ f vs=>PySem.call f vs):=by
  refine Att.attach_call hn hdf λ w s₀ s₁ mg mb fa o pm cd doc a vs ns G Y ho hd hcd hmg hobj hints hlen hg=>?_;have KX:=hY w _ Y;have tabs:=hY2 w _ Y;obtain ⟨CA,CB,CD,CL,CC,fB,dB,CN,fI,dI,c1,P1,c2,P2,CQ,CR,T,m1,m2⟩:=F w mg _ KX G.T.g;obtain ⟨f,fd,hm,Fn,b⟩:=T.d_law;rw [hdn,hm] at hmg;cases hmg;have i1:=((PySem.W.codeHd_of_K KX T.h1).tab (tabs P1 m1)).isCodeTable;have i2:=((PySem.W.codeHd_of_K KX T.h2).tab (tabs P2 m2)).isCodeTable;refine L2.law_callT (k:=10) (fd:=fd) (x:="_law_script") (sp:=spLaw (K w.params) P1 P2) KX G.T.g G.T.b G.T.builtins G.T.nolimit hg hobj hints (Nat.le_trans hlen (by decide)) ⟨rfl,by decide,by decide⟩ (tabs P1 m1) (tabs P2 m2) T.l1 T.l2 i1 i2 G.T.bmain (λ base _ _ b1 b2=>law_of T b1 b2 Fn) ?_ λ H t1 t2 hS=>⟨a,ns,rfl,hS,hlen,.inl t1,.inl t2,λ _=>rfl⟩;obtain ⟨oc,od,kV,doc,pm,an,cdv,ct,osl,rfl,lk,hcd⟩:=Fn.ex;exact λ s v=>.of_eq rfl
end Sp
namespace PySem.W.Fast
def tw8141898286036858211:=()
def tw2466251743687067402:=()
def tw16733574184699081173:=()
def tw1614187344634995279:=()
def tw8069531537815015499:=()
def tw9964106920935064084:=()
def tw18004050046712703406:=()
def tw7460014713736108407:=()
def tw2746347945149000528:=()
def tw6142643145063797213:=()
def tw2723045396662674205:=()
def tw4195312545383204326:=()
def tw6144939391907450556:=()
def tw10780911875153193779:=()
def tw8397184417216689134:=()
def tw12484333419385138080:=()
def tw758218429009751272:=()
def tw17472962203393188075:=()
def tw12115301635795015233:=()
def tw1317556050079434127:=()
def tw13509194221933790798:=()
def tw2567243686909527840:=()
def tw12495888053407352933:=()
def tw12991542449176249605:=()
def tw17727568142651858260:=()
def tw18022411193620984261:=()
def tw3271352934598678235:=()
def tw15675902247675683896:=()
def tw11643925577476222751:=()
def tw10796204623039022259:=()
def tw3850319518703945268:=()
def tw11830142183102660666:=()
def tw11294810800554676160:=()
def tw12378144536859398960:=()
def tw12362331294334734125:=()
def tw16391744808586094999:=()
def tw13516541768818114718:=()
def tw10747560880569572848:=()
def tw13592645141972302668:=()
def tw9790973400661886655:=()
def tw6324080182360849538:=()
def tw4924861933760209985:=()
def tw16162410906051871653:=()
def tw9601497818160689693:=()
def tw10242254629215959826:=()
def tw3839484071722571549:=()
def tw7324902363567230867:=()
def tw6969072860579734462:=()
def tw6971634098645895212:=()
def tw6272941553677650734:=()
def tw12123617734825719795:=()
def tw15604039429603420034:=()
def tw5304683989305388700:=()
def tw8995033595686702041:=()
def tw12017477922798272313:=()
def tw5837122349845033447:=()
def tw6087002144650342815:=()
def tw2105990701730391080:=()
def tw10706176616439587374:=()
def tw6055272080994854911:=()
def tw16789898199821942154:=()
def tw3124281765599646547:=()
def tw12621386040879247179:=()
def tw10085302202139701126:=()
def tw457070272521880487:=()
def tw456884253974678041:=()
def tw6122776818172770965:=()
def tw7723894876053006809:=()
def tw9337072916473673485:=()
def tw7719664078595705464:=()
def tw3875568815689191486:=()
def tw7973601252359808133:=()
def tw16709499449915744007:=()
def tw2157631650614140642:=()
def tw6876905531641758437:=()
def tw514249502138479736:=()
def tw16273033755138168748:=()
def tw2307882263145784630:=()
def tw14683958577009774497:=()
def tw17802770517340917673:=()
def tw13012626625058719923:=()
def tw14725540326051686035:=()
def tw16581564984737137645:=()
def tw15211026635870005390:=()
def tw14340049624137764880:=()
def tw6745311984420179512:=()
def tw3022718366953167151:=()
def tw2675648057180239682:=()
def tw3304301527727794248:=()
def tw10364022203747678873:=()
def tw6090402267830293782:=()
def tw3863133084204667406:=()
def tw15077844508353905334:=()
def tw6365298633269426360:=()
def tw12415830324133571761:=()
def tw16933653505891794180:=()
def tw15555955929701791012:=()
def tw16028460377238720638:=()
def tw6924422048520094495:=()
def tw548078951670462940:=()
def tw8886336109533338095:=()
def tw10830306735769962502:=()
def tw649615524686150978:=()
def tw4609803010905961119:=()
def tw14818284245945426246:=()
def tw483793947914950697:=()
def tw10395381329844285427:=()
def tw16190615700326157123:=()
def tw10268639868692940148:=()
def tw11029777477228169609:=()
def tw11394165750109919549:=()
def tw3862584655528401503:=()
def tw2128067525271515933:=()
def tw2296883492851409087:=()
def tw1092986170709746942:=()
end PySem.W.Fast
open PySem PySem.W PyProof.Rows
set_option maxRecDepth 100000 in
set_option maxHeartbeats 0 in
theorem PySem.Challenge.cw_spantolls_k02_whole_worths_holds : PySem.Challenge.rw_spantolls_k02_whole_worths.Holds := by
  w_on;o_law;k_head;(case hw=>w_witness2)
  k_fill
  refine Sp.walk (l:=PySem.Challenge.rw_spantolls_k02_whole_worths) (ts:=[183,178]) rfl rfl rfl (λ w h Y=>PySem.W.km_in_of Y) (λ w h Y=>PySem.W.km_tabs_of Y) ?F
  case F =>
    intro w mg h KX G;have bl:Sp.Bl mg:=by
      refine' ⟨PySem.W.mg_none_of KX G ?z0,PySem.W.mg_none_of KX G ?z1,PySem.W.mg_none_of KX G ?z2,PySem.W.mg_none_of KX G ?z3,PySem.W.mg_none_of KX G ?z4,PySem.W.mg_none_of KX G ?z5,PySem.W.mg_none_of KX G ?z6,PySem.W.mg_none_of KX G ?z7,PySem.W.mg_none_of KX G ?z8,PySem.W.mg_none_of KX G ?z9,PySem.W.mg_none_of KX G ?z10,PySem.W.mg_none_of KX G ?z11,PySem.W.mg_none_of KX G ?z12,PySem.W.mg_none_of KX G ?z13,PySem.W.mg_none_of KX G ?z14,PySem.W.mg_none_of KX G ?z15,PySem.W.mg_none_of KX G ?z16,PySem.W.mg_none_of KX G ?z17,PySem.W.mg_none_of KX G ?z18⟩
      (case z0=>k_is);(case z1=>k_is);(case z2=>k_is);(case z3=>k_is);(case z4=>k_is);(case z5=>k_is);(case z6=>k_is);(case z7=>k_is);(case z8=>k_is);(case z9=>k_is);(case z10=>k_is);(case z11=>k_is);(case z12=>k_is);(case z13=>k_is);(case z14=>k_is);(case z15=>k_is);(case z16=>k_is);(case z17=>k_is);(case z18=>k_is)
    refine' ⟨0,?CB,0,0,0,?fB,?dB,?CN,?fI,?dI,?c1,178,?c2,183,?CQ,?CR,⟨?d_is_whole,?d_are_days,?d_is_request,?d_are_requests,?d_are_rooms,?d_check_requests,?d_check_rooms,?d_points_of,?d_sweep,?d_filled,?d_best,?d_worths,?d__law_cell_at,?d__law_draw,?d__law_requests,?d__law_whole,?d__law_chosen,?d__law_there,?d__law_worth,?d__law_best,?d_law,bl,Sp.err_mk KX G ?nmq ?exq,Sp.err_mk KX G ?nmr ?exr,?an,?ln,?l1,?l2,?h1,?h2⟩,List.mem_cons_of_mem _ (List.mem_cons_self ..),List.mem_cons_self ..⟩
    case d_is_whole =>
      refine' Sp.fnAt_mk KX G ?a ?l ?c ?k (λ _ _ _ _ _ _ us hl=>match us,hl with | [_],_=>rfl)
      (case a=>k_is);(case l=>k_is);(case c=>k_is);(case k=>k_is)
    case d_are_days =>
      refine' Sp.fnAt_mk KX G ?a ?l ?c ?k (λ _ _ _ _ _ _ us hl=>match us,hl with | [_,_],_=>rfl)
      (case a=>k_is);(case l=>k_is);(case c=>k_is);(case k=>k_is)
    case d_is_request =>
      refine' Sp.fnAt_mk KX G ?a ?l ?c ?k (λ _ _ _ _ _ _ us hl=>match us,hl with | [_],_=>rfl)
      (case a=>k_is);(case l=>k_is);(case c=>k_is);(case k=>k_is)
    case d_are_requests =>
      refine' Sp.fnAt_mk KX G ?a ?l ?c ?k (λ _ _ _ _ _ _ us hl=>match us,hl with | [_],_=>rfl)
      (case a=>k_is);(case l=>k_is);(case c=>k_is);(case k=>k_is)
    case d_are_rooms =>
      refine' Sp.fnAt_mk KX G ?a ?l ?c ?k (λ _ _ _ _ _ _ us hl=>match us,hl with | [_],_=>rfl)
      (case a=>k_is);(case l=>k_is);(case c=>k_is);(case k=>k_is)
    case d_check_requests =>
      refine' Sp.fnAt_mk KX G ?a ?l ?c ?k (λ _ _ _ _ _ _ us hl=>match us,hl with | [_],_=>rfl)
      (case a=>k_is);(case l=>k_is);(case c=>k_is);(case k=>k_is)
    case d_check_rooms =>
      refine' Sp.fnAt_mk KX G ?a ?l ?c ?k (λ _ _ _ _ _ _ us hl=>match us,hl with | [_],_=>rfl)
      (case a=>k_is);(case l=>k_is);(case c=>k_is);(case k=>k_is)
    case d_points_of =>
      refine' Sp.fnAt_mk KX G ?a ?l ?c ?k (λ _ _ _ _ _ _ us hl=>match us,hl with | [_],_=>rfl)
      (case a=>k_is);(case l=>k_is);(case c=>k_is);(case k=>k_is)
    case d_sweep =>
      refine' Sp.fnAt_mk KX G ?a ?l ?c ?k (λ _ _ _ _ _ _ us hl=>match us,hl with | [_,_,_],_=>rfl)
      (case a=>k_is);(case l=>k_is);(case c=>k_is);(case k=>k_is)
    case d_filled =>
      refine' Sp.fnAt_mk KX G ?a ?l ?c ?k (λ _ _ _ _ _ _ us hl=>match us,hl with | [_,_],_=>rfl)
      (case a=>k_is);(case l=>k_is);(case c=>k_is);(case k=>k_is)
    case d_best =>
      refine' Sp.fnAt_mk KX G ?a ?l ?c ?k (λ _ _ _ _ _ _ us hl=>match us,hl with | [_,_],_=>rfl)
      (case a=>k_is);(case l=>k_is);(case c=>k_is);(case k=>k_is)
    case d_worths =>
      refine' Sp.fnAt_mk KX G ?a ?l ?c ?k (λ _ _ _ _ _ _ us hl=>match us,hl with | [_,_],_=>rfl)
      (case a=>k_is);(case l=>k_is);(case c=>k_is);(case k=>k_is)
    case d__law_cell_at =>
      refine' Sp.fnAt_mk KX G ?a ?l ?c ?k (λ _ _ _ _ _ _ us hl=>match us,hl with | [_,_],_=>rfl)
      (case a=>k_is);(case l=>k_is);(case c=>k_is);(case k=>k_is)
    case d__law_draw =>
      refine' Sp.fnAt_mk KX G ?a ?l ?c ?k (λ _ _ _ _ _ _ us hl=>match us,hl with | [_,_,_],_=>rfl)
      (case a=>k_is);(case l=>k_is);(case c=>k_is);(case k=>k_is)
    case d__law_requests =>
      refine' Sp.fnAt_mk KX G ?a ?l ?c ?k (λ _ _ _ _ _ _ us hl=>match us,hl with | [_],_=>rfl)
      (case a=>k_is);(case l=>k_is);(case c=>k_is);(case k=>k_is)
    case d__law_whole =>
      refine' Sp.fnAt_mk KX G ?a ?l ?c ?k (λ _ _ _ _ _ _ us hl=>match us,hl with | [_],_=>rfl)
      (case a=>k_is);(case l=>k_is);(case c=>k_is);(case k=>k_is)
    case d__law_chosen =>
      refine' Sp.fnAt_mk KX G ?a ?l ?c ?k (λ _ _ _ _ _ _ us hl=>match us,hl with | [_,_],_=>rfl)
      (case a=>k_is);(case l=>k_is);(case c=>k_is);(case k=>k_is)
    case d__law_there =>
      refine' Sp.fnAt_mk KX G ?a ?l ?c ?k (λ _ _ _ _ _ _ us hl=>match us,hl with | [_,_,_],_=>rfl)
      (case a=>k_is);(case l=>k_is);(case c=>k_is);(case k=>k_is)
    case d__law_worth =>
      refine' Sp.fnAt_mk KX G ?a ?l ?c ?k (λ _ _ _ _ _ _ us hl=>match us,hl with | [_,_],_=>rfl)
      (case a=>k_is);(case l=>k_is);(case c=>k_is);(case k=>k_is)
    case d__law_best =>
      refine' Sp.fnAt_mk KX G ?a ?l ?c ?k (λ _ _ _ _ _ _ us hl=>match us,hl with | [_,_,_,_],_=>rfl)
      (case a=>k_is);(case l=>k_is);(case c=>k_is);(case k=>k_is)
    case d_law =>
      refine' Sp.fnAt_mk KX G ?a ?l ?c ?k (λ _ _ _ _ _ _ us hl=>match us,hl with | [_],_=>rfl)
      (case a=>k_is);(case l=>k_is);(case c=>k_is);(case k=>k_is)
    (case nmq=>k_is)
    (case nmr=>k_is)
    (case exq=>kernel_rfl)
    (case exr=>kernel_rfl)
    case an =>
      refine' ⟨PySem.W.mg_of KX G ?mB,?okB,?nt,?nl,?mk,?gB,?bB⟩
      (case mB=>k_is)
      case okB =>
        refine' ⟨⟨?a1,?a2,?a3,?a4⟩,?a5,?a6,?a7,?a8⟩
        (case a1=>kernel_rfl);(case a2=>kernel_rfl);(case a3=>kernel_rfl);(case a4=>k_is);(case a5=>k_is);(case a6=>k_is);(case a7=>k_is);(case a8=>k_is)
      (case nt=>unfold L2.NoAttr;k_is)
      (case nl=>unfold L2.NoAttr;k_is)
      case mk =>
        refine' ⟨?a1,?a2,?a3,?a4⟩
        (case a1=>kernel_rfl);(case a2=>k_is);(case a3=>kernel_rfl);(case a4=>kernel_rfl)
      case gB =>
        refine' L2.fun_mk ?l ?c ?k
        (case l=>k_is);(case c=>k_is);(case k=>k_is)
      (case bB=>exact L2.Binds.all (λ us hl=>match us,hl with | [_,_,_],_=>rfl))
    case ln =>
      intro base b1 b2;refine' ⟨PySem.W.mg_of KX G ?mN,?cl,?nr,?np,?nm,?nh,?ne,?nw,?mk,?gI,?bI,?ru,?mo,?mb,?cb,?gr,?ad,?ch,?dt,⟨λ h X=>PySem.W.codeHd_of_K X ?t1,b1⟩,⟨λ h X=>PySem.W.codeHd_of_K X ?t2,b2⟩,?n12⟩
      (case mN=>k_is)
      case cl =>
        refine' ⟨?a1,?a2,?a3,?a4⟩
        (case a1=>kernel_rfl);(case a2=>kernel_rfl);(case a3=>kernel_rfl);(case a4=>k_is)
      (case nr=>unfold L2.NoAttr;k_is)
      (case np=>unfold L2.NoAttr;k_is)
      (case nm=>unfold L2.NoAttr;k_is)
      (case nh=>unfold L2.NoAttr;k_is)
      (case ne=>unfold L2.NoAttr;k_is)
      (case nw=>unfold L2.NoAttr;k_is)
      case mk =>
        refine' ⟨?a1,?a2,?a3,?a4⟩
        (case a1=>kernel_rfl);(case a2=>k_is);(case a3=>kernel_rfl);(case a4=>kernel_rfl)
      case gI =>
        refine' L2.fun_mk ?l ?c ?k
        (case l=>k_is);(case c=>k_is);(case k=>k_is)
      (case bI=>exact L2.Binds.all (λ us hl=>match us,hl with | [_,_,_,_],_=>rfl))
      case ru =>
        refine' Sp.mtAt_mk ⟨?a1,?a2,?a3⟩ ?l ?c ?k (λ _ _ _ _ _ _ us hl=>match us,hl with | [_],_=>rfl)
        (case a1=>k_is);(case a2=>kernel_rfl);(case a3=>kernel_rfl);(case l=>k_is);(case c=>k_is);(case k=>k_is)
      case cb =>
        refine' Sp.mtAt_mk ⟨?a1,?a2,?a3⟩ ?l ?c ?k (λ _ _ _ _ _ _ us hl=>match us,hl with | [_],_=>rfl)
        (case a1=>k_is);(case a2=>kernel_rfl);(case a3=>kernel_rfl);(case l=>k_is);(case c=>k_is);(case k=>k_is)
      case gr =>
        refine' Sp.mtAt_mk ⟨?a1,?a2,?a3⟩ ?l ?c ?k (λ _ _ _ _ _ _ us hl=>match us,hl with | [_],_=>rfl)
        (case a1=>k_is);(case a2=>kernel_rfl);(case a3=>kernel_rfl);(case l=>k_is);(case c=>k_is);(case k=>k_is)
      case ad =>
        refine' Sp.mtAt_mk ⟨?a1,?a2,?a3⟩ ?l ?c ?k (λ _ _ _ _ _ _ us hl=>match us,hl with | [_],_=>rfl)
        (case a1=>k_is);(case a2=>kernel_rfl);(case a3=>kernel_rfl);(case l=>k_is);(case c=>k_is);(case k=>k_is)
      case ch =>
        refine' Sp.mtAt_mk ⟨?a1,?a2,?a3⟩ ?l ?c ?k (λ _ _ _ _ _ _ us hl=>match us,hl with | [_],_=>rfl)
        (case a1=>k_is);(case a2=>kernel_rfl);(case a3=>kernel_rfl);(case l=>k_is);(case c=>k_is);(case k=>k_is)
      case dt =>
        refine' Sp.mtAt_mk ⟨?a1,?a2,?a3⟩ ?l ?c ?k (λ _ _ _ _ _ _ us hl=>match us,hl with | [_],_=>rfl)
        (case a1=>k_is);(case a2=>kernel_rfl);(case a3=>kernel_rfl);(case l=>k_is);(case c=>k_is);(case k=>k_is)
      case mo =>
        refine' Sp.mtAtC_mk ⟨?a1,?a2,?a3⟩ ?l ?c (λ _ _ _ _ _ _ us hl=>match us,hl with | [_],_=>rfl)
        (case a1=>k_is);(case a2=>kernel_rfl);(case a3=>kernel_rfl);(case l=>k_is);(case c=>k_is)
      case mb =>
        refine' Sp.mtAtC_mk ⟨?a1,?a2,?a3⟩ ?l ?c (λ _ _ _ _ _ _ us hl=>match us,hl with | [_],_=>rfl)
        (case a1=>k_is);(case a2=>kernel_rfl);(case a3=>kernel_rfl);(case l=>k_is);(case c=>k_is)
      (case t1=>kernel_rfl)
      (case t2=>kernel_rfl)
      (case n12=>decide)
    (case l1=>kernel_rfl)
    (case l2=>kernel_rfl)
    (case h1=>kernel_rfl)
    (case h2=>kernel_rfl)
