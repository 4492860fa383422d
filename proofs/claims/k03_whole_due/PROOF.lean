import PyProof.Rows.All
import KE.KIsAll
import Wide.All
import OpenK.AllK
import Wide.FinOn
import PyProof.EqAt
import PyProof.EqKinds
import PyProof.TupleCall
import OpenK.KOwn
import PyProof.NeKinds
import PyProof.ExcBaseAll.ValueError
import PyProof.ExcAttrAll.ValueError
import PyProof.SetKind
import PyProof.Rows.SetFrom
import PyProof.CollectWalk
import PyProof.Rows.SortRuns
import PyProof.Rows.SortShell
import KE.KSortTup
import PyProof.EnumMake
import PyProof.EnumFor
import PyProof.EnumStmt
import PyProof.Rows.ListMul
import PyProof.Rows.ListMulCarried
import PyProof.SeqI3
import KE.KLam
import PyProof.WalkInts
import KE.KMinBuiltin
import PyProof.Rows.CallKwBuiltin
import KE.KSortKey
import PyProof.AttrMissSeq
import KE.KDictOf
import KE.KNestM
import Lean
import PySem.Challenge.RW_spantolls_k03_whole_due
set_option Elab.async false
set_option linter.all false
local macro_rules|`(tactic|sleep $n)=>`(tactic|((try dsimp -zeta -zetaUnused -zetaHave only);(iterate $n (extract_lets -underBinder +onlyGivenNames -merge -useContext zz;subst zz));(try dsimp -zeta -zetaUnused -zetaHave only)))
namespace Lg
noncomputable abbrev Tr:=Int×Int×Int
section
variable (rs:List Tr)
noncomputable def rq (c:Nat):Tr:=rs.getD c (0,0,0)
variable {rs}
end
end Lg
set_option maxRecDepth 100000
namespace L2
open PySem PySem.Spec PyProof.Rows
noncomputable abbrev Key:=Sum Int Str
noncomputable def nD:Key→Value→Bool
  | .inl k,v=>Value.isInt k v
  | .inr x,v=>Value.isStrOf x v
noncomputable def Kc (w:World):Key→Int
  | .inl k=>hashInt k
  | .inr x=>hashStr w x
theorem bY:∀ {k:Key} {v:Value},nD k v=true→(∃ i t,k=Sum.inl i∧v=Value.int i t)∨(∃ x t,k=Sum.inr x∧v=Value.str x t)
  | .inl i,v,h=>by
    obtain ⟨t,e⟩:=Value.isInt_shape (k:=i) (v:=v) h;exact .inl ⟨i,t,rfl,e⟩
  | .inr x,v,h=>by
    obtain ⟨t,e⟩:=Value.isStrOf_shape (x:=x) (v:=v) h;exact .inr ⟨x,t,rfl,e⟩
theorem vU (i:Int) (t:Tok):nD (.inl i) (.int i t)=true:=by simp [nD,Value.isInt]
theorem vV (x:Str) (t:Tok):nD (.inr x) (.str x t)=true:=by simp [nD,Value.isStrOf]
theorem C5 (a b:Int):decide ((Sum.inl a:Key)=Sum.inl b)=(a == b):=by
  by_cases e:a=b
  · subst e;simp
  · have h:¬ (Sum.inl a:Key)=Sum.inl b:=λ q=>e (Sum.inl.inj q);rw [decide_eq_false h];exact (beq_eq_false_iff_ne.mpr e).symm
theorem C_ (a b:Str):decide ((Sum.inr a:Key)=Sum.inr b)=decide (a=b):=by
  by_cases e:a=b
  · subst e;simp
  · have h:¬ (Sum.inr a:Key)=Sum.inr b:=λ q=>e (Sum.inr.inj q);rw [decide_eq_false h,decide_eq_false e]
theorem Dc (a:Int) (b:Str):decide ((Sum.inl a:Key)=Sum.inr b)=false:=decide_eq_false (λ q=>nomatch q)
theorem Dd (a:Str) (b:Int):decide ((Sum.inr a:Key)=Sum.inl b)=false:=decide_eq_false (λ q=>nomatch q)
noncomputable def cE (prog:Program) (w:World):PySem.KeyKind prog w Key where
  is:=nD
  hash:=Kc w
  inj:=λ v a b ha hb=>by
    rcases bY ha with ⟨i,t,rfl,rfl⟩ | ⟨x,t,rfl,rfl⟩
    · rcases bY hb with ⟨j,u,rfl,e⟩ | ⟨y,u,rfl,e⟩
      · injection e with e1 _;rw [e1]
      · exact nomatch e
    · rcases bY hb with ⟨j,u,rfl,e⟩ | ⟨y,u,rfl,e⟩
      · exact nomatch e
      · injection e with e1 _;rw [e1]
  byValue:=λ k v h=>by
    rcases bY h with ⟨i,t,rfl,rfl⟩ | ⟨x,t,rfl,rfl⟩<;>rfl
  pyHash:=λ hv h=>by
    rcases bY hv with ⟨i,t,rfl,rfl⟩ | ⟨x,t,rfl,rfl⟩
    · exact wpAny_pyHash_int h
    · exact wpAny_pyHash_str h
  eqBool:=λ hu hv h=>by
    rcases bY hu with ⟨i,t,rfl,rfl⟩ | ⟨x,t,rfl,rfl⟩
    · rcases bY hv with ⟨j,u,rfl,rfl⟩ | ⟨y,u,rfl,rfl⟩
      · rw [C5] at h;exact wpAny_eqBool_int h
      · rw [Dc] at h;exact SeqAt.EqAt.int_str i t y u _ _ _ _ h
    · rcases bY hv with ⟨j,u,rfl,rfl⟩ | ⟨y,u,rfl,rfl⟩
      · rw [Dd] at h;exact SeqAt.EqAt.str_int x t j u _ _ _ _ h
      · rw [C_] at h;exact wpAny_eqBool_str h
  «strs»:=λ k x t v h=>by
    rcases bY h with ⟨i,u,rfl,e⟩ | ⟨y,u,rfl,e⟩
    · exact nomatch e
    · injection e with e1 _;subst e1;cases v<;>rfl
theorem qv (prog:Program) (w:World) (i:Int) (t:Tok):(cE prog w).is (.inl i) (.int i t)=true:=vU i t
theorem qw (prog:Program) (w:World) (x:Str) (t:Tok):(cE prog w).is (.inr x) (.str x t)=true:=vV x t
inductive V where
  | cc | bl (b:Bool) | int (i:Int) | str (x:Str) | xB (b:Array UInt8) | Ax (b:UInt64) | ref (a:Addr) | ty (n:String)
  deriving DecidableEq
noncomputable def RelV:V→Value→Prop
  | .cc,u=>u=Value.none
  | .bl b,u=>u=Value.bool b
  | .int i,u=>∃ t,u=Value.int i t
  | .str x,u=>∃ t,u=Value.str x t
  | .xB b,u=>∃ t,u=Value.bytes b t
  | .Ax b,u=>∃ t,u=Value.float b t
  | .ref a,u=>u=Value.ref a
  | .ty n,u=>u=Value.type n
noncomputable abbrev Vals:List V→List Value→Prop:=Paired RelV
theorem Vals.length {xs:List V} {us:List Value} (r:Vals xs us):xs.length=us.length:=Paired.length r
theorem Vals.get:∀ {xs:List V} {us:List Value} {i:Nat} {x:V},Vals xs us→xs[i]?=some x→∃ u,us[i]?=some u∧RelV x u
  | _,_,_,_,.nil,e=>by simp at e
  | _,_,0,_,.cons r _,e=>by simp at e;subst e;exact ⟨_,rfl,r⟩
  | _,_,i + 1,x,.cons _ t,e=>by
    obtain ⟨u,h1,h2⟩:=Vals.get (i:=i) (x:=x) t (by simpa using e);exact ⟨u,by simpa using h1,h2⟩
theorem Vals.set {x:V} {u:Value} (r:RelV x u):∀ {xs:List V} {us:List Value} (i:Nat),Vals xs us→Vals (xs.set i x) (us.set i u)
  | _,_,_,.nil=>.nil
  | _,_,0,.cons _ t=>.cons r t
  | _,_,i + 1,.cons q t=>.cons q (Vals.set r i t)
theorem Vals.append:∀ {xs ys:List V} {us ws:List Value},Vals xs us→Vals ys ws→Vals (xs ++ ys) (us ++ ws)
  | _,_,_,_,.nil,s=>s
  | _,_,_,_,.cons r t,s=>.cons r (Vals.append t s)
theorem Vals.take:∀ {xs:List V} {us:List Value} (n:Nat),Vals xs us→Vals (xs.take n) (us.take n)
  | _,_,0,_=>.nil
  | _,_,_ + 1,.nil=>.nil
  | _,_,n + 1,.cons r t=>.cons r (Vals.take n t)
theorem Vals.drop:∀ {xs:List V} {us:List Value} (n:Nat),Vals xs us→Vals (xs.drop n) (us.drop n)
  | _,_,0,r=>r
  | _,_,_ + 1,.nil=>.nil
  | _,_,n + 1,.cons _ t=>Vals.drop n t
noncomputable def jc:Option V→Option Value→Prop
  | some v,some u=>RelV v u
  | none,none=>True
  | _,_=>False
noncomputable def KV {κ:Type}:List (κ×V)→List (κ×Value)→Prop:=Paired λ (p:κ×V) (q:κ×Value)=>p.1=q.1∧RelV p.2 q.2
noncomputable def kV:Key→V
  | .inl i=>.int i
  | .inr x=>.str x
inductive HO where
    | lst (xs:List V)
    | tup (xs:List V)
    | dK (bE:List (Key×V)) | dT (bE:List (List Key×V))
    | set (S:Int→Bool) (n:Nat)
    | ins (C dx:Addr) (fs:List (Str×V))
    | own (x:Addr)
    | xd (fs:List (Str×V))
    | met (f x:Addr)
    | Jh (lo hi:Int)
    | iD (o:Obj) (u:HO)
    | gj (ps:Array Value)
    | ext (φ:Heap→Prop)
noncomputable abbrev Hp:=Addr→Option HO
noncomputable def upd (H:Hp) (a:Addr) (o:HO):Hp:=λ b=>if b=a then some o else H b
theorem af {H:Hp} {a:Addr} {o:HO}:upd H a o a=some o:=by unfold upd;rw [if_pos rfl]
theorem aq {H:Hp} {a b:Addr} {o:HO} (h:b≠a):upd H a o b=H b:=by unfold upd;rw [if_neg h]
theorem nE {H:Hp} {a b:Addr} {o u:HO} (h:H a=some o) (h':H b=some u) (d:o≠u):a≠b:=by
  intro e;subst e;rw [h] at h';exact d (Option.some.inj h')
theorem ay {H:Hp} {a b:Addr} {o:HO} (h:H a=some o) (h':H b=none):a≠b:=by
  intro e;subst e;rw [h] at h';cases h'
section
variable (P:Program) (w:World)
noncomputable def bZ (H:Hp) (h:Heap) (a:Addr):HO→Prop
  | .lst xs=>xs.length≤sizeLine∧∃ (its:List Value) (n:Nat),Vals xs its∧h.get? a=some { cls:=.type "list",data:=.seq its.toArray n }
  | .tup xs=>xs.length≤sizeLine∧∃ its:List Value,Vals xs its∧IsTup h a its.toArray
  | .dK bE=>bE.length≤sizeLine∧(a == sysModules)=false∧∃ vs,KV bE vs∧h.DictOf (cE P w) a vs
  | .dT bE=>bE.length≤sizeLine∧(a == sysModules)=false∧∃ xs:List (List Key×Addr×Value),
      Paired (λ (p:List Key×V) (q:List Key×Addr×Value)=>p.1=q.1∧H q.2.1=some (.tup (p.1.map kV))∧RelV p.2 q.2.2) bE xs ∧
      ∃ o es ep,h.get? a=some o∧o.ExactDict∧o.data = .dict es ep∧es.toList=xs.map (entryOfKey (tupleKind (cE P w)))∧(xs.map (·.1)).Nodup
  | .set S n=>h.SetOf (intKind P w) a S n
  | .ins C dx fs=>H dx=some (.own a)∧fs.length≤1000∧dx≠a∧h.get? a=some (PySem.W.instObj C dx) ∧
      ∃ mA,h.Ns1 dx mA∧(∀ f,jc (fs.lookup f) (mA f))∧PySem.Within mA (fs.map (·.1))
  | .own _=>∃ o,h.get? a=some o
  | .xd fs=>∃ mA,h.Ns1 a mA∧∀ f,jc (fs.lookup f) (mA f)
  | .Jh lo hi=>∃ t u v,h.get? a=some { cls:=.type "range",data:=.fields #[.int lo t,.int hi u,.int 1 v] }
  | .iD o u=>h.get? a=some o∧bZ H h a u
  | .gj ps=>h.get? a=some { cls:=.none,data:=.fields ps }
  | .met f x=>h.get? a=some (PySem.W.methodObj (.ref f) (.ref x))
  | .ext φ=>φ h∧(∃ o,h.get? a=some o)∧∀ h1 h2:Heap,φ h1→(∀ o,h1.get? a=some o→h2.get? a=some o)→φ h2
noncomputable def jd (H:Hp) (h:Heap):Prop:=∀ a o,H a=some o→bZ P w H h a o
end
section
variable {P:Program} {w:World} {H H':Hp} {h h':Heap} {a:Addr} {o:HO}
theorem bZ.lt (x:bZ P w H h a o):a < h.objs.size:=by
  cases o with
  | lst xs=>obtain ⟨_,_,_,_,e⟩:=x;exact Heap.lt_size e
  | tup xs=>obtain ⟨_,_,_,p⟩:=x;exact p.lt
  | dK bE=>obtain ⟨_,_,_,_,o,_,_,e,_⟩:=x;exact Heap.lt_size e
  | dT bE=>obtain ⟨_,_,_,_,o,_,_,e,_⟩:=x;exact Heap.lt_size e
  | set S n=>obtain ⟨o,_,_,_,e,_⟩:=x;exact Heap.lt_size e
  | ins C dx fs=>obtain ⟨_,_,_,e,_⟩:=x;exact Heap.lt_size e
  | own y=>obtain ⟨_,e⟩:=x;exact Heap.lt_size e
  | xd fs=>obtain ⟨_,⟨_,_,_,e,_⟩,_⟩:=x;exact Heap.lt_size e
  | Jh lo hi=>obtain ⟨_,_,_,e⟩:=x;exact Heap.lt_size e
  | iD ob u=>obtain ⟨e,_⟩:=x;exact Heap.lt_size e
  | gj ps=>exact Heap.lt_size (show h.get? a=some _ from x)
  | met f y=>exact Heap.lt_size (show h.get? a=some _ from x)
  | ext φ=>obtain ⟨_,⟨_,e⟩,_⟩:=x;exact Heap.lt_size e
theorem Paired.FQ {α β:Type} {F G:α→β→Prop}:∀ {l₁:List α} {l₂:List β},Paired F l₁ l₂→(∀ a b,F a b→G a b)→Paired G l₁ l₂
  | _,_,.nil,_=>.nil
  | _,_,.cons r t,f=>.cons (f _ _ r) (Paired.FQ t f)
theorem bZ.k7 (x:bZ P w H h a o) (k:∀ b u,(b=a∨H b=some (.own a))→h.get? b=some u→h'.get? b=some u)
    (ho:∀ b,H b=some (.own a)→H' b=some (.own a)) (ht:∀ b xs,H b=some (.tup xs)→H' b=some (.tup xs)):bZ P w H' h' a o:=by
  induction o with
  | lst xs=>obtain ⟨z,its,n,r,e⟩:=x;exact ⟨z,its,n,r,k _ _ (.inl rfl) e⟩
  | tup xs=>obtain ⟨z,its,r,ob,e,c⟩:=x;exact ⟨z,its,r,ob,k _ _ (.inl rfl) e,c⟩
  | dK bE=>obtain ⟨z,y,vs,r,ob,es,ep,e,c⟩:=x;exact ⟨z,y,vs,r,ob,es,ep,k _ _ (.inl rfl) e,c⟩
  | dT bE =>
    obtain ⟨z,y,xs,r,ob,es,ep,e,c⟩:=x;exact ⟨z,y,xs,Paired.FQ r λ p q z=>⟨z.1,ht _ _ z.2.1,z.2.2⟩,ob,es,ep,k _ _ (.inl rfl) e,c⟩
  | set S n=>obtain ⟨ob,es,ep,t,e,c⟩:=x;exact ⟨ob,es,ep,t,k _ _ (.inl rfl) e,c⟩
  | ins C dx fs =>
    obtain ⟨d,z,ne,e,mA,⟨od,es,ep,e2,c⟩,r⟩:=x;exact ⟨ho _ d,z,ne,k _ _ (.inl rfl) e,mA,⟨od,es,ep,k _ _ (.inr d) e2,c⟩,r⟩
  | own y=>obtain ⟨ob,e⟩:=x;exact ⟨ob,k _ _ (.inl rfl) e⟩
  | xd fs=>obtain ⟨mA,⟨od,es,ep,e,c⟩,r⟩:=x;exact ⟨mA,⟨od,es,ep,k _ _ (.inl rfl) e,c⟩,r⟩
  | Jh lo hi=>obtain ⟨t,u,v,e⟩:=x;exact ⟨t,u,v,k _ _ (.inl rfl) e⟩
  | iD ob u ih=>obtain ⟨e,q⟩:=x;exact ⟨k _ _ (.inl rfl) e,ih q⟩
  | gj ps =>
    have e:h.get? a=some { cls:=.none,data:=.fields ps }:=x;show h'.get? a=some { cls:=.none,data:=.fields ps };exact k a _ (.inl rfl) e
  | met f y =>
    have e:h.get? a=some (PySem.W.methodObj (.ref f) (.ref y)):=x;show h'.get? a=some (PySem.W.methodObj (.ref f) (.ref y));exact k a _ (.inl rfl) e
  | ext φ=>obtain ⟨p,⟨o,e⟩,st⟩:=x;exact ⟨st _ _ p λ o q=>k _ _ (.inl rfl) q,⟨o,k _ _ (.inl rfl) e⟩,st⟩
theorem jd.lt (x:jd P w H h) (e:H a=some o):a < h.objs.size:=(x a o e).lt
theorem jd.fresh (x:jd P w H h) (e:h.objs.size≤a):H a=none:=by
  cases q:H a with
  | none=>rfl
  | some u=>exact absurd (Nat.lt_of_lt_of_le (x.lt q) e) (Nat.lt_irrefl _)
theorem jd.kept (x:jd P w H h) (k:∀ b u,h.get? b=some u→h'.get? b=some u):jd P w H h':=λ a o e =>
  (x a o e).k7 (λ b u _ q=>k b u q) (λ _ q=>q) λ _ _ q=>q
theorem jd.laid (x:jd P w H h) (k:∀ b u,h.get? b=some u→h'.get? b=some u) (hp:h.objs.size≤a) (new:bZ P w (upd H a o) h' a o):jd P w (upd H a o) h':=λ b u e=>by
  have hn:=x.fresh hp
  by_cases hb:b=a
  · subst hb;rw [af] at e;cases e;exact new
  · rw [aq hb] at e;exact (x b u e).k7 (λ c v _ q=>k c v q) (λ c q=>by rw [aq (ay q hn)];exact q) λ c xs q=>by rw [aq (ay q hn)];exact q
end
noncomputable def Rd (H:Hp) (a:Addr) (u:HO):Prop:=H a=some u∨∃ o,H a=some (.iD o u)
theorem Rd.ok {P:Program} {w:World} {H:Hp} {h:Heap} {a:Addr} {u:HO} (r:Rd H a u) (x:jd P w H h):bZ P w H h a u:=by
  rcases r with r | ⟨o,r⟩
  · exact x a u r
  · obtain ⟨_,q⟩:=x a _ r;exact q
noncomputable def Ji:Option HO→Prop
  | some (.lst _)=>True
  | some (.dK _)=>True
  | some (.dT _)=>True
  | some (.set _ _)=>True
  | some (.ins _ _ _)=>True
  | some (.ext _)=>True
  | _=>False
section
variable {P:Program} {w:World} {H:Hp} {h h':Heap} {x e:Addr} {o':HO}
theorem jd.write (ok:jd P w H h) (mu:Ji (H x)) (he:e=x∨H e=some (.own x)) (k:∀ b u,b≠e→h.get? b=some u→h'.get? b=some u) (E2:∃ u,h'.get? e=some u)
    (new:bZ P w (upd H x o') h' x o'):jd P w (upd H x o') h':=λ b u q=>by
  have FR:∀ c y,H c=some (.own y)→c≠x:=λ c y r z=>by subst z;rw [r] at mu;exact mu
  have Kd:∀ c xs,H c=some (.tup xs)→c≠x:=λ c xs r z=>by subst z;rw [r] at mu;exact mu
  by_cases hb:b=x
  · subst hb;rw [af] at q;cases q;exact new
  · rw [aq hb] at q
    by_cases De:b=e
    · have q':H b=some (.own x):=by
        rcases he with z | z
        · exact absurd (De.trans z) hb
        · rw [De];exact z
      rw [q] at q';cases q';obtain ⟨v,hv⟩:=E2;exact ⟨v,by rw [De];exact hv⟩
    · refine (ok b u q).k7 (λ c v hc r=>k c v ?_ r) (λ c r=>by rw [aq (FR c b r)];exact r) λ c xs r=>by rw [aq (Kd c xs r)];exact r
      rcases hc with rfl | hc
      · exact De
      · rintro rfl;rcases he with z | z
        · exact FR c b hc z
        · rw [hc] at z;cases z;exact hb rfl
end
structure Un (fs ex:List Addr) (H H':Hp) (h h':Heap):Prop where
  keep:∀ b o,h.get? b=some o→H b=none→b∉fs→b∉ex→h'.get? b=some o
  slot:∀ b o,h.get? b=some o→H b=none→b∈fs→b∉ex→∃ sl,h'.get? b=some { o with slots:=sl }
  free:∀ b o,h.get? b=some o→H b=none→b∉ex→H' b=none
  there:∀ b o,h.get? b=some o→b∉ex→∃ o',h'.get? b=some o'
  oW:∀ b xs,H b=some (.tup xs)→H' b=some (.tup xs)
  mU:∀ b o u,H b=some (.iD o u)→H' b=some (.iD o u)
  mV:∀ b ps,H b=some (.gj ps)→∃ more,H' b=some (.gj (ps ++ more))
section
variable {fs fs' ex Uz:List Addr} {H H1 H2:Hp} {h h1 h2 h':Heap} {a x e:Addr} {o:HO}
theorem Un.any (u:Un fs ex H H1 h h1) {b:Addr} {ob:Obj} (q:h.get? b=some ob) (n:H b=none) (hx:b∉ex):∃ sl,h1.get? b=some { ob with slots:=sl }:=by
  by_cases hb:b∈fs
  · exact u.slot b ob q n hb hx
  · exact ⟨ob.slots,u.keep b ob q n hb hx⟩
theorem Un.kept (k:∀ b u,h.get? b=some u→h'.get? b=some u):Un fs ex H H h h' :=
  ⟨λ b ob q _ _ _=>k b ob q,λ b ob q _ _ _=>⟨ob.slots,k b ob q⟩,λ _ _ _ n _=>n,λ b ob q _=>⟨ob,k b ob q⟩,λ _ _ q=>q,λ _ _ _ q=>q,λ _ ps q=>⟨#[],by rw [q];simp⟩⟩
theorem Un.refl:Un fs ex H H h h:=Un.kept λ _ _ q=>q
theorem Un.laid (k:∀ b u,h.get? b=some u→h'.get? b=some u) (hp:h.objs.size≤a) (hn:H a=none):Un fs ex H (upd H a o) h h' where
  keep:=λ b u q _ _ _=>k b u q
  slot:=λ b u q _ _ _=>⟨u.slots,k b u q⟩
  free:=λ b u q n _=>by rw [aq (Nat.ne_of_lt (Nat.lt_of_lt_of_le (Heap.lt_size q) hp))];exact n
  there:=λ b u q _=>⟨u,k b u q⟩
  oW:=λ b xs q=>by rw [aq (ay q hn)];exact q
  mU:=λ b u xs q=>by rw [aq (ay q hn)];exact q
  mV:=λ b ps q=>⟨#[],by rw [aq (ay q hn),q];simp⟩
theorem Un.write (mu:Ji (H x)) (he:e=x∨H e=some (.own x)) (k:∀ b u,b≠e→h.get? b=some u→h'.get? b=some u) (E2:∃ u,h'.get? e=some u):Un fs ex H (upd H x o) h h':=by
  have hx:∀ b,H b=none→b≠x:=λ b n z=>by subst z;rw [n] at mu;exact mu
  have hb:∀ b,H b=none→b≠e:=λ b n z=>by
    subst z;rcases he with r | r
    · exact hx b n r
    · rw [n] at r;cases r
  have hm:∀ b u,H b=some u→¬ Ji (some u)→b≠x:=λ b u q nm z=>by subst z;rw [q] at mu;exact nm mu
  refine ⟨λ b u q n _ _=>k b u (hb b n) q,λ b u q n _ _=>⟨u.slots,k b u (hb b n) q⟩,λ b u q n _=>by rw [aq (hx b n)];exact n,λ b u q _=>?_,
    λ b xs q=>by rw [aq (hm b _ q λ z=>z)];exact q,λ b u xs q=>by rw [aq (hm b _ q λ z=>z)];exact q,λ b ps q=>⟨#[],by rw [aq (hm b _ q λ z=>z),q];simp⟩⟩
  by_cases De:b=e
  · subst De;exact E2
  · exact ⟨u,k b u De q⟩
end
noncomputable def B8 (h:Heap) (H:Hp):List Addr:=(List.range h.objs.size).filter λ a=>(H a).isSome
noncomputable def mW (h:Heap) (H:Hp):Heap:=PySem.W.hideAll h (B8 h H)
theorem vW (h:Heap) (H:Hp):(mW h H).objs.size=h.objs.size:=PySem.W.hideAll_size _ _
theorem xS {h:Heap} {H:Hp} {b:Addr} {o:Obj} (e:h.get? b=some o) (n:H b=none):(mW h H).get? b=some o :=
  PySem.W.hideAll_get _ e λ hm=>by
    have q:(H b).isSome=true:=(List.mem_filter.mp hm).2;rw [n] at q;simp at q
theorem Ay {h:Heap} {H:Hp} {b:Addr} {o:Obj} (e:(mW h H).get? b=some o):h.get? b=some o∧H b=none:=by
  have e':h.get? b=some o:=PySem.W.of_hideAll (B8 h H) e;refine ⟨e',?_⟩;cases q:H b with
  | none=>rfl
  | some x =>
    have hm:b∈B8 h H:=List.mem_filter.mpr ⟨List.mem_range.mpr (Heap.lt_size e'),by simp [q]⟩;have z:(mW h H).get? b=none:=PySem.W.hideAll_none (B8 h H) hm;rw [z] at e;cases e
structure Mod (K:PySem.W.Frag) (mg:Str→Option Value) (base:Heap):Prop where
  Df:K.In base
  glob:base.Ns mainGlobals mg
  blt:∃ mb,base.Ns builtinsNs mb∧∀ x:Str,x≠"__name__"→mb x=bootBuiltins x
  nolimit:base.NoLimit
structure Cx where
  prog:Program
  w:World
  K:PySem.W.Frag
  mg:Str→Option Value
  base:Heap
  A:Around
  N:List Str
  s₀:Shared
  H₀:Hp
  env:Env
  outer:List Env
  stack:List Env
  ex:List Addr
  fn:Str→Bool
  calm:Bool
  pn:List (Addr×Obj)
  xe:Value→Shared→Prop
noncomputable def mQ (l:List Env):List Addr:=l.filterMap (·.frame)
noncomputable abbrev Cx.fs (X:Cx):List Addr:=mQ X.outer
noncomputable def FT (sc:Scope) (x:Str):Prop:=sc.names.lookup x=some .local∨sc.names.lookup x=some .cell∨sc.names.lookup x=some .free
noncomputable def Loc (sc:Scope) (x:Str):Prop:=sc.names.lookup x=some .local∨sc.names.lookup x=some .cell
noncomputable def Look (env:Env) (h:Heap) (m:Str→Option Value) (x:Str) (u:Value):Prop :=
  (env.kindOf x=some .local∧m x=some u)∨((env.kindOf x=some .cell∨env.kindOf x=some .free)∧∃ c,env.cells.lookup x=some c∧h.IsCell c (some u))
structure Cx.Ok (X:Cx):Prop where
  mod:Mod X.K X.mg X.base
  kind:X.env.scope.kind = .function
  glob:X.env.globals=mainGlobals
  blt:X.env.builtins=builtinsNs
  above:X.s₀.heap.objs.size≤X.env.locals
  inj:∀ x y c,X.env.cells.lookup x=some c→X.env.cells.lookup y=some c→x=y
  has:∀ x,(X.env.kindOf x=some .cell∨X.env.kindOf x=some .free)→∃ c,X.env.cells.lookup x=some c
  FU:∀ x c,X.fn x=true→X.env.cells.lookup x=some c→X.s₀.heap.objs.size≤c
  hd:X.calm=true→X.A.handled=none
  frames:X.A.frames=some X.stack
  Jj:X.stack=X.outer∨(X.stack=X.env :: X.outer∧X.env.frame=some X.env.locals)
  NL:∀ b∈X.ex,b≠X.env.locals∧∀ x c,X.env.cells.lookup x=some c→c≠b
  bs:∀ b o,X.base.get? b=some o→X.s₀.heap.get? b=some o∧X.H₀ b=none
  Az:X.base.objs.size≤X.s₀.heap.objs.size
  xT:∀ b o,X.base.get? b=some o→b∉X.ex
  AA:∀ b∈X.ex,b∉X.fs
  jO:X.s₀.heap.FunFrames X.base X.outer
  B9:∀ b∈X.fs,X.H₀ b=none
structure Inv (X:Cx) (pins:List (Addr×Obj)) (σ:List (Option V)) (H:Hp) (s:Shared):Prop where
  ok:X.Ok
  os:s.os=X.s₀.os
  bare:AllBare s.gens
  base:Un X.fs X.ex X.H₀ H X.s₀.heap s.heap
  loc:∃ m,s.heap.Ns X.env.locals m∧∀ (i:Nat) (x:Str) (v:V),X.N[i]?=some x→σ[i]?=some (some v)→FT X.env.scope x→∃ u,RelV v u∧Look X.env s.heap m x u
  cell:∀ x c,X.env.cells.lookup x=some c→∃ v,s.heap.IsCell c v
  free:H X.env.locals=none
  gq:∀ x c,X.env.cells.lookup x=some c→H c=none
  pin:∀ p∈X.pn ++ pins,s.heap.get? p.1=some p.2∧H p.1=none∧p.1≠X.env.locals∧p.1∉X.fs∧∀ v,p.2.data≠.cell v
  bH:jd X.prog X.w H s.heap
  len:σ.length=X.N.length
section
variable {X:Cx} {pins:List (Addr×Obj)} {σ:List (Option V)} {H H':Hp} {s:Shared} {h':Heap}
theorem Cx.Ok.Ke (ok:X.Ok) {b:Addr} {o:Obj} (e:X.base.get? b=some o):b∉X.fs:=λ hb=>by
  have:=(ok.jO.mem hb).1;rw [e] at this;cases this
theorem Inv.bs (I:Inv X pins σ H s):∀ b o,X.base.get? b=some o→s.heap.get? b=some o∧H b=none:=λ b o e =>
  ⟨I.base.keep b o (I.ok.bs b o e).1 (I.ok.bs b o e).2 (I.ok.Ke e) (I.ok.xT b o e),I.base.free b o (I.ok.bs b o e).1 (I.ok.bs b o e).2 (I.ok.xT b o e)⟩
theorem Inv.bk (I:Inv X pins σ H s):∀ b o,X.base.get? b=some o→s.heap.get? b=some o:=λ b o e=>(I.bs b o e).1
theorem Inv.mod (I:Inv X pins σ H s):Mod X.K X.mg X.base:=I.ok.mod
theorem Inv.jP (I:Inv X pins σ H s):X.K.In s.heap:=I.ok.mod.Df.keeps I.bk
theorem Inv.lt (I:Inv X pins σ H s):X.env.locals < s.heap.objs.size:=let ⟨_,hn,_⟩:=I.loc;hn.lt
theorem Inv.sz (I:Inv X pins σ H s):X.s₀.heap.objs.size≤s.heap.objs.size:=Nat.le_trans I.ok.above (Nat.le_of_lt I.lt)
theorem Inv.Kf (I:Inv X pins σ H s) {a:Addr} (h:s.heap.objs.size≤a):a∉X.fs:=λ hb=>by
  obtain ⟨_,o,ho,_⟩:=I.ok.jO.mem hb;exact absurd (Nat.lt_of_lt_of_le (Heap.lt_size ho) (Nat.le_trans I.sz h)) (Nat.lt_irrefl _)
theorem Inv.Dg (I:Inv X pins σ H s):∀ x c,X.env.cells.lookup x=some c→c≠X.env.locals:=λ x c e z=>by
  obtain ⟨v,o,ho,hd⟩:=I.cell x c e;obtain ⟨m,⟨o',es,ep,xU,vX,_⟩,_⟩:=I.loc;rw [z,xU] at ho;cases ho;rw [vX] at hd;cases hd
theorem Inv.jO (I:Inv X pins σ H s):s.heap.FunFrames X.base X.outer:=by
  have all:∀ (l:List Env),(∀ b∈mQ l,b∈X.fs)→X.s₀.heap.FunFrames X.base l→s.heap.FunFrames X.base l:=by
    intro l
    induction l with
    | nil=>intro _ _;trivial
    | cons env r ih =>
      intro hs hl;obtain ⟨hk,⟨L,o,hf,hn,ho,hd⟩,hr⟩:=hl;have hL:L∈X.fs:=hs L (by unfold mQ;rw [List.filterMap_cons,hf];exact List.mem_cons_self);obtain ⟨sl,e⟩:=I.base.slot L o ho (I.ok.B9 L hL) hL λ z=>I.ok.AA L z hL;exact ⟨hk,⟨L,_,hf,hn,e,hd⟩,ih (λ b hb=>hs b (by unfold mQ;rw [List.filterMap_cons,hf];exact List.mem_cons_of_mem _ hb)) hr⟩
  exact all X.outer (λ _ hb=>hb) I.ok.jO
theorem Inv.stack (I:Inv X pins σ H s):s.heap.FunFrames X.base X.stack:=by
  rcases I.ok.Jj with e | ⟨e,hf⟩
  · rw [e];exact I.jO
  · rw [e];obtain ⟨m,hn,_⟩:=I.loc;refine .cons (by rw [I.ok.kind];decide) hf hn ?_ I.jO;exact Heap.get?_none_of_le (Nat.le_trans I.ok.Az I.ok.above)
theorem Inv.k8 (I:Inv X pins σ H s):∀ b∈mQ X.stack,b∈X.env.locals :: X.fs:=λ b hb=>by
  rcases I.ok.Jj with e | ⟨e,hf⟩
  · rw [e] at hb;exact List.mem_cons_of_mem _ hb
  · rw [e] at hb;unfold mQ at hb;rw [List.filterMap_cons,hf] at hb;exact hb
theorem Inv.oX (I:Inv X pins σ H s):∀ b∈mQ X.stack,H b=none:=λ b hb=>by
  rcases List.mem_cons.mp (I.k8 b hb) with e | hb
  · rw [e];exact I.free
  · obtain ⟨_,o,ho,_⟩:=I.ok.jO.mem hb;exact I.base.free b o ho (I.ok.B9 b hb) λ z=>I.ok.AA b z hb
theorem Inv.step {g':Array GenState} {t':Nat} {d':Drawn} {ch:List Addr} (I:Inv X pins σ H s)
    (Al:∀ b∈ch,(b∈X.ex∨X.s₀.heap.objs.size≤b)∧b≠X.env.locals∧(∀ x c,X.env.cells.lookup x=some c→c≠b)∧∀ p∈X.pn ++ pins,p.1≠b)
    (keep:∀ b o,b≠X.env.locals→b∉X.fs→b∉ch→s.heap.get? b=some o→H b=none→h'.get? b=some o)
    (slot:∀ b o,b≠X.env.locals→b∈X.fs→b∉ch→s.heap.get? b=some o→H b=none→∃ sl,h'.get? b=some { o with slots:=sl }) (free:∀ b o,b∉ch→s.heap.get? b=some o→H b=none→H' b=none)
    (there:∀ b o,b∉ch→s.heap.get? b=some o→∃ o',h'.get? b=some o')
    (oW:∀ b xs,H b=some (.tup xs)→H' b=some (.tup xs)) (mU:∀ b o u,H b=some (.iD o u)→H' b=some (.iD o u)) (mV:∀ b ps,H b=some (.gj ps)→∃ more,H' b=some (.gj (ps ++ more)))
    (ns:∀ m,s.heap.Ns X.env.locals m→h'.Ns X.env.locals m) (bH:jd X.prog X.w H' h') (hg:AllBare g') :
    Inv X pins σ H' { s with heap:=h',gens:=g',drawn:=d',toks:=t' }:=by
  have NM:∀ b o,X.s₀.heap.get? b=some o→b≠X.env.locals:=λ b o e=>Nat.ne_of_lt (Nat.lt_of_lt_of_le (Heap.lt_size e) I.ok.above);have Jk:∀ b o,X.s₀.heap.get? b=some o→b∉X.ex→b∉ch:=λ b o e hx hb=>by
    rcases (Al b hb).1 with z | z
    · exact hx z
    · exact absurd (Nat.lt_of_lt_of_le (Heap.lt_size e) z) (Nat.lt_irrefl _)
  have cellK:∀ x c,X.env.cells.lookup x=some c→∀ v,s.heap.IsCell c v→h'.IsCell c v:=λ x c e v ⟨o,ho,hd⟩=>by
    have FV:c∉ch:=λ z=>(Al c z).2.2.1 x c e rfl
    by_cases hc:c∈X.fs
    · obtain ⟨sl,q⟩:=slot c o (I.Dg x c e) hc FV ho (I.gq x c e);exact ⟨_,q,hd⟩
    · exact ⟨o,keep c o (I.Dg x c e) hc FV ho (I.gq x c e),hd⟩
  refine ⟨I.ok,I.os,hg,⟨λ b o e n hb hx=>?_,λ b o e n hb hx=>?_,λ b o e n hx=>?_,λ b o e hx=>?_,λ b xs e=>oW b xs (I.base.oW b xs e),λ b o xs e=>mU b o xs (I.base.mU b o xs e),λ b ps e=>?_⟩,?_,λ x c e=>?_,?_,λ x c e=>?_,λ p hp=>?_,bH,I.len⟩
  · exact keep b o (NM b o e) hb (Jk b o e hx) (I.base.keep b o e n hb hx) (I.base.free b o e n hx)
  · obtain ⟨sl,e1⟩:=I.base.slot b o e n hb hx;obtain ⟨Kg,e2⟩:=slot b _ (NM b o e) hb (Jk b o e hx) e1 (I.base.free b o e n hx);exact ⟨Kg,e2⟩
  · obtain ⟨o',e1⟩:=I.base.there b o e hx;exact free b o' (Jk b o e hx) e1 (I.base.free b o e n hx)
  · obtain ⟨o',e1⟩:=I.base.there b o e hx;exact there b o' (Jk b o e hx) e1
  · obtain ⟨m1,e1⟩:=I.base.mV b ps e;obtain ⟨m2,e2⟩:=mV b _ e1;exact ⟨m1 ++ m2,by rw [e2,Array.append_assoc]⟩
  · obtain ⟨m,hn,hl⟩:=I.loc;refine ⟨m,ns m hn,λ i x v e1 e2 e3=>?_⟩;obtain ⟨u,r,l⟩:=hl i x v e1 e2 e3;refine ⟨u,r,?_⟩;rcases l with l | ⟨k,c,e,z⟩
    · exact .inl l
    · exact .inr ⟨k,c,e,cellK x c e _ z⟩
  · obtain ⟨v,z⟩:=I.cell x c e;exact ⟨v,cellK x c e v z⟩
  · obtain ⟨m,⟨o,_,_,ho,_⟩,_⟩:=I.loc;exact free _ o (λ z=>(Al _ z).2.1 rfl) ho I.free
  · obtain ⟨v,o,ho,hd⟩:=I.cell x c e;exact free c o (λ z=>(Al c z).2.2.1 x c e rfl) ho (I.gq x c e)
  · obtain ⟨e,n,ne,nf,d⟩:=I.pin p hp;have FV:p.1∉ch:=λ z=>(Al p.1 z).2.2.2 p hp rfl;exact ⟨keep p.1 p.2 ne nf FV e n,free p.1 p.2 FV e n,ne,nf,d⟩
theorem Inv.un {t':Nat} (I:Inv X pins σ H s) (u:Un X.fs [] H H' s.heap h') (bH:jd X.prog X.w H' h'):Inv X pins σ H' { s with heap:=h',toks:=t' }:=by
  obtain ⟨m,⟨o,es,ep,ho,r⟩,_⟩:=id I.loc;obtain ⟨sl,hL⟩:=u.any ho I.free (by simp);exact I.step (g':=s.gens) (d':=s.drawn) (ch:=[]) (λ _ z=>nomatch z) (λ b o _ hb _ e n=>u.keep b o e n hb (by simp)) (λ b o _ hb _ e n=>u.slot b o e n hb (by simp)) (λ b o _ e n=>u.free b o e n (by simp)) (λ b o _ e=>u.there b o e (by simp)) u.oW u.mU u.mV (λ m' hm=>by
    obtain ⟨o',nF,Kh,xU,r'⟩:=hm;rw [ho] at xU;cases xU;exact ⟨_,nF,Kh,hL,r'⟩) bH I.bare
theorem Inv.call {g':Array GenState} {t':Nat} {d':Drawn} {ch:List Addr} (I:Inv X pins σ H s) (u:Un (mQ X.stack) ch H H' s.heap h') (bH:jd X.prog X.w H' h') (hg:AllBare g')
    (Al:∀ b∈ch,(b∈X.ex∨X.s₀.heap.objs.size≤b)∧b≠X.env.locals∧(∀ x c,X.env.cells.lookup x=some c→c≠b)∧∀ p∈X.pn ++ pins,p.1≠b) :
    Inv X pins σ H' { s with heap:=h',gens:=g',drawn:=d',toks:=t' }:=by
  obtain ⟨m,⟨o,es,ep,ho,r⟩,_⟩:=id I.loc;obtain ⟨sl,hL⟩:=u.any ho I.free λ z=>(Al _ z).2.1 rfl;exact I.step (ch:=ch) Al (λ b o hL hb hc e n=>u.keep b o e n (λ z=>(List.mem_cons.mp (I.k8 b z)).elim hL hb) hc) (λ b o _ _ hc e n=>u.any e n hc) (λ b o hc e n=>u.free b o e n hc) (λ b o hc e=>u.there b o e hc) u.oW u.mU u.mV (λ m' hm=>by
    obtain ⟨o',nF,Kh,xU,r'⟩:=hm;rw [ho] at xU;cases xU;exact ⟨_,nF,Kh,hL,r'⟩) bH hg
theorem Inv.turned {t':Nat} {it:Addr} (I:Inv X pins σ H s) (k:∀ b o,b≠it→s.heap.get? b=some o→h'.get? b=some o) (hn:H it=none) (hL:it≠X.env.locals)
    (h1:it∈X.ex∨X.s₀.heap.objs.size≤it) (h2:∀ x c,X.env.cells.lookup x=some c→c≠it) (h3:∀ p∈X.pn ++ pins,p.1≠it):Inv X pins σ H { s with heap:=h',toks:=t' }:=by
  have xV:∀ b u,H b=some u→b≠it:=λ b u e z=>by rw [z,hn] at e;cases e
  refine I.step (g':=s.gens) (d':=s.drawn) (ch:=[it]) (λ b hb=>?_) (λ b o _ _ hc e _=>k b o (λ z=>hc (by simp [z])) e) (λ b o _ _ hc e _=>⟨o.slots,k b o (λ z=>hc (by simp [z])) e⟩) (λ _ _ _ _ n=>n)
    (λ b o hc e=>⟨o,k b o (λ z=>hc (by simp [z])) e⟩) (λ _ _ e=>e) (λ _ _ _ e=>e) (λ b ps e=>⟨#[],by rw [e];simp⟩) (λ m hm=>?_) (λ b u e=>?_) I.bare
  · have e:b=it:=by simpa using hb
    subst e;exact ⟨h1,hL,h2,h3⟩
  · obtain ⟨o,es,ep,ho,r⟩:=hm;exact ⟨o,es,ep,k _ o (Ne.symm hL) ho,r⟩
  · refine (I.bH b u e).k7 (λ c v hc q=>k c v ?_ q) (λ _ q=>q) λ _ _ q=>q;rcases hc with z | z
    · rw [z];exact xV b u e
    · exact xV c _ z
theorem Inv.tok (I:Inv X pins σ H s) (t:Nat):Inv X pins σ H { s with toks:=t }:=I.un (h':=s.heap) (t':=t) Un.refl I.bH
theorem Inv.kept {t':Nat} (I:Inv X pins σ H s) (k:∀ b u,s.heap.get? b=some u→h'.get? b=some u):Inv X pins σ H { s with heap:=h',toks:=t' }:=I.un (Un.kept k) (I.bH.kept k)
theorem Inv.laid {a:Addr} {o:HO} {t':Nat} (I:Inv X pins σ H s) (k:∀ b u,s.heap.get? b=some u→h'.get? b=some u) (hp:s.heap.objs.size≤a) (new:bZ X.prog X.w (upd H a o) h' a o) :
    Inv X pins σ (upd H a o) { s with heap:=h',toks:=t' }:=I.un (Un.laid k hp (I.bH.fresh hp)) (I.bH.laid k hp new)
theorem Inv.write {x e:Addr} {o:HO} {t':Nat} (I:Inv X pins σ H s) (mu:Ji (H x)) (he:e=x∨H e=some (.own x)) (k:∀ b u,b≠e→s.heap.get? b=some u→h'.get? b=some u) (E2:∃ u,h'.get? e=some u)
    (new:bZ X.prog X.w (upd H x o) h' x o):Inv X pins σ (upd H x o) { s with heap:=h',toks:=t' }:=I.un (Un.write mu he k E2) (I.bH.write mu he k E2 new)
theorem Inv.oY {d9:List (Addr×Obj)} (I:Inv X pins σ H s) (h:∀ p∈d9,s.heap.get? p.1=some p.2∧H p.1=none∧p.1≠X.env.locals∧p.1∉X.fs∧∀ v,p.2.data≠.cell v):Inv X d9 σ H s :=
  ⟨I.ok,I.os,I.bare,I.base,I.loc,I.cell,I.free,I.gq,λ p hp=>(List.mem_append.mp hp).elim (λ z=>I.pin p (List.mem_append_left _ z)) (h p),I.bH,I.len⟩
theorem qx {N:List Str} (hN:N.Nodup) {i j:Nat} {x:Str} (a:N[i]?=some x) (b:N[j]?=some x):i=j:=by
  obtain ⟨h1,e1⟩:=List.getElem?_eq_some_iff.mp a;obtain ⟨h2,e2⟩:=List.getElem?_eq_some_iff.mp b;exact (List.getElem_inj hN).mp (e1.trans e2.symm)
theorem nG {M:Model} {A:Around} {E:Value→Shared→Prop} {i:Nat} {x:Str} {v:V} {u:Value} {Q:Unit→Shared→Prop} (I:Inv X pins σ H s) (hN:X.N.Nodup) (hi:X.N[i]?=some x) (hx:Loc X.env.scope x) (r:RelV v u)
    (h:∀ s',Inv X pins (σ.set i (some v)) H s'→(∃ a,Heap.SameBut a s.heap s'.heap∧(a=X.env.locals∨X.env.cells.lookup x=some a))→Q () s') (hf:X.fn x=true∨X.env.scope.names.lookup x=some .local:=by first | exact .inl rfl | exact .inr rfl | assumption):wpAny M A (storeName X.env x u) Q E s:=by
  obtain ⟨m,hn,hl⟩:=id I.loc;have Ki:(X.env.scope.kind == .class || (X.env.scope.kind == .module && X.env.locals != X.env.globals))=false:=by rw [I.ok.kind];rfl
  have FW:i < σ.length:=by rw [I.len];exact (List.getElem?_eq_some_iff.mp hi).1
  have Dg:=I.Dg;have tracked:∀ {a:Addr} {h':Heap},(∃ o,s.heap.get? a=some o∧H a=none)→Heap.SameBut a s.heap h'→jd X.prog X.w H h':=λ {a h'} ha hs b ob e=>by
    obtain ⟨_,_,k9⟩:=ha;refine (I.bH b ob e).k7 (λ c w' hc q=>(hs.2 c ?_).trans q) (λ _ q=>q) λ _ _ q=>q;rintro rfl;rcases hc with rfl | hc
    · rw [k9] at e;cases e
    · rw [k9] at hc;cases hc
  rcases hx with hk | hk
  · refine wpAny_storeName_local hk hn (λ h' Qa hs=>?_) Ki;obtain ⟨oL,_,_,Jl,_⟩:=id hn;refine h _ ⟨I.ok,I.os,I.bare,⟨λ b o e n hb hx=>?_,λ b o e n hb hx=>?_,I.base.free,λ b o e hx=>?_,I.base.oW,I.base.mU,I.base.mV⟩,⟨_,Qa,λ j y v' e1 e2 e3=>?_⟩,λ y c e=>?_,I.free,I.gq,λ p hp=>?_,tracked ⟨oL,Jl,I.free⟩ hs,by simpa using I.len⟩ ⟨_,hs,.inl rfl⟩
    · exact (hs.2 b (Nat.ne_of_lt (Nat.lt_of_lt_of_le (Heap.lt_size e) I.ok.above))).trans (I.base.keep b o e n hb hx)
    · obtain ⟨sl,e1⟩:=I.base.slot b o e n hb hx;exact ⟨sl,(hs.2 b (Nat.ne_of_lt (Nat.lt_of_lt_of_le (Heap.lt_size e) I.ok.above))).trans e1⟩
    · obtain ⟨o',e1⟩:=I.base.there b o e hx;exact ⟨o',(hs.2 b (Nat.ne_of_lt (Nat.lt_of_lt_of_le (Heap.lt_size e) I.ok.above))).trans e1⟩
    · by_cases hj:j=i
      · subst hj;rw [hi] at e1;cases e1;rw [List.getElem?_set_self FW] at e2;cases e2;exact ⟨u,r,.inl ⟨hk,by simp⟩⟩
      · rw [List.getElem?_set_ne (Ne.symm hj)] at e2;obtain ⟨u',r',q⟩:=hl j y v' e1 e2 e3;refine ⟨u',r',?_⟩;rcases q with ⟨k,e⟩ | ⟨k,c,e,z⟩
        · refine .inl ⟨k,?_⟩;have:y≠x:=λ e=>hj (qx hN e1 (e ▸ hi));simp [this,e]
        · exact .inr ⟨k,c,e,z.sameBut hs (Dg y c e)⟩
    · obtain ⟨w',z⟩:=I.cell y c e;exact ⟨w',z.sameBut hs (Dg y c e)⟩
    · obtain ⟨e,n,ne,nf,d⟩:=I.pin p hp;exact ⟨(hs.2 p.1 ne).trans e,n,ne,nf,d⟩
  · have Kj:X.fn x=true:=by
      rcases hf with z | z
      · exact z
      · rw [z] at hk;cases hk
    obtain ⟨c,hc⟩:=I.ok.has x (.inl hk);obtain ⟨w',z⟩:=I.cell x c hc;refine wpAny_storeName_cell I.ok.kind hk hc z (λ h' k_ hs=>?_);obtain ⟨oc,FY,Kk⟩:=id z;refine h { s with heap:=h' } ⟨I.ok,I.os,I.bare,⟨λ b o e n hb hx=>?_,λ b o e n hb hx=>?_,I.base.free,λ b o e hx=>?_,I.base.oW,I.base.mU,I.base.mV⟩,⟨m,hn.sameBut hs (Ne.symm (Dg x c hc)),λ j y v' e1 e2 e3=>?_⟩,λ y c' e=>?_,I.free,I.gq,λ p hp=>?_,tracked ⟨oc,FY,I.gq x c hc⟩ hs,by simpa using I.len⟩ ⟨c,hs,.inr hc⟩
    · exact (hs.2 b (Nat.ne_of_lt (Nat.lt_of_lt_of_le (Heap.lt_size e) (I.ok.FU x c Kj hc)))).trans (I.base.keep b o e n hb hx)
    · obtain ⟨sl,e1⟩:=I.base.slot b o e n hb hx;exact ⟨sl,(hs.2 b (Nat.ne_of_lt (Nat.lt_of_lt_of_le (Heap.lt_size e) (I.ok.FU x c Kj hc)))).trans e1⟩
    · obtain ⟨o',e1⟩:=I.base.there b o e hx;exact ⟨o',(hs.2 b (Nat.ne_of_lt (Nat.lt_of_lt_of_le (Heap.lt_size e) (I.ok.FU x c Kj hc)))).trans e1⟩
    · by_cases hj:j=i
      · subst hj;rw [hi] at e1;cases e1;rw [List.getElem?_set_self FW] at e2;cases e2;exact ⟨u,r,.inr ⟨.inl hk,c,hc,k_⟩⟩
      · rw [List.getElem?_set_ne (Ne.symm hj)] at e2;obtain ⟨u',r',q⟩:=hl j y v' e1 e2 e3;refine ⟨u',r',?_⟩;rcases q with q | ⟨k,c',e,z'⟩
        · exact .inl q
        · refine .inr ⟨k,c',e,z'.sameBut hs ?_⟩;rintro rfl;exact hj (qx hN e1 (I.ok.inj _ _ _ e hc ▸ hi))
    · by_cases NN:c'=c
      · subst NN;exact ⟨_,k_⟩
      · obtain ⟨w2,z2⟩:=I.cell y c' e;exact ⟨w2,z2.sameBut hs NN⟩
    · obtain ⟨e,n,ne,nf,d⟩:=I.pin p hp;refine ⟨(hs.2 p.1 ?_).trans e,n,ne,nf,d⟩;intro q;rw [q,FY] at e;have q':oc=p.2:=Option.some.inj e;exact d w' (by rw [← q'];exact Kk)
theorem gs {M:Model} {A:Around} {E:Value→Shared→Prop} {i:Nat} {x:Str} {v:V} {u:Value} {Q:Unit→Shared→Prop} (I:Inv X pins σ H s) (hN:X.N.Nodup) (hi:X.N[i]?=some x) (hx:Loc X.env.scope x) (r:RelV v u)
    (h:∀ s',Inv X pins (σ.set i (some v)) H s'→Q () s') (hf:X.fn x=true∨X.env.scope.names.lookup x=some .local:=by first | exact .inl rfl | exact .inr rfl | assumption):wpAny M A (storeName X.env x u) Q E s :=
  nG I hN hi hx r (λ s' I' _=>h s' I') hf
theorem Inv.FZ {s':Shared} {ch:List Addr} (I:Inv X pins σ H s) (ho:s'.os=s.os) (u:Un (mQ X.stack) ch H H' s.heap s'.heap) (bH:jd X.prog X.w H' s'.heap) (hg:AllBare s'.gens)
    (Al:∀ b∈ch,(b∈X.ex∨X.s₀.heap.objs.size≤b)∧b≠X.env.locals∧(∀ x c,X.env.cells.lookup x=some c→c≠b)∧∀ p∈X.pn ++ pins,p.1≠b):Inv X pins σ H' s':=by
  obtain ⟨h',g',d',t',o'⟩:=s';have e:o'=s.os:=ho;subst e;exact I.call (g':=g') (t':=t') (d':=d') u bH hg Al
end
noncomputable abbrev XK:=Value→Option Addr→Hp→Prop
noncomputable abbrev St:=List (Option V)
noncomputable abbrev VK:=V→Hp→Prop
noncomputable abbrev TE:=St→Hp→VK→Prop
noncomputable abbrev TT:=St→Hp→(Bool→Hp→Prop)→Prop
noncomputable abbrev TA:=St→Hp→(List V→Hp→Prop)→Prop
structure Ends where
  nx:St→Hp→Prop
  rt:VK
  bk:St→Hp→Prop:=λ _ _=>False
  ct:St→Hp→Prop:=λ _ _=>False
noncomputable abbrev TS:=Ends→St→Hp→Prop
noncomputable def EP (X:Cx) (pins:List (Addr×Obj)) (σ:St) (Q:VK) (u:Value) (s':Shared):Prop:=∃ v H',Inv X pins σ H' s'∧RelV v u∧Q v H'
noncomputable def TP (X:Cx) (pins:List (Addr×Obj)) (σ:St) (Q:Bool→Hp→Prop) (b:Bool) (s':Shared):Prop:=∃ H',Inv X pins σ H' s'∧Q b H'
noncomputable def AP (X:Cx) (pins:List (Addr×Obj)) (σ:St) (Q:List V→Hp→Prop) (us:List Value) (s':Shared):Prop:=∃ vs H',Inv X pins σ H' s'∧Vals vs us∧Q vs H'
noncomputable def SP (X:Cx) (pins:List (Addr×Obj)) (D:Ends) (f:Flow) (s':Shared):Prop :=
  match f with
  | .next=>∃ σ' H',Inv X pins σ' H' s'∧D.nx σ' H'
  | .brk=>∃ σ' H',Inv X pins σ' H' s'∧D.bk σ' H'
  | .cont=>∃ σ' H',Inv X pins σ' H' s'∧D.ct σ' H'
  | .ret u=>∃ v σ' H',Inv X pins σ' H' s'∧RelV v u∧D.rt v H'
noncomputable def PE (X:Cx) (e:Expr) (t:TE):Prop :=
  ∀ (pins:List (Addr×Obj)) (s:Shared) (σ:St) (H:Hp) (Q:VK),Inv X pins σ H s→t σ H Q→wpAny (model X.prog X.w) X.A (eval e X.env) (EP X pins σ Q) X.xe s
noncomputable def PT (X:Cx) (e:Expr) (t:TT):Prop :=
  ∀ (pins:List (Addr×Obj)) (s:Shared) (σ:St) (H:Hp) (Q:Bool→Hp→Prop),Inv X pins σ H s→t σ H Q→wpAny (model X.prog X.w) X.A (isTrue e X.env (eval e X.env)) (TP X pins σ Q) X.xe s
noncomputable def PW (X:Cx) (e:Expr) (t:TT):Prop :=
  ∀ (whole:Sem Value) (pins:List (Addr×Obj)) (s:Shared) (σ:St) (H:Hp) (Q:Bool→Hp→Prop),Inv X pins σ H s→t σ H Q→wpAny (model X.prog X.w) X.A (isTrue e X.env whole) (TP X pins σ Q) X.xe s
theorem PW.pt {X:Cx} {e:Expr} {t:TT} (h:PW X e t):PT X e t:=h _
noncomputable def PA (X:Cx) (es:List Expr) (t:TA):Prop :=
  ∀ (pos:Pos) (pins:List (Addr×Obj)) (s:Shared) (σ:St) (H:Hp) (Q:List V→Hp→Prop),Inv X pins σ H s→t σ H Q→wpAny (model X.prog X.w) X.A (spliced (backTo pos (starEach es X.env))) (AP X pins σ Q) X.xe s
noncomputable def PS (X:Cx) (st:Stmt) (t:TS):Prop :=
  ∀ (pins:List (Addr×Obj)) (s:Shared) (σ:St) (H:Hp) (D:Ends),Inv X pins σ H s→t D σ H→wpAny (model X.prog X.w) X.A (exec st X.env) (SP X pins D) X.xe s
noncomputable def jM (X:Cx) (st:List Stmt) (t:TS):Prop :=
  ∀ (pins:List (Addr×Obj)) (s:Shared) (σ:St) (H:Hp) (D:Ends),Inv X pins σ H s→t D σ H→wpAny (model X.prog X.w) X.A (execs st X.env) (SP X pins D) X.xe s
theorem bP {α:Type} {t:Sem α} {Q Q':α→Shared→Prop} {M:Model} {A:Around} {E:Value→Shared→Prop} {s:Shared} (h:wpAny M A t Q E s) (hQ:∀ a s,Q a s→Q' a s):wpAny M A t Q' E s:=wpAny_mono h hQ λ _ _ x=>x
section
variable {X:Cx}
noncomputable def Dh (i:Nat):TE:=λ σ H Q=>∃ v,σ[i]?=some (some v)∧Q v H
noncomputable def tC (v:V):TE:=λ _ H Q=>Q v H
theorem Di {i:Nat} {x:Str} {pos:Pos} (hN:X.N[i]?=some x) (hv:FT X.env.scope x) (hd:(x == ("__debug__":Str))=false:=by decide) (sL:(x == ("__classdict__":Str))=false:=by decide):PE X (.Name x pos) (Dh i):=by
  intro pins s σ H Q I h;obtain ⟨v,e,h⟩:=h;obtain ⟨m,hn,hl⟩:=I.loc;obtain ⟨u,r,l⟩:=hl i x v hN e hv;have fin:EP X pins σ Q u s:=⟨v,H,I,r,h⟩;rcases l with ⟨hk,hm⟩ | ⟨hk,c,hc,uJ⟩
  · exact wpAny_Name (wpAny_loadName_local I.ok.kind hk hn hm fin) hd
  · rcases hk with hk | hk
    · exact wpAny_Name (wpAny_loadName_cell I.ok.kind hk hc uJ fin) hd
    · exact wpAny_Name (wpAny_loadName_free I.ok.kind hk hc uJ fin sL) hd
theorem ai {i j pos}:PE X (.Constant (.int i) j pos) (tC (.int i)):=λ _ _ _ H _ I h=>wpAny_Constant_int ⟨.int i,H,I.tok _,⟨_,rfl⟩,h⟩
theorem b7 {b j pos}:PE X (.Constant (.bool b) j pos) (tC (.bl b)):=λ _ _ _ H _ I h=>Constant_bool ⟨.bl b,H,I,rfl,h⟩
theorem oZ {j pos}:PE X (.Constant .none j pos) (tC .cc):=λ _ _ _ H _ I h=>Constant_none ⟨.cc,H,I,rfl,h⟩
theorem Dj {x j pos}:PE X (.Constant (.str x) j pos) (tC (.str x)):=λ _ _ _ H _ I h=>Calls.Constant_str ⟨.str x,H,I.tok _,⟨_,rfl⟩,h⟩
noncomputable def Gl (X:Cx) (x:Str):Prop:=X.env.kindOf x=some .globalImplicit
theorem kH {E:Value→Shared→Prop} {pins:List (Addr×Obj)} {s:Shared} {σ:St} {H:Hp} {x:Str} {u:Value} {pos:Pos} {Q:Value→Shared→Prop} (I:Inv X pins σ H s) (hg:Gl X x) (hm:X.mg x=some u) (h:Q u s)
    (hd:(x == ("__debug__":Str))=false:=by decide):wpAny (model X.prog X.w) X.A (eval (.Name x pos) X.env) Q E s :=
  Calls.Name_function_global I.ok.kind hg (Calls.loadGlobal_global (by rw [I.ok.glob];exact I.mod.glob.keeps I.bk) hm h) hd
theorem gu {E:Value→Shared→Prop} {pins:List (Addr×Obj)} {s:Shared} {σ:St} {H:Hp} {x:Str} {u:Value} {pos:Pos} {Q:Value→Shared→Prop} (I:Inv X pins σ H s) (hg:Gl X x) (hm:X.mg x=none) (hv:bootBuiltins x=some u) (h:Q u s)
    (hn:x≠"__name__":=by decide) (hd:(x == ("__debug__":Str))=false:=by decide):wpAny (model X.prog X.w) X.A (eval (.Name x pos) X.env) Q E s:=by
  obtain ⟨mb,h1,h2⟩:=I.mod.blt;exact Calls.Name_function_global I.ok.kind hg (Calls.loadGlobal_builtin (by rw [I.ok.glob];exact I.mod.glob.keeps I.bk) hm (by rw [I.ok.blt];exact h1.keeps I.bk) ((h2 x hn).trans hv) h) hd
theorem AB {x:Str} {v:V} {u:Value} {pos:Pos} (hg:Gl X x) (hm:X.mg x=some u) (r:RelV v u) (hd:(x == ("__debug__":Str))=false:=by decide):PE X (.Name x pos) (tC v) :=
  λ _ _ _ H _ I h=>kH I hg hm ⟨v,H,I,r,h⟩ hd
theorem AD {x:Str} {v:V} {u:Value} {pos:Pos} (hg:Gl X x) (hm:X.mg x=none) (hv:bootBuiltins x=some u) (r:RelV v u) (hn:x≠"__name__":=by decide) (hd:(x == ("__debug__":Str))=false:=by decide):PE X (.Name x pos) (tC v) :=
  λ _ _ _ H _ I h=>gu I hg hm hv ⟨v,H,I,r,h⟩ hn hd
variable {a b:Expr} {ta tb:TE} {pos:Pos}
noncomputable def tB (t:TE):TT:=λ σ H Q=>t σ H λ x H1=>∃ c,x = .bl c∧Q c H1
theorem aW {e:Expr} {t:TE} (h:PE X e t) (he:∀ whole,isTrue e X.env whole=(do let v ← whole;standAt e.pos;holding [v] (truthy v)):=by intro _;rfl):PT X e (tB t):=by
  intro pins s σ H Q I hw;refine isTrue_plain (bP (h pins s σ H _ I hw) λ v s1 ⟨x,H1,I1,r1,q1⟩=>?_) (he _);obtain ⟨d,rfl,q⟩:=q1;cases r1;exact wpAny_truthy_bool ⟨H1,I1,q⟩
variable {tA Jm:TT} {rest:List Expr}
noncomputable def Kl (t u:TT):TT:=λ σ H Q=>t σ H λ c H1=>if c=true then u σ H1 Q else Q false H1
noncomputable def Qb (t u:TT):TT:=λ σ H Q=>t σ H λ c H1=>if c=true then Q true H1 else u σ H1 Q
noncomputable def Km (t:TT):TT:=λ σ H Q=>t σ H λ c H1=>Q (!c) H1
theorem pw_and1 (ha:PT X a tA):PW X (.BoolOp .And [a] pos) tA:=by
  intro wh pins s σ H Q I h;refine isTrue_and (bP (ha pins s σ H Q I h) λ c s1 e=>?_);cases c with
  | true=>exact isTrue_and_nil e
  | false=>exact e
theorem pw_or1 (ha:PT X a tA):PW X (.BoolOp .Or [a] pos) tA:=by
  intro wh pins s σ H Q I h;refine isTrue_or (bP (ha pins s σ H Q I h) λ c s1 e=>?_);cases c with
  | false=>exact isTrue_or_nil e
  | true=>exact e
theorem pw_and (ha:PT X a tA) (hb:PW X (.BoolOp .And (b :: rest) pos) Jm):PW X (.BoolOp .And (a :: b :: rest) pos) (Kl tA Jm):=by
  intro wh pins s σ H Q I h;refine isTrue_and (bP (ha pins s σ H _ I h) λ c s1 ⟨H1,I1,q1⟩=>?_);cases c with
  | true=>exact hb wh pins s1 σ H1 Q I1 q1
  | false=>exact ⟨H1,I1,q1⟩
theorem pw_or (ha:PT X a tA) (hb:PW X (.BoolOp .Or (b :: rest) pos) Jm):PW X (.BoolOp .Or (a :: b :: rest) pos) (Qb tA Jm):=by
  intro wh pins s σ H Q I h;refine isTrue_or (bP (ha pins s σ H _ I h) λ c s1 ⟨H1,I1,q1⟩=>?_);cases c with
  | true=>exact ⟨H1,I1,q1⟩
  | false=>exact hb wh pins s1 σ H1 Q I1 q1
theorem bJ (ha:PT X a tA):PT X (.UnaryOp .Not a pos) (Km tA):=by
  intro pins s σ H Q I h;exact isTrue_not (ha pins s σ H (λ c H1=>Q (!c) H1) I h)
noncomputable def F_ (ta tb:TE):TE:=λ σ H Q=>ta σ H λ x H1=>∃ c,x = .bl c∧if c=true then tb σ H1 Q else Q (.bl false) H1
noncomputable def Ga (ta:TE):TE:=λ σ H Q=>ta σ H λ x H1=>∃ c,x = .bl c∧Q (.bl (!c)) H1
theorem c_ {op} {t:TE} (h:PE X a t):PE X (.BoolOp op [a] pos) t:=λ pins s σ H Q I hw=>BoolOp_one (h pins s σ H Q I hw)
theorem cp (ha:PE X a ta) (hb:PE X (.BoolOp .And (b :: rest) pos) tb):PE X (.BoolOp .And (a :: b :: rest) pos) (F_ ta tb):=by
  intro pins s σ H Q I h;refine BoolOp_and (bP (ha pins s σ H _ I h) λ v s1 ⟨x,H1,I1,r1,q1⟩=>?_);obtain ⟨c,rfl,q1⟩:=q1;cases r1;refine wpAny_truthy_bool ?_;cases c with
  | true=>exact hb pins s1 σ H1 Q I1 q1
  | false=>exact ⟨.bl false,H1,I1,rfl,q1⟩
theorem sW (ha:PE X a ta):PE X (.UnaryOp .Not a pos) (Ga ta):=by
  intro pins s σ H Q I h;refine UnaryOp_ (bP (ha pins s σ H _ I h) λ v s1 ⟨x,H1,I1,r1,q1⟩=>?_);obtain ⟨c,rfl,q1⟩:=q1;cases r1;exact not_of (wpAny_truthy_bool ⟨.bl (!c),H1,I1,rfl,q1⟩)
noncomputable def Qc (t:TT) (ta tb:TE):TE:=λ σ H Q=>t σ H λ c H1=>if c=true then ta σ H1 Q else tb σ H1 Q
theorem xW {c:Expr} (hc:PT X c tA) (ha:PE X a ta) (hb:PE X b tb):PE X (.IfExp c a b pos) (Qc tA ta tb):=by
  intro pins s σ H Q I h;refine wpAny_IfExp (bP (hc pins s σ H _ I h) λ d s1 ⟨H1,I1,q1⟩=>?_);cases d with
  | true=>exact ha pins s1 σ H1 Q I1 q1
  | false=>exact hb pins s1 σ H1 Q I1 q1
end
noncomputable def aJ (K:PySem.W.Frag) (H:Hp) (a:Addr) (xs:List V):Prop :=
  Rd H a (.lst xs) ∨
    ∃ (o:Obj) (its:Array Value) (n:Nat),K.lookup a=some o∧o.cls = .type "list"∧o.dict=none∧o.data = .seq its n∧its.size≤sizeLine∧Vals xs its.toList
noncomputable def b_ (K:PySem.W.Frag) (H:Hp) (a:Addr) (xs:List V):Prop :=
  Rd H a (.tup xs) ∨
    ∃ (o:Obj) (its:Array Value) (n:Nat),K.lookup a=some o∧o.cls = .type "tuple"∧o.data = .seq its n∧its.size≤sizeLine∧Vals xs its.toList
noncomputable def Ko:Value→Option V
  | .none=>some .cc
  | .bool b=>some (.bl b)
  | .int i _=>some (.int i)
  | .str x _=>some (.str x)
  | .bytes b _=>some (.xB b)
  | .float b _=>some (.Ax b)
  | .ref a=>some (.ref a)
  | .type n=>some (.ty n)
  | _=>none
theorem RelV.abs {x:V} {u:Value} (r:RelV x u):Ko u=some x:=by
  cases x with
  | cc=>cases r;rfl
  | bl _=>cases r;rfl
  | int _=>obtain ⟨t,rfl⟩:=r;rfl
  | str _=>obtain ⟨t,rfl⟩:=r;rfl
  | xB _=>obtain ⟨t,rfl⟩:=r;rfl
  | Ax _=>obtain ⟨t,rfl⟩:=r;rfl
  | ref _=>cases r;rfl
  | ty _=>cases r;rfl
theorem RelV.inj {x y:V} {u:Value} (r:RelV x u) (q:RelV y u):x=y:=Option.some.inj (r.abs.symm.trans q.abs)
theorem Vals.inj:∀ {xs ys:List V} {us:List Value},Vals xs us→Vals ys us→xs=ys
  | _,_,_,.nil,.nil=>rfl
  | _,_,_,.cons r t,.cons r' t'=>by rw [r.inj r',Vals.inj t t']
section
variable {X:Cx} {pins:List (Addr×Obj)} {σ:St} {H:Hp} {s:Shared} {a:Addr} {xs ys:List V}
theorem aJ.of {K:PySem.W.Frag} (h:H a=some (.lst xs)):aJ K H a xs:=.inl (.inl h)
theorem b_.of {K:PySem.W.Frag} (h:H a=some (.tup xs)):b_ K H a xs:=.inl (.inl h)
theorem Inv.list (I:Inv X pins σ H s) (h:aJ X.K H a xs):∃ its:List Value,Vals xs its∧PlainL s.heap a its.toArray∧xs.length≤sizeLine:=by
  rcases h with h | ⟨o,its,n,hk,hc,hd,hs,hz,r⟩
  · obtain ⟨z,its,n,r,e⟩:=h.ok I.bH;exact ⟨its,r,⟨_,n,e,rfl,rfl,rfl⟩,z⟩
  · refine ⟨its.toList,r,⟨o,n,I.jP a o hk,hc,hd,by simpa using hs⟩,?_⟩;have e:=r.length;simp only [Array.length_toList] at e
    lia
theorem Inv.tuple (I:Inv X pins σ H s) (h:b_ X.K H a xs):∃ its:List Value,Vals xs its∧IsTup s.heap a its.toArray∧xs.length≤sizeLine:=by
  rcases h with h | ⟨o,its,n,hk,hc,hs,hz,r⟩
  · obtain ⟨z,its,r,p⟩:=h.ok I.bH;exact ⟨its,r,p,z⟩
  · refine ⟨its.toList,r,⟨o,I.jP a o hk,hc,n,by simpa using hs⟩,?_⟩;have e:=r.length;simp only [Array.length_toList] at e
    lia
theorem Inv.je (I:Inv X pins σ H s) (h:aJ X.K H a xs) (h':aJ X.K H a ys):xs=ys:=by
  obtain ⟨its,r,⟨o,n,e,_,_,d⟩,_⟩:=I.list h;obtain ⟨its',r',⟨o',n',e',_,_,d'⟩,_⟩:=I.list h';rw [e] at e';cases e';rw [d] at d';injection d' with d1 _;have:its=its':=by simpa using congrArg Array.toList d1
  subst this;exact r.inj r'
theorem Inv.vY (I:Inv X pins σ H s) (h:b_ X.K H a xs) (h':b_ X.K H a ys):xs=ys:=by
  obtain ⟨its,r,⟨o,e,_,n,d⟩,_⟩:=I.tuple h;obtain ⟨its',r',⟨o',e',_,n',d'⟩,_⟩:=I.tuple h';rw [e] at e';cases e';rw [d] at d';injection d' with d1 _;have:its=its':=by simpa using congrArg Array.toList d1
  subst this;exact r.inj r'
end
noncomputable abbrev Cx.mX (X:Cx) (E:Value→Shared→Prop):Cx:={ X with xe:=E }
noncomputable abbrev Cx.B_ (X:Cx):Cx:=X.mX λ _ _=>False
theorem Cx.Ok.mX {X:Cx} (ok:X.Ok) (E:Value→Shared→Prop):(X.mX E).Ok :=
  ⟨ok.mod,ok.kind,ok.glob,ok.blt,ok.above,ok.inj,ok.has,ok.FU,ok.hd,ok.frames,ok.Jj,ok.NL,ok.bs,ok.Az,ok.xT,ok.AA,ok.jO,ok.B9⟩
theorem Cx.Ok.gv {X:Cx} {E:Value→Shared→Prop} (ok:(X.mX E).Ok):X.Ok :=
  ⟨ok.mod,ok.kind,ok.glob,ok.blt,ok.above,ok.inj,ok.has,ok.FU,ok.hd,ok.frames,ok.Jj,ok.NL,ok.bs,ok.Az,ok.xT,ok.AA,ok.jO,ok.B9⟩
section
variable {X:Cx} {pins:List (Addr×Obj)} {σ:St} {H:Hp} {s:Shared} {E:Value→Shared→Prop}
theorem Inv.mX (I:Inv X pins σ H s) (E:Value→Shared→Prop):Inv (X.mX E) pins σ H s:=⟨I.ok.mX E,I.os,I.bare,I.base,I.loc,I.cell,I.free,I.gq,I.pin,I.bH,I.len⟩
theorem Inv.gv (I:Inv (X.mX E) pins σ H s):Inv X pins σ H s:=⟨I.ok.gv,I.os,I.bare,I.base,I.loc,I.cell,I.free,I.gq,I.pin,I.bH,I.len⟩
theorem SP.gv {D:Ends} {f:Flow} {s':Shared} (h:SP (X.mX E) pins D f s'):SP X pins D f s':=by
  cases f with
  | next=>obtain ⟨σ',H',I,q⟩:=h;exact ⟨σ',H',I.gv,q⟩
  | brk=>obtain ⟨σ',H',I,q⟩:=h;exact ⟨σ',H',I.gv,q⟩
  | cont=>obtain ⟨σ',H',I,q⟩:=h;exact ⟨σ',H',I.gv,q⟩
  | ret u=>obtain ⟨v,σ',H',I,r,q⟩:=h;exact ⟨v,σ',H',I.gv,r,q⟩
theorem jM.B_ {st:List Stmt} {t:TS} (h:jM X.B_ st t):jM X st t:=λ pins s σ H D I hw =>
  wpAny_mono (h pins s σ H D (I.mX _) hw) (λ _ _ q=>q.gv) λ _ _ z=>False.elim z
end
section
variable {X:Cx} {st:Stmt} {rest:List Stmt} {t u:TS} {e:Expr} {te:TE} {pos:Pos}
noncomputable def Gb:TS:=λ D σ H=>D.nx σ H
noncomputable def Dk (t u:TS):TS:=λ D σ H=>t { D with nx:=u D } σ H
theorem aQ:jM X [] Gb:=λ _ _ σ H _ I h=>wpAny_execs_nil ⟨σ,H,I,h⟩
theorem ag (h1:PS X st t) (h2:jM X rest u):jM X (st :: rest) (Dk t u):=by
  intro pins s σ H D I h;refine wpAny_execs_cons (bP (h1 pins s σ H { D with nx:=u D } I h) λ f s1 q=>?_);cases f with
  | next =>
    obtain ⟨σ',H',I',q⟩:=q;exact h2 pins s1 σ' H' D I' q
  | ret v=>exact q
  | brk=>exact q
  | cont=>exact q
theorem aj (h1:PS X st t):jM X [st] t:=by
  intro pins s σ H D I h;refine wpAny_execs_cons (bP (h1 pins s σ H D I h) λ f s1 q=>?_);cases f with
  | next=>exact wpAny_execs_nil q
  | ret v=>exact q
  | brk=>exact q
  | cont=>exact q
theorem Inv.quiet {pins:List (Addr×Obj)} {σ:St} {H:Hp} {s:Shared} (I:Inv X pins σ H s):interactive X.env=false:=by simp [interactive,I.ok.kind]
noncomputable def Gd (te:TE):TS:=λ D σ H=>te σ H λ _ H1=>D.nx σ H1
theorem cG (he:PE X e te) (hs:swapsWith e none pos.line X.env=pure false:=by rfl):PS X (.Expr e pos) (Gd te):=by
  intro pins s σ H D I h;exact wpAny_Expr_any (bP (he pins s σ H _ I h) λ v s1 ⟨x,H1,I1,r1,q1⟩=>⟨σ,H1,I1,q1⟩) I.quiet hs
noncomputable def Kp (te:TE):TS:=λ D σ H=>te σ H D.rt
theorem aH (he:PE X e te):PS X (.Return (some e) pos) (Kp te):=by
  intro pins s σ H D I h;exact wpAny_Return_some (bP (he pins s σ H _ I h) λ v s1 ⟨x,H1,I1,r1,q1⟩=>⟨x,σ,H1,I1,r1,q1⟩)
noncomputable def Kq (c:TT) (t u:TS):TS:=λ D σ H=>c σ H λ b H1=>if b=true then t D σ H1 else u D σ H1
theorem bK {c:Expr} {a b:List Stmt} {tc:TT} (hc:PT X c tc) (ha:jM X a t) (hb:jM X b u):PS X (.If c a b pos) (Kq tc t u):=by
  intro pins s σ H D I h;refine wpAny_If (bP (hc pins s σ H _ I h) λ d s1 ⟨H1,I1,q1⟩=>?_);cases d with
  | true=>exact ha pins s1 σ H1 D I1 q1
  | false=>exact hb pins s1 σ H1 D I1 q1
end
noncomputable abbrev TG:=V→St→Hp→(St→Hp→Prop)→Prop
noncomputable abbrev Dl:=List V→St→Hp→(St→Hp→Prop)→Prop
noncomputable def PG (X:Cx) (target:Expr) (t:TG):Prop :=
  ∀ (pins:List (Addr×Obj)) (s:Shared) (σ:St) (H:Hp) (v:V) (u:Value) (Q:St→Hp→Prop),Inv X pins σ H s→RelV v u→t v σ H Q →
    wpAny (model X.prog X.w) X.A (assign target X.env u) (λ _ s'=>∃ σ' H',Inv X pins σ' H' s'∧Q σ' H') X.xe s
noncomputable def uK (X:Cx) (ts:List Expr) (t:Dl):Prop :=
  ∀ (pins:List (Addr×Obj)) (s:Shared) (σ:St) (H:Hp) (vs:List V) (us:List Value) (Q:St→Hp→Prop),Inv X pins σ H s→Vals vs us→t vs σ H Q →
    wpAny (model X.prog X.w) X.A (assignInOrder ((assignEach ts X.env).map (·.2)) us) (λ _ s'=>∃ σ' H',Inv X pins σ' H' s'∧Q σ' H') X.xe s
noncomputable abbrev xX:=V→V→V→Hp→(Hp→Prop)→Prop
noncomputable def Dm (X:Cx) (t:xX):Prop :=
  ∀ (pins:List (Addr×Obj)) (s:Shared) (σ:St) (H:Hp) (o i v:V) (ov iv u:Value) (Q:Hp→Prop),Inv X pins σ H s→RelV o ov→RelV i iv→RelV v u→t o i v H Q →
    wpAny (model X.prog X.w) X.A (setItem ov iv u) (λ _ s'=>∃ H',Inv X pins σ H' s'∧Q H') X.xe s
noncomputable abbrev E3:=V→V→Hp→VK→Prop
noncomputable def Jn (X:Cx) (op:Operator) (t:E3):Prop :=
  ∀ (pins:List (Addr×Obj)) (s:Shared) (σ:St) (H:Hp) (x y:V) (v u:Value) (Q:VK),Inv X pins σ H s→RelV x v→RelV y u→t x y H Q →
    wpAny (model X.prog X.w) X.A (inplaceOp op v u) (EP X pins σ Q) X.xe s
section
variable {X:Cx} {pos:Pos}
noncomputable def fb (i:Nat):TG:=λ v σ H Q=>Q (σ.set i (some v)) H
theorem aV {i:Nat} {x:Str} (hN:X.N.Nodup) (hi:X.N[i]?=some x) (hx:Loc X.env.scope x) (hf:X.fn x=true∨X.env.scope.names.lookup x=some .local:=by first | exact .inl rfl | exact .inr rfl | assumption):PG X (.Name x pos) (fb i):=by
  intro pins s σ H v u Q I r h;exact wpAny_assign_Name (gs I hN hi hx r (λ s' I'=>⟨_,H,I',h⟩) hf)
noncomputable def AE:Dl:=λ vs σ H Q=>vs=[]∧Q σ H
noncomputable def iH (t:TG) (u:Dl):Dl:=λ vs σ H Q=>∃ v r,vs=v :: r∧t v σ H λ σ' H'=>u r σ' H' Q
theorem kI:uK X [] AE:=by
  intro pins s σ H vs us Q I r h;obtain ⟨e,h⟩:=h;subst e;cases r;exact assignInOrder_nil ⟨σ,H,I,h⟩
theorem cj {e:Expr} {es:List Expr} {t:TG} {u:Dl} (h1:PG X e t) (h2:uK X es u)
    (hs:(assignEach (e :: es) X.env).map (·.2)=assign e X.env :: (assignEach es X.env).map (·.2):=by rfl):uK X (e :: es) (iH t u):=by
  intro pins s σ H vs us Q I r h;obtain ⟨v,vr,e1,h⟩:=h;subst e1;cases r with
  | cons r rr =>
    rw [hs];refine assignInOrder_cons (bP (h1 pins s σ H _ _ _ I r h) λ _ s1 ⟨σ1,H1,I1,q1⟩=>?_);exact h2 pins s1 σ1 H1 _ _ Q I1 rr q1
noncomputable def AF (K:PySem.W.Frag) (n:Nat) (t:Dl):TG:=λ v σ H Q=>∃ a xs,v = .ref a∧b_ K H a xs∧xs.length=n∧t xs σ H Q
theorem o_ {es:List Expr} {k:Nat} {t:Dl} {n:Nat} (hc:X.calm=true) (h:uK X es t)
    (hn:(assignEach es X.env).length=n:=by rfl) (qy:(assignEach es X.env).findIdx? (·.1)=none:=by rfl):PG X (.Tuple es k pos) (AF X.K n t):=by
  intro pins s σ H v u Q I r hw;obtain ⟨a,xs,e1,hq,hl,hw⟩:=hw;subst e1;cases r;obtain ⟨its,rv,ht,hz⟩:=I.tuple hq;refine assign_Tuple_tuple (I.ok.hd hc) ht (by simp [hn,← hl,rv.length]) qy λ h' hx=>?_;have I1:Inv X pins σ H { s with heap:=h' }:=I.kept (t':=s.toks) λ b o e=>hx b o (Nat.ne_of_lt (Heap.lt_size e)) e;exact h pins _ σ H xs _ Q I1 (by simpa using rv) hw
noncomputable def Kr (to ti:TE) (t:xX):TG:=λ v σ H Q=>to σ H λ o H1=>ti σ H1 λ i H2=>t o i v H2 λ H3=>Q σ H3
theorem pf {o i:Expr} {to ti:TE} {t:xX} (ho:PE X o to) (hi:PE X i ti) (hs:Dm X t)
    (ha:∀ v,assign (.Subscript o i pos) X.env v=(do
      let ov ← holding [v] (eval o X.env)
      let iv ← holding [v,ov] (eval i X.env)
      standAt pos
      holding [v,ov,iv] (setItem ov iv v)
      release [v,ov,iv] []):=by intro _;rfl):PG X (.Subscript o i pos) (Kr to ti t):=by
  intro pins s σ H v u Q I r h;rw [ha];refine wpAny_bind (wpAny_holding (bP (ho pins s σ H _ I h) λ ov s1 ⟨x,H1,I1,r1,q1⟩=>?_));refine wpAny_bind (wpAny_holding (bP (hi pins s1 σ H1 _ I1 q1) λ iv s2 ⟨y,H2,I2,r2,q2⟩=>?_));refine wpAny_bind (wpAny_standAt (wpAny_bind (wpAny_holding (bP (hs pins s2 σ H2 x y v ov iv u _ I2 r1 r2 r q2) λ _ s3 ⟨H3,I3,q3⟩=>?_))));exact wpAny_release ⟨σ,H3,I3,q3⟩
noncomputable def Dn (te:TE) (g:TG):TS:=λ D σ H=>te σ H λ x H1=>g x σ H1 D.nx
theorem lg {tg e:Expr} {te:TE} {g:TG} (he:PE X e te) (hg:PG X tg g) (hs:swapsWithSole [tg] e pos.line X.env=pure false:=by rfl) (hw:swappedStores [tg] e X.env=pure none:=by rfl)
    (h1:(assignEach [tg] X.env).map (·.2)=[assign tg X.env]:=by rfl):PS X (.Assign [tg] e pos) (Dn te g):=by
  intro pins s σ H D I h;refine wpAny_Assign_stores (bP (he pins s σ H _ I h) λ v s1 ⟨x,H1,I1,r1,q1⟩=>?_) hs hw;rw [h1];exact bP (hg pins s1 σ H1 x v _ I1 r1 q1) λ _ s2 q=>q
theorem aK {i:Nat} {x:Str} {e:Expr} {te:TE} {pos':Pos} (hN:X.N.Nodup) (hi:X.N[i]?=some x) (hx:Loc X.env.scope x) (he:PE X e te) (hs:swapsWith e (some (.Name x pos')) pos.line X.env=pure false:=by rfl) (hf:X.fn x=true∨X.env.scope.names.lookup x=some .local:=by first | exact .inl rfl | exact .inr rfl | assumption) :
    PS X (.Assign [.Name x pos'] e pos) (Dn te (fb i)):=by
  intro pins s σ H D I h;refine wpAny_Assign_Name (bP (he pins s σ H _ I h) λ v s1 ⟨y,H1,I1,r1,q1⟩=>?_) hs;exact gs I1 hN hi hx r1 (λ s2 I2=>⟨_,H1,I2,q1⟩) hf
noncomputable def Ks (i j:Nat) (ta:TA):TS:=λ D σ H=>ta σ H λ vs H1=>∃ v w,vs=[v,w]∧D.nx ((σ.set i (some v)).set j (some w)) H1
theorem xY {i j:Nat} {x y:Str} {a b:Expr} {ta:TA} {px py pt:Pos} {kt k2 Kt} (hc:X.calm=true) (hN:X.N.Nodup) (hi:X.N[i]?=some x) (hj:X.N[j]?=some y) (kJ:i≠j)
    (hx:X.env.scope.names.lookup x=some .local) (hy:X.env.scope.names.lookup y=some .local) (ha:PA X [a,b] ta)
    (hw:swappedStores [.Tuple [.Name x px,.Name y py] kt pt] (.Tuple [a,b] k2 Kt) X.env=pure (some [x,y]))
    (hs:swapsWithSole [.Tuple [.Name x px,.Name y py] kt pt] (.Tuple [a,b] k2 Kt) pos.line X.env=pure false:=by rfl) :
    PS X (.Assign [.Tuple [.Name x px,.Name y py] kt pt] (.Tuple [a,b] k2 Kt) pos) (Ks i j ta):=by
  intro pins s σ H D I h;rw [exec_Assign_arm];refine wpAny_bind (wpAny_standAt ?_);rw [hs];refine wpAny_bind (wpAny_pure ?_);rw [if_neg (by decide)];refine wpAny_bind (Tuple_ (bP (ha _ pins s σ H _ I h) λ us s1 ⟨vs,H1,I1,r1,q1⟩=>?_));obtain ⟨v,w,e1,q1⟩:=q1;subst e1;obtain ⟨u1,u2,rfl,rv,nJ⟩:∃ u1 u2,us=[u1,u2]∧RelV v u1∧RelV w u2:=by
    cases r1 with
    | cons p q =>
      cases q with
      | cons p' q' =>
        cases q';exact ⟨_,_,rfl,p,p'⟩
  refine wpAny_newObj_type ?_ (by show 2≤sizeLine;decide);have I2:Inv X pins σ H1 { s1 with heap:=s1.heap.push { cls:=.type "tuple",data:=.seq [u1,u2].toArray } }:=I1.kept (t':=s1.toks) λ b o e=>Heap.get?_push_of_some _ e;rw [hw];refine wpAny_bind (wpAny_pure ?_);show wpAny (model X.prog X.w) X.A (do rule "assign.swapped-stores";let items ← unpackItems (.ref s1.heap.objs.size) 2 none;assignInOrder [λ v=>bindName X.env y v,λ v=>bindName X.env x v] items.reverse;pure Flow.next) _ _ _
  refine wpAny_bind (wpAny_rule (wpAny_bind (unpackItems_tuple (items:=#[u1,u2]) (I.ok.hd hc) (IsTup.new s1.heap _) λ h' vZ=>?_)));have I3:=I2.kept (h':=h') (t':=s1.toks) λ b o e=>vZ b o (Nat.ne_of_lt (Heap.lt_size e)) e;show wpAny _ _ (assignInOrder [λ v=>bindName X.env y v,λ v=>bindName X.env x v] [u2,u1] >>= λ _=>pure Flow.next) _ _ _;refine wpAny_bind (assignInOrder_cons (wpAny_bindName (gs I3 hN hj (.inl hy) nJ (λ s2 I4=>?_) (.inr hy))));refine assignInOrder_cons (wpAny_bindName (gs I4 hN hi (.inl hx) rv (λ s3 I5=>assignInOrder_nil (wpAny_pure ?_)) (.inr hx)));rw [List.set_comm _ _ (Ne.symm kJ)] at I5;exact ⟨_,H1,I5,q1⟩
noncomputable def Ku (i:Nat) (te:TE) (ti:E3):TS:=λ D σ H=>∃ x,σ[i]?=some (some x)∧te σ H λ y H1=>ti x y H1 λ z H2=>D.nx (σ.set i (some z)) H2
theorem Dp {i:Nat} {x:Str} {e:Expr} {te:TE} {op:Operator} {ti:E3} {pos':Pos} (hN:X.N.Nodup) (hi:X.N[i]?=some x) (hx:Loc X.env.scope x) (he:PE X e te) (ho:Jn X op ti) (hf:X.fn x=true∨X.env.scope.names.lookup x=some .local:=by first | exact .inl rfl | exact .inr rfl | assumption) :
    PS X (.AugAssign (.Name x pos') op e pos) (Ku i te ti):=by
  intro pins s σ H D I h;obtain ⟨v,e1,h⟩:=h;obtain ⟨m,hn,hl⟩:=I.loc;have Qd:FT X.env.scope x:=by rcases hx with k | k;exact .inl k;exact .inr (.inl k)
  obtain ⟨u,r,l⟩:=hl i x v hi e1 Qd;refine wpAny_AugAssign_Name ?_;have go:wpAny (model X.prog X.w) X.A (eval e X.env) (λ w s₂=>wpAny (model X.prog X.w) X.A (inplaceOp op u w) (λ r s₃=>wpAny (model X.prog X.w) X.A (storeName X.env x r) (λ _=>SP X pins D .next) X.xe s₃) X.xe s₂) X.xe s:=by
    refine bP (he pins s σ H _ I h) λ w s1 ⟨y,H1,I1,r1,q1⟩=>?_;refine bP (ho pins s1 σ H1 v y u w _ I1 r r1 q1) λ z s2 ⟨zv,H2,I2,r2,q2⟩=>?_;exact gs I2 hN hi hx r2 (λ s3 I3=>⟨_,H2,I3,q2⟩) hf
  rcases l with ⟨hk,hm⟩ | ⟨hk,c,hc,uJ⟩
  · exact wpAny_loadName_local I.ok.kind hk hn hm go
  · rcases hk with hk | hk
    · exact wpAny_loadName_cell I.ok.kind hk hc uJ go
    · rcases hx with k | k
      · have:X.env.scope.names.lookup x=some .free:=hk;rw [k] at this;cases this
      · have:X.env.scope.names.lookup x=some .free:=hk;rw [k] at this;cases this
noncomputable def Ge (to ti te:TE) (AG:V→V→Hp→VK→Prop) (Jo:E3) (AH:xX):TS:=λ D σ H=>to σ H λ o H1=>ti σ H1 λ i H2=>AG o i H2 λ x H3=>te σ H3 λ y H4=>Jo x y H4 λ z H5=>AH o i z H5 λ H6=>D.nx σ H6
noncomputable def Gf (X:Cx) (t:V→V→Hp→VK→Prop):Prop :=
  ∀ (pins:List (Addr×Obj)) (s:Shared) (σ:St) (H:Hp) (o i:V) (ov iv:Value) (Q:VK),Inv X pins σ H s→RelV o ov→RelV i iv→t o i H Q →
    wpAny (model X.prog X.w) X.A (getItem ov iv) (EP X pins σ Q) X.xe s
theorem uL {o i e:Expr} {to ti te:TE} {AG:V→V→Hp→VK→Prop} {Jo:E3} {AH:xX} {op:Operator} {AI:Pos} (ho:PE X o to) (hi:PE X i ti) (hg:Gf X AG) (he:PE X e te) (hp:Jn X op Jo) (hs:Dm X AH)
    (ha:∀ ov iv new,augStore i ov iv new=(do holding [new,ov,iv] (setItem ov iv new);release [new,ov,iv] [];pure .next):=by intros;rfl):PS X (.AugAssign (.Subscript o i AI) op e pos) (Ge to ti te AG Jo AH):=by
  intro pins s σ H D I h;refine wpAny_AugAssign_SubscriptAny (bP (ho pins s σ H _ I h) λ ov s1 ⟨x1,H1,I1,r1,q1⟩=>?_) ha;refine bP (hi pins s1 σ H1 _ I1 q1) λ iv s2 ⟨x2,H2,I2,r2,q2⟩=>?_;refine bP (hg pins s2 σ H2 x1 x2 ov iv _ I2 r1 r2 q2) λ old s3 ⟨x3,H3,I3,r3,q3⟩=>?_;refine bP (he pins s3 σ H3 _ I3 q3) λ v s4 ⟨x4,H4,I4,r4,q4⟩=>?_;refine bP (hp pins s4 σ H4 x3 x4 old v _ I4 r3 r4 q4) λ new s5 ⟨x5,H5,I5,r5,q5⟩=>?_;exact bP (hs pins s5 σ H5 x1 x2 x5 ov iv new _ I5 r1 r2 r5 q5) λ _ s6 ⟨H6,I6,q6⟩=>⟨σ,H6,I6,q6⟩
noncomputable def NO (f:Int→Int→Int):E3:=λ x y H Q=>∃ i j,x = .int i∧y = .int j∧Q (.int (f i j)) H
theorem xZ:Jn X .Add (NO λ i j=>i + j):=by
  intro pins s σ H x y v u Q I r1 r2 h;obtain ⟨i,j,e1,e2,q⟩:=h;subst e1;subst e2;obtain ⟨t,rfl⟩:=r1;obtain ⟨t',rfl⟩:=r2;exact iadd_int ⟨.int _,H,I.tok _,⟨_,rfl⟩,q⟩
theorem Dq:Jn X .Sub (NO λ i j=>i - j):=by
  intro pins s σ H x y v u Q I r1 r2 h;obtain ⟨i,j,e1,e2,q⟩:=h;subst e1;subst e2;obtain ⟨t,rfl⟩:=r1;obtain ⟨t',rfl⟩:=r2;exact isub_int ⟨.int _,H,I.tok _,⟨_,rfl⟩,q⟩
end
section
variable {X:Cx} {pos:Pos}
noncomputable def Dr (c:TT) (tb:TS):TS:=λ D σ H=>∃ W:Nat→St→Hp→Prop,(∃ m,W m σ H)∧∀ m σ H,W m σ H →
  c σ H λ b H1=>if b=true then ∃ N:St→Hp→Prop,(∀ σ' H',N σ' H'→∃ m',m' < m∧W m' σ' H')∧tb { D with nx:=N,ct:=N,bk:=D.nx } σ H1 else D.nx σ H1
theorem jf {c:Expr} {body:List Stmt} {tc:TT} {tb:TS} (hp:PassesOwn (model X.prog X.w) X.A X.env X.xe) (hc:PT X c tc) (hb:jM X body tb):PS X (.While c body [] pos) (Dr tc tb):=by
  intro pins s σ H D I h;obtain ⟨W,⟨m0,w0⟩,turn⟩:=h;refine wpAny_While (codeAny_whileLoop (λ n s'=>∃ σ' H',Inv X pins σ' H' s'∧W n σ' H') ?_ m0 ⟨σ,H,I,w0⟩);rintro n s1 ⟨σ1,H1,I1,w1⟩;refine wpAny_passesOwn hp (bP (hc pins s1 σ1 H1 _ I1 (turn n σ1 H1 w1)) λ b s2 ⟨H2,I2,q2⟩=>?_);cases b with
  | true =>
    obtain ⟨N,hN,q2⟩:=q2;rw [if_pos rfl];refine wpAny_passesOwn hp (bP (hb pins s2 σ1 H2 _ I2 q2) λ f s3 q3=>?_);cases f with
    | next =>
      obtain ⟨σ3,H3,I3,n3⟩:=q3;obtain ⟨m',hm,w3⟩:=hN σ3 H3 n3;exact ⟨m',hm,σ3,H3,I3,w3⟩
    | cont =>
      obtain ⟨σ3,H3,I3,n3⟩:=q3;obtain ⟨m',hm,w3⟩:=hN σ3 H3 n3;exact ⟨m',hm,σ3,H3,I3,w3⟩
    | brk=>exact q3
    | ret v=>exact q3
  | false =>
    rw [if_neg Bool.false_ne_true];exact wpAny_execs_nil ⟨σ1,H2,I2,q2⟩
end
structure It where
  go:Nat→Hp→Prop
  nK:Nat→Hp→V→Hp→Prop
  stop:Nat→Hp→Prop
noncomputable def dO (X:Cx) (pins:List (Addr×Obj)) (H:Hp) (b:Addr):Prop :=
  H b=none∧b≠X.env.locals∧b∉X.fs∧(b∈X.ex∨X.s₀.heap.objs.size≤b)∧(∀ x c,X.env.cells.lookup x=some c→c≠b)∧∀ p∈X.pn ++ pins,p.1≠b
theorem Inv.mY {X:Cx} {pins:List (Addr×Obj)} {σ:St} {H H':Hp} {s:Shared} {b:Addr} (I:Inv X pins σ H s) (hb:s.heap.objs.size≤b) (hn:H' b=none):dO X pins H' b:=by
  refine ⟨hn,Nat.ne_of_gt (Nat.lt_of_lt_of_le I.lt hb),I.Kf hb,.inr (Nat.le_trans I.sz hb),λ x c e z=>?_,λ p hp z=>?_⟩
  · obtain ⟨v,q⟩:=I.cell x c e;exact absurd (Nat.lt_of_lt_of_le q.lt (by rw [z];exact hb)) (Nat.lt_irrefl _)
  · exact absurd (Nat.lt_of_lt_of_le (Heap.lt_size (I.pin p hp).1) (by rw [z];exact hb)) (Nat.lt_irrefl _)
structure Turn (P:Program) (w:World) (K:PySem.W.Frag) (tg:Expr) (J:It) (fp:List Addr) (it:Addr) (tn:Nat→Heap→Prop):Prop where
  mem:it∈fp
  obj:∀ i h,tn i h→∀ b∈fp,∃ o,h.get? b=some o∧∀ v,o.data≠.cell v
  keep:∀ i h h',tn i h→(∀ b∈fp,∀ o,h.get? b=some o→h'.get? b=some o)→tn i h'
  item:∀ (X:Cx),X.prog=P→X.w=w→X.K=K→X.calm=true→∀ (i:Nat) (pins:List (Addr×Obj)) (s:Shared) (σ:St) (H:Hp) (E:Value→Shared→Prop),Inv X pins σ H s→(∀ b∈fp,dO X pins H b)→tn i s.heap→J.go i H →
    wpAny (model P w) X.A (pyNext (.ref it)) (λ r s1=>∃ u,r=some u ∧
      wpAny (model P w) X.A (letOwnedTupleGo tg (.ref it) u) (λ _ s2=>∃ x H',Inv X pins σ H' s2∧RelV x u∧J.nK i H x H'∧tn (i + 1) s2.heap∧∀ b∈fp,H' b=none) E s1) E s
  done:∀ (X:Cx),X.prog=P→X.w=w→X.K=K→X.calm=true→∀ (i:Nat) (pins:List (Addr×Obj)) (s:Shared) (σ:St) (H:Hp) (E:Value→Shared→Prop),Inv X pins σ H s→(∀ b∈fp,dO X pins H b)→tn i s.heap→J.stop i H →
    wpAny (model P w) X.A (pyNext (.ref it)) (λ r s1=>r=none∧Inv X pins σ H s1) E s
  self:∀ (A:Around) (i:Nat) (s:Shared) (Q:Value→Shared→Prop) (E:Value→Shared→Prop),tn i s.heap→Q (.ref it) s→wpAny (model P w) A (pyIter (.ref it)) Q E s
noncomputable abbrev TI:=St→Hp→(It→Hp→Prop)→Prop
noncomputable def NP (X:Cx) (pins:List (Addr×Obj)) (σ:St) (tg:Expr) (R:It→Hp→Prop) (Jp:Value) (s2:Shared):Prop :=
  ∃ (it:Addr) (fp:List Addr) (tn:Nat→Heap→Prop) (J:It) (H':Hp),Jp = .ref it∧Inv X pins σ H' s2∧Turn X.prog X.w X.K tg J fp it tn∧tn 0 s2.heap∧(∀ b∈fp,dO X pins H' b)∧R J H'
noncomputable def PI (X:Cx) (tg iter:Expr) (wi:TI):Prop :=
  ∀ (pins:List (Addr×Obj)) (s:Shared) (σ:St) (H:Hp) (R:It→Hp→Prop),Inv X pins σ H s→wi σ H R →
    wpAny (model X.prog X.w) X.A (eval iter X.env) (λ v s1=>wpAny (model X.prog X.w) X.A (pyIter v) (NP X pins σ tg R) X.xe s1) X.xe s
theorem uM {M:Model} {A:Around} {E:Value→Shared→Prop} {s:Shared} {tg:Expr} {it:Addr} {u:Value} {o:Obj} {n:String} {vs:Array Value} {Q:Unit→Shared→Prop} (ho:s.heap.get? it=some o) (hc:o.cls = .type n) (hd:o.data = .fields vs)
    (hn:["enumerate","zip","dict_itemiterator","dict_reverseitemiterator","odict_iterator","itertools.zip_longest","itertools.pairwise"].contains n=false) (hQ:Q () s):wpAny M A (letOwnedTupleGo tg (.ref it) u) Q E s:=by
  unfold letOwnedTupleGo;cases tg<;>first
    | exact wpAny_pure hQ
    | (cases u<;>first
        | exact wpAny_pure hQ
        | (refine wpAny_bind (wpAny_load ho ?_)
           rw [hc,hd];show wpAny M A (if (["enumerate","zip","dict_itemiterator","dict_reverseitemiterator","odict_iterator","itertools.zip_longest","itertools.pairwise"].contains n && vs[0]? == some (rawInt _))=true then _ else _) Q E s;rw [if_neg (by intro h;rw [hn,Bool.false_and] at h;cases h)];exact wpAny_pure hQ))
noncomputable def E4 (K:PySem.W.Frag) (a:Addr):It :=
  ⟨λ i H=>∃ xs x,aJ K H a xs∧xs[i]?=some x,λ i H x H'=>H'=H∧∀ xs,aJ K H a xs→xs[i]?=some x,λ i H=>∃ xs,aJ K H a xs∧xs.length≤i⟩
noncomputable def Kv (K:PySem.W.Frag) (a:Addr):It :=
  ⟨λ i H=>∃ xs x,b_ K H a xs∧xs[i]?=some x,λ i H x H'=>H'=H∧∀ xs,b_ K H a xs→xs[i]?=some x,λ i H=>∃ xs,b_ K H a xs∧xs.length≤i⟩
noncomputable def Jq (lo:Int) (n:Nat):It:=⟨λ i _=>i < n,λ i H x H'=>H'=H∧x = .int (lo + i),λ i _=>n≤i⟩
theorem v3 {P:Program} {w:World} {K:PySem.W.Frag} {tg:Expr} (a it:Addr):Turn P w K tg (E4 K a) [it] it (λ i h=>h.IsListIter it a i) where
  mem:=by simp
  obj:=λ i h st b hb=>by
    have e:b=it:=by simpa using hb
    subst e;obtain ⟨o,e,c,d⟩:=st;exact ⟨o,e,λ v z=>by rw [d] at z;cases z⟩
  keep:=λ i h h' st k=>st.at λ o e=>k it (by simp) o e
  item:=by
    intro X hP hw hK hc i pins s σ H E I hf st hg;subst hP hw hK;obtain ⟨xs,x,hq,hx⟩:=hg;obtain ⟨its,rv,p,hz⟩:=I.list hq;obtain ⟨u,hu,ru⟩:=rv.get hx;obtain ⟨f0,f1,f2,f3,f4,f5⟩:=hf it (by simp);refine wpAny_pyNext_list_item st p.isList (x:=u) (by simpa using hu) λ h' aE sb=>?_;have I1:Inv X pins σ H { s with heap:=h' }:=I.turned (t':=s.toks) (λ b o hb e=>(sb.2 b hb).trans e) f0 f1 f3 f4 f5;obtain ⟨o,e,c,d⟩:=id aE;exact ⟨u,rfl,uM (s:={ s with heap:=h' }) e c d (by decide) ⟨x,H,I1,ru,⟨rfl,λ ys hy=>by rw [I.je hy hq];exact hx⟩,aE,λ b hb=>(hf b hb).1⟩⟩
  done:=by
    intro X hP hw hK hc i pins s σ H E I hf st hg;subst hP hw hK;obtain ⟨xs,hq,hx⟩:=hg;obtain ⟨its,rv,p,hz⟩:=I.list hq;obtain ⟨f0,f1,f2,f3,f4,f5⟩:=hf it (by simp);have hl:=rv.length;exact wpAny_pyNext_list_end (I.ok.hd hc) st p.isList (by simp;lia) λ h' eb=>⟨rfl,I.turned (t':=s.toks) (λ b o hb e=>eb b o hb e) f0 f1 f3 f4 f5⟩
  self:=λ _ _ _ _ _ st h=>wpAny_pyIter_listiter st h
theorem sX {P:Program} {w:World} {K:PySem.W.Frag} {tg:Expr} (a it:Addr):Turn P w K tg (Kv K a) [it] it (λ i h=>h.IsTupleIter it a i) where
  mem:=by simp
  obj:=λ i h st b hb=>by
    have e:b=it:=by simpa using hb
    subst e;obtain ⟨o,e,c,d⟩:=st;exact ⟨o,e,λ v z=>by rw [d] at z;cases z⟩
  keep:=λ i h h' st k=>st.at λ o e=>k it (by simp) o e
  item:=by
    intro X hP hw hK hc i pins s σ H E I hf st hg;subst hP hw hK;obtain ⟨xs,x,hq,hx⟩:=hg;obtain ⟨its,rv,p,hz⟩:=I.tuple hq;obtain ⟨u,hu,ru⟩:=rv.get hx;obtain ⟨f0,f1,f2,f3,f4,f5⟩:=hf it (by simp);refine wpAny_pyNext_tuple_item st (show s.heap.IsTuple a its.toArray from p) (x:=u) (by simpa using hu) λ h' aE sb=>?_;have I1:Inv X pins σ H { s with heap:=h' }:=I.turned (t':=s.toks) (λ b o hb e=>(sb.2 b hb).trans e) f0 f1 f3 f4 f5;obtain ⟨o,e,c,d⟩:=id aE;exact ⟨u,rfl,uM (s:={ s with heap:=h' }) e c d (by decide) ⟨x,H,I1,ru,⟨rfl,λ ys hy=>by rw [I.vY hy hq];exact hx⟩,aE,λ b hb=>(hf b hb).1⟩⟩
  done:=by
    intro X hP hw hK hc i pins s σ H E I hf st hg;subst hP hw hK;obtain ⟨xs,hq,hx⟩:=hg;obtain ⟨its,rv,p,hz⟩:=I.tuple hq;obtain ⟨f0,f1,f2,f3,f4,f5⟩:=hf it (by simp);have hl:=rv.length;exact wpAny_pyNext_tuple_end (I.ok.hd hc) st (show s.heap.IsTuple a its.toArray from p) (by simp;lia) λ h' eb=>⟨rfl,I.turned (t':=s.toks) (λ b o hb e=>eb b o hb e) f0 f1 f3 f4 f5⟩
  self:=λ _ _ _ _ _ st h=>wpAny_pyIter_tupleiter st h
theorem sY {P:Program} {w:World} {K:PySem.W.Frag} {tg:Expr} (it:Addr) (lo:Int) (n:Nat):Turn P w K tg (Jq lo n) [it] it (λ i h=>IsRangeIter h it (lo + (i:Nat) * 1) ((n:Int) - (i:Nat)) 1) where
  mem:=by simp
  obj:=λ i h st b hb=>by
    have e:b=it:=by simpa using hb
    subst e;exact ⟨_,st,λ v z=>by
      have z':Data.fields _=Data.cell v:=z;cases z'⟩
  keep:=λ i h h' st k=>k it (by simp) _ st
  item:=by
    intro X hP hw hK hc i pins s σ H E I hf st hg;subst hP hw hK;obtain ⟨f0,f1,f2,f3,f4,f5⟩:=hf it (by simp);have W:=Walks.range (prog:=X.prog) (w:=X.w) (I.ok.hd hc) it lo 1 n;refine W.item i s _ _ hg st λ v h' tk hv aE kk=>?_;obtain ⟨t,rfl⟩:=hv;have I1:Inv X pins σ H { s with heap:=h',toks:=tk }:=I.turned (λ b o hb e=>kk b o (by simpa using hb) e) f0 f1 f3 f4 f5;refine ⟨_,rfl,uM (s:={ s with heap:=h',toks:=tk }) (n:="range_iterator") aE rfl rfl (by decide) ⟨.int (lo + i),H,I1,⟨t,?_⟩,⟨rfl,rfl⟩,aE,λ b hb=>(hf b hb).1⟩⟩;rw [Int.mul_one]
  done:=by
    intro X hP hw hK hc i pins s σ H E I hf st hg;subst hP hw hK;obtain ⟨f0,f1,f2,f3,f4,f5⟩:=hf it (by simp);exact wpAny_pyNext_range_end (I.ok.hd hc) st (by have:n≤i:=hg;lia) λ h' eb=>⟨rfl,I.turned (t':=s.toks) (λ b o hb e=>eb b o hb e) f0 f1 f3 f4 f5⟩
  self:=λ _ _ _ _ _ st h=>wpAny_pyIter_rangeiter st h
section
variable {X:Cx} {tg:Expr}
noncomputable def Gg (K:PySem.W.Frag) (tl:TE):TI:=λ σ H R=>tl σ H λ x H1=>∃ a,x = .ref a∧(∃ xs,aJ K H1 a xs)∧R (E4 K a) H1
noncomputable def Kw (K:PySem.W.Frag) (tl:TE):TI:=λ σ H R=>tl σ H λ x H1=>∃ a,x = .ref a∧(∃ xs,b_ K H1 a xs)∧R (Kv K a) H1
theorem aY {l:Expr} {tl:TE} (hl:PE X l tl):PI X tg l (Gg X.K tl):=by
  intro pins s σ H R I h;refine bP (hl pins s σ H _ I h) λ v s1 ⟨x,H1,I1,r1,q1⟩=>?_;obtain ⟨a,e,⟨xs,hq⟩,q⟩:=q1;subst e;cases r1;obtain ⟨its,rv,p,hz⟩:=I1.list hq;refine wpAny_pyIter_list p.isList ?_;refine ⟨s1.heap.objs.size,[s1.heap.objs.size],_,_,H1,rfl,I1.kept (t':=s1.toks) λ b o e=>Heap.get?_push_of_some _ e,v3 a _,⟨_,Heap.get?_push_size _ rfl,rfl,rfl⟩,λ b hb=>?_,q⟩;have e:b=s1.heap.objs.size:=by simpa using hb
  subst e;exact I1.mY (Nat.le_refl _) (I1.bH.fresh (Nat.le_refl _))
theorem x6 {l:Expr} {tl:TE} (hl:PE X l tl):PI X tg l (Kw X.K tl):=by
  intro pins s σ H R I h;refine bP (hl pins s σ H _ I h) λ v s1 ⟨x,H1,I1,r1,q1⟩=>?_;obtain ⟨a,e,⟨xs,hq⟩,q⟩:=q1;subst e;cases r1;obtain ⟨its,rv,p,hz⟩:=I1.tuple hq;refine wpAny_pyIter_tuple (show s1.heap.IsTuple a its.toArray from p) ?_;refine ⟨s1.heap.objs.size,[s1.heap.objs.size],_,_,H1,rfl,I1.kept (t':=s1.toks) λ b o e=>Heap.get?_push_of_some _ e,sX a _,⟨_,Heap.get?_push_size _ rfl,rfl,rfl⟩,λ b hb=>?_,q⟩;have e:b=s1.heap.objs.size:=by simpa using hb
  subst e;exact I1.mY (Nat.le_refl _) (I1.bH.fresh (Nat.le_refl _))
theorem x8 {pins:List (Addr×Obj)} {σ:St} {H:Hp} {s:Shared} {R:It→Hp→Prop} {E:Value→Shared→Prop} {lo hi:Int} {t u v:Tok} {tk:Nat} (I:Inv X pins σ H s) (h1:-(2 ^ 62)≤lo) (h2:lo < 2 ^ 62) (h3:-(2 ^ 62)≤hi) (h4:hi < 2 ^ 62)
    (q:R (Jq lo (hi - lo).toNat) H):wpAny (model X.prog X.w) X.A (pyIter (.ref s.heap.objs.size)) (NP X pins σ tg R) E { s with heap:=s.heap.push { cls:=.type "range",data:=.fields #[.int lo t,.int hi u,.int 1 v] },toks:=tk }:=by
  refine wpAny_pyIter_range (IsRange.new ..) (small_one h1 h2 h3 h4) ?_;have I1:Inv X pins σ H { s with heap:=s.heap.push { cls:=.type "range",data:=.fields #[.int lo t,.int hi u,.int 1 v] },toks:=tk }:=I.kept λ b o e=>Heap.get?_push_of_some _ e;refine ⟨(s.heap.push { cls:=.type "range",data:=.fields #[.int lo t,.int hi u,.int 1 v] }).objs.size,[(s.heap.push { cls:=.type "range",data:=.fields #[.int lo t,.int hi u,.int 1 v] }).objs.size],_,_,H,rfl,
    I1.kept (t':=tk) λ b o e=>Heap.get?_push_of_some _ e,sY _ lo (hi - lo).toNat,?_,λ b hb=>?_,q⟩
  · have e1:lo + ((0:Nat):Int) * 1=lo:=by simp
    have e2:(((hi - lo).toNat:Nat):Int) - ((0:Nat):Int)=Builtin.Range.rangeSize lo hi 1:=by rw [rangeSize_one];split<;>lia
    show IsRangeIter _ _ (lo + ((0:Nat):Int) * 1) ((((hi - lo).toNat:Nat):Int) - ((0:Nat):Int)) 1;rw [e1,e2];exact Heap.get?_push_size _ rfl
  · have e:b=(s.heap.push { cls:=.type "range",data:=.fields #[.int lo t,.int hi u,.int 1 v] }).objs.size:=by simpa using hb
    subst e;exact I1.mY (Nat.le_refl _) (I1.bH.fresh (Nat.le_refl _))
noncomputable def Gh (ta:TA):TI:=λ σ H R=>ta σ H λ vs H1=>∃ j:Int,vs=[.int j]∧-(2 ^ 62)≤j∧j < 2 ^ 62∧R (Jq 0 j.toNat) H1
theorem h8 {a:Expr} {ta:TA} {p pos:Pos} (hg:Gl X "range") (hm:X.mg "range"=none) (ha:PA X [a] ta) (hs:starEach [a] X.env=[(false,eval a X.env)]:=by rfl):PI X tg (.Call (.Name "range" p) [a] [] pos) (Gh ta):=by
  intro pins s σ H R I h;refine Call_ (gu I hg hm boot_range (PyProof.Rows.callWith_type1 (bP (ha pos pins s σ H _ I h) λ us s1 ⟨vs,H1,I1,r1,q1⟩=>?_) hs rfl));obtain ⟨j,e,q1,q2,q⟩:=q1;subst e;cases r1 with
  | cons r rr =>
    cases rr;obtain ⟨t,rfl⟩:=r;exact call_range_1 (x8 I1 (by lia) (by lia) q1 q2 (by simpa using q))
noncomputable def Kx (wi:TI) (g:TG) (tb:TS):TS:=λ D σ H=>wi σ H λ J H1=>∃ W:Nat→Nat→St→Hp→Prop,(∃ m,W 0 m σ H1)∧∀ i m σ H,W i m σ H →
  (J.stop i H∧D.nx σ H)∨(J.go i H∧∃ N:St→Hp→Prop,(∀ σ' H',N σ' H'→∃ m',m' < m∧W (i + 1) m' σ' H')∧∀ x H',J.nK i H x H'→g x σ H' λ σ2 H2=>tb { D with nx:=N,ct:=N,bk:=D.nx } σ2 H2)
noncomputable def lh (fp:List Addr) (h:Heap):List (Addr×Obj):=fp.filterMap λ b=>(h.get? b).map λ o=>(b,o)
theorem fz {fp:List Addr} {h:Heap} {b:Addr} {o:Obj} (hb:b∈fp) (e:h.get? b=some o):(b,o)∈lh fp h:=List.mem_filterMap.mpr ⟨b,hb,by rw [e];rfl⟩
theorem v5 {fp:List Addr} {h:Heap} {p:Addr×Obj} (hp:p∈lh fp h):p.1∈fp∧h.get? p.1=some p.2:=by
  obtain ⟨b,hb,e⟩:=List.mem_filterMap.mp hp;cases q:h.get? b with
  | none=>rw [q] at e;cases e
  | some o =>
    rw [q] at e;have e':(b,o)=p:=Option.some.inj e;subst e';exact ⟨hb,q⟩
theorem Inv.pinned {pins:List (Addr×Obj)} {σ:St} {H:Hp} {s:Shared} {fp:List Addr} (I:Inv X pins σ H s) (hf:∀ b∈fp,dO X pins H b) (ho:∀ b∈fp,∃ o,s.heap.get? b=some o∧∀ v,o.data≠.cell v):Inv X (pins ++ lh fp s.heap) σ H s :=
  I.oY λ p hp=>(List.mem_append.mp hp).elim (λ z=>I.pin p (List.mem_append_right _ z)) λ z=>by
    obtain ⟨hb,e⟩:=v5 z;obtain ⟨f0,f1,f2,_⟩:=hf p.1 hb;obtain ⟨o,e',d⟩:=ho p.1 hb;rw [e] at e';cases e';exact ⟨e,f0,f1,f2,d⟩
theorem Inv.d_ {pins pl:List (Addr×Obj)} {σ:St} {H:Hp} {s:Shared} (I:Inv X (pins ++ pl) σ H s):Inv X pins σ H s:=I.oY λ p hp=>I.pin p (List.mem_append_right _ (List.mem_append_left _ hp))
theorem ee {iter:Expr} {body:List Stmt} {wi:TI} {g:TG} {tb:TS} {pos:Pos} (hp:PassesOwn (model X.prog X.w) X.A X.env X.xe) (hc:X.calm=true) (hi:PI X tg iter wi) (hg:PG X tg g) (hb:jM X body tb)
    (hs:∀ x,foldedSetIterable iter X.env x=pure x:=by intro _;rfl):PS X (.For tg iter body [] pos) (Kx wi g tb):=by
  intro pins s σ H D I h;refine wpAny_For (bP (hi pins s σ H _ I h) λ v s1 h1=>bP h1 λ Jp s2 h2=>?_) hs;obtain ⟨it,fp,tn,J,H2,e,I2,T,ef,f2,W,⟨m0,w0⟩,turn⟩:=h2;subst e;have sZ:∀ {H':Hp},(∀ b∈fp,H' b=none)→∀ b∈fp,dO X pins H' b:=λ hn b hb=>⟨hn b hb,(f2 b hb).2⟩;refine codeAny_forLoop_any (λ n s'=>∃ i σ' H',Inv X pins σ' H' s'∧tn i s'.heap∧(∀ b∈fp,H' b=none)∧W i n σ' H') ?_ m0 ⟨0,σ,H2,I2,ef,λ b hb=>(f2 b hb).1,w0⟩;rintro n s3 ⟨i,σ3,H3,I3,iU,Gi,w3⟩;rcases turn i n σ3 H3 w3 with ⟨stop,qn⟩ | ⟨go,N,hN,step⟩
  · refine wpAny_passesOwn hp (bP (T.done X rfl rfl rfl hc i pins s3 σ3 H3 X.xe I3 (sZ Gi) iU stop) λ r s4 ⟨hr,I4⟩=>?_);subst hr;exact wpAny_execs_nil ⟨σ3,H3,I4,qn⟩
  · refine wpAny_passesOwn hp (bP (T.item X rfl rfl rfl hc i pins s3 σ3 H3 X.xe I3 (sZ Gi) iU go) λ r s4 ⟨u,hr,h4⟩=>?_);subst hr;refine wpAny_passesOwn hp (bP h4 λ _ s5 ⟨x,H5,I5,r5,y5,Ca,Kz⟩=>?_);have KA:=I5.pinned (sZ Kz) (T.obj _ _ Ca);refine wpAny_passesOwn hp (bP (hg _ s5 σ3 H5 x u _ KA r5 (step x H5 y5)) λ _ s6 ⟨σ6,H6,I6,q6⟩=>?_);refine wpAny_passesOwn hp (bP (hb _ s6 σ6 H6 _ I6 q6) λ f s7 q7=>?_);have again:∀ {σ7:St} {H7:Hp},Inv X (pins ++ lh fp s5.heap) σ7 H7 s7→N σ7 H7→∃ m,m < n∧∃ i σ' H',Inv X pins σ' H' s7∧tn i s7.heap∧(∀ b∈fp,H' b=none)∧W i m σ' H':=λ {σ7 H7} I7 n7=>by
      obtain ⟨m',hm,w7⟩:=hN σ7 H7 n7;refine ⟨m',hm,i + 1,σ7,H7,I7.d_,T.keep _ _ _ Ca λ b hb o e=>(I7.pin (b,o) (List.mem_append_right _ (List.mem_append_right _ (fz hb e)))).1,λ b hb=>?_,w7⟩;obtain ⟨o,e,d⟩:=T.obj _ _ Ca b hb;exact (I7.pin (b,o) (List.mem_append_right _ (List.mem_append_right _ (fz hb e)))).2.1
    cases f with
    | next=>obtain ⟨σ7,H7,I7,n7⟩:=q7;exact again I7 n7
    | cont=>obtain ⟨σ7,H7,I7,n7⟩:=q7;exact again I7 n7
    | brk=>obtain ⟨σ7,H7,I7,q7⟩:=q7;exact ⟨σ7,H7,I7.d_,q7⟩
    | ret v=>obtain ⟨x7,σ7,H7,I7,r7,q7⟩:=q7;exact ⟨x7,σ7,H7,I7.d_,r7,q7⟩
end
noncomputable abbrev R2:=V→V→Hp→VK→Prop
noncomputable def iI (X:Cx) (f:Value→Value→Sem Value) (r:R2):Prop :=
  ∀ (pins:List (Addr×Obj)) (s:Shared) (σ:St) (H:Hp) (x y:V) (v u:Value) (Q:VK),Inv X pins σ H s→RelV x v→RelV y u→r x y H Q →
    wpAny (model X.prog X.w) X.A (f v u) (EP X pins σ Q) X.xe s
noncomputable def KC (X:Cx) (f:Value→Sem Value) (r:V→Hp→VK→Prop):Prop :=
  ∀ (pins:List (Addr×Obj)) (s:Shared) (σ:St) (H:Hp) (x:V) (v:Value) (Q:VK),Inv X pins σ H s→RelV x v→r x H Q →
    wpAny (model X.prog X.w) X.A (f v) (EP X pins σ Q) X.xe s
noncomputable def dW (X:Cx) (f:Value) (r:List V→Hp→VK→Prop):Prop :=
  ∀ (pins:List (Addr×Obj)) (s:Shared) (σ:St) (H:Hp) (xs:List V) (us:List Value) (Q:VK),Inv X pins σ H s→Vals xs us→r xs H Q →
    wpAny (model X.prog X.w) X.A (call f us) (EP X pins σ Q) X.xe s
noncomputable def Gj (r:R2) (ta tb:TE):TE:=λ σ H Q=>ta σ H λ x H1=>tb σ H1 λ y H2=>r x y H2 Q
noncomputable def Qe (r:V→Hp→VK→Prop) (ta:TE):TE:=λ σ H Q=>ta σ H λ x H1=>r x H1 Q
noncomputable def rI (C:Int→Int→Prop) (g:Int→Int→V):R2:=λ x y H Q=>∃ i j,x = .int i∧y = .int j∧C i j∧Q (g i j) H
noncomputable def Cb (g:Int→Int→V):R2:=λ x y H Q=>∃ i j,x = .int i∧y = .int j∧Q (g i j) H
noncomputable def rU (g:Int→V):V→Hp→VK→Prop:=λ x H Q=>∃ i,x = .int i∧Q (g i) H
section
variable {X:Cx} {a b c:Expr} {ta tb tc:TE} {pos:Pos}
theorem Ds (ha:PE X a ta) (hb:PE X b tb) {pins:List (Addr×Obj)} {s:Shared} {σ:St} {H:Hp} {R:V→V→Hp→Prop} (I:Inv X pins σ H s)
    (h:ta σ H λ x H1=>tb σ H1 λ y H2=>R x y H2) {Q:Value→Shared→Prop} {f:Value→Value→Sem Value}
    (hf:∀ v u s2 x y H2,Inv X pins σ H2 s2→RelV x v→RelV y u→R x y H2→wpAny (model X.prog X.w) X.A (f v u) Q X.xe s2) :
    wpAny (model X.prog X.w) X.A (eval a X.env) (λ v s₁=>wpAny (model X.prog X.w) X.A (eval b X.env) (λ u s₂=>wpAny (model X.prog X.w) X.A (f v u) Q X.xe s₂) X.xe s₁) X.xe s:=by
  refine bP (ha pins s σ H _ I h) λ v s1 ⟨x,H1,I1,r1,q1⟩=>?_;refine bP (hb pins s1 σ H1 _ I1 q1) λ u s2 ⟨y,H2,I2,r2,q2⟩=>?_;exact hf v u s2 x y H2 I2 r1 r2 q2
theorem aF {op:Operator} {r:R2} (ho:iI X (binaryOp op) r) (ha:PE X a ta) (hb:PE X b tb):PE X (.BinOp a op b pos) (Gj r ta tb):=by
  intro pins s σ H Q I h;exact wpAny_BinOp (Ds ha hb I h λ v u s2 x y H2 I2 rx ry q=>ho pins s2 σ H2 x y v u Q I2 rx ry q)
theorem uN {op:UnaryOp} {r:V→Hp→VK→Prop} (ho:KC X (unaryOp op) r) (ha:PE X a ta):PE X (.UnaryOp op a pos) (Qe r ta):=by
  intro pins s σ H Q I h;exact UnaryOp_ (bP (ha pins s σ H _ I h) λ v s1 ⟨x,H1,I1,r1,q1⟩=>ho pins s1 σ H1 x v Q I1 r1 q1)
theorem Jr {f:Value→Value→Sem Value} {C:Int→Int→Prop} {g:Int→Int→Int}
    (rule:∀ (i j:Int) (t u:Tok) (s:Shared) (Q:Value→Shared→Prop) (E:Value→Shared→Prop),C i j→Q (.int (g i j) s.toks) { s with toks:=s.toks + 1 }→wpAny (model X.prog X.w) X.A (f (.int i t) (.int j u)) Q E s) :
    iI X f (rI C λ i j=>.int (g i j)):=by
  intro pins s σ H x y v u Q I rx ry h;obtain ⟨i,j,rfl,rfl,hc,q⟩:=h;obtain ⟨t,rfl⟩:=rx;obtain ⟨t',rfl⟩:=ry;exact rule i j t t' s _ _ hc ⟨.int (g i j),H,I.tok _,⟨_,rfl⟩,q⟩
theorem Gk {f:Value→Value→Sem Value} {g:Int→Int→Int}
    (rule:∀ (i j:Int) (t u:Tok) (s:Shared) (Q:Value→Shared→Prop) (E:Value→Shared→Prop),Q (.int (g i j) s.toks) { s with toks:=s.toks + 1 }→wpAny (model X.prog X.w) X.A (f (.int i t) (.int j u)) Q E s) :
    iI X f (Cb λ i j=>.int (g i j)):=by
  intro pins s σ H x y v u Q I rx ry h;obtain ⟨i,j,rfl,rfl,q⟩:=h;obtain ⟨t,rfl⟩:=rx;obtain ⟨t',rfl⟩:=ry;exact rule i j t t' s _ _ ⟨.int (g i j),H,I.tok _,⟨_,rfl⟩,q⟩
theorem AJ {f:Value→Value→Sem Value} {g:Int→Int→Bool}
    (rule:∀ (i j:Int) (t u:Tok) (s:Shared) (Q:Value→Shared→Prop) (E:Value→Shared→Prop),Q (.bool (g i j)) s→wpAny (model X.prog X.w) X.A (f (.int i t) (.int j u)) Q E s) :
    iI X f (Cb λ i j=>.bl (g i j)):=by
  intro pins s σ H x y v u Q I rx ry h;obtain ⟨i,j,rfl,rfl,q⟩:=h;obtain ⟨t,rfl⟩:=rx;obtain ⟨t',rfl⟩:=ry;exact rule i j t t' s _ _ ⟨.bl (g i j),H,I,rfl,q⟩
noncomputable def KD (i j:Int):Prop:=0 < j∧j < 1073741824
noncomputable def KG (i j:Int):Prop:=0≤j∧j≤1000000∧i.natAbs < 2 ^ 64
noncomputable def Dt (i j:Int):Prop:=(-(2 ^ 64) < i∧i < 2 ^ 64)∨(-(2 ^ 64) < j∧j < 2 ^ 64)
theorem Dt.ok {i j:Int} (h:Dt i j):IntMulOk i j:=by
  rcases h with ⟨h1,h2⟩ | ⟨h1,h2⟩
  · exact .of_left (intBits_le_64 h1 h2)
  · exact .of_right (intBits_le_64 h1 h2)
theorem bj:iI X (binaryOp .Add) (Cb λ i j=>.int (i + j)):=Gk λ _ _ _ _ _ _ _ q=>add_int q
theorem di:iI X (binaryOp .Sub) (Cb λ i j=>.int (i - j)):=Gk λ _ _ _ _ _ _ _ q=>sub_int q
theorem eX:iI X (binaryOp .Mult) (rI Dt λ i j=>.int (i * j)):=Jr λ _ _ _ _ _ _ _ hc q=>mul_int q hc.ok
theorem kK:iI X (binaryOp .FloorDiv) (rI KD λ i j=>.int (i / j)):=Jr λ i j _ _ _ _ _ hc q=>by
  have h1:(0:Int) < j:=hc.1;have h2:j < 1073741824:=hc.2;exact floordiv_int (by omega) (by rw [Int.fdiv_eq_ediv_of_nonneg i (by omega)];exact q) (.inl (PyProof.noPylong_small (by omega)))
theorem cX:iI X (binaryOp .Mod) (rI (λ _ j=>0 < j) λ i j=>.int (i % j)):=Jr λ i j _ _ _ _ _ hc q=>by
  have h1:(0:Int) < j:=hc;exact mod_int' (by lia) (by rw [Int.fmod_eq_emod_of_nonneg i (by lia)];exact q)
theorem lp:iI X (binaryOp .Pow) (rI KG λ i j=>.int (i ^ j.toNat)):=Jr λ _ _ _ _ _ _ _ hc q=>pow_int_small hc.1 hc.2.1 hc.2.2 q
theorem Qf {f:Value→Sem Value} {g:Int→Int}
    (rule:∀ (i:Int) (t:Tok) (s:Shared) (Q:Value→Shared→Prop) (E:Value→Shared→Prop),Q (.int (g i) s.toks) { s with toks:=s.toks + 1 }→wpAny (model X.prog X.w) X.A (f (.int i t)) Q E s) :
    KC X f (rU λ i=>.int (g i)):=by
  intro pins s σ H x v Q I rx h;obtain ⟨i,rfl,q⟩:=h;obtain ⟨t,rfl⟩:=rx;exact rule i t s _ _ ⟨.int (g i),H,I.tok _,⟨_,rfl⟩,q⟩
theorem pj:KC X (unaryOp .USub) (rU λ i=>.int (-i)):=Qf λ _ _ _ _ _ q=>neg_int q
end
noncomputable def Gm:V→V→Bool
  | .cc,.cc=>true | .cc,.int _=>true | .int _,.cc=>true | .cc,.bl _=>true | .bl _,.cc=>true | .cc,.str _=>true | .str _,.cc=>true
  | .int _,.int _=>true | .bl _,.bl _=>true | .str _,.str _=>true | .xB _,.xB _=>true
  | .int _,.str _=>true | .str _,.int _=>true | .bl _,.str _=>true | .str _,.bl _=>true
  | _,_=>false
noncomputable def Qg:R2:=λ x y H Q=>Gm x y=true∧Q (.bl (decide (x=y))) H
noncomputable def Qh:R2:=λ x y H Q=>Gm x y=true∧Q (.bl (!decide (x=y))) H
theorem uO {i j:Int}:decide (V.int i=V.int j)=(i == j):=by
  rw [Bool.eq_iff_iff];simp
theorem x9 {i j:Bool}:decide (V.bl i=V.bl j)=(i == j):=by
  rw [Bool.eq_iff_iff];simp
theorem uP {i j:Str}:decide (V.str i=V.str j)=(i == j):=by
  rw [Bool.eq_iff_iff];simp
theorem uQ {i j:Array UInt8}:decide (V.xB i=V.xB j)=(i.toList == j.toList):=by
  rw [Bool.eq_iff_iff];cases i;cases j;simp
section
variable {X:Cx} {a b c:Expr} {ta tb tc:TE} {pos:Pos}
theorem bg {pins:List (Addr×Obj)} {σ:St} {H:Hp} {s:Shared} {Q:VK} {k k':Bool} (I:Inv X pins σ H s) (q:Q (.bl k) H) (e:k=k'):EP X pins σ Q (.bool k') s:=by
  subst e;exact ⟨.bl k,H,I,rfl,q⟩
theorem gw:iI X (compareOp .Eq) Qg:=by
  intro pins s σ H x y v u Q I rx ry h;obtain ⟨hs,q⟩:=h;cases x with
  | cc =>
    cases rx;cases y with
    | cc=>cases ry;exact PySem.EqNone.eq_none_none (bg I q (by simp))
    | bl j=>cases ry;exact PySem.EqNone.eq_none_bool (bg I q (by simp))
    | int j=>obtain ⟨t',rfl⟩:=ry;exact PySem.EqNone.eq_none_int (bg I q (by simp))
    | str j=>obtain ⟨t',rfl⟩:=ry;exact PySem.EqNone.eq_none_str (bg I q (by simp))
    | _=>exact absurd (show false=true from hs) Bool.false_ne_true
  | bl i =>
    cases rx;cases y with
    | cc=>cases ry;exact PySem.EqNone.eq_bool_none (bg I q (by simp))
    | bl j=>cases ry;exact eq_bool (bg I q x9)
    | str j=>obtain ⟨t',rfl⟩:=ry;exact PySem.EqMixed.eq_bool_str (bg I q (by simp))
    | _=>exact absurd (show false=true from hs) Bool.false_ne_true
  | int i =>
    obtain ⟨t,rfl⟩:=rx;cases y with
    | cc=>cases ry;exact PySem.EqNone.eq_int_none (bg I q (by simp))
    | int j=>obtain ⟨t',rfl⟩:=ry;exact eq_int (bg I q uO)
    | str j=>obtain ⟨t',rfl⟩:=ry;exact PySem.EqMixed.eq_int_str (bg I q (by simp))
    | _=>exact absurd (show false=true from hs) Bool.false_ne_true
  | str i =>
    obtain ⟨t,rfl⟩:=rx;cases y with
    | cc=>cases ry;exact PySem.EqNone.eq_str_none (bg I q (by simp))
    | bl j=>cases ry;exact PySem.EqMixed.eq_str_bool (bg I q (by simp))
    | int j=>obtain ⟨t',rfl⟩:=ry;exact PySem.EqMixed.eq_str_int (bg I q (by simp))
    | str j=>obtain ⟨t',rfl⟩:=ry;exact eq_str (bg I q uP)
    | _=>exact absurd (show false=true from hs) Bool.false_ne_true
  | xB i =>
    obtain ⟨t,rfl⟩:=rx;cases y with
    | xB j=>obtain ⟨t',rfl⟩:=ry;exact PySem.W.eq_bytes (bg I q uQ)
    | _=>exact absurd (show false=true from hs) Bool.false_ne_true
  | _=>cases y<;>exact absurd (show false=true from hs) Bool.false_ne_true
theorem uR:iI X (compareOp .NotEq) Qh:=by
  intro pins s σ H x y v u Q I rx ry h;obtain ⟨hs,q⟩:=h;cases x with
  | cc =>
    cases rx;cases y with
    | cc=>cases ry;exact PySem.EqNone.ne_none_none (bg I q (by simp))
    | bl j=>cases ry;exact PySem.EqNone.ne_none_bool (bg I q (by simp))
    | int j=>obtain ⟨t',rfl⟩:=ry;exact PySem.EqNone.ne_none_int (bg I q (by simp))
    | str j=>obtain ⟨t',rfl⟩:=ry;exact PySem.EqNone.ne_none_str (bg I q (by simp))
    | _=>exact absurd (show false=true from hs) Bool.false_ne_true
  | bl i =>
    cases rx;cases y with
    | cc=>cases ry;exact PySem.EqNone.ne_bool_none (bg I q (by simp))
    | bl j=>cases ry;exact ne_bool (bg I q (congrArg not x9))
    | str j=>obtain ⟨t',rfl⟩:=ry;exact PySem.EqMixed.ne_bool_str (bg I q (by simp))
    | _=>exact absurd (show false=true from hs) Bool.false_ne_true
  | int i =>
    obtain ⟨t,rfl⟩:=rx;cases y with
    | cc=>cases ry;exact PySem.EqNone.ne_int_none (bg I q (by simp))
    | int j=>obtain ⟨t',rfl⟩:=ry;exact ne_int (bg I q (congrArg not uO))
    | str j=>obtain ⟨t',rfl⟩:=ry;exact PySem.EqMixed.ne_int_str (bg I q (by simp))
    | _=>exact absurd (show false=true from hs) Bool.false_ne_true
  | str i =>
    obtain ⟨t,rfl⟩:=rx;cases y with
    | cc=>cases ry;exact PySem.EqNone.ne_str_none (bg I q (by simp))
    | bl j=>cases ry;exact PySem.EqMixed.ne_str_bool (bg I q (by simp))
    | int j=>obtain ⟨t',rfl⟩:=ry;exact PySem.EqMixed.ne_str_int (bg I q (by simp))
    | str j=>obtain ⟨t',rfl⟩:=ry;exact ne_str (bg I q (congrArg not uP))
    | _=>exact absurd (show false=true from hs) Bool.false_ne_true
  | xB i =>
    obtain ⟨t,rfl⟩:=rx;cases y with
    | xB j=>obtain ⟨t',rfl⟩:=ry;exact PySem.W.ne_bytes (bg I q (congrArg not uQ))
    | _=>exact absurd (show false=true from hs) Bool.false_ne_true
  | _=>cases y<;>exact absurd (show false=true from hs) Bool.false_ne_true
theorem iJ:iI X (compareOp .Lt) (Cb λ i j=>.bl (decide (i < j))):=AJ λ _ _ _ _ _ _ _ q=>lt_int q
theorem lr:iI X (compareOp .LtE) (Cb λ i j=>.bl (decide (i≤j))):=AJ λ _ _ _ _ _ _ _ q=>le_int q
theorem qz:iI X (compareOp .Gt) (Cb λ i j=>.bl (decide (j < i))):=AJ λ _ _ _ _ _ _ _ q=>gt_int q
theorem nL:iI X (compareOp .GtE) (Cb λ i j=>.bl (decide (j≤i))):=AJ λ _ _ _ _ _ _ _ q=>ge_int q
theorem AK:iI X (compareOp .IsNot) (λ x y H Q=>y = .cc∧Q (.bl (!decide (x = .cc))) H):=by
  intro pins s σ H x y v u Q I rx ry h;obtain ⟨rfl,q⟩:=h;cases ry;refine isnot_none_gen (bg I q ?_);cases x<;>first
    | (cases rx;rfl)
    | (obtain ⟨t,rfl⟩:=rx;rfl)
theorem aR (b:Expr) {op:CmpOp} (h:op≠.In:=by decide) (h2:op≠.NotIn:=by decide):behindInMarks op b=false:=by
  have e1:(op == CmpOp.In)=false:=by cases op<;>first | rfl | exact absurd rfl h
  have e2:(op == CmpOp.NotIn)=false:=by cases op<;>first | rfl | exact absurd rfl h2
  cases b<;>simp [behindInMarks,e1,e2]
theorem b8 {op:CmpOp} {r:R2} (ho:iI X (compareOp op) r) (ha:PE X a ta) (hb:PE X b tb) (hm:behindInMarks op b=false):PE X (.Compare a [op] [b] pos) (Gj r ta tb):=by
  intro pins s σ H Q I h;exact wpAny_Compare1 (Ds ha hb I h λ v u s2 x y H2 I2 rx ry q=>ho pins s2 σ H2 x y v u Q I2 rx ry q) hm
noncomputable def Cc (t:TE):TT:=λ σ H Q=>t σ H λ x H'=>∃ k,x = .bl k∧Q k H'
theorem bh {op:CmpOp} {r:R2} (ho:iI X (compareOp op) r) (ha:PE X a ta) (hb:PE X b tb) (hm:behindInMarks op b=false):PT X (.Compare a [op] [b] pos) (Cc (Gj r ta tb)):=by
  intro pins s σ H Q I h;refine wpAny_isTrue_Compare1 (bP (ha pins s σ H _ I h) λ v s1 ⟨x,H1,I1,r1,q1⟩=>bP (hb pins s1 σ H1 _ I1 q1) λ u s2 ⟨y,H2,I2,r2,q2⟩ =>
    bP (ho pins s2 σ H2 x y v u _ I2 r1 r2 q2) λ c s3 ⟨z,H3,I3,r3,k,e,q3⟩=>?_) hm
  subst e;cases r3;exact wpAny_truthy_bool ⟨H3,I3,q3⟩
noncomputable def x_ (r r':R2) (ta tb tc:TE):TE:=λ σ H Q=>ta σ H λ x H1=>tb σ H1 λ y H2=>r x y H2 λ z H3=>∃ k,z = .bl k ∧
  (if k=true then tc σ H3 λ w' H4=>r' y w' H4 Q else Q (.bl false) H3)
theorem qA {op Du:CmpOp} {r r':R2} (ho:iI X (compareOp op) r) (xU:iI X (compareOp Du) r') (ha:PE X a ta) (hb:PE X b tb) (hc:PE X c tc)
    (hm:lastMarks [op,Du] [b,c]=false:=by with_unfolding_all rfl):PE X (.Compare a [op,Du] [b,c] pos) (x_ r r' ta tb tc):=by
  intro pins s σ H Q I h;refine Compare_chain (bP (ha pins s σ H _ I h) λ v s1 ⟨x,H1,I1,r1,q1⟩=>chain_link (bP (hb pins s1 σ H1 _ I1 q1) λ u s2 ⟨y,H2,I2,r2,q2⟩ =>
    bP (ho pins s2 σ H2 x y v u _ I2 r1 r2 q2) λ d s3 ⟨z,H3,I3,r3,k,e,q3⟩=>?_)) hm
  subst e;cases r3;refine wpAny_truthy_bool ?_;cases k with
  | false=>exact ite_ff ⟨.bl false,H3,I3,rfl,q3⟩
  | true=>exact ite_tt (chain_last (bP (hc pins s3 σ H3 _ I3 q3) λ w' s4 ⟨z',H4,I4,r4,q4⟩=>xU pins s4 σ H4 y z' u w' Q I4 r2 r4 q4))
theorem qB {op Du:CmpOp} {r r':R2} (ho:iI X (compareOp op) r) (xU:iI X (compareOp Du) r') (ha:PE X a ta) (hb:PE X b tb) (hc:PE X c tc)
    (hm:lastMarks [op,Du] [b,c]=false:=by with_unfolding_all rfl):PT X (.Compare a [op,Du] [b,c] pos) (Cc (x_ r r' ta tb tc)):=by
  intro pins s σ H Q I h;refine isTrue_chain (bP (ha pins s σ H _ I h) λ v s1 ⟨x,H1,I1,r1,q1⟩=>test_link (bP (hb pins s1 σ H1 _ I1 q1) λ u s2 ⟨y,H2,I2,r2,q2⟩ =>
    bP (ho pins s2 σ H2 x y v u _ I2 r1 r2 q2) λ d s3 ⟨z,H3,I3,r3,k,e,q3⟩=>?_)) hm
  subst e;cases r3;refine wpAny_truthy_bool ?_;cases k with
  | false =>
    obtain ⟨k',e',q'⟩:=q3;cases e';exact ite_ff ⟨H3,I3,q'⟩
  | true =>
    refine ite_tt (test_last (bP (hc pins s3 σ H3 _ I3 q3) λ w' s4 ⟨z',H4,I4,r4,q4⟩=>bP (xU pins s4 σ H4 y z' u w' _ I4 r2 r4 q4) λ d' s5 ⟨z2,H5,I5,r5,k2,e2,q5⟩=>?_));subst e2;cases r5;exact wpAny_truthy_bool ⟨H5,I5,q5⟩
theorem ly:(sizeLine:Nat) < 2 ^ 63:=by rw [sizeLine_eq];decide
theorem vals1 {x:V} {us:List Value} (r:Vals [x] us):∃ u,us=[u]∧RelV x u:=by
  cases r with
  | cons r1 r2=>cases r2;exact ⟨_,rfl,r1⟩
theorem vals2 {x y:V} {us:List Value} (r:Vals [x,y] us):∃ u w',us=[u,w']∧RelV x u∧RelV y w':=by
  cases r with
  | cons r1 r2 =>
    cases r2 with
    | cons r3 r4=>cases r4;exact ⟨_,_,rfl,r1,r3⟩
theorem jQ (hc:X.calm=true):dW X (.builtin "max") (λ xs H Q=>∃ i j,xs=[.int i,.int j]∧Q (.int (if j > i then j else i)) H):=by
  intro pins s σ H xs us Q I r h;obtain ⟨i,j,rfl,q⟩:=h;obtain ⟨u,w',rfl,⟨t,rfl⟩,⟨t',rfl⟩⟩:=vals2 r;refine max_two_ints (I.ok.hd hc) λ h' tk k=>⟨_,H,I.kept k,?_,q⟩
  by_cases hj:j > i
  · rw [if_pos hj,if_pos hj];exact ⟨_,rfl⟩
  · rw [if_neg hj,if_neg hj];exact ⟨_,rfl⟩
end
structure s_ (h:Heap) (x dx C:Addr) (mA:Str→Option Value):Prop where
  obj:h.get? x=some (PySem.W.instObj C dx)
  ns:h.Ns1 dx mA
  ne:dx≠x
theorem v7 {h:Heap} {dx:Addr} {mA:Str→Option Value} (n:h.Ns1 dx mA):∃ od,h.get? dx=some od∧∀ name,PySem.W.lookIn name od=some (mA name):=by
  obtain ⟨o,es,ep,ho,hd,hk,_,hm⟩:=n;refine ⟨o,ho,λ name=>?_⟩;have e:=hm name;unfold nsFind findBy at e;rw [← Array.find?_toList] at e;unfold PySem.W.lookIn;rw [hd];dsimp only;split
  · rename_i y q
    rw [q] at e;exact congrArg some e
  · rename_i q
    rw [q] at e;have a:es.toList.any (·.refKey)=false:=by
      rw [List.any_eq_false];intro y hy;obtain ⟨z,t,pk⟩:=hk y (Array.mem_toList_iff.mp hy);simp [DictEntry.refKey,pk]
    have a':¬ es.toList.any (·.refKey)=true:=by rw [a];exact Bool.false_ne_true
    rw [if_neg a'];exact congrArg some e
theorem s_.look {h:Heap} {x dx C:Addr} {mA:Str→Option Value} (I:s_ h x dx C mA):∃ od,PySem.W.InstAt h x (PySem.W.instObj C dx) C (some od)∧∀ name,PySem.W.lookIn name od=some (mA name) :=
  let ⟨od,ho,hl⟩:=v7 I.ns
  ⟨od,⟨I.obj,rfl,rfl,ho⟩,hl⟩
section
variable {prog:Program} {w:World} {A:Around} {E:Value→Shared→Prop} {s:Shared} {K:PySem.W.Frag} {x dx C f:Addr} {mA:Str→Option Value} {name:Str} {v:Value}
theorem get_map {expr:Bool} {Q:Value→Shared→Prop} (X:K.In s.heap) (I:s_ s.heap x dx C mA) (hg:PySem.W.plainGet K C name=true) (hh:PySem.W.hasDictIn K C=true)
    (ha:PySem.W.findIn K (.ref C) name=some none) (hv:mA name=some v) (Js:PySem.W.handedIn v=true) (h:Q v { s with toks:=s.toks + 1 }) :
    wpAny (model prog w) A (getAttr (.ref x) name expr) Q E s:=by
  obtain ⟨od,J,hl⟩:=I.look;exact PySem.W.get_value X J (PySem.W.plainGet_of hg).1 (PySem.W.findObj_own hh ha rfl (by rw [hl,hv])) Js h
theorem ya {pl:Sem Bool} {Q:Value×List Value→Shared→Prop} (X:K.In s.heap) (I:s_ s.heap x dx C mA) (hg:PySem.W.plainGet K C name=true)
    (hf:PySem.W.findIn K (.ref C) name=some (some (.ref f))) (ht:PySem.W.isFn K (.ref f)=true) (hv:mA name=none) (h:Q (.ref f,[.ref x]) s) :
    wpAny (model prog w) A (getMethod (.ref x) name pl) Q E s:=by
  obtain ⟨od,J,hl⟩:=I.look;exact PySem.W.method_fn X J (PySem.W.plainGet_of hg).1 (PySem.W.plainGet_of hg).2 hf (beq_iff_eq.mp ht) (by show (PySem.W.lookIn name od).map (·.isSome)=some false;rw [hl,hv];rfl) h
theorem AL {ns:List Str} {Q:Unit→Shared→Prop} (X:K.In s.heap) (I:s_ s.heap x dx C mA)
    (hs:PySem.W.findIn K (.ref C) "__setattr__"=some (some (.builtin "object.__setattr__"))) (hp:PySem.W.plainOver K C=true) (ht:PySem.W.takerIn K C name=some none) (hh:PySem.W.hasDictIn K C=true)
    (hw:PySem.Within mA ns) (iK:ns.length≤sizeLine)
    (h:∀ h',s_ h' x dx C (λ y=>if y=name then some v else mA y)→Heap.SameBut dx s.heap h'→Q () { s with heap:=h',toks:=s.toks + 2 }) :
    wpAny (model prog w) A (setAttr (.ref x) name v) Q E s:=by
  obtain ⟨od,J,hl⟩:=I.look;refine PySem.W.set_plain X J hs (PySem.W.osa_open (s:={ s with toks:=s.toks + 1 }) (r:=none) X J hp ht λ b=>?_);obtain ⟨cd,hc,vX⟩:=PySem.W.any_some hh;have hx:s.heap.get? x=some ⟨.ref C,some dx,.plain,#[]⟩:=I.obj;refine wpAny_bind (wpAny_pure (wpAny_bind (wpAny_bind (wpAny_loadPart hx (wpAny_bind (PySem.W.Looks.here (s:={ s with toks:=s.toks + 1 }) (PySem.W.looks_clsIn X hc) ?_))))));rw [vX];refine wpAny_pure (a:=some dx) (wpAny_bind (wpAny_pure (wpAny_bind ?_)));refine wpAny_nsSet1 (s:={ s with toks:=s.toks + 1 }) I.ns λ h' Dv kL=>?_;obtain ⟨oD,UA,UB,Qi,Qj,Qk⟩:=Dv.count (PySem.Within.cons name v hw);refine wpAny_bind (wpAny_lookBehind Qi (by rw [Qj];exact pastItsLine_dict (Nat.le_trans Qk (by rw [List.length_cons];lia))) ?_);exact wpAny_pure (h _ ⟨(kL.2 _ (Ne.symm I.ne)).trans I.obj,Dv,I.ne⟩ kL)
theorem yb {R:Result→Shared→Prop} {vs:List Value} {kw:List (Str×Value)} (X:K.In s.heap) (hm:PySem.W.makesIn K C=true)
    (hi:PySem.W.findIn K (.ref C) "__init__"=some (some (.ref f))) (hf:PySem.W.typeIn K (.ref f)=some (.type "function"))
    (h:codeAny (model prog w) (A.under (.builtin "type.__call__" ⟨.ref C :: vs,kw⟩)) (.call (.ref f) ⟨.ref (s.heap.objs.size + 1) :: vs,kw⟩) (PySem.W.InitBack (s.heap.objs.size + 1) R)
      { s with heap:=(s.heap.push PySem.W.emptyDict).push (PySem.W.instObj C s.heap.objs.size) }) :
    codeAny (model prog w) A (.call (.ref C) ⟨vs,kw⟩) R s:=by
  obtain ⟨hh,g,d,t,os⟩:=s;exact PySem.W.make_core (PySem.W.makes_of X hm) (PySem.W.looks_findIn X hi) (λ self=>PySem.W.bind_fn X self hf) (.inl rfl) h
end
noncomputable def cO (f:Str) (v:V):List (Str×V)→List (Str×V)
  | []=>[(f,v)]
  | (g,x) :: r=>if g=f then (g,v) :: r else (g,x) :: cO f v r
theorem kn (f g:Str) (v:V):∀ fs:List (Str×V),(cO f v fs).lookup g=if g=f then some v else fs.lookup g
  | []=>by
    show List.lookup g [(f,v)]=_
    by_cases h:g=f
    · have hb:(g == f)=true:=beq_iff_eq.mpr h;simp only [List.lookup,hb,if_pos h]
    · have hb:(g == f)=false:=beq_eq_false_iff_ne.mpr h;simp only [List.lookup,hb,if_neg h]
  | (k,x) :: r=>by
    have ih:=kn f g v r;rw [show cO f v ((k,x) :: r)=(if k=f then (k,v) :: r else (k,x) :: cO f v r) from rfl]
    by_cases hk:k=f
    · rw [if_pos hk]
      by_cases h:g=k
      · have hb:(g == k)=true:=beq_iff_eq.mpr h;simp only [List.lookup,hb,if_pos (h.trans hk)]
      · have hb:(g == k)=false:=beq_eq_false_iff_ne.mpr h;simp only [List.lookup,hb,if_neg (λ e:g=f=>h (e.trans hk.symm))]
    · rw [if_neg hk]
      by_cases h:g=k
      · have hb:(g == k)=true:=beq_iff_eq.mpr h;simp only [List.lookup,hb,if_neg (λ e:g=f=>hk (h.symm.trans e))]
      · have hb:(g == k)=false:=beq_eq_false_iff_ne.mpr h;simp only [List.lookup,hb];exact ih
theorem jR (f:Str) (v:V):∀ fs:List (Str×V),f∈(cO f v fs).map (·.1)∧∀ g,g∈fs.map (·.1)→g∈(cO f v fs).map (·.1)
  | []=>⟨by simp [cO],λ g h=>by simp at h⟩
  | (k,x) :: r=>by
    obtain ⟨i1,i2⟩:=jR f v r;rw [show cO f v ((k,x) :: r)=(if k=f then (k,v) :: r else (k,x) :: cO f v r) from rfl]
    by_cases hk:k=f
    · rw [if_pos hk];subst hk;exact ⟨by simp,λ g h=>by simpa using h⟩
    · rw [if_neg hk];refine ⟨?_,λ g h=>?_⟩
      · rw [List.map_cons];exact List.mem_cons_of_mem _ i1
      · rw [List.map_cons] at h ⊢;rcases List.mem_cons.mp h with e | e
        · exact List.mem_cons.mpr (.inl e)
        · exact List.mem_cons_of_mem _ (i2 g e)
theorem ko (f:Str) (v:V):∀ fs:List (Str×V),(cO f v fs).length≤fs.length + 1
  | []=>by simp [cO]
  | (k,x) :: r=>by
    have ih:=ko f v r;rw [show cO f v ((k,x) :: r)=(if k=f then (k,v) :: r else (k,x) :: cO f v r) from rfl]
    by_cases hk:k=f
    · rw [if_pos hk,List.length_cons,List.length_cons];lia
    · rw [if_neg hk,List.length_cons,List.length_cons];lia
theorem jc.some_of {v:V} {o:Option Value} (r:jc (some v) o):∃ u,o=some u∧RelV v u:=by
  cases o with
  | none=>exact (show False from r).elim
  | some u=>exact ⟨u,rfl,r⟩
theorem jc.none_of {o:Option Value} (r:jc none o):o=none:=by
  cases o with
  | none=>rfl
  | some u=>exact (show False from r).elim
theorem v8 {v:V} {u:Value} (r:RelV v u):PySem.W.handedIn u=true:=by
  cases v with
  | cc=>cases (show u=Value.none from r);rfl
  | bl b=>cases (show u=Value.bool b from r);rfl
  | int i=>obtain ⟨t,e⟩:=(show ∃ t,u=Value.int i t from r);cases e;rfl
  | str x=>obtain ⟨t,e⟩:=(show ∃ t,u=Value.str x t from r);cases e;rfl
  | xB b=>obtain ⟨t,e⟩:=(show ∃ t,u=Value.bytes b t from r);cases e;rfl
  | Ax b=>obtain ⟨t,e⟩:=(show ∃ t,u=Value.float b t from r);cases e;rfl
  | ref a=>cases (show u=Value.ref a from r);rfl
  | ty n=>cases (show u=Value.type n from r);rfl
section
variable {P:Program} {w:World} {H H':Hp} {h h':Heap} {a C dx:Addr} {fs fs':List (Str×V)}
theorem kM (bH:jd P w H h) (e:H a=some (.ins C dx fs)):∃ mA,s_ h a dx C mA∧(∀ f,jc (fs.lookup f) (mA f))∧PySem.Within mA (fs.map (·.1))∧fs.length≤1000∧H dx=some (.own a):=by
  obtain ⟨d,z,ne,ob,mA,n,r,q⟩:=(show bZ P w H h a (.ins C dx fs) from bH a _ e);exact ⟨mA,⟨ob,n,ne⟩,r,q,z,d⟩
end
structure qC (K:PySem.W.Frag) (C:Addr):Prop where
  pg:PySem.W.plainGet K C Str.empty=true
  hd:PySem.W.hasDictIn K C=true
  po:PySem.W.plainOver K C=true
  sa:PySem.W.findIn K (.ref C) "__setattr__"=some (some (.builtin "object.__setattr__"))
theorem qC.get {K:PySem.W.Frag} {C:Addr} (c:qC K C) (f:Str):PySem.W.plainGet K C f=true:=c.pg
noncomputable def aZ (K:PySem.W.Frag) (C:Addr) (f:Str):Prop:=PySem.W.findIn K (.ref C) f=some none
theorem aZ.Gn {K:PySem.W.Frag} {C:Addr} {f:Str} (n:aZ K C f):PySem.W.takerIn K C f=some none:=by
  unfold PySem.W.takerIn;rw [show PySem.W.findIn K (.ref C) f=some none from n];rfl
structure Meth (K:PySem.W.Frag) (C:Addr) (m:Str) (f:Addr):Prop where
  at_:PySem.W.findIn K (.ref C) m=some (some (.ref f))
  fn:PySem.W.isFn K (.ref f)=true
  kp:PySem.W.keepIn K (.ref f)=true
section
variable {X:Cx} {pins:List (Addr×Obj)} {σ:St} {H:Hp} {s:Shared} {a C dx:Addr} {fs:List (Str×V)} {f:Str} {v:V} {A:Around} {E:Value→Shared→Prop}
theorem lA {b:Bool} {Q:Value→Shared→Prop} (I:Inv X pins σ H s) (e:H a=some (.ins C dx fs)) (c:qC X.K C) (n:aZ X.K C f) (l:fs.lookup f=some v)
    (h:∀ u s',Inv X pins σ H s'→RelV v u→Q u s'):wpAny (model X.prog X.w) A (getAttr (.ref a) f b) Q E s:=by
  obtain ⟨mA,O,r,_,_,_⟩:=kM I.bH e;obtain ⟨u,hu,ru⟩:=jc.some_of (v:=v) (o:=mA f) (by rw [← l];exact r f);exact get_map I.jP O (c.get f) c.hd n hu (v8 ru) (h u _ (I.tok _) ru)
theorem lB {m:Str} {g:Addr} {pl:Sem Bool} {Q:Value×List Value→Shared→Prop} (I:Inv X pins σ H s) (e:H a=some (.ins C dx fs)) (c:qC X.K C) (k:Meth X.K C m g) (l:fs.lookup m=none)
    (h:Q (.ref g,[.ref a]) s):wpAny (model X.prog X.w) A (getMethod (.ref a) m pl) Q E s:=by
  obtain ⟨mA,O,r,_,_,_⟩:=kM I.bH e;have hn:mA m=none:=jc.none_of (by rw [← l];exact r m);exact ya I.jP O (c.get m) k.at_ k.fn hn h
theorem lC {y:V} {u:Value} {Q:Unit→Shared→Prop} (I:Inv X pins σ H s) (e:H a=some (.ins C dx fs)) (c:qC X.K C) (n:aZ X.K C f) (hl:fs.length < 1000) (ry:RelV y u)
    (h:∀ s',Inv X pins σ (upd H a (.ins C dx (cO f y fs))) s'→Q () s'):wpAny (model X.prog X.w) A (setAttr (.ref a) f u) Q E s:=by
  obtain ⟨mA,O,r,wi,_,ho⟩:=kM I.bH e;have hz:(fs.map (·.1)).length≤sizeLine:=by rw [List.length_map,sizeLine_eq];lia
  refine AL I.jP O c.sa c.po n.Gn c.hd wi hz λ h' O' sb=>h _ ?_;have hd:∃ o,h'.get? dx=some o:=let ⟨o,_,_,e',_⟩:=O'.ns;⟨o,e'⟩
  refine I.write (x:=a) (e:=dx) (by rw [e];exact True.intro) (.inr ho) (λ b q hb z=>(sb.2 b hb).trans z) hd ?_;refine ⟨by rw [aq O.ne];exact ho,?_,O.ne,O'.obj,_,O'.ns,λ g=>?_,λ g hg=>?_⟩
  · have:=ko f y fs;lia
  · show jc ((cO f y fs).lookup g) (if g=f then some u else mA g);rw [kn]
    by_cases q:g=f
    · rw [if_pos q,if_pos q];exact ry
    · rw [if_neg q,if_neg q];exact r g
  · by_cases q:g=f
    · rw [q];exact (jR f y fs).1
    · refine (jR f y fs).2 g (wi g λ z=>hg ?_);show (if g=f then some u else mA g)=none;rw [if_neg q];exact z
theorem Inv.made (I:Inv X pins σ H s):Inv X pins σ (upd (upd H s.heap.objs.size (.own (s.heap.objs.size + 1))) (s.heap.objs.size + 1) (.ins C s.heap.objs.size []))
    { s with heap:=(s.heap.push PySem.W.emptyDict).push (PySem.W.instObj C s.heap.objs.size) }:=by
  have e1:(s.heap.push PySem.W.emptyDict).get? s.heap.objs.size=some PySem.W.emptyDict:=Heap.get?_push_size s.heap rfl;have e2:((s.heap.push PySem.W.emptyDict).push (PySem.W.instObj C s.heap.objs.size)).get? (s.heap.objs.size + 1)=some (PySem.W.instObj C s.heap.objs.size):=by
    have:=Heap.get?_push_size (s.heap.push PySem.W.emptyDict) (o:=PySem.W.instObj C s.heap.objs.size) rfl
    rwa [Heap.size_push] at this
  have e3:(s.heap.push PySem.W.emptyDict).Ns s.heap.objs.size (λ _=>none):=⟨PySem.W.emptyDict,#[],_,e1,rfl,(λ e he=>absurd he (by simp)),λ _=>rfl⟩;have I1:=I.laid (a:=s.heap.objs.size) (o:=.own (s.heap.objs.size + 1)) (h':=s.heap.push PySem.W.emptyDict) (t':=s.toks) (λ b u q=>Heap.get?_push_of_some _ q) (Nat.le_refl _) ⟨_,e1⟩;refine I1.laid (a:=s.heap.objs.size + 1) (o:=.ins C s.heap.objs.size []) (t':=s.toks) (λ b u q=>Heap.get?_push_of_some _ q) (Nat.le_of_eq (Heap.size_push _ _)) ?_;have ne:s.heap.objs.size≠s.heap.objs.size + 1:=Nat.ne_of_lt (Nat.lt_succ_self _);refine ⟨by rw [aq ne,af],Nat.zero_le _,ne,e2,λ _=>none,(Heap.Ns1.of_empty e3).at λ o q=>Heap.get?_push_of_some _ q,λ _=>True.intro,λ y hy=>absurd rfl hy⟩
theorem AM {prog:Program} {w:World} {env:Env} {e:Expr} {f:Str} {pos:Pos} {s:Shared} {Q:Value→Shared→Prop} (hb:attributeBase e f env (eval e env)=eval e env)
    (h:wpAny (model prog w) A (eval e env) (λ o s₁=>wpAny (model prog w) A (getAttr o f true) Q E s₁) E s):wpAny (model prog w) A (eval (.Attribute e f pos) env) Q E s :=
  Attribute_any_ h (by rw [arm_eval_Attribute,hb])
end
noncomputable def Gp (K:PySem.W.Frag) (ta:TE) (f:Str):TE:=λ σ H Q=>ta σ H λ x H1=>∃ a C dx fs v,x = .ref a∧H1 a=some (.ins C dx fs)∧qC K C∧aZ K C f∧fs.lookup f=some v∧Q v H1
theorem dY {K:PySem.W.Frag} {f:Str} {H:Hp} {a C dx:Addr} {fs:List (Str×V)} {v:V} {o:Option (Option V)} {Q:V→Prop} (hi:H a=some (.ins C dx fs)) (hc:qC K C) (hn:aZ K C f) (hl:fs.lookup f=some v) (q:Q v) (e:o=some (some (.ref a)):=by rfl):∃ u,o=some (some u)∧∃ a C dx fs v,u=.ref a∧H a=some (.ins C dx fs)∧qC K C∧aZ K C f∧fs.lookup f=some v∧Q v:=⟨_,e,a,C,dx,fs,v,rfl,hi,hc,hn,hl,q⟩
noncomputable def KH (K:PySem.W.Frag) (ta tv:TE) (f:Str):TS:=λ D σ H=>tv σ H λ y H1=>ta σ H1 λ x H2=>∃ a C dx fs,x = .ref a∧H2 a=some (.ins C dx fs)∧qC K C∧aZ K C f∧fs.length < 1000 ∧
  D.nx σ (upd H2 a (.ins C dx (cO f y fs)))
noncomputable def Gq (X:Cx) (op:Operator) (rd:V→V→Hp→VK→Prop):Prop :=
  ∀ (pins:List (Addr×Obj)) (s:Shared) (σ:St) (H:Hp) (x y:V) (u v:Value) (Q:VK),Inv X pins σ H s→RelV x u→RelV y v→rd x y H Q→wpAny (model X.prog X.w) X.A (inplaceOp op u v) (EP X pins σ Q) X.xe s
noncomputable def AN (K:PySem.W.Frag) (ta tv:TE) (rd:V→V→Hp→VK→Prop) (f:Str):TS:=λ D σ H=>ta σ H λ x H1=>∃ a C dx fs v,x = .ref a∧H1 a=some (.ins C dx fs)∧qC K C∧aZ K C f∧fs.lookup f=some v ∧
  tv σ H1 λ y H2=>rd v y H2 λ z H3=>∃ KI fs',H3 a=some (.ins C KI fs')∧fs'.length < 1000∧D.nx σ (upd H3 a (.ins C KI (cO f z fs')))
section
variable {X:Cx} {o e value:Expr} {f:Str} {pos pos' AI:Pos} {ta tv:TE}
theorem aN (he:PE X e ta) (hb:attributeBase e f X.env (eval e X.env)=eval e X.env):PE X (.Attribute e f pos) (Gp X.K ta f):=by
  intro pins s σ H Q I h;refine AM hb (bP (he pins s σ H _ I h) λ u s1 ⟨x,H1,I1,rx,a,C,dx,fs,v,ex,ea,c,n,l,q⟩=>?_);subst ex;obtain rfl:u=Value.ref a:=rx;exact lA I1 ea c n l λ u' s2 I2 ru=>⟨v,H1,I2,ru,q⟩
theorem cY (ha:PE X o ta) (hv:PE X value tv) (hs:swapsWith value (some (.Attribute o f pos')) pos.line X.env=pure false):PS X (.Assign [.Attribute o f pos'] value pos) (KH X.K ta tv f):=by
  intro pins s σ H D I h;refine plainObj_wpAny_Assign_Attribute (bP (hv pins s σ H _ I h) λ u s1 ⟨y,H1,I1,ry,q⟩=>bP (ha pins s1 σ H1 _ I1 q) λ ov s2 ⟨x,H2,I2,rx,a,C,dx,fs,ex,ea,c,n,l,q2⟩=>?_) hs;subst ex;obtain rfl:ov=Value.ref a:=rx;exact lC I2 ea c n l ry λ s3 I3=>⟨σ,_,I3,q2⟩
theorem v9 {op:Operator} {rd:V→V→Hp→VK→Prop} (ha:PE X o ta) (hv:PE X value tv) (Ql:Gq X op rd):PS X (.AugAssign (.Attribute o f AI) op value pos) (AN X.K ta tv rd f):=by
  intro pins s σ H D I h;refine wpAny_AugAssign_AttributeAny (bP (ha pins s σ H _ I h) λ ov s1 ⟨x,H1,I1,rx,a,C,dx,fs,v,ex,ea,c,n,l,q⟩=>?_);subst ex;obtain rfl:ov=Value.ref a:=rx;refine lA I1 ea c n l λ u s2 I2 ru=>bP (hv pins s2 σ H1 _ I2 q) λ w3 s3 ⟨y,H2,I3,ry,q3⟩=>bP (Ql pins s3 σ H2 v y u w3 _ I3 ru ry q3) λ w4 s4 ⟨z,H3,I4,rz,KI,fs',Qm,l',q4⟩=>?_;exact lC I4 Qm c n l' rz λ s5 I5=>⟨σ,_,I5,q4⟩
noncomputable def KJ:V→V→Hp→VK→Prop:=λ x y H Q=>∃ i j,x = .int i∧y = .int j∧Q (.int (i + j)) H
theorem Dw:Gq X .Add KJ:=by
  rintro pins s σ H x y u v Q I rx ry ⟨i,j,rfl,rfl,q⟩;obtain ⟨t,rfl⟩:=(show ∃ t,u=Value.int i t from rx);obtain ⟨t',rfl⟩:=(show ∃ t',v=Value.int j t' from ry);exact PyProof.Rows.iadd_int ⟨.int (i + j),H,I.tok _,⟨_,rfl⟩,q⟩
end
section
variable {X:Cx} {pins:List (Addr×Obj)} {σ:St} {H:Hp} {s:Shared} {A:Around} {E:Value→Shared→Prop} {Q:Value→Shared→Prop} {c:Value} {b:Bool}
inductive bF (K:PySem.W.Frag) (H:Hp):V→Value→Prop where
  | cc:bF K H .cc (.type "NoneType")
  | bl (x:Bool):bF K H (.bl x) (.type "bool")
  | int (i:Int):bF K H (.int i) (.type "int")
  | str (x:Str):bF K H (.str x) (.type "str")
  | Ax (x:UInt64):bF K H (.Ax x) (.type "float")
  | lst {a:Addr} {xs:List V} (e:H a=some (.lst xs)):bF K H (.ref a) (.type "list")
  | iD {a:Addr} {o:Obj} {xs:List V} (e:H a=some (.iD o (.lst xs))):bF K H (.ref a) (.type "list")
  | tup {a:Addr} {xs:List V} (e:H a=some (.tup xs)):bF K H (.ref a) (.type "tuple")
  | dK {a:Addr} {bE:List (Key×V)} (e:H a=some (.dK bE)):bF K H (.ref a) (.type "dict")
  | dT {a:Addr} {bE:List (List Key×V)} (e:H a=some (.dT bE)):bF K H (.ref a) (.type "dict")
  | ins {a C dx:Addr} {fs:List (Str×V)} (e:H a=some (.ins C dx fs)) (cl:qC K C) (ha:PySem.W.findIn K (.ref C) "__class__"=some (some (.builtin "object.__class__")))
      (hn:PySem.W.specialIn K (.builtin "object.__class__") "__get__"=some (some (.builtin "getset_descriptor.__get__"))) (v_:PySem.W.takesIn K (.builtin "object.__class__")=some true)
      (hm:PySem.W.mroIn K C (.type "object")=some true):bF K H (.ref a) (.ref C)
theorem wa {x:V} {u t:Value} (I:Inv X pins σ H s) (rx:RelV x u) (ty:bF X.K H x t) (e:PySem.W.kitOne X.K t c=some b) (h:∀ tk,Q (.bool b) { s with toks:=tk }) :
    wpAny (model X.prog X.w) A (call (.builtin "isinstance") [u,c]) Q E s:=by
  cases ty with
  | cc=>cases (show u=Value.none from rx);exact PySem.W.kia_one PySem.W.kitx_none I.jP True.intro e (λ z=>nomatch z) h
  | bl y=>cases (show u=Value.bool y from rx);exact PySem.W.kia_one PySem.W.kitx_bool I.jP True.intro e (λ z=>nomatch z) h
  | int i=>obtain ⟨t,q⟩:=(show ∃ t,u=Value.int i t from rx);cases q;exact PySem.W.kia_one PySem.W.kitx_int I.jP True.intro e (λ z=>nomatch z) h
  | str y=>obtain ⟨t,q⟩:=(show ∃ t,u=Value.str y t from rx);cases q;exact PySem.W.kia_one PySem.W.kitx_str I.jP True.intro e (λ z=>nomatch z) h
  | Ax y=>obtain ⟨t,q⟩:=(show ∃ t,u=Value.float y t from rx);cases q;exact PySem.W.kia_one PySem.W.kitx_float I.jP True.intro e (λ z=>nomatch z) h
  | @lst a xs ea =>
    cases (show u=Value.ref a from rx);obtain ⟨_,_,n,_,h1⟩:=(show bZ X.prog X.w H s.heap a (.lst xs) from I.bH a _ ea);exact PySem.W.kia_one PySem.W.kitx_list I.jP ⟨_,h1,rfl⟩ e (λ z=>nomatch z) h
  | @iD a ob xs ea =>
    cases (show u=Value.ref a from rx);obtain ⟨_,_,_,n,_,h1⟩:=(show bZ X.prog X.w H s.heap a (.iD ob (.lst xs)) from I.bH a _ ea);exact PySem.W.kia_one PySem.W.kitx_list I.jP ⟨_,h1,rfl⟩ e (λ z=>nomatch z) h
  | @tup a xs ea =>
    cases (show u=Value.ref a from rx);obtain ⟨_,_,_,p⟩:=(show bZ X.prog X.w H s.heap a (.tup xs) from I.bH a _ ea);obtain ⟨o,h1,h2,_⟩:=p;exact PySem.W.kia_one PySem.W.kitx_tuple I.jP ⟨o,h1,h2⟩ e (λ z=>nomatch z) h
  | @dK a bE ea =>
    cases (show u=Value.ref a from rx);obtain ⟨_,_,vs,_,p⟩:=(show bZ X.prog X.w H s.heap a (.dK bE) from I.bH a _ ea);obtain ⟨o,es,ep,h1,h2,_⟩:=p;exact PySem.W.kia_one PySem.W.kitx_dict I.jP ⟨o,h1,h2.1⟩ e (λ z=>nomatch z) h
  | @dT a bE ea =>
    cases (show u=Value.ref a from rx);obtain ⟨_,_,xs,_,o,es,ep,h1,h2,_⟩:=(show bZ X.prog X.w H s.heap a (.dT bE) from I.bH a _ ea);exact PySem.W.kia_one PySem.W.kitx_dict I.jP ⟨o,h1,h2.1⟩ e (λ z=>nomatch z) h
  | @ins a C dx fs ea cl ha hn v_ hm =>
    cases (show u=Value.ref a from rx);obtain ⟨mA,O,_⟩:=kM I.bH ea;obtain ⟨od,J,_⟩:=O.look;exact PySem.W.kia_one (PySem.W.kitx_own (cl.get _) cl.hd ha hn v_ hm) I.jP J e (λ z=>nomatch z) h
end
structure bc (k:Nat) (A:Around):Prop where
  hd:A.handled=none
  dp:A.depth + 3 * k + 5 < recursionLimit
  un:A.units + 16 * k + 200 < cLine
theorem bc.mono {j k:Nat} {A:Around} (r:bc k A) (h:j≤k):bc j A:=⟨r.hd,by have:=r.dp;lia,by have:=r.un;lia⟩
theorem bc.deeper {k:Nat} {A:Around} (r:bc (k + 1) A) (env:Env):bc k (A.deeper env) :=
  ⟨r.hd,by have:=r.dp;show A.depth + 1 + 3 * k + 5 < _;lia,by have:=r.un;show A.units + 3 + 16 * k + 200 < _;lia⟩
theorem bc.in1 {k:Nat} {A:Around} (r:bc (k + 1) A):bc k A.in1 :=
  ⟨r.hd,by have:=r.dp;show A.depth + 3 * k + 5 < _;lia,by have:=r.un;show A.units + 1 + 16 * k + 200 < _;lia⟩
theorem tf {A:Around} {C:Addr} {us:List Value} {kw:List (Str×Value)}:(A.under (.builtin "type.__call__" ⟨.ref C :: us,kw⟩)).depth=A.depth + 1:=by
  first | rfl | simp [Around.under,Code.weight,Code.isCreation,Code.isGuard,Code.isCaller,Code.frames,Code.isFrame,guardIds]
theorem tj {A:Around} {C:Addr} {us:List Value} {kw:List (Str×Value)}:(A.under (.builtin "type.__call__" ⟨.ref C :: us,kw⟩)).units=A.units + 1:=by
  first | rfl | simp [Around.under,Code.cUnits,Code.frames,Code.isFrame]
theorem bc.make {k:Nat} {A:Around} (r:bc (k + 1) A) (C:Addr) (us:List Value) (kw:List (Str×Value)):bc k (A.under (.builtin "type.__call__" ⟨.ref C :: us,kw⟩)) :=
  ⟨r.hd,by have:=r.dp;rw [tf];omega,by have:=r.un;rw [tj];omega⟩
theorem bc.depth {k:Nat} {A:Around} (r:bc k A):A.depth < recursionLimit:=by have:=r.dp;lia
theorem bc.units {k:Nat} {A:Around} (r:bc k A):A.units + 64 < cLine:=by have:=r.un;lia
noncomputable def fc:TA:=λ _ H Q=>Q [] H
noncomputable def nM (ta:TE) (tr:TA):TA:=λ σ H Q=>ta σ H λ x H1=>tr σ H1 λ xs H2=>Q (x :: xs) H2
section
variable {X:Cx} {e:Expr} {es:List Expr} {te:TE} {t:TA} {pos:Pos}
theorem ae:PA X [] fc:=λ _ _ _ _ H Q I h=>Calls.spliced_nil ⟨[],H,I,.nil,h⟩
theorem aa (ha:PE X e te) (hr:PA X es t) (hs:starEach (e :: es) X.env=(false,eval e X.env) :: starEach es X.env:=by rfl):PA X (e :: es) (nM te t):=by
  intro pos pins s σ H Q I h;rw [hs];show wpAny _ _ (spliced ((false,eval e X.env) :: backTo pos (starEach es X.env))) _ _ s;refine Calls.spliced_cons (bP (ha pins s σ H _ I h) λ u s1 ⟨x,H1,I1,r1,q1⟩=>?_);exact bP (hr pos pins s1 σ H1 _ I1 q1) λ us s2 ⟨xs,H2,I2,r2,q2⟩=>⟨x :: xs,H2,I2,.cons r1 r2,q2⟩
noncomputable def KL (t:TA):TE:=λ σ H Q=>t σ H λ xs H1=>xs.length≤sizeLine∧∀ p,H1 p=none→Q (.ref p) (upd H1 p (.tup xs))
noncomputable def KN (t:TA):TE:=λ σ H Q=>t σ H λ xs H1=>xs.length≤sizeLine∧∀ p,H1 p=none→Q (.ref p) (upd H1 p (.lst xs))
theorem bL {x1} (h:PA X es t):PE X (.Tuple es x1 pos) (KL t):=by
  intro pins s σ H Q I hq;refine wpAny_Tuple_spliced (bP (h pos pins s σ H _ I hq) λ us s1 ⟨xs,H1,I1,r,z,q⟩=>⟨by rw [← r.length];exact z,?_⟩);have hf:H1 s1.heap.objs.size=none:=I1.bH.fresh (Nat.le_refl _);refine ⟨.ref s1.heap.objs.size,upd H1 s1.heap.objs.size (.tup xs),I1.laid (t':=s1.toks) (λ b u e=>Heap.get?_push_of_some _ e) (Nat.le_refl _) ?_,rfl,q _ hf⟩;exact ⟨z,us,r,⟨_,Heap.get?_push_size _ rfl,rfl,_,rfl⟩⟩
theorem cQ (h:PA X es t):PE X (.List es pos) (KN t):=by
  intro pins s σ H Q I hq;refine wpAny_List_spliced (bP (h pos pins s σ H _ I hq) λ us s1 ⟨xs,H1,I1,r,z,q⟩=>⟨by rw [← r.length];exact z,?_⟩);have hf:H1 s1.heap.objs.size=none:=I1.bH.fresh (Nat.le_refl _);refine ⟨.ref s1.heap.objs.size,upd H1 s1.heap.objs.size (.lst xs),I1.laid (t':=s1.toks) (λ b u e=>Heap.get?_push_of_some _ e) (Nat.le_refl _) ?_,rfl,q _ hf⟩;exact ⟨z,us,0,r,Heap.get?_push_size _ rfl⟩
end
noncomputable abbrev Sp:=List V→Hp→VK→XK→Prop
noncomputable abbrev xC:=List Env→Hp→Shared→XK→Value→Shared→Prop
structure lD (P:Program) (w:World) (K:PySem.W.Frag) (mg:Str→Option Value) (base:Heap) (A:Around) (outer:List Env) (s:Shared) (H:Hp):Prop where
  frames:A.frames=some outer
  mod:Mod K mg base
  bs:∀ b o,base.get? b=some o→s.heap.get? b=some o∧H b=none
  Az:base.objs.size≤s.heap.objs.size
  jO:s.heap.FunFrames base outer
  B9:∀ b∈mQ outer,H b=none
  bH:jd P w H s.heap
  bare:AllBare s.gens
noncomputable def CE (outer:List Env) (P:Program) (w:World) (H:Hp) (s:Shared) (Q:VK) (u:Value) (s':Shared):Prop :=
  ∃ v H',s'.os=s.os∧AllBare s'.gens∧Un (mQ outer) [] H H' s.heap s'.heap∧jd P w H' s'.heap∧RelV v u∧Q v H'
noncomputable def CR (CX:xC) (outer:List Env) (P:Program) (w:World) (H:Hp) (s:Shared) (Q:VK) (E:XK) (r:Result) (s':Shared):Prop :=
  match r with
  | .ok (.ret u)=>CE outer P w H s Q u s'
  | .ok _=>False
  | .error e=>CX outer H s E e s'
structure fA (P:Program) (w:World) (K:PySem.W.Frag) (mg:Str→Option Value) (base:Heap) (CX:xC) (k:Nat) (f:Addr) (fd:FuncData) (ps:List Str) (sp:Sp):Prop where
  len:∀ vs H Q E,sp vs H Q E→vs.length=ps.length
  run:∀ (A:Around) (outer:List Env) (s:Shared) (H:Hp) (args:Args) (us:List Value) (vs:List V) (Q:VK) (E:XK),bc k A→lD P w K mg base A outer s H→BindsTo s fd args (ps.zip us)→Vals vs us→sp vs H Q E →
    codeAny (model P w) A (.call (.ref f) args) (CR CX outer P w H s Q E) s
theorem lD.make {P:Program} {w:World} {K:PySem.W.Frag} {mg:Str→Option Value} {base:Heap} {A:Around} {outer:List Env} {s:Shared} {H:Hp} (e:lD P w K mg base A outer s H) (C:Addr) (us:List Value) (kw:List (Str×Value)) :
    lD P w K mg base (A.under (.builtin "type.__call__" ⟨.ref C :: us,kw⟩)) outer s H:=⟨by first | exact e.frames | (simpa [Around.under,Code.envs,Code.isFrame,pushEnvs] using e.frames),e.mod,e.bs,e.Az,e.jO,e.B9,e.bH,e.bare⟩
theorem lD.in1 {P:Program} {w:World} {K:PySem.W.Frag} {mg:Str→Option Value} {base:Heap} {A:Around} {outer:List Env} {s:Shared} {H:Hp} (e:lD P w K mg base A outer s H) :
    lD P w K mg base A.in1 outer s H:=⟨e.frames,e.mod,e.bs,e.Az,e.jO,e.B9,e.bH,e.bare⟩
section
variable {X:Cx} {pins:List (Addr×Obj)} {σ:St} {H:Hp} {s s':Shared}
theorem Inv.Dx (I:Inv X pins σ H s):lD X.prog X.w X.K X.mg X.base X.A X.stack s H :=
  ⟨I.ok.frames,I.ok.mod,I.bs,Nat.le_trans I.ok.Az I.sz,I.stack,I.oX,I.bH,I.bare⟩
theorem Inv.after {Q:VK} {u:Value} (I:Inv X pins σ H s) (h:CE X.stack X.prog X.w H s Q u s'):EP X pins σ Q u s':=by
  obtain ⟨v,H',os,bare,un,bH,r,q⟩:=h;obtain ⟨hh,g,d,t,KP⟩:=s';obtain rfl:KP=s.os:=os;exact ⟨v,H',I.call (h':=hh) (g':=g) (d':=d) (t':=t) (ch:=[]) un bH bare (λ b z=>absurd z (by simp)),r,q⟩
end
noncomputable def Cd (sp:Sp) (mZ:List V) (E:XK) (t:TA):TE:=λ σ H Q=>t σ H λ vs H1=>sp (vs ++ mZ) H1 Q E
noncomputable def uS (C:Addr) (m:Str) (sp:Sp) (mZ:List V) (E:XK) (ta:TE) (t:TA):TE:=λ σ H Q=>ta σ H λ x H1=>∃ a dx fs,x = .ref a∧H1 a=some (.ins C dx fs)∧fs.lookup m=none ∧
  t σ H1 λ vs H2=>sp (x :: (vs ++ mZ)) H2 Q E
noncomputable def Gr (C:Addr) (sp:Sp) (mZ:List V) (E:XK) (t:TA):TE:=λ σ H Q=>t σ H λ vs H1=>∀ x dx,H1 x=none→H1 dx=none→dx≠x →
  sp (.ref x :: (vs ++ mZ)) (upd (upd H1 dx (.own x)) x (.ins C dx [])) (λ v H2=>v = .cc∧Q (.ref x) H2) E
noncomputable def Binds (K:PySem.W.Frag) (fd:FuncData) (ps:List Str) (ds:List Value):Prop :=
  ∀ (s:Shared) (us:List Value),K.In s.heap→(us ++ ds).length=ps.length→BindsTo s fd ⟨us,[]⟩ (ps.zip (us ++ ds))
theorem Binds.all {K:PySem.W.Frag} {fd:FuncData} {ps:List Str} (h:∀ us:List Value,us.length=ps.length→bindArgs fd ⟨us,[]⟩=pure (ps.zip us)):Binds K fd ps []:=λ s us _ hl=>by
  rw [List.append_nil] at hl ⊢;exact .of_eq (h us hl)
noncomputable def Passes (CX:xC) (X:Cx) (E:XK):Prop:=∀ (pins:List (Addr×Obj)) (σ:St) (H:Hp) (s:Shared) (e:Value) (s':Shared),Inv X pins σ H s→CX X.stack H s E e s'→X.xe e s'
section
variable {X:Cx} {CX:xC} {k:Nat} {f C:Addr} {fd:FuncData} {ps:List Str} {sp:Sp} {mZ:List V} {ds:List Value} {E:XK} {x m:Str} {p pos apos:Pos} {e o:Expr} {es:List Expr} {ta:TE} {t:TA}
theorem tq {pins:List (Addr×Obj)} {σ:St} {H:Hp} {s:Shared} {Q:VK} {us:List Value} {vs:List V} (F:fA X.prog X.w X.K X.mg X.base CX k f fd ps sp) (hr:bc k X.A) (hb:Binds X.K fd ps ds) (hd:Vals mZ ds) (hx:Passes CX X E)
    (I:Inv X pins σ H s) (r:Vals vs us) (h:sp (vs ++ mZ) H Q E):wpAny (model X.prog X.w) X.A (call (.ref f) us) (EP X pins σ Q) X.xe s:=by
  have r2:Vals (vs ++ mZ) (us ++ ds):=r.append hd;have hl:(us ++ ds).length=ps.length:=by rw [← r2.length];exact F.len _ _ _ _ h
  refine wpAny_call (codeAny_mono (F.run X.A X.stack s H ⟨us,[]⟩ (us ++ ds) (vs ++ mZ) Q E hr I.Dx (hb s us I.jP hl) r2 h) λ r s' hq=>?_);cases r with
  | error e=>exact hx pins σ H s e s' I hq
  | ok fl =>
    cases fl with
    | ret u=>exact I.after hq
    | next=>exact False.elim hq
    | brk=>exact False.elim hq
    | cont=>exact False.elim hq
theorem AO (F:fA X.prog X.w X.K X.mg X.base CX k f fd ps sp) (hr:bc k X.A) (hg:Gl X x) (hm:X.mg x=some (.ref f)) (hk:PySem.W.keepIn X.K (.ref f)=true) (hb:Binds X.K fd ps ds) (hd:Vals mZ ds) (hx:Passes CX X E)
    (ha:PA X (e :: es) t) (yc:(x == ("__debug__":Str))=false:=by decide) (he:starEach (e :: es) X.env=(false,eval e X.env) :: starEach es X.env:=by rfl) (gk:(backTo pos (starEach es X.env)).any (·.1)=false:=by rfl) :
    PE X (.Call (.Name x p) (e :: es) [] pos) (Cd sp mZ E t):=by
  intro pins s σ H Q I h;refine wpAny_Call_Name_kw (kH I hg hm ?_ yc);refine PySem.W.callWith_K (h₀:=X.base) I.ok.mod.Df hk (bP (ha pos pins s σ H _ I h) λ us s1 ⟨vs,H1,I1,r,q⟩=>⟨I1.jP,?_⟩) he gk;exact tq F hr hb hd hx I1 r q
theorem AQ {pl:Sem Bool} (he:PE X o ta) (c:qC X.K C) (hm:Meth X.K C m f) (F:fA X.prog X.w X.K X.mg X.base CX k f fd ps sp) (hr:bc k X.A) (hb:Binds X.K fd ps ds) (hd:Vals mZ ds) (hx:Passes CX X E) (ha:PA X (e :: es) t)
    (qy:starEach (e :: es) X.env=(false,eval e X.env) :: starEach es X.env:=by rfl) (gk:(backTo pos (starEach es X.env)).any (·.1)=false:=by rfl)
    (ht:eval (.Call (.Attribute o m apos) (e :: es) [] pos) X.env=(do
      let ov ← eval o X.env
      standAt apos.atName
      let (f,first) ← holding [ov] (getMethod ov m pl)
      callWith pos f first (backTo pos (starEach (e :: es) X.env)) (backToKw pos (keywordEach [] X.env))):=by rfl) :
    PE X (.Call (.Attribute o m apos) (e :: es) [] pos) (uS C m sp mZ E ta t):=by
  intro pins s σ H Q I h;refine PySem.W.methodCall_KW (pl:=pl) (bP (he pins s σ H _ I h) λ u s1 ⟨x,H1,I1,rx,a,dx,fs,ex,ea,l,q⟩=>?_) ht;subst ex;obtain rfl:u=Value.ref a:=rx;refine lB I1 ea c hm l ?_;refine PySem.W.callWith_K (first:=[.ref a]) (h₀:=X.base) I.ok.mod.Df hm.kp (bP (ha pos pins s1 σ H1 _ I1 q) λ us s2 ⟨vs,H2,I2,r,q2⟩=>⟨I2.jP,?_⟩) qy gk;exact tq (us:=.ref a :: us) (vs:=.ref a :: vs) F hr hb hd hx I2 (.cons rfl r) q2
theorem yd {pl:Sem Bool} (he:PE X o ta) (c:qC X.K C) (hm:Meth X.K C m f) (F:fA X.prog X.w X.K X.mg X.base CX k f fd ps sp) (hr:bc k X.A) (hb:Binds X.K fd ps ds) (hd:Vals mZ ds) (hx:Passes CX X E)
    (ht:eval (.Call (.Attribute o m apos) [] [] pos) X.env=(do
      let ov ← eval o X.env
      standAt apos.atName
      let (f,first) ← holding [ov] (getMethod ov m pl)
      callWith pos f first (backTo pos (starEach [] X.env)) (backToKw pos (keywordEach [] X.env))):=by rfl) :
    PE X (.Call (.Attribute o m apos) [] [] pos) (uS C m sp mZ E ta fc):=by
  intro pins s σ H Q I h;refine PySem.W.methodCall_KW (pl:=pl) (bP (he pins s σ H _ I h) λ u s1 ⟨x,H1,I1,rx,a,dx,fs,ex,ea,l,q⟩=>?_) ht;subst ex;obtain rfl:u=Value.ref a:=rx;refine lB I1 ea c hm l ?_;exact PySem.W.callWith_K0 (first:=[.ref a]) I1.jP hm.kp (tq (us:=[.ref a]) (vs:=[.ref a]) F hr hb hd hx I1 (.cons rfl .nil) q)
structure Mk (K:PySem.W.Frag) (C f:Addr):Prop where
  makes:PySem.W.makesIn K C=true
  init:PySem.W.findIn K (.ref C) "__init__"=some (some (.ref f))
  fn:PySem.W.isFn K (.ref f)=true
  kp:PySem.W.keepIn K (.ref C)=true
theorem ye {pins:List (Addr×Obj)} {σ:St} {H:Hp} {s:Shared} {Q:VK} {us:List Value} {vs:List V} (M:Mk X.K C f) (F:fA X.prog X.w X.K X.mg X.base CX k f fd ps sp) (hr:bc (k + 1) X.A) (hb:Binds X.K fd ps ds) (hd:Vals mZ ds)
    (hx:Passes CX X E) (I:Inv X pins σ H s) (r:Vals vs us)
    (h:∀ x dx,H x=none→H dx=none→dx≠x→sp (.ref x :: (vs ++ mZ)) (upd (upd H dx (.own x)) x (.ins C dx [])) (λ v H2=>v = .cc∧Q (.ref x) H2) E) :
    wpAny (model X.prog X.w) X.A (call (.ref C) us) (EP X pins σ Q) X.xe s:=by
  have hq:=h (s.heap.objs.size + 1) s.heap.objs.size (I.bH.fresh (Nat.le_succ _)) (I.bH.fresh (Nat.le_refl _)) (Nat.ne_of_lt (Nat.lt_succ_self _));have I2:=Inv.made (C:=C) I;have r2:Vals (V.ref (s.heap.objs.size + 1) :: (vs ++ mZ)) (Value.ref (s.heap.objs.size + 1) :: (us ++ ds)):=.cons rfl (r.append hd);have hl:(Value.ref (s.heap.objs.size + 1) :: us ++ ds).length=ps.length:=by
    have e:=r2.length;rw [F.len _ _ _ _ hq] at e;exact e.symm
  refine wpAny_call (yb (f:=f) I.jP M.makes M.init (beq_iff_eq.mp M.fn) (codeAny_mono (F.run _ X.stack _ _ ⟨Value.ref (s.heap.objs.size + 1) :: us,[]⟩ (Value.ref (s.heap.objs.size + 1) :: (us ++ ds)) _ _ E (hr.make C us [])
    (I2.Dx.make C us []) (hb _ (Value.ref (s.heap.objs.size + 1) :: us) I2.jP hl) r2 hq) λ r s' Gs=>?_))
  cases r with
  | error e=>exact hx pins σ _ _ e s' I2 Gs
  | ok fl =>
    cases fl with
    | ret u =>
      obtain ⟨v,H',I3,rv,ev,q3⟩:=I2.after Gs;subst ev;exact ⟨rv,⟨V.ref (s.heap.objs.size + 1),H',I3,rfl,q3⟩⟩
    | next=>exact False.elim Gs
    | brk=>exact False.elim Gs
    | cont=>exact False.elim Gs
theorem kN (M:Mk X.K C f) (F:fA X.prog X.w X.K X.mg X.base CX k f fd ps sp) (hr:bc (k + 1) X.A) (hg:Gl X x) (hm:X.mg x=some (.ref C)) (hb:Binds X.K fd ps ds) (hd:Vals mZ ds) (hx:Passes CX X E)
    (ha:PA X (e :: es) t) (yc:(x == ("__debug__":Str))=false:=by decide) (he:starEach (e :: es) X.env=(false,eval e X.env) :: starEach es X.env:=by rfl) (gk:(backTo pos (starEach es X.env)).any (·.1)=false:=by rfl) :
    PE X (.Call (.Name x p) (e :: es) [] pos) (Gr C sp mZ E t):=by
  intro pins s σ H Q I h;refine wpAny_Call_Name_kw (kH I hg hm ?_ yc);refine PySem.W.callWith_K (h₀:=X.base) I.ok.mod.Df M.kp (bP (ha pos pins s σ H _ I h) λ us s1 ⟨vs,H1,I1,r,q⟩=>⟨I1.jP,?_⟩) he gk;exact ye M F hr hb hd hx I1 r q
end
noncomputable def PK (X:Cx) (yf:List Keyword) (t:TA):Prop :=
  ∀ (pos:Pos) (pins:List (Addr×Obj)) (s:Shared) (σ:St) (H:Hp) (Q:List V→Hp→Prop),Inv X pins σ H s→t σ H Q→wpAny (model X.prog X.w) X.A (evalAll ((backToKw pos (keywordEach yf X.env)).map (·.2))) (AP X pins σ Q) X.xe s
section
variable {X:Cx} {CX:xC} {k:Nat} {f C:Addr} {fd:FuncData} {ps ks:List Str} {sp:Sp} {E:XK} {x m:Str} {p pos apos KQ:Pos} {e o:Expr} {es:List Expr} {yf:List Keyword} {te ta:TE} {t tk:TA} {nm:Option Str}
theorem tD:PK X [] fc:=λ _ _ _ _ H Q I h=>wpAny_evalAll_nil ⟨[],H,I,.nil,h⟩
theorem kO (ha:PE X e te) (hr:PK X yf t):PK X (⟨nm,e,KQ⟩ :: yf) (nM te t):=by
  intro pos pins s σ H Q I h;show wpAny _ _ (evalAll ((do let v ← eval e X.env;standAt pos;pure v) :: (backToKw pos (keywordEach yf X.env)).map (·.2))) _ _ s
  refine wpAny_evalAll_cons (wpAny_bind (bP (ha pins s σ H _ I h) λ u s1 ⟨x,H1,I1,r1,q1⟩=>wpAny_bind (wpAny_standAt (wpAny_pure ?_))));exact bP (hr pos pins s1 σ H1 _ I1 q1) λ us s2 ⟨xs,H2,I2,r2,q2⟩=>⟨x :: xs,H2,I2,.cons r1 r2,q2⟩
variable {g:List Value→List Value→List Value} {gV:List V→List V→List V}
end
structure az (N P:List Str) (sc:Scope):Prop where
  kind:sc.kind = .function
  co:sc.isCoroutine=false
  gen:sc.isGenerator=false
  nd:N.Nodup
  pre:N.take P.length=P
  par:∀ x∈P,sc.names.lookup x=some .local∨sc.names.lookup x=some .cell
  Dy:∀ y∈sc.names,y.2≠.free
theorem dZ {N P:List Str} {c:Scope} (a:c.kind=.function:=by rfl) (b:c.isCoroutine=false:=by rfl) (d:c.isGenerator=false:=by rfl) (e:N.Nodup:=by decide +kernel) (f:N.take P.length=P:=by rfl) (g:∀ x∈P,c.names.lookup x=some .local∨c.names.lookup x=some .cell:=by decide +kernel) (h:∀ y∈c.names,y.2≠.free:=by decide +kernel):az N P c:=⟨a,b,d,e,f,g,h⟩
theorem nN {kindOf:Str→Option NameKind} {x:Str}:∀ {binds:List (Str×Value)} {m:Str→Option Value},(∀ v,(x,v)∉binds)→bindL kindOf binds m x=m x
  | [],_,_=>rfl
  | (n,v) :: r,m,h=>by
    unfold bindL;rw [nN λ w hw=>h w (List.mem_cons_of_mem _ hw)];split
    · have:x≠n:=by rintro rfl;exact h v List.mem_cons_self
      simp [this]
    · rfl
theorem nO {kindOf:Str→Option NameKind} {x:Str}:∀ {binds:List (Str×Value)} {m:Str→Option Value},(∀ v,(x,v)∉binds)→bindC kindOf binds m x=m x
  | [],_,_=>rfl
  | (n,v) :: r,m,h=>by
    unfold bindC;rw [nO λ w hw=>h w (List.mem_cons_of_mem _ hw)];split
    · rfl
    · have:x≠n:=by rintro rfl;exact h v List.mem_cons_self
      simp [this]
theorem nQ {kindOf:Str→Option NameKind} {x:Str} {v:Value}:∀ {P:List Str} {vs:List Value} {i:Nat} {m:Str→Option Value},P.Nodup→P[i]?=some x→vs[i]?=some v→kindOf x=some .local →
    bindL kindOf (P.zip vs) m x=some v
  | [],_,_,_,_,h,_,_=>by simp at h
  | _ :: _,[],_,_,_,_,h,_=>by simp at h
  | p :: P,w :: vs,0,m,nd,h1,h2,hk=>by
    simp at h1 h2;subst h1;subst h2;show bindL kindOf ((p,w) :: P.zip vs) m p=_;unfold bindL;rw [nN λ v hv=>(List.nodup_cons.mp nd).1 (List.of_mem_zip hv).1,if_pos hk];simp
  | p :: P,w :: vs,i + 1,m,nd,h1,h2,hk=>by
    show bindL kindOf ((p,w) :: P.zip vs) m x=_;unfold bindL;exact nQ (i:=i) (List.nodup_cons.mp nd).2 (by simpa using h1) (by simpa using h2) hk
theorem nR {kindOf:Str→Option NameKind} {x:Str} {v:Value}:∀ {P:List Str} {vs:List Value} {i:Nat} {m:Str→Option Value},P.Nodup→P[i]?=some x→vs[i]?=some v→kindOf x≠some .local →
    bindC kindOf (P.zip vs) m x=some v
  | [],_,_,_,_,h,_,_=>by simp at h
  | _ :: _,[],_,_,_,_,h,_=>by simp at h
  | p :: P,w :: vs,0,m,nd,h1,h2,hk=>by
    simp at h1 h2;subst h1;subst h2;show bindC kindOf ((p,w) :: P.zip vs) m p=_;unfold bindC;rw [nO λ v hv=>(List.nodup_cons.mp nd).1 (List.of_mem_zip hv).1,if_neg hk];simp
  | p :: P,w :: vs,i + 1,m,nd,h1,h2,hk=>by
    show bindC kindOf ((p,w) :: P.zip vs) m x=_;unfold bindC;exact nR (i:=i) (List.nodup_cons.mp nd).2 (by simpa using h1) (by simpa using h2) hk
noncomputable def start (N:List Str) (vs:List V):St:=vs.map some ++ List.replicate (N.length - vs.length) none
noncomputable def gm (CX:xC) (P:Program) (w:World) (K:PySem.W.Frag) (mg:Str→Option Value) (base:Heap) (N:List Str) (qual:Str) (scope:Scope) (f:Addr) (cd:Value) (A:Around) (outer:List Env) (s:Shared) (H:Hp) (E:XK):Cx where
  prog:=P
  w:=w
  K:=K
  mg:=mg
  base:=base
  A:=A.deeper (envOfC qual scope s.heap.objs.size f cd)
  N:=N
  s₀:=s
  H₀:=H
  env:=envOfC qual scope s.heap.objs.size f cd
  outer:=outer
  stack:=envOfC qual scope s.heap.objs.size f cd :: outer
  ex:=[]
  calm:=true
  fn:=λ _=>true
  pn:=[]
  xe:=λ e s'=>wpAny (model P w) (A.deeper (envOfC qual scope s.heap.objs.size f cd)) (leaving (envOfC qual scope s.heap.objs.size f cd) e) (λ _ Am=>CX outer H s E e Am) (λ e' Am=>CX outer H s E e' Am) s'
theorem qD {sc:Scope} {n:Nat} {x:Str} (h:sc.names.lookup x=some .cell):∃ c,(cellsFrom n sc.names []).lookup x=some c:=by
  have q:=PySem.W.cellsFrom_some sc.names n [] (.inl h);exact Option.isSome_iff_exists.mp q
theorem nU {CX:xC} {P:Program} {w:World} {K:PySem.W.Frag} {mg:Str→Option Value} {base:Heap} {N ps:List Str} {qual:Str} {scope:Scope} {f:Addr} {cd:Value} {A:Around} {outer:List Env} {s s1:Shared} {H:Hp} {E:XK} {us:List Value} {vs:List V}
    (S:az N ps scope) (hd:A.handled=none) (e0:lD P w K mg base A outer s H) (hl:vs.length=ps.length) (r:Vals vs us)
    (x:InCallC s s.heap.objs.size (bindL (envOfC qual scope s.heap.objs.size f cd).kindOf (ps.zip us) λ _=>none) (cellsFrom (s.heap.objs.size + 1) scope.names []) (bindC (envOfC qual scope s.heap.objs.size f cd).kindOf (ps.zip us) λ _=>none) s1) :
    Inv (gm CX P w K mg base N qual scope f cd A outer s H E) [] (start N vs) H s1:=by
  have gk:ps.length≤N.length:=by have:=congrArg List.length S.pre;rw [List.length_take] at this;lia
  obtain ⟨h1,tk,rfl,hk⟩:=x.done;have E5:∀ b:Addr,b∉(gm CX P w K mg base N qual scope f cd A outer s H E).ex:=λ b z=>absurd (show b∈([]:List Addr) from z) (by simp);refine ⟨⟨e0.mod,S.kind,rfl,rfl,Nat.le_refl _,λ y z c h1 h2=>?_,λ y hy=>?_,λ y c _ h=>?_,λ _=>hd,Around.frames_deeper e0.frames,.inr ⟨rfl,rfl⟩,λ b z=>absurd z (E5 b),e0.bs,e0.Az,λ b _ _=>E5 b,λ b z=>absurd z (E5 b),e0.jO,e0.B9⟩,
    rfl,e0.bare,Un.kept hk,⟨_,x.toInCall.ns,λ i y v h1 h2 h3=>?_⟩,λ y c h=>⟨_,x.cell y c h⟩,e0.bH.fresh (Nat.le_refl _),λ y c h=>?_,λ p hp=>absurd (show p∈([]:List (Addr×Obj)) from hp) (by simp),e0.bH.kept hk,?_⟩
  · exact name_of_addr x.apart (PySem.mem_of_lookup h1) (PySem.mem_of_lookup h2)
  · have hy:scope.names.lookup y=some .cell∨scope.names.lookup y=some .free:=hy;rcases hy with hy | hy
    · exact qD hy
    · exact absurd rfl (S.Dy _ (PySem.mem_of_lookup hy))
  · exact Nat.le_of_lt (x.above y c (PySem.mem_of_lookup h))
  · have hi:i < vs.length:=by
      unfold start at h2
      by_cases hi:i < vs.length
      · exact hi
      · rw [List.getElem?_append_right (by simpa using hi)] at h2;rw [List.getElem?_replicate] at h2;split at h2<;>cases h2
    have ha:vs[i]?=some v:=by
      unfold start at h2;rw [List.getElem?_append_left (by simpa using hi),List.getElem?_map] at h2;cases e:vs[i]? with
      | none=>rw [e] at h2;cases h2
      | some a=>rw [e] at h2;cases h2;rfl
    obtain ⟨u,hu,rv⟩:=r.get ha;have hp:ps[i]?=some y:=by
      rw [← S.pre,List.getElem?_take_of_lt (by lia)];exact h1
    have NQ:ps.Nodup:=by rw [← S.pre];exact S.nd.sublist (List.take_sublist _ _)
    refine ⟨u,rv,?_⟩;rcases S.par y (List.mem_of_getElem? hp) with k | k
    · exact .inl ⟨k,nQ NQ hp hu k⟩
    · obtain ⟨c,e⟩:=qD (n:=s.heap.objs.size + 1) k;refine .inr ⟨.inl k,c,e,?_⟩;have q:=x.cell y c e;rw [nR NQ hp hu (by show scope.names.lookup y≠_;rw [k];decide)] at q;exact q
  · exact e0.bH.fresh (Nat.le_of_lt (x.above y c (PySem.mem_of_lookup h)))
  · unfold start;show _=N.length;rw [List.length_append,List.length_map,List.length_replicate]
    lia
theorem yg {CX:xC} {P:Program} {w:World} {K:PySem.W.Frag} {mg:Str→Option Value} {base:Heap} {k:Nat} {f:Addr} {name qual:Str} {params:Arguments} {body:List Stmt} {scope:Scope} {dV kV doc pm bM ct oc:Value} {an od:Option Addr}
    {nV:Array (Option Value)} {N ps:List Str} {sp:Sp} (lk:K.lookup f=some ⟨oc,od,.func (PySem.W.fnOf name qual params body scope dV kV doc pm an bM ct),nV⟩) (sL:PySem.W.codeIn K bM qual=true) (S:az N ps scope)
    (len:∀ vs H Q E,sp vs H Q E→vs.length=ps.length)
    (cS:∀ (A:Around) (outer:List Env) (s:Shared) (H:Hp) (vs:List V) (Q:VK) (E:XK),bc k (A.deeper (envOfC qual scope s.heap.objs.size f bM))→sp vs H Q E →
      ∃ t,jM (gm CX P w K mg base N qual scope f bM A outer s H E) body t∧t { nx:=λ _ H'=>Q .cc H',rt:=Q } (start N vs) H) :
    fA P w K mg base CX (k + 1) f (PySem.W.fnOf name qual params body scope dV kV doc pm an bM ct) ps sp:=by
  refine ⟨len,λ A outer s H args us vs Q E hr e0 hb r An=>?_⟩;have hl:=len _ _ _ _ An;have KX:K.In s.heap:=e0.mod.Df.keeps λ b o e=>(e0.bs b o e).1;have lim:s.heap.NoLimit:=e0.mod.nolimit.keeps λ b o e=>(e0.bs b o e).1;have yh:∀ y∈ps.zip us,scope.names.lookup y.1=some .local∨(scope.names.lookup y.1=some .cell∧((cellsFrom (s.heap.objs.size + 1) scope.names []).lookup y.1).isSome=true):=λ ⟨n,v⟩ hy=>by
    rcases S.par n (List.of_mem_zip hy).1 with q | q
    · exact .inl q
    · exact .inr ⟨q,PySem.W.cellsFrom_some _ _ _ (.inl q)⟩
  refine codeAny_call_function hr.depth (KX _ _ lk) rfl S.co S.gen rfl (PySem.W.codeRec_of KX sL) (hb _ _ _ _ ?_);refine wpAny_newFunctionEnv_cells S.kind yh λ env he s1 x=>?_;subst he;refine ⟨lim.keeps x.toInCall.keep,codeAny_func ?_⟩;obtain ⟨t,ht,hq⟩:=cS A outer s H vs Q E (hr.deeper _) An;have I:Inv (gm CX P w K mg base N qual scope f bM A outer s H E) [] (start N vs) H s1:=nU S hr.hd e0 hl r x;refine wpAny_mono (ht [] s1 (start N vs) H _ I hq) (λ fl s' hs=>?_) λ e s' hs=>hs;have fin:∀ {σ':St} {H':Hp} {v:V} {u:Value},Inv (gm CX P w K mg base N qual scope f bM A outer s H E) [] σ' H' s'→RelV v u→Q v H'→CE outer P w H s Q u s' :=
    λ {σ' H' v u} J rv q=>⟨v,H',J.os,J.bare,J.base,J.bH,rv,q⟩
  cases fl with
  | ret u =>
    obtain ⟨v,σ',H',J,rv,q⟩:=hs;exact fin J rv q
  | next =>
    obtain ⟨σ',H',J,q⟩:=hs;exact fin (v:=V.cc) (u:=Value.none) J rfl q
  | brk =>
    obtain ⟨_,_,_,q⟩:=hs;exact False.elim q
  | cont =>
    obtain ⟨_,_,_,q⟩:=hs;exact False.elim q
section
variable {X:Cx} {x:Str} {p pos:Pos} {e:Expr} {es:List Expr} {t:TA} {id T:String} {r:List V→Hp→VK→Prop}
noncomputable def Jt (r:List V→Hp→VK→Prop) (t:TA):TE:=λ σ H Q=>t σ H λ vs H1=>r vs H1 Q
theorem aB (hc:dW X (.builtin id) r) (hg:Gl X x) (hm:X.mg x=none) (hv:bootBuiltins x=some (.builtin id)) (ha:PA X (e :: es) t) (hn:x≠"__name__":=by decide) (yc:(x == ("__debug__":Str))=false:=by decide)
    (he:starEach (e :: es) X.env=(false,eval e X.env) :: starEach es X.env:=by rfl) (gk:(backTo pos (starEach es X.env)).any (·.1)=false:=by rfl):PE X (.Call (.Name x p) (e :: es) [] pos) (Jt r t):=by
  intro pins s σ H Q I h;refine wpAny_Call_Name_kw (gu I hg hm hv ?_ hn yc);exact PyProof.Rows.callWith_builtin1 (bP (ha pos pins s σ H _ I h) λ us s1 ⟨vs,H1,I1,r1,q1⟩=>hc pins s1 σ H1 vs us Q I1 r1 q1) he gk
theorem cm (hc:dW X (.type T) r) (hg:Gl X x) (hm:X.mg x=none) (hv:bootBuiltins x=some (.type T)) (ha:PA X (e :: es) t) (hn:x≠"__name__":=by decide) (yc:(x == ("__debug__":Str))=false:=by decide)
    (he:starEach (e :: es) X.env=(false,eval e X.env) :: starEach es X.env:=by rfl) (gk:(backTo pos (starEach es X.env)).any (·.1)=false:=by rfl):PE X (.Call (.Name x p) (e :: es) [] pos) (Jt r t):=by
  intro pins s σ H Q I h;refine wpAny_Call_Name_kw (gu I hg hm hv ?_ hn yc);exact PyProof.Rows.callWith_type1 (bP (ha pos pins s σ H _ I h) λ us s1 ⟨vs,H1,I1,r1,q1⟩=>hc pins s1 σ H1 vs us Q I1 r1 q1) he gk
end
end L2
namespace HT
open PySem PyProof.Rows
section
open PySem.SeqAt
open PySem.AutoSeq1 (wpAny_loadPart')
open PySem.MeetsSeq PySem.MeetsSeq2 PySem.MeetsSeq3
end
section
variable {prog:Program} {w:World} {A:Around} {E:Value→Shared→Prop} {s:Shared}
noncomputable def mR (n d:Nat):Option Int→Nat
  | none=>d
  | some v=>if v < 0 then (v + (n:Int)).toNat else min v.toNat n
theorem qE (n d:Nat):mR n d none=d:=rfl
theorem uT (n d k:Nat):mR n d (some (k:Int))=min k n:=by
  show (if (k:Int) < 0 then ((k:Int) + (n:Int)).toNat else min (k:Int).toNat n)=min k n;rw [if_neg (by lia),Int.toNat_natCast]
end
end HT
namespace L2
open PySem PySem.Spec PyProof.Rows
noncomputable abbrev TO:=St→Hp→(Option Int→Hp→Prop)→Prop
noncomputable def PO (X:Cx) (e:Option Expr) (t:TO):Prop :=
  ∀ (pins:List (Addr×Obj)) (s:Shared) (σ:St) (H:Hp) (Q:Option Int→Hp→Prop),Inv X pins σ H s→t σ H Q →
    wpAny (model X.prog X.w) X.A (evalPart e X.env) (λ u s'=>∃ o H',Inv X pins σ H' s'∧IsPart u o∧Q o H') X.xe s
noncomputable def AR:TO:=λ _ H Q=>Q none H
noncomputable def Gu (t:TE):TO:=λ σ H Q=>t σ H λ x H1=>∃ i,x = .int i∧Q (some i) H1
theorem intsAre_of {ns:List Int}:∀ {us:List Value},Vals (ns.map V.int) us→IntsAre us ns:=by
  induction ns with
  | nil=>intro us r;rw [List.map_nil] at r;cases r;exact .nil
  | cons n ns ih =>
    intro us r;rw [List.map_cons] at r;cases r with
    | cons r1 r2 =>
      obtain ⟨t,e⟩:=r1;subst e;exact .cons n t (ih r2)
section
variable {X:Cx} {e:Expr} {te:TE} {lo hi:Option Expr} {tl th:TO} {pos p2:Pos}
theorem jg:PO X none AR:=by
  intro pins s σ H Q I h;rw [evalPart_none];exact wpAny_pure ⟨none,H,I,.none,h⟩
theorem jh (h:PE X e te):PO X (some e) (Gu te):=by
  intro pins s σ H Q I hw;rw [evalPart_some];refine bP (h pins s σ H _ I hw) λ u s1 ⟨x,H1,I1,r1,q1⟩=>?_;obtain ⟨i,rfl,q⟩:=q1;obtain ⟨t,rfl⟩:=r1;exact ⟨some i,H1,I1,.int i t,q⟩
noncomputable def NR (X:Cx) (r:V→Option Int→Option Int→Hp→VK→Prop):Prop :=
  ∀ (pins:List (Addr×Obj)) (s:Shared) (σ:St) (H:Hp) (x:V) (v vl vu:Value) (lo hi:Option Int) (sl:Addr) (Q:VK),Inv X pins σ H s→RelV x v→s.heap.IsSliceOf sl vl vu .none→IsPart vl lo→IsPart vu hi→r x lo hi H Q →
    ∃ T id,typeLookup (.type T) "__getitem__"=pure (some (.builtin id))∧s.TypeIs v T∧wpAny (model X.prog X.w) X.A (getItem v (.ref sl)) (EP X pins σ Q) X.xe s
noncomputable def Qn (r:V→Option Int→Option Int→Hp→VK→Prop) (te:TE) (tl th:TO):TE:=λ σ H Q=>te σ H λ x H1=>tl σ H1 λ l H2=>th σ H2 λ u H3=>r x l u H3 Q
theorem gx {r:V→Option Int→Option Int→Hp→VK→Prop} (hr:NR X r) (he:PE X e te) (hl:PO X lo tl) (hu:PO X hi th):PE X (.Subscript e (.Slice lo hi none p2) pos) (Qn r te tl th):=by
  intro pins s σ H Q I h;refine Subscript_ (bP (he pins s σ H _ I h) λ v s1 ⟨x,H1,I1,r1,q1⟩=>?_);refine wpAny_Slice (bP (hl pins s1 σ H1 _ I1 q1) λ vl s2 ⟨l,H2,I2,pl,q2⟩=>bP (hu pins s2 σ H2 _ I2 q2) λ vu s3 ⟨u,H3,I3,pu,q3⟩=>?_);rw [evalPart_none];refine wpAny_pure ?_;have I4:Inv X pins σ H3 { s3 with heap:=s3.heap.push { cls:=.type "slice",data:=.fields #[vl,vu,.none] } }:=I3.kept (t':=s3.toks) λ b ob q=>Heap.get?_push_of_some _ q;obtain ⟨T,id,hT,ht,hg⟩:=hr pins { s3 with heap:=s3.heap.push { cls:=.type "slice",data:=.fields #[vl,vu,.none] } } σ H3 x v vl vu l u s3.heap.objs.size Q I4 r1 (Heap.IsSliceOf.new ..) pl pu q3;show wpAny (model X.prog X.w) X.A (subscriptTail e (.Slice lo hi none p2) v (.ref s3.heap.objs.size)) (EP X pins σ Q) X.xe { s3 with heap:=s3.heap.push { cls:=.type "slice",data:=.fields #[vl,vu,.none] } };exact tail_any (ops:=[.ref s3.heap.objs.size,v]) ht hT hg (by with_unfolding_all rfl)
noncomputable def gy (xs:List V) (lo hi:Option Int):List V:=(xs.drop (HT.mR xs.length 0 lo)).take (HT.mR xs.length xs.length hi - HT.mR xs.length 0 lo)
theorem qF (xs:List V) (lo hi:Option Int):(gy xs lo hi).length≤xs.length:=by
  unfold gy;rw [List.length_take,List.length_drop]
  lia
end
noncomputable def xD (n:Nat) (i:Int):Option Nat:=if 0≤i then (if i < n then some i.toNat else none) else if -(n:Int)≤i then some (i + n).toNat else none
noncomputable def eA {α:Type} (xs:List α) (i:Int):Option α:=(xD xs.length i).bind λ j=>xs[j]?
theorem uU {n:Nat} {i:Int} {j:Nat} (h:xD n i=some j):seqIndex? i n=some j∧j < n∧-(n:Int)≤i∧i < n:=by
  unfold xD at h
  by_cases h0:0≤i
  · rw [if_pos h0] at h
    by_cases h1:i < n
    · rw [if_pos h1] at h;have e:i.toNat=j:=Option.some.inj h;exact ⟨by rw [seqIndex_of h0 h1,e],by lia,by lia,h1⟩
    · rw [if_neg h1] at h;cases h
  · rw [if_neg h0] at h
    by_cases h1:-(n:Int)≤i
    · rw [if_pos h1] at h;have e:(i + n).toNat=j:=Option.some.inj h;exact ⟨by rw [seqIndex_neg (by lia) h1,e],by lia,h1,by lia⟩
    · rw [if_neg h1] at h;cases h
theorem uV {α:Type} {xs:List α} {i:Int} {v:α} (h:eA xs i=some v):∃ j,seqIndex? i xs.length=some j∧xs[j]?=some v∧j < xs.length∧-(xs.length:Int)≤i∧i < xs.length:=by
  unfold eA at h;cases e:xD xs.length i with
  | none=>rw [e] at h;cases h
  | some j =>
    rw [e] at h;obtain ⟨h1,h2,h3,h4⟩:=uU e;exact ⟨j,h1,h,h2,h3,h4⟩
theorem eP {α:Type} {xs:List α} {j:Nat} {v:α} (h:xs[j]?=some v):eA xs (j:Int)=some v:=by
  have hj:j < xs.length:=(List.getElem?_eq_some_iff.mp h).1;have e:xD xs.length (j:Int)=some j:=by
    unfold xD;rw [if_pos (by lia),if_pos (by lia)];simp
  unfold eA;rw [e];exact h
theorem yi {α:Type} (xs:List α) (v:α):eA (xs ++ [v]) (-1)=some v:=by
  have hl:(xs ++ [v]).length=xs.length + 1:=by simp
  have e:xD (xs ++ [v]).length (-1)=some xs.length:=by
    unfold xD;rw [hl,if_neg (by decide),if_pos (by lia)];congr 1
    lia
  unfold eA;rw [e];show (xs ++ [v])[xs.length]?=some v;simp
noncomputable def AS (b:Expr):Prop:=∀ o i,subscripted b false o i=operate [o,i] (getItem o i)
noncomputable def Gv (X:Cx) (r:R2):Prop :=
  ∀ (value slice:Expr) (pins:List (Addr×Obj)) (s:Shared) (σ:St) (H:Hp) (x y:V) (v u:Value) (Q:VK),Inv X pins σ H s→RelV x v→RelV y u→r x y H Q →
    subscripted slice false v u=operate [v,u] (getItem v u)→wpAny (model X.prog X.w) X.A (subscriptTail value slice v u) (EP X pins σ Q) X.xe s
noncomputable def NS (X:Cx) (id:String) (r:V→List V→Hp→VK→Prop):Prop :=
  ∀ (pins:List (Addr×Obj)) (s:Shared) (σ:St) (H:Hp) (x:V) (xs:List V) (v:Value) (us:List Value) (Q:VK),Inv X pins σ H s→RelV x v→Vals xs us→r x xs H Q →
    wpAny (model X.prog X.w) X.A (call (.builtin id) (v :: us)) (EP X pins σ Q) X.xe s
section
variable {X:Cx} {a b:Expr} {ta tb:TE} {pos:Pos}
theorem aO {r:R2} (hr:Gv X r) (ha:PE X a ta) (hb:PE X b tb) (hs:AS b):PE X (.Subscript a b pos) (Gj r ta tb):=by
  intro pins s σ H Q I h;exact Subscript_ (Ds ha hb I h λ v u s2 x y H2 I2 rx ry q=>hr a b pins s2 σ H2 x y v u Q I2 rx ry q (hs _ _))
noncomputable def Gw (K:PySem.W.Frag):R2:=λ x y H Q=>∃ p xs i v,x = .ref p∧y = .int i∧aJ K H p xs∧eA xs i=some v∧Q v H
noncomputable def Dz (K:PySem.W.Frag):R2:=λ x y H Q=>∃ p xs i v,x = .ref p∧y = .int i∧b_ K H p xs∧eA xs i=some v∧Q v H
theorem bU:Gv X (Gw X.K):=by
  intro value slice pins s σ H x y v u Q I rx ry h hs;obtain ⟨p,xs,i,z,rfl,rfl,hq,he,q⟩:=h;cases rx;obtain ⟨t,rfl⟩:=ry;obtain ⟨its,r,pl,hz⟩:=I.list hq;obtain ⟨j,h1,h2,h3,h4,h5⟩:=uV he;obtain ⟨w,ew,nJ⟩:=r.get h2;have hl:=r.length;have hn:=ly;have fin:EP X pins σ Q w s:=⟨z,H,I,nJ,q⟩
  by_cases h0:0≤i
  · have hj:i.toNat=j:=by
      rw [seqIndex_of h0 h5] at h1;exact Option.some.inj h1
    exact item_listR pl.isList h0 (by lia) (by rw [hj];simpa using ew) fin hs
  · have hj:(i + (its.toArray.size:Int)).toNat=j:=by
      rw [seqIndex_neg (by lia) h4] at h1;rw [List.size_toArray,← hl];exact Option.some.inj h1
    exact subscriptTail_builtinR (x:=w) pl.isList.typeIs slot_list_getitem.lookup
      (wpAny_getItem_list_neg (Q:=λ r s'=>r=w∧EP X pins σ Q r s') pl.isList (by lia) (by rw [List.size_toArray]<;>lia) (by lia) (by rw [hj];simpa using ew) ⟨rfl,fin⟩) hs
theorem cx:Gv X (Dz X.K):=by
  intro value slice pins s σ H x y v u Q I rx ry h hs;obtain ⟨p,xs,i,z,rfl,rfl,hq,he,q⟩:=h;cases rx;obtain ⟨t,rfl⟩:=ry;obtain ⟨its,r,pl,hz⟩:=I.tuple hq;obtain ⟨j,h1,h2,h3,h4,h5⟩:=uV he;obtain ⟨w,ew,nJ⟩:=r.get h2;have hl:=r.length;have hn:=ly;have fin:EP X pins σ Q w s:=⟨z,H,I,nJ,q⟩;exact subscriptTail_builtinR (x:=w) pl.typeIs slot_tuple_getitem.lookup
    (getItem_tuple (j:=j) (Q:=λ r s'=>r=w∧EP X pins σ Q r s') pl (by lia) (by lia) (by rw [List.size_toArray,← hl];exact h1) (by simpa using ew) ⟨rfl,fin⟩) hs
theorem tF (its:List Value) (n j:Nat) (u:Value):Obj.mapSeq (·.setIfInBounds j u) { cls:=.type "list",data:=.seq its.toArray n } = { cls:=.type "list",data:=.seq (its.set j u).toArray n }:=by
  simp [Obj.mapSeq]
theorem Inv.lst {pins:List (Addr×Obj)} {σ:St} {H:Hp} {s:Shared} {p:Addr} {xs:List V} (I:Inv X pins σ H s) (h:H p=some (.lst xs)) :
    ∃ (its:List Value) (n:Nat),Vals xs its∧s.heap.get? p=some { cls:=.type "list",data:=.seq its.toArray n }∧xs.length≤sizeLine:=by
  obtain ⟨z,its,n,r,e⟩:=I.bH p _ h;exact ⟨its,n,r,e,z⟩
theorem Inv.DA {pins:List (Addr×Obj)} {σ:St} {H:Hp} {s:Shared} {p:Addr} {xs ys:List V} {its its':List Value} {n n':Nat} {f:Obj→Obj} (I:Inv X pins σ H s) (h:H p=some (.lst xs))
    (ho:s.heap.get? p=some { cls:=.type "list",data:=.seq its.toArray n }) (hf:f { cls:=.type "list",data:=.seq its.toArray n } = { cls:=.type "list",data:=.seq its'.toArray n' }) (r:Vals ys its') (hz:ys.length≤sizeLine) (t:Nat) :
    Inv X pins σ (upd H p (.lst ys)) { s with heap:=s.heap.update p f,toks:=t }:=by
  have e:(s.heap.update p f).get? p=some { cls:=.type "list",data:=.seq its'.toArray n' }:=by
    rw [Heap.get?_update_self f ho (by rw [hf]<;>rfl),hf]
  refine I.write (x:=p) (e:=p) (by rw [h];trivial) (.inl rfl) (λ b u hb q=>(Heap.get?_update_other _ _ (Ne.symm hb)).trans q) ⟨_,e⟩ ?_;exact ⟨hz,its',n',r,e⟩
noncomputable def Gx:V→V→V→Hp→(Hp→Prop)→Prop:=λ o i v H Q=>∃ p xs k j,o = .ref p∧i = .int k∧H p=some (.lst xs)∧xD xs.length k=some j∧Q (upd H p (.lst (xs.set j v)))
theorem set_list:Dm X Gx:=by
  intro pins s σ H o i v ov iv u Q I ro ri rv h;obtain ⟨p,xs,k,j,rfl,rfl,hp,hj,q⟩:=h;cases ro;obtain ⟨t,rfl⟩:=ri;obtain ⟨its,n,r,ho,hz⟩:=I.lst hp;obtain ⟨h1,h2,h3,h4⟩:=uU hj;have hl:=r.length;have hn:=ly;have I':Inv X pins σ (upd H p (.lst (xs.set j v))) { s with heap:=s.heap.update p (Obj.mapSeq (·.setIfInBounds j u)) } :=
    I.DA hp ho (tF its n j u) (r.set rv j) (by rw [List.length_set];exact hz) s.toks
  by_cases h0:0≤k
  · have hk:k.toNat=j:=by
      rw [seqIndex_of h0 h4] at h1;exact Option.some.inj h1
    exact PySem.W.ki_setAt ho h0 (by lia) (by rw [List.size_toArray,← hl];exact h4) (by rw [hk];exact ⟨_,I',q⟩)
  · have hk:(k + (its.toArray.size:Int)).toNat=j:=by
      rw [seqIndex_neg (by lia) h3] at h1;rw [List.size_toArray,← hl];exact Option.some.inj h1
    exact PySem.W.ki_setBack ho (by lia) (by rw [List.size_toArray,← hl];exact h3) (by lia) (by rw [hk];exact ⟨_,I',q⟩)
theorem pq (lo hi:Option Int) (n:Nat):(sliceBounds lo hi none n).1=((HT.mR n 0 lo:Nat):Int)∧(sliceBounds lo hi none n).2.1=((HT.mR n n hi:Nat):Int)∧(sliceBounds lo hi none n).2.2=1:=by
  refine ⟨?_,?_,rfl⟩
  · cases lo with
    | none=>simp [sliceBounds,HT.mR]
    | some i =>
      simp only [sliceBounds,HT.mR,Option.getD_none,show (1:Int) > 0 by decide,if_true]
      by_cases h:i < 0
      · simp only [h,if_true]<;>lia
      · simp only [h,if_false]<;>lia
  · cases hi with
    | none=>simp [sliceBounds,HT.mR]
    | some i =>
      simp only [sliceBounds,HT.mR,Option.getD_none,show (1:Int) > 0 by decide,if_true]
      by_cases h:i < 0
      · simp only [h,if_true]<;>lia
      · simp only [h,if_false]<;>lia
theorem m8 (its:List Value) (lo hi:Option Int):slicePick its.toArray lo hi none=((its.drop (HT.mR its.length 0 lo)).take (HT.mR its.length its.length hi - HT.mR its.length 0 lo)).toArray:=by
  obtain ⟨h1,h2,h3⟩:=pq lo hi its.toArray.size;unfold slicePick;rw [h1,h2,h3];simp only [sliceRange_one,pick_run,List.size_toArray]<;>rfl
noncomputable def KR (K:PySem.W.Frag):V→Option Int→Option Int→Hp→VK→Prop:=λ x lo hi H Q=>∃ a xs,x = .ref a∧aJ K H a xs∧∀ p,H p=none→Q (.ref p) (upd H p (.lst (gy xs lo hi)))
theorem ji:NR X (KR X.K):=by
  intro pins s σ H x v vl vu lo hi sl Q I rx hs pl pu h;obtain ⟨a,xs,rfl,hx,q⟩:=h;cases rx;obtain ⟨its,r,ht,hz⟩:=I.list hx;have hlen:=r.length;refine ⟨"list",_,slot_list_getitem.lookup,ht.isList.typeIs,?_⟩;refine wpAny_getItem_list_slice ht.isList hs pl pu .none (by simp) ?_ (by rw [List.size_toArray]<;>lia);rw [m8,← hlen];refine ⟨.ref s.heap.objs.size,_,I.laid (t':=s.toks) (o:=.lst (gy xs lo hi)) (λ b ob q=>Heap.get?_push_of_some _ q) (Nat.le_refl _) ?_,rfl,q _ (I.bH.fresh (Nat.le_refl _))⟩;exact ⟨Nat.le_trans (qF xs lo hi) hz,_,0,(r.drop (HT.mR xs.length 0 lo)).take (HT.mR xs.length xs.length hi - HT.mR xs.length 0 lo),Heap.get?_push_size _ rfl⟩
noncomputable def eB:V→Bool
  | .cc=>true
  | .bl _=>true
  | .int _=>true
  | .str _=>true
  | _=>false
noncomputable def uW:V→V→Bool
  | .cc,.cc=>true
  | .bl a,.bl b=>a == b
  | .bl a,.int b=>(if a then 1 else 0) == b
  | .int a,.bl b=>a == (if b then 1 else 0)
  | .int a,.int b=>a == b
  | .str a,.str b=>a == b
  | _,_=>false
theorem yj {A:Around} {s:Shared} {y x:V} {u v:Value} (ry:RelV y u) (rx:RelV x v) (fy:eB y=true) (fx:eB x=true):SeqAt.EqAt A s u v (uW y x):=by
  cases y with
  | cc =>
    cases ry;cases x with
    | cc=>cases rx;exact SeqAt.EqAt.same _
    | bl b=>cases rx;exact SeqAt.EqAt.none_bool b
    | int b=>obtain ⟨t,rfl⟩:=rx;exact SeqAt.EqAt.none_int b t
    | str b=>obtain ⟨t,rfl⟩:=rx;exact SeqAt.EqAt.none_str b t
    | _=>exact absurd (show false=true from fx) Bool.false_ne_true
  | bl a =>
    cases ry;cases x with
    | cc=>cases rx;exact SeqAt.EqAt.bool_none a
    | bl b=>cases rx;exact SeqAt.EqAt.bool_bool a b
    | int b=>obtain ⟨t,rfl⟩:=rx;exact SeqAt.EqAt.bool_int a b t
    | str b=>obtain ⟨t,rfl⟩:=rx;exact SeqAt.EqAt.bool_str a b t
    | _=>exact absurd (show false=true from fx) Bool.false_ne_true
  | int a =>
    obtain ⟨t',rfl⟩:=ry;cases x with
    | cc=>cases rx;exact SeqAt.EqAt.int_none a t'
    | bl b=>cases rx;exact SeqAt.EqAt.int_bool a t' b
    | int b=>obtain ⟨t,rfl⟩:=rx;exact SeqAt.EqAt.int_int a t' b t
    | str b=>obtain ⟨t,rfl⟩:=rx;exact SeqAt.EqAt.int_str a t' b t
    | _=>exact absurd (show false=true from fx) Bool.false_ne_true
  | str a =>
    obtain ⟨t',rfl⟩:=ry;cases x with
    | cc=>cases rx;exact SeqAt.EqAt.str_none a t'
    | bl b=>cases rx;exact SeqAt.EqAt.str_bool a t' b
    | int b=>obtain ⟨t,rfl⟩:=rx;exact SeqAt.EqAt.str_int a t' b t
    | str b=>obtain ⟨t,rfl⟩:=rx;exact SeqAt.EqAt.str_str a t' b t
    | _=>exact absurd (show false=true from fx) Bool.false_ne_true
  | _=>exact absurd (show false=true from fy) Bool.false_ne_true
noncomputable def tG (x:V) (u:Value):Bool:=match u with
  | .none=>uW .cc x
  | .bool b=>uW (.bl b) x
  | .int i _=>uW (.int i) x
  | .str z _=>uW (.str z) x
  | _=>false
theorem yk {x y:V} {u:Value} (r:RelV y u) (f:eB y=true):tG x u=uW y x:=by
  cases y with
  | cc=>cases r;rfl
  | bl b=>cases r;rfl
  | int i=>obtain ⟨t,rfl⟩:=r;rfl
  | str z=>obtain ⟨t,rfl⟩:=r;rfl
  | _=>exact absurd (show false=true from f) Bool.false_ne_true
theorem jj {x:V}:∀ {xs:List V} {us:List Value},Vals xs us→xs.all eB=true→us.any (tG x)=xs.any λ y=>uW y x
  | _,_,.nil,_=>rfl
  | y :: xs,u :: us,.cons r t,f=>by
    rw [List.all_cons,Bool.and_eq_true] at f;rw [List.any_cons,List.any_cons,yk r f.1,jj t f.2]
theorem gz {A:Around} {s:Shared} {x:V} {v:Value} (rx:RelV x v) (fx:eB x=true):∀ {xs:List V} {us:List Value},Vals xs us→xs.all eB=true→∀ u∈us,SeqAt.EqAt A s u v (tG x u)
  | _,_,.nil,_=>λ u hu=>by cases hu
  | y :: xs,u :: us,.cons r t,f=>λ u' hu=>by
    rw [List.all_cons,Bool.and_eq_true] at f;rcases List.mem_cons.mp hu with rfl | hu
    · rw [yk r f.1];exact yj r rx f.1 fx
    · exact gz rx fx t f.2 u' hu
noncomputable def AU (x:V) (xs:List V):Bool:=xs.any λ y=>uW y x
noncomputable def NT (K:PySem.W.Frag) (neg:Bool):R2:=λ x y H Q=>∃ p xs,y = .ref p∧(aJ K H p xs∨b_ K H p xs)∧eB x=true∧xs.all eB=true∧Q (.bl (if neg then !AU x xs else AU x xs)) H
theorem wb:iI X (compareOp .In) (NT X.K false):=by
  intro pins s σ H x y v u Q I rx ry h;obtain ⟨p,xs,rfl,hq,fx,fs,q⟩:=h;cases ry;rcases hq with hq | hq
  · obtain ⟨its,r,pl,hz⟩:=I.list hq;refine SeqAt.in_listAt (tG x) pl.isList (λ w hw=>gz rx fx r fs w (by simpa using hw)) ⟨.bl _,H,I,rfl,?_⟩;rw [show its.toArray.any (tG x)=its.any (tG x) by simp,jj r fs];exact q
  · obtain ⟨its,r,pl,hz⟩:=I.tuple hq;refine SeqAt.in_tupleAt (tG x) pl (λ w hw=>gz rx fx r fs w (by simpa using hw)) ⟨.bl _,H,I,rfl,?_⟩;rw [show its.toArray.any (tG x)=its.any (tG x) by simp,jj r fs];exact q
theorem pz:iI X (compareOp .NotIn) (NT X.K true):=by
  intro pins s σ H x y v u Q I rx ry h;obtain ⟨p,xs,rfl,hq,fx,fs,q⟩:=h;cases ry;rcases hq with hq | hq
  · obtain ⟨its,r,pl,hz⟩:=I.list hq;refine SeqAt.notIn_listAt (tG x) pl.isList (λ w hw=>gz rx fx r fs w (by simpa using hw)) ⟨.bl _,H,I,rfl,?_⟩;rw [show its.toArray.any (tG x)=its.any (tG x) by simp,jj r fs];exact q
  · obtain ⟨its,r,pl,hz⟩:=I.tuple hq;refine SeqAt.notIn_tupleAt (tG x) pl (λ w hw=>gz rx fx r fs w (by simpa using hw)) ⟨.bl _,H,I,rfl,?_⟩;rw [show its.toArray.any (tG x)=its.any (tG x) by simp,jj r fs];exact q
theorem aL:dW X (.builtin "len") (λ xs H Q=>∃ p ys,xs=[.ref p]∧(aJ X.K H p ys∨b_ X.K H p ys)∧Q (.int ys.length) H):=by
  intro pins s σ H xs us Q I r h;obtain ⟨p,ys,rfl,hq,q⟩:=h;obtain ⟨u,rfl,rx⟩:=vals1 r;cases rx;have hn:=ly;rcases hq with hq | hq
  · obtain ⟨its,r',pl,hz⟩:=I.list hq;have hlen:=r'.length;exact Calls.call_len_list pl.isList (by simp only [List.size_toArray]<;>lia) ⟨.int ys.length,H,I.tok _,⟨s.toks + 1,by rw [List.size_toArray,hlen]⟩,q⟩
  · obtain ⟨its,r',pl,hz⟩:=I.tuple hq;have hlen:=r'.length;exact len_tuple pl (by simp only [List.size_toArray]<;>lia) ⟨.int ys.length,H,I.tok _,⟨s.toks + 1,by rw [List.size_toArray,hlen]⟩,q⟩
theorem cf:dW X (.type "list") (λ xs H Q=>∃ p ys,xs=[.ref p]∧(aJ X.K H p ys∨b_ X.K H p ys)∧∀ l,H l=none→Q (.ref l) (upd H l (.lst ys))):=by
  intro pins s σ H xs us Q I r h;obtain ⟨p,ys,rfl,hq,q⟩:=h;obtain ⟨u,rfl,rx⟩:=vals1 r;cases rx;have fin:∀ (its:List Value),Vals ys its→ys.length≤sizeLine→∀ (h':Heap) (c':Nat),(∀ b o',s.heap.get? b=some o'→h'.get? b=some o') →
      h'.get? s.heap.objs.size=some { cls:=.type "list",dict:=none,data:=.seq its.toArray c',slots:=#[] }→EP X pins σ Q (.ref s.heap.objs.size) { s with heap:=h' }:=λ its r' hz h' c' kp e =>
    ⟨.ref s.heap.objs.size,_,I.laid (t':=s.toks) kp (Nat.le_refl _) (show bZ X.prog X.w _ h' _ (.lst ys) from ⟨hz,its,c',r',e⟩),rfl,q _ (I.bH.fresh (Nat.le_refl _))⟩
  rcases hq with hq | hq
  · obtain ⟨its,r',pl,hz⟩:=I.list hq;have hlen:=r'.length;obtain ⟨o,ho,hc,n,hd⟩:=pl.isList;exact call_list_seq p (.inl rfl) ho hc hd (λ h' c' kp e=>fin its r' hz h' c' kp e) (by simp only [List.size_toArray]<;>lia)
  · obtain ⟨its,r',pl,hz⟩:=I.tuple hq;have hlen:=r'.length;obtain ⟨o,ho,hc,n,hd⟩:=pl;exact call_list_seq p (.inr rfl) ho hc hd (λ h' c' kp e=>fin its r' hz h' c' kp e) (by simp only [List.size_toArray]<;>lia)
noncomputable def NU (K:PySem.W.Frag) (T:String) (x:V) (H:Hp):Prop:=match x with
  | .str _=>T = "str"
  | .int _=>T = "int"
  | .ref p=>(T = "list"∧∃ xs,aJ K H p xs)∨(T = "tuple"∧∃ o,K.lookup p=some o∧o.cls = .type "tuple"∧o.dict=none) ∨
      (T = "dict"∧((∃ bE,H p=some (.dK bE))∨∃ bE,H p=some (.dT bE)))∨(T = "set"∧∃ S n,H p=some (.set S n))
  | _=>False
theorem DB {pins:List (Addr×Obj)} {σ:St} {H:Hp} {s:Shared} {T:String} {x:V} {v:Value} (I:Inv X pins σ H s) (r:RelV x v) (ty:NU X.K T x H) :
    s.TypeIs v T∧∀ a,v = .ref a→∃ ob,s.heap.get? a=some ob∧ob.dict=none:=by
  cases x with
  | str z =>
    obtain ⟨t,rfl⟩:=r;cases (show T = "str" from ty);exact ⟨typeIs_str s z t,λ _ e=>nomatch e⟩
  | int i =>
    obtain ⟨t,rfl⟩:=r;cases (show T = "int" from ty);exact ⟨typeIs_int s i t,λ _ e=>nomatch e⟩
  | ref p =>
    cases r;rcases ty with ⟨rfl,xs,hq⟩ | ⟨rfl,o,hk,hc,hd⟩ | ⟨rfl,hk⟩ | ⟨rfl,S,n,hk⟩
    · obtain ⟨its,_,pl,_⟩:=I.list hq;refine ⟨pl.isList.typeIs,λ a e=>?_⟩;cases e;obtain ⟨o,n,e,c,hd,_⟩:=pl;exact ⟨o,e,hd⟩
    · refine ⟨⟨o,I.jP p o hk,hc⟩,λ a e=>?_⟩;cases e;exact ⟨o,I.jP _ o hk,hd⟩
    · have z:∃ o,s.heap.get? p=some o∧o.ExactDict:=by
        rcases hk with ⟨bE,hk⟩ | ⟨bE,hk⟩
        · obtain ⟨_,_,_,_,o,_,_,e,ex,_⟩:=I.bH p _ hk;exact ⟨o,e,ex⟩
        · obtain ⟨_,_,_,_,o,_,_,e,ex,_⟩:=I.bH p _ hk;exact ⟨o,e,ex⟩
      obtain ⟨o,e,ex⟩:=z;refine ⟨⟨o,e,ex.1⟩,λ a e2=>?_⟩;cases e2;exact ⟨o,e,ex.2.1⟩
    · obtain ⟨o,_,_,_,e,ex,_⟩:=I.bH p _ hk;refine ⟨⟨o,e,ex.1⟩,λ a e2=>?_⟩;cases e2;exact ⟨o,e,ex.2.1⟩
  | _=>exact False.elim ty
noncomputable def Qo (K:PySem.W.Frag) (T:String) (r:V→List V→Hp→VK→Prop) (to:TE) (t:TA):TE:=λ σ H Q=>to σ H λ x H1=>NU K T x H1∧t σ H1 λ xs H2=>r x xs H2 Q
variable {o e:Expr} {es:List Expr} {to:TE} {t:TA} {name:Str} {apos jk:Pos} {T id:String} {r:V→List V→Hp→VK→Prop}
theorem qG (pa:PlainAttrs T) (slot:Slot T name id) (Qp:typeOf (.builtin id)=pure (.type "method_descriptor")) (hm:NS X id r) (ho:PE X o to) (ha:PA X (e :: es) t)
    (Gy:attributeBase o name X.env (eval o X.env)=eval o X.env:=by rfl)
    (KS:((backTo jk (starEach (e :: es) X.env)).all (λ x=>!x.1) && (backToKw jk (keywordEach [] X.env)).all (λ x=>x.1.isSome)
      && decide ((e :: es).length + ([]:List Keyword).length + (if ([]:List Keyword).isEmpty then 0 else 1) < 30))=true:=by rfl)
    (Gz:(apos.endLine == jk.line)=true:=by rfl) (hs:starEach (e :: es) X.env=(false,eval e X.env) :: starEach es X.env:=by rfl) (DC:(backTo jk (starEach es X.env)).any (·.1)=false:=by rfl) :
    PE X (.Call (.Attribute o name apos) (e :: es) [] jk) (Qo X.K T r to t):=by
  intro pins s σ H Q I h;refine wpAny_Call_method_late Gy KS Gz rfl (bP (ho pins s σ H _ I h) λ v s1 ⟨x,H1,I1,r1,ty,q1⟩=>?_);obtain ⟨h1,h2⟩:=DB I1 r1 ty;refine ⟨T,id,pa,slot,Qp,h1,h2,?_⟩;have hA:=ha jk pins s1 σ H1 _ I1 q1;rw [hs] at hA ⊢;refine Calls.callWith_builtin (by show (false || (backTo jk (starEach es X.env)).any (·.1))=false;rw [DC]<;>rfl) (Calls.evalArgs_plain ?_);exact bP hA λ us s2 ⟨vs,H2,I2,r2,q2⟩=>hm pins s2 σ H2 x vs v us Q I2 r1 r2 q2
/- xs.append(e),list.index on a GH tuple .. are NS facts of 06m -/
end
noncomputable def Qq (X:Cx) (id:String) (r:V→List V→Hp→VK→Prop):Prop :=
  ∀ (pins:List (Addr×Obj)) (s:Shared) (σ:St) (H:Hp) (x:V) (xs:List V) (v:Value) (us:List Value) (Q:VK),Inv X pins σ H s→RelV x v→Vals xs us→r x xs H Q →
    wpAny (model X.prog X.w) X.A (call (.builtin id) (v :: us)) (EP X pins σ Q) X.xe s
theorem Vals.one:∀ {x:V} {us:List Value},Vals [x] us→∃ u,us=[u]∧RelV x u
  | _,_,.cons r .nil=>⟨_,rfl,r⟩
theorem Vals.rep {xs:List V} {us:List Value} (h:Vals xs us):∀ k:Nat,Vals (List.replicate k xs).flatten (List.replicate k us).flatten
  | 0=>.nil
  | k + 1=>by
    rw [List.replicate_succ,List.replicate_succ,List.flatten_cons,List.flatten_cons];exact Vals.append h (Vals.rep h k)
theorem foldl_rep (its:List Value):∀ (k:Nat) (acc:List Value),
    List.foldl (λ x1 x2=>x1 ++ x2) acc.toArray (List.replicate k its.toArray)=(acc ++ (List.replicate k its).flatten).toArray
  | 0,acc=>by simp
  | k + 1,acc=>by
    have e:acc.toArray ++ its.toArray=(acc ++ its).toArray:=by simp
    have e2:(acc ++ its) ++ (List.replicate k its).flatten=acc ++ (List.replicate (k + 1) its).flatten:=by
      rw [List.replicate_succ,List.flatten_cons,List.append_assoc]
    rw [← e2,← foldl_rep its k (acc ++ its),← e,List.replicate_succ,List.foldl_cons]
section
variable {X:Cx} {pins:List (Addr×Obj)} {σ:St} {H:Hp} {s:Shared} {l b:Addr} {xs ys zs:List V}
theorem Inv.KU {its its':List Value} {n:Nat} {f:Array Value→Array Value} {t':Nat} (I:Inv X pins σ H s) (hH:H l=some (.lst xs))
    (e:s.heap.get? l=some { cls:=.type "list",data:=.seq its.toArray n }) (hf:f its.toArray=its'.toArray) (hv:Vals ys its') (hz:ys.length≤sizeLine) :
    Inv X pins σ (upd H l (.lst ys)) { s with heap:=s.heap.update l (Obj.mapSeq f),toks:=t' }:=by
  have q:=PySem.IsL.update e f;rw [hf] at q;refine I.write (x:=l) (e:=l) (by rw [hH];exact trivial) (.inl rfl) (λ b' u hb hu=>(Heap.get?_update_other s.heap (Obj.mapSeq f) (Ne.symm hb)).trans hu) ⟨_,q⟩ ?_;exact ⟨hz,its',_,hv,q⟩
theorem Inv.GJ {its:List Value} {t':Nat} (I:Inv X pins σ H s) (hv:Vals ys its) (hz:ys.length≤sizeLine) :
    Inv X pins σ (upd H s.heap.objs.size (.lst ys)) { s with heap:=s.heap.push { cls:=.type "list",data:=.seq its.toArray },toks:=t' } :=
  I.laid (λ _ _ q=>Heap.get?_push_of_some _ q) (Nat.le_refl _) ⟨hz,its,0,hv,Heap.get?_push_size _ rfl⟩
theorem Inv.fresh (I:Inv X pins σ H s):H s.heap.objs.size=none:=I.bH.fresh (Nat.le_refl _)
theorem Inv.yl (I:Inv X pins σ H s) (hH:H l=some (.lst xs)):xs.length≤sizeLine∧∃ (its:List Value) (n:Nat),Vals xs its∧xs.length=its.length∧s.heap.get? l=some { cls:=.type "list",data:=.seq its.toArray n }:=by
  obtain ⟨z,its,n,r,e⟩:=I.bH l _ hH;exact ⟨z,its,n,r,r.length,e⟩
theorem ym {n:Nat} (h:n≤sizeLine):Builtin.List.listTooLong n=false:=by
  unfold Builtin.List.listTooLong;exact decide_eq_false (by lia)
end
section
variable {X:Cx}
noncomputable def AV:V→List V→Hp→VK→Prop:=λ x vs H Q=>∃ l xs y,x = .ref l∧vs=[y]∧H l=some (.lst xs)∧xs.length < sizeLine∧Q .cc (upd H l (.lst (xs ++ [y])))
theorem d8:Qq X "list.append" AV:=by
  intro pins s σ H x vs v us Q I rx rv h;obtain ⟨l,xs,y,rfl,rfl,hH,hz,q⟩:=h;cases rx;obtain ⟨u,rfl,ru⟩:=rv.one;obtain ⟨z,its,n,r,hl,e⟩:=I.yl hH;refine call_meets F.slot_list_append ⟨_,e,rfl⟩ F.entry_list_append (F.args_list_append_2 _ _) (PySem.list_append l its.toArray n u (by rw [List.size_toArray];lia)) ⟨e,?_⟩;refine ⟨.cc,_,I.KU (its':=its ++ [u]) hH e (by simp) (r.append (.cons ru .nil)) ?_,rfl,q⟩;rw [List.length_append,List.length_singleton]
  lia
noncomputable def KW:R2:=λ x y H Q=>∃ l b xs zs,x = .ref l∧y = .ref b∧H l=some (.lst xs)∧H b=some (.lst zs)∧xs.length + zs.length≤sizeLine∧∀ p,H p=none→Q (.ref p) (upd H p (.lst (xs ++ zs)))
theorem gA:iI X (binaryOp .Add) KW:=by
  intro pins s σ H x y v u Q I rx ry h;obtain ⟨l,b,xs,zs,rfl,rfl,hH,hB,hz,q⟩:=h;cases rx;cases ry;obtain ⟨z,its,n,r,hl,e⟩:=I.yl hH;obtain ⟨z2,GK,n2,r2,iM,e2⟩:=I.yl hB;refine PySem.P.add_list e e2 ?_ (by rw [List.size_toArray,List.size_toArray];omega);have ea:its.toArray ++ GK.toArray=(its ++ GK).toArray:=by simp
  rw [ea];exact ⟨.ref _,_,I.GJ (t':=s.toks) (r.append r2) (by rw [List.length_append];omega),rfl,q _ I.fresh⟩
noncomputable def KY:R2:=λ x y H Q=>∃ l k xs,x = .ref l∧y = .int k∧H l=some (.lst xs)∧-(2 ^ 63)≤k∧k < 2 ^ 63∧xs.length * k.toNat≤sizeLine ∧
  ∀ p,H p=none→Q (.ref p) (upd H p (.lst (List.replicate k.toNat xs).flatten))
theorem len_rep {α:Type} (xs:List α) (k:Nat):(List.replicate k xs).flatten.length=k * xs.length:=by
  induction k with
  | zero=>simp
  | succ k ih=>rw [List.replicate_succ,List.flatten_cons,List.length_append,ih,Nat.succ_mul,Nat.add_comm]
theorem tH:iI X (binaryOp .Mult) KY:=by
  intro pins s σ H x y v u Q I rx ry h;obtain ⟨l,k,xs,rfl,rfl,hH,h1,h2,hz,q⟩:=h;cases rx;obtain ⟨t,rfl⟩:=ry;obtain ⟨z,its,n,r,hl,e⟩:=I.yl hH;have hlen:its.toArray.size * k.toNat≤sizeLine:=by rw [List.size_toArray,← hl];exact hz
  have KZ:¬ its.toArray.size * k.toNat > (2 ^ 63 - 1) / 8:=by
    have:(sizeLine:Nat)≤(2 ^ 63 - 1) / 8:=by decide
    lia
  have K0:¬ (!Builtin.List.listFitsIndex k)=true:=by
    rw [fitsIndex_both h1 h2];exact Bool.false_ne_true
  have GL:¬ Builtin.List.listTooLong (its.toArray.size * k.toNat)=true:=by
    rw [ym hlen];exact Bool.false_ne_true
  have yn:List.foldl (λ x1 x2=>x1 ++ x2) #[] (List.replicate (if its.toArray.isEmpty=true then 0 else k.toNat) its.toArray)=(List.replicate k.toNat its).flatten.toArray:=by
    have f0:∀ m:Nat,List.foldl (λ x1 x2=>x1 ++ x2) #[] (List.replicate m its.toArray)=(List.replicate m its).flatten.toArray:=λ m=>by
      have:=foldl_rep its m [];rw [List.nil_append] at this;exact this
    rw [f0];cases its with
    | nil=>simp
    | cons a r'=>rw [if_neg (by simp)]
  refine wpAny_binaryOp_repeat_ref (T:="list") (U:="int") (by decide) ⟨_,e,rfl⟩ (λ s'=>typeIs_int s' k t) noFill_list_mul F.fills_int_mul F.slot_int_rmul repeat_list F.slot_int_index.lookup
    (call_meets F.slot_int_rmul (typeIs_int s k t) F.entry_int_rmul (F.args_int_rmul_2 _ _) (int___rmul___int_list k t l its.toArray n)
      ⟨e,rfl,⟨_,e,rfl⟩,call_meets F.slot_list_mul ⟨_,e,rfl⟩ F.entry_list_mul (F.args_list_mul_2 _ _) (AutoListH.list___mul___list_int_3 l its.toArray n k t K0 KZ GL) ⟨e,?_⟩⟩)
  rw [yn];exact ⟨.ref _,_,I.GJ (t':=s.toks) (r.rep k.toNat) (by rw [len_rep,Nat.mul_comm];exact hz),rfl,q _ I.fresh⟩
end
end L2
namespace NV
open PySem PySem.W PySem.Calls PyProof.Rows
theorem kE {P:Params} {h:Heap}:∀ (ns:List Int) (vs:List Value),WellAll P h vs (ns.map WData.int)→IntsAre vs ns:=by
  intro ns
  induction ns with
  | nil =>
    intro vs w;rw [List.map_nil] at w;cases w;exact .nil
  | cons n ns ih =>
    intro vs w;rw [List.map_cons] at w;cases w with
    | cons a b =>
      cases a;exact .cons _ _ (ih _ b)
theorem wc {l:OpenLaw} {n:Nat} (hn:l.most=some n) {P:Params} {h:Heap} {args:List WData} {vals:List Value}
    (AW:l.row.toRowW.claim.pre args=true) (Ju:WellAll P h vals args) :
    ∃ a vs ns,vals=[Value.ref a]∧args=[WData.list (ns.map WData.int)]∧h.get? a=some { cls:=.type "list",data:=.seq vs.toArray }∧IntsAre vs ns∧ns.length≤n:=by
  have Qr:WShape.hasAll [] args [.list .int]=true:=(pre_splitW AW).1;have hc:l.pre.holds [] { args:=args }=true:=(pre_splitW AW).2;obtain ⟨d,r,rfl,h1,h2⟩:=hasAllW_cons Qr;obtain rfl:=hasAllW_nil h2;obtain ⟨xs,rfl,h3⟩:=hasW_list h1;obtain ⟨ns,rfl⟩:=items_int h3;have hlen:ns.length≤n:=by
    unfold OpenLaw.pre at hc;have h4:(WTm.not (.lt (.lit (.int (n:Int))) (.len (.arg 0)))).holds [] { args:=[.list (ns.map .int)] }=true:=by
      have h4:=(holds_andW hc).1;rw [hn] at h4;exact h4
    have h5:=condW_of h4 (w_not (w_lt w_lit (w_len_list (w_arg rfl))));rw [List.length_map] at h5;refine Nat.le_of_not_lt λ q=>?_;have q':(n:Int) < ((ns.length:Nat):Int):=by omega
    first
      | (rw [decide_eq_true q'] at h5;exact absurd h5 (by decide))
      | (simp at h5;omega)
  cases Ju with
  | cons w1 w2 =>
    cases w2;cases w1 with
    | list ho pA=>exact ⟨_,_,ns,rfl,rfl,ho,kE ns _ pA,hlen⟩
theorem wd (l:OpenLaw) (args:List WData):l.row.toRowW.claim.post args (.bool true) args=true :=
  postW_of (r:=l.row.toRowW) (X:=(true == true))
    (show WShape.has [] (.bool true) .bool=true by first | rfl | decide | simp [WShape.has,WShape.arms,WShape.armsAll])
    (show (WTm.eq .res (.lit (.bool true))).value [] { args:=args,res:=some (.bool true),after:=args }=some (.bool (true == true)) from w_eq_bool (w_res rfl) w_lit) rfl
theorem qH {l:OpenLaw} {n:Nat} {q:Program} {loose:List Str} {XP:(Str→Option Value)→Heap→Prop} {YP:World→Heap→Prop} {d:DefRec}
    (hn:l.most=some n) (K3:d.params.defaults=[])
    (call:∀ (w:World) (s₀ s₁:Shared) (mg mb:Str→Option Value) (fa:Addr) (o:Obj) (pm cd doc:Value) (a:Addr) (vs:List Value) (ns:List Int),
      Ground q loose [] XP w s₀ mg mb s₁.heap→YP w s₁.heap →
      s₁.heap.get? fa=some o→o.data = .func (docDef d.name d.params d.body d.scope pm cd doc)→s₁.heap.CodeRec cd d.name→mg d.name=some (.ref fa) →
      s₁.heap.get? a=some { cls:=.type "list",data:=.seq vs.toArray }→IntsAre vs ns→ns.length≤n→s₁.gens = #[] →
      codeAny (model l.prog w) callerA (.call (.ref fa) ⟨[.ref a],[]⟩) (λ r s'=>r = .ok (.ret (.bool true))∧OldK s₁.heap s'.heap∧s'.os=s₁.os∧AllBare s'.gens) s₁) :
    WalkO q loose XP YP l.row.toRowW d [] (λ f vs=>PySem.call f vs):=by
  intro w s₀ s₁ mg mb G Y fa o pm cd doc dV kV ho hd sL hD Jv hg args vals as AW Qs UC Ju yo;obtain rfl:dV = .none:=Dflts.none hD K3;obtain rfl:kV = .none:=Dflts.noKw hD;obtain ⟨a,vs,ns,rfl,rfl,DD,hints,hlen⟩:=wc hn AW Ju;refine enter_call (codeAny_mono (call w s₀ s₁ mg mb fa o pm cd doc a vs ns G Y ho (fd_plain hd) sL Jv DD hints hlen hg) λ r s' hq=>?_);obtain ⟨rfl,h2,h3,h4⟩:=hq;exact ⟨.inl ⟨.bool true,.bool true,[],rfl,λ _=>rfl,.bool true,wd l _,λ _=>⟨List.Pairwise.nil,λ _ hm=>(nomatch hm)⟩⟩,h2,h3,h4⟩
end NV
namespace L2
open PySem PySem.Spec PyProof.Rows
theorem nW:∀ {vs:List Value} {ns:List Int},IntsAre vs ns→Vals (ns.map V.int) vs
  | _,_,.nil=>.nil
  | _,_,.cons n t h=>.cons ⟨t,rfl⟩ (nW h)
noncomputable def inClass (s:Stmt) (j:Nat):Stmt:=match s with
  | .ClassDef _ _ _ body _ _ _ _ _ _ _=>body.getD j (.Pass ⟨0,0,0,0⟩)
  | _=>.Pass ⟨0,0,0,0⟩
noncomputable def cV (s:Stmt):Arguments:=match s with
  | .FunctionDef _ a _ _ _ _ _ _ _ _=>a
  | _=>{ posonlyargs:=[],args:=[],vararg:=none,kwonlyargs:=[],kw_defaults:=[],kwarg:=none,defaults:=[] }
noncomputable def bQ (s:Stmt):List Stmt:=match s with
  | .FunctionDef _ _ b _ _ _ _ _ _ _=>b
  | _=>[]
noncomputable def ao (s:Stmt):Scope:=match s with
  | .FunctionDef _ _ _ _ _ _ sc _ _ _=>sc
  | _=>{ kind:=.function,names:=[],isGenerator:=false,isCoroutine:=false }
noncomputable abbrev bN:xC:=λ _ _ _ _ _ _=>False
noncomputable abbrev E0:XK:=λ _ _ _=>False
theorem aD {X:Cx}:Passes bN X E0:=λ _ _ _ _ _ _ _ h=>h.elim
structure uX (K:PySem.W.Frag) (x qual:Str) (st:Stmt) (f:Addr) (fd:FuncData):Prop where
  ex:∃ (oc:Value) (od:Option Addr) (kV doc pm:Value) (an:Option Addr) (bM ct:Value) (nV:Array (Option Value)),
    fd=PySem.W.fnOf x qual (cV st) (bQ st) (ao st) .none kV doc pm an bM ct∧K.lookup f=some ⟨oc,od,.func fd,nV⟩∧PySem.W.codeIn K bM qual=true
  kp:PySem.W.keepIn K (.ref f)=true
section
variable {P:Program} {w:World} {K:PySem.W.Frag} {mg:Str→Option Value} {base:Heap}
theorem uX.ok {x qual:Str} {st:Stmt} {f:Addr} {fd:FuncData} {N ps:List Str} {k:Nat} {sp:Sp} (F:uX K x qual st f fd) (S:az N ps (ao st)) (len:∀ vs H Q E,sp vs H Q E→vs.length=ps.length)
    (cS:∀ (bM:Value) (A:Around) (outer:List Env) (s:Shared) (H:Hp) (vs:List V) (Q:VK) (E:XK),bc k (A.deeper (envOfC qual (ao st) s.heap.objs.size f bM))→sp vs H Q E →
      ∃ t,jM (gm bN P w K mg base N qual (ao st) f bM A outer s H E).B_ (bQ st) t∧t { nx:=λ _ H'=>Q .cc H',rt:=Q } (start N vs) H):fA P w K mg base bN (k + 1) f fd ps sp:=by
  obtain ⟨oc,od,kV,doc,pm,an,bM,ct,nV,rfl,lk,sL⟩:=F.ex;refine yg lk sL S len λ A outer s H vs Q E hr An=>?_;obtain ⟨t,h,q⟩:=cS bM A outer s H vs Q E hr An;exact ⟨t,h.B_,q⟩
theorem uX.binds {x qual:Str} {st:Stmt} {f:Addr} {fd:FuncData} {ps:List Str} (F:uX K x qual st f fd)
    (h:∀ (kV doc pm:Value) (an:Option Addr) (bM ct:Value) (us:List Value),us.length=ps.length→bindArgs (PySem.W.fnOf x qual (cV st) (bQ st) (ao st) .none kV doc pm an bM ct) ⟨us,[]⟩=pure (ps.zip us)):Binds K fd ps []:=by
  obtain ⟨oc,od,kV,doc,pm,an,bM,ct,nV,rfl,lk,sL⟩:=F.ex;exact .all (h kV doc pm an bM ct)
theorem lE {x qual:Str} {st:Stmt} {f:Addr} {oc:Value} {od an:Option Addr} {nV:Array (Option Value)} {kV doc pm bM ct:Value} (l:K.lookup f=some ⟨oc,od,.func (PySem.W.fnOf x qual (cV st) (bQ st) (ao st) .none kV doc pm an bM ct),nV⟩)
    (c:PySem.W.codeIn K bM qual=true) (k:PySem.W.keepIn K (.ref f)=true):uX K x qual st f (PySem.W.fnOf x qual (cV st) (bQ st) (ao st) .none kV doc pm an bM ct):=⟨⟨oc,od,kV,doc,pm,an,bM,ct,nV,rfl,l,c⟩,k⟩
end
theorem Ce {A:Around} {k:Nat} (hr:bc k A):A.units + 1 < cLine:=Nat.lt_of_le_of_lt (Nat.add_le_add_left (by decide:1≤64) _) hr.units
theorem nX {n:Nat} (h:n≤1000):n < sizeLine:=Nat.lt_of_le_of_lt h (by decide)
section
variable {X:Cx}
theorem pv (i:Nat) {x:Str} {pos:Pos} (hN:X.N[i]?=some x:=by rfl) (hv:FT X.env.scope x:=by first | exact Or.inl rfl | exact Or.inr (Or.inl rfl) | exact Or.inr (Or.inr rfl)) (hd:(x == ("__debug__":Str))=false:=by decide)
    (sL:(x == ("__classdict__":Str))=false:=by decide):PE X (.Name x pos) (Dh i):=Di hN hv hd sL
end
theorem bV {A B:Prop} (h:B):if false=true then A else B:=by
  rw [if_neg Bool.false_ne_true];exact h
theorem bW {A B:Prop} (h:A):if true=true then A else B:=by
  rw [if_pos rfl];exact h
theorem yp {c A B:Prop} [Decidable c] (h1:c→A) (h2:¬ c→B):if c then A else B:=by
  by_cases h:c
  · rw [if_pos h];exact h1 h
  · rw [if_neg h];exact h2 h
noncomputable def av (H H':Hp):Prop:=∀ b o,H b=some o→H' b=some o
theorem av.refl (H:Hp):av H H:=λ _ _ h=>h
theorem av.trans {H H1 H2:Hp} (a:av H H1) (b:av H1 H2):av H H2:=λ c o h=>b c o (a c o h)
theorem av.seq {K:PySem.W.Frag} {H H':Hp} {a:Addr} {xs:List V} (e:av H H') (h:aJ K H a xs):aJ K H' a xs:=by
  rcases h with (h | ⟨o,h⟩) | h
  · exact .inl (.inl (e _ _ h))
  · exact .inl (.inr ⟨o,e _ _ h⟩)
  · exact .inr h
end L2
set_option maxHeartbeats 4000000
namespace L2
open PySem PySem.Spec PyProof.Rows
section
variable {κ:Type} [DecidableEq κ]
noncomputable def eC (bE:List (κ×V)) (k:κ):Option V:=(bE.find? λ kv=>decide (kv.1=k)).map (·.2)
noncomputable def putK (bE:List (κ×V)) (k:κ) (v:V):List (κ×V) :=
  if (bE.any λ kv=>decide (kv.1=k))=true then bE.map (λ kv=>if kv.1=k then (kv.1,v) else kv) else bE ++ [(k,v)]
theorem cy {p:κ×V} {r:List (κ×V)} {k:κ} (e:p.1=k):eC (p :: r) k=some p.2:=by simp [eC,List.find?_cons,e]
theorem cz {p:κ×V} {r:List (κ×V)} {k:κ} (e:¬ p.1=k):eC (p :: r) k=eC r k:=by simp [eC,List.find?_cons,e]
theorem lG (k:κ):∀ bE:List (κ×V),(bE.any λ kv=>decide (kv.1=k))=(eC bE k).isSome
  | []=>rfl
  | p :: r=>by
    rw [List.any_cons]
    by_cases e:p.1=k
    · simp only [cy e,decide_eq_true e,Bool.true_or,Option.isSome_some]
    · rw [cz e,decide_eq_false e,Bool.false_or];exact lG k r
theorem qI (k j:κ) (y:V):∀ bE:List (κ×V),eC (bE.map λ kv=>if kv.1=k then (kv.1,y) else kv) j=(eC bE j).map λ x=>if j=k then y else x
  | []=>rfl
  | p :: r=>by
    have ih:=qI k j y r;rw [List.map_cons]
    by_cases h:p.1=k
    · rw [if_pos h]
      by_cases e:p.1=j
      · rw [cy (p:=(p.1,y)) e,cy e,Option.map_some,if_pos (e.symm.trans h)]
      · rw [cz (p:=(p.1,y)) e,cz e,ih]
    · rw [if_neg h]
      by_cases e:p.1=j
      · rw [cy (p:=p) e,cy e,Option.map_some,if_neg (λ z=>h (e.trans z))]
      · rw [cz (p:=p) e,cz e,ih]
theorem nY (k j:κ) (y:V):∀ bE:List (κ×V),eC bE k=none→eC (bE ++ [(k,y)]) j=if j=k then some y else eC bE j
  | [],_=>by
    by_cases e:k=j
    · rw [if_pos e.symm];exact cy (p:=(k,y)) e
    · rw [if_neg (λ z=>e z.symm)];exact cz (p:=(k,y)) e
  | p :: r,hn=>by
    rw [List.cons_append];have hk:¬ p.1=k:=λ z=>by rw [cy z] at hn;cases hn
    rw [cz hk] at hn;have ih:=nY k j y r hn
    by_cases e:p.1=j
    · rw [cy e,cy e,if_neg (λ z=>hk (e.trans z))]
    · rw [cz e,cz e,ih]
theorem yq (bE:List (κ×V)) (k j:κ) (y:V):eC (putK bE k y) j=if j=k then some y else eC bE j:=by
  unfold putK
  by_cases a:(bE.any λ kv=>decide (kv.1=k))=true
  · rw [if_pos a,qI];rw [lG] at a
    by_cases e:j=k
    · obtain ⟨x,hx⟩:=Option.isSome_iff_exists.mp a;rw [if_pos e,e,hx,Option.map_some,if_pos rfl]
    · rw [if_neg e];cases eC bE j with
      | none=>rfl
      | some x=>rw [Option.map_some,if_neg e]
  · rw [if_neg a];refine nY k j y bE ?_;rw [lG] at a;cases q:eC bE k with
    | none=>rfl
    | some x=>rw [q] at a;exact (a rfl).elim
theorem qJ (bE:List (κ×V)) (k:κ) (v:V):(putK bE k v).length≤bE.length + 1:=by
  unfold putK;split
  · rw [List.length_map];lia
  · rw [List.length_append,List.length_cons,List.length_nil];lia
theorem KV.val {bE:List (κ×V)} {vs:List (κ×Value)} (r:KV bE vs) (k:κ):jc (eC bE k) (valueAt vs k):=by
  unfold KV at r
  induction r with
  | nil=>exact True.intro
  | @cons p q ps qs h t ih =>
    obtain ⟨h1,h2⟩:=h
    by_cases e:p.1=k
    · have e':q.1=k:=h1.symm.trans e;have b:valueAt (q :: qs) k=some q.2:=by simp [valueAt,List.find?_cons,e']
      rw [cy e,b];exact h2
    · have e':¬ q.1=k:=λ z=>e (h1.trans z);have b:valueAt (q :: qs) k=valueAt qs k:=by simp [valueAt,List.find?_cons,e']
      rw [cz e,b];exact ih
theorem KV.any {bE:List (κ×V)} {vs:List (κ×Value)} (r:KV bE vs) (k:κ):(bE.any λ kv=>decide (kv.1=k))=vs.any λ kv=>decide (kv.1=k):=by
  unfold KV at r
  induction r with
  | nil=>rfl
  | cons h t ih=>rw [List.any_cons,List.any_cons,ih,h.1]
theorem KV.K4 {bE:List (κ×V)} {vs:List (κ×Value)} (r:KV bE vs) (k:κ) {y:V} {u:Value} (ry:RelV y u) :
    KV (bE.map λ kv=>if kv.1=k then (kv.1,y) else kv) (vs.map λ kv=>if kv.1=k then (kv.1,u) else kv):=by
  unfold KV at r ⊢
  induction r with
  | nil=>exact .nil
  | @cons p q ps qs h t ih =>
    rw [List.map_cons,List.map_cons];refine .cons ?_ ih;obtain ⟨h1,h2⟩:=h
    by_cases e:p.1=k
    · rw [if_pos e,if_pos (h1.symm.trans e)];exact ⟨h1,ry⟩
    · rw [if_neg e,if_neg (λ z=>e (h1.trans z))];exact ⟨h1,h2⟩
theorem KV.put {bE:List (κ×V)} {vs:List (κ×Value)} (r:KV bE vs) (k:κ) {y:V} {u:Value} (ry:RelV y u):KV (putK bE k y) (stored vs k u):=by
  unfold putK stored;rw [r.any k]
  by_cases e:(vs.any λ kv=>decide (kv.1=k))=true
  · rw [if_pos e,if_pos e];exact r.K4 k ry
  · rw [if_neg e,if_neg e];exact Paired.snoc r ⟨rfl,ry⟩
end
theorem yr {P:Program} {w:World} {k:Key} {u:Value} (r:RelV (kV k) u):(cE P w).is k u=true:=by
  cases k with
  | inl i=>obtain ⟨t,e⟩:=(show ∃ t,u=Value.int i t from r);subst e;exact qv P w i t
  | inr x=>obtain ⟨t,e⟩:=(show ∃ t,u=Value.str x t from r);subst e;exact qw P w x t
theorem nZ {P:Program} {w:World}:∀ {ks:List Key} {us:List Value},Vals (ks.map kV) us→ItemsAre (cE P w) ks us
  | [],_,r=>by rw [List.map_nil] at r;cases r;exact .nil
  | k :: ks,_,r=>by
    rw [List.map_cons] at r;cases r with
    | cons h t=>exact .cons (yr h) (nZ t)
noncomputable abbrev KT (H:Hp):List (List Key×V)→List (List Key×Addr×Value)→Prop:=Paired λ p q=>p.1=q.1∧H q.2.1=some (.tup (p.1.map kV))∧RelV p.2 q.2.2
theorem KT.val {H:Hp} {bE:List (List Key×V)} {xs:List (List Key×Addr×Value)} (r:KT H bE xs) (k:List Key):jc (eC bE k) ((atKey xs k).map (·.2)):=by
  induction r with
  | nil=>exact True.intro
  | @cons p q ps qs h t ih =>
    obtain ⟨h1,_,h2⟩:=h
    by_cases e:p.1=k
    · have e':q.1=k:=h1.symm.trans e;have b:atKey (q :: qs) k=some q.2:=by simp [atKey,List.find?_cons,e']
      rw [cy e,b];exact h2
    · have e':¬ q.1=k:=λ z=>e (h1.trans z);have b:atKey (q :: qs) k=atKey qs k:=by simp [atKey,List.find?_cons,e']
      rw [cz e,b];exact ih
section
variable {P:Program} {w:World} {H:Hp} {h:Heap} {a:Addr}
theorem Cf {u:HO} (ok:jd P w H h) (e:Rd H a u):bZ P w H h a u:=e.ok ok
theorem Cg {bE:List (Key×V)} (ok:jd P w H h) (e:Rd H a (.dK bE)):bE.length≤sizeLine∧(a == sysModules)=false∧∃ vs,KV bE vs∧h.DictOf (cE P w) a vs :=
  show bZ P w H h a (.dK bE) from Cf ok e
theorem yt {ks:List Key} (ok:jd P w H h) (e:H a=some (.tup (ks.map kV))):(tupleKind (cE P w)).is h ks a:=by
  obtain ⟨_,its,r,o,h1,h2,n,h3⟩:=(show bZ P w H h a (.tup (ks.map kV)) from ok a _ e);exact ⟨o,its.toArray,n,h1,h2,h3,by simpa using nZ r⟩
theorem Ci {bE:List (List Key×V)} (ok:jd P w H h) (e:Rd H a (.dT bE)):bE.length≤sizeLine∧(a == sysModules)=false ∧
    ∃ xs,KT H bE xs∧h.DictOfH (tupleKind (cE P w)) a xs:=by
  obtain ⟨z,y,xs,r,o,es,ep,h1,h2,h3,h4,h5⟩:=(show bZ P w H h a (.dT bE) from Cf ok e);refine ⟨z,y,xs,r,o,es,ep,h1,h2,h3,h4,λ x hx=>?_,h5⟩;have all:∀ {l:List (List Key×V)} {m:List (List Key×Addr×Value)},KT H l m→∀ x∈m,(tupleKind (cE P w)).is h x.1 x.2.1:=by
    intro l m q
    induction q with
    | nil=>intro x hx;exact nomatch hx
    | @cons p q ps qs hq t ih =>
      intro x hx;rcases List.mem_cons.mp hx with e | hx
      · subst e;exact yt ok (by rw [← hq.1];exact hq.2.1)
      · exact ih x hx
  exact all r x hx
end
noncomputable def tI (H:Hp) (a:Addr) (y:V) (r:Option V):Prop :=
  (∃ bE k,Rd H a (.dK bE)∧y=kV k∧r=eC bE k)∨∃ bE k b,Rd H a (.dT bE)∧y = .ref b∧H b=some (.tup (k.map kV))∧r=eC bE k
theorem tI.k {H:Hp} {a:Addr} {bE:List (Key×V)} {k:Key} (e:H a=some (.dK bE)):tI H a (kV k) (eC bE k):=.inl ⟨bE,k,.inl e,rfl,rfl⟩
section
variable {X:Cx} {pins:List (Addr×Obj)} {σ:St} {H:Hp} {s:Shared} {a:Addr} {y v:V} {u r:Value} {o:Option V} {A:Around} {E:Value→Shared→Prop}
theorem Inv.big (I:Inv X pins σ H s):sysModules < s.heap.objs.size:=by
  have h:mainGlobals < s.heap.objs.size:=(I.mod.glob.keeps I.bk).lt;exact Nat.lt_trans (by decide) h
theorem we {Q:Value→Shared→Prop} (hu:A.units + 1 < cLine) (I:Inv X pins σ H s) (g:tI H a y (some v)) (ry:RelV y u) (h:∀ w' s',Inv X pins σ H s'→RelV v w'→Q w' s') :
    wpAny (model X.prog X.w) A (getItem (.ref a) u) Q E s:=by
  rcases g with ⟨bE,k,e,ey,l⟩ | ⟨bE,k,b,e,ey,eb,l⟩
  · subst ey;obtain ⟨z,hd,vs,rel,dd⟩:=Cg I.bH e;obtain ⟨w',hw,nJ⟩:=jc.some_of (v:=v) (o:=valueAt vs k) (by rw [l];exact rel.val k);exact wpAny_getItem_of (yr ry) dd.mapOf hw (h w' _ (I.tok _) nJ)
  · subst ey;cases (show u=Value.ref b from ry);obtain ⟨z,hd,xs,rel,dd⟩:=Ci I.bH e;obtain ⟨w',hw,nJ⟩:=jc.some_of (v:=v) (o:=(atKey xs k).map (·.2)) (by rw [l];exact rel.val k);obtain ⟨p,hp,E6⟩:=Option.map_eq_some_iff.mp hw;refine wpAny_getItem_heap (tupleKind_room_in1 hu) (yt I.bH eb) dd hp ?_;rw [E6];exact h w' _ (I.tok _) nJ
end
noncomputable def GX (i:Expr):Prop:=∀ ov iv,subscripted i false ov iv=operate [ov,iv] (getItem ov iv)
theorem AX {prog:Program} {w:World} {A:Around} {E:Value→Shared→Prop} {s:Shared} {env:Env} {value slice:Expr} {pos:Pos} {T id:String} {Q:Value→Shared→Prop}
    (hl:typeLookup (.type T) "__getitem__"=pure (some (.builtin id))) (hs:GX slice)
    (h:wpAny (model prog w) A (eval value env) (λ o s₁=>wpAny (model prog w) A (eval slice env) (λ i s₂=>s₂.TypeIs o T∧wpAny (model prog w) A (getItem o i) Q E s₂) E s₁) E s) :
    wpAny (model prog w) A (eval (.Subscript value slice pos) env) Q E s:=by
  refine Subscript_ (wpAny_mono h (λ o s₁ h₁=>wpAny_mono h₁ (λ i s₂ h₂=>?_) λ _ _ x=>x) λ _ _ x=>x);obtain ⟨hT,h₂⟩:=h₂;unfold subscriptTail;refine wpAny_bind ?_;rw [getitemInPython_of_ne hT.not_modules];refine wpAny_bind (wpAny_specialOf hT hl ?_);have fin:wpAny (model prog w) A (subscripted slice false o i) (λ r s₃=>wpAny (model prog w) A (letTemporaryGo value o r >>= λ _=>pure r) Q E s₃) E s₂:=by
    rw [hs o i];exact wpAny_operating (wpAny_mono h₂ (λ r s₃ h₃=>wpAny_bind (wpAny_letTemporaryGo (wpAny_pure h₃))) λ _ _ x=>x)
  first
    | exact wpAny_pure (wpAny_bind fin)
    | exact wpAny_bind (wpAny_pure (wpAny_bind fin))
    | exact wpAny_bind fin
theorem qK {X:Cx} {pins:List (Addr×Obj)} {σ:St} {H:Hp} {s:Shared} {a:Addr} {y:V} {o:Option V} (I:Inv X pins σ H s) (g:tI H a y o):s.TypeIs (.ref a) "dict":=by
  rcases g with ⟨bE,k,e,_,_⟩ | ⟨bE,k,b,e,_,_,_⟩
  · obtain ⟨_,_,vs,_,dd⟩:=Cg I.bH e;exact dd.typeIs
  · obtain ⟨_,_,xs,_,dd⟩:=Ci I.bH e;exact dd.typeIs
noncomputable def GZ (td ty:TE):TE:=λ σ H Q=>td σ H λ x H1=>ty σ H1 λ y H2=>∃ a v,x = .ref a∧tI H2 a y (some v)∧Q v H2
section
variable {X:Cx} {o i e value:Expr} {pos pos' AI:Pos} {td ty tv:TE}
theorem uY (hu:X.A.units + 1 < cLine) (ho:PE X o td) (hi:PE X i ty) (hs:GX i):PE X (.Subscript o i pos) (GZ td ty):=by
  intro pins s σ H Q I h;refine AX PySem.F.slot_dict_getitem.lookup hs (bP (ho pins s σ H _ I h) λ u s1 ⟨x,H1,I1,rx,q1⟩=>bP (hi pins s1 σ H1 _ I1 q1) λ iv s2 ⟨y,H2,I2,ry,a,v,ex,g,q2⟩=>?_);subst ex;obtain rfl:u=Value.ref a:=rx;exact ⟨qK I2 g,we hu I2 g ry λ w' s3 I3 nJ=>⟨v,H2,I3,nJ,q2⟩⟩
end
noncomputable def dP (bE more:List (Key×V)):List (Key×V):=more.foldl (λ acc kv=>putK acc kv.1 kv.2) bE
theorem KV.merge:∀ {more:List (Key×V)} {rs:List (Key×Value)} {bE:List (Key×V)} {vs:List (Key×Value)},KV more rs→KV bE vs→KV (dP bE more) (merged vs rs):=by
  intro more rs bE vs r;unfold KV at r
  induction r generalizing bE vs with
  | nil=>intro q;exact q
  | @cons p q ps qs h t ih =>
    intro r0;have e:KV (putK bE p.1 p.2) (stored vs q.1 q.2):=by
      have:=r0.put p.1 h.2;rw [← h.1];exact this
    exact ih e
theorem iN:∀ (more bE:List (Key×V)),(dP bE more).length≤bE.length + more.length
  | [],bE=>by show bE.length≤bE.length + 0;lia
  | p :: r,bE=>by
    have h1:=iN r (putK bE p.1 p.2);have h2:=qJ bE p.1 p.2;show (dP (putK bE p.1 p.2) r).length≤_;rw [List.length_cons];lia
noncomputable def DE (n:Nat) (eL:List Nat) (σ:St):St:=List.replicate n none ++ eL.map λ j=>(σ[j]?).getD none
noncomputable def iE (NX:List Str) (own:List Str) (eL:List Nat):List Str:=own ++ eL.map λ j=>(NX[j]?).getD Str.empty
noncomputable def cA (X:Cx) (scope:Scope) (cl:List (Str×Addr)) (N:List Str) (s:Shared) (H:Hp) (fp:List Addr) (C:Addr):Cx where
  prog:=X.prog
  w:=X.w
  K:=X.K
  mg:=X.mg
  base:=X.base
  A:=X.A
  N:=N
  s₀:=s
  H₀:=H
  env:=compEnvC scope cl C X.env
  outer:=X.stack
  stack:=X.stack
  ex:=fp
  fn:=λ _=>false
  calm:=X.calm
  pn:=[]
  xe:=λ _ _=>False
noncomputable def pB (sc:Scope) (NX:List Str) (scope:Scope) (eL:List Nat):Bool :=
  decide (scope.kind = .function) &&
  scope.names.all (λ y=>!decide (y.2 = .cell) && (!decide (y.2 = .local) || decide (scope.names.lookup y.1=some .local)) &&
    (!decide (y.2 = .free) || decide (sc.names.lookup y.1=some .cell) || decide (sc.names.lookup y.1=some .free))) &&
  eL.all (λ j=>match NX[j]? with
    | some x=>decide (scope.names.lookup x=some .free)
    | none=>false)
structure tJ (sc:Scope) (NX:List Str) (scope:Scope) (eL:List Nat):Prop where
  kind:scope.kind = .function
  yu:∀ y∈scope.names,y.2≠.cell
  names:∀ y∈scope.names,y.2 = .local→scope.names.lookup y.1=some .local
  free:∀ y∈scope.names,y.2 = .free→sc.names.lookup y.1=some .cell∨sc.names.lookup y.1=some .free
  K5:∀ j∈eL,∃ x,NX[j]?=some x∧scope.names.lookup x=some .free
theorem n5 {sc:Scope} {NX:List Str} {scope:Scope} {eL:List Nat} (h:pB sc NX scope eL=true):tJ sc NX scope eL:=by
  unfold pB at h;rw [Bool.and_eq_true,Bool.and_eq_true,decide_eq_true_eq,List.all_eq_true,List.all_eq_true] at h;obtain ⟨⟨h1,h2⟩,h3⟩:=h;refine ⟨h1,λ y hy e=>?_,λ y hy e=>?_,λ y hy e=>?_,λ j hj=>?_⟩
  · have q:=h2 y hy;simp [e] at q
  · have q:=h2 y hy;simpa [e] using q
  · have q:=h2 y hy;simpa [e] using q
  · have q:=h3 j hj;cases e:NX[j]? with
    | none=>rw [e] at q;cases q
    | some x=>rw [e] at q;exact ⟨x,rfl,by simpa using q⟩
theorem eD {env:Env} {x:Str}:∀ {names:List (Str×NameKind)},
    (names.map λ (n,k)=>if (k == NameKind.free && env.scope.kind == .function && env.kindOf n == some .cell) then (n,NameKind.cell) else (n,k)).lookup x =
      (names.lookup x).map λ k=>if (k == NameKind.free && env.scope.kind == .function && env.kindOf x == some .cell) then NameKind.cell else k
  | []=>rfl
  | (n,k) :: r=>by
    have ih:=@eD env x r;show List.lookup x ((if (k == NameKind.free && env.scope.kind == .function && env.kindOf n == some .cell)=true then (n,NameKind.cell) else (n,k)) :: _)=_
    by_cases hx:x=n
    · subst hx
      by_cases hc:(k == NameKind.free && env.scope.kind == .function && env.kindOf x == some .cell)=true
      · rw [if_pos hc];simp only [List.lookup_cons,beq_self_eq_true,Option.map_some];rw [if_pos hc]
      · rw [if_neg hc];simp only [List.lookup_cons,beq_self_eq_true,Option.map_some];rw [if_neg hc]
    · have hb:(x == n)=false:=by simpa using hx
      by_cases hc:(k == NameKind.free && env.scope.kind == .function && env.kindOf n == some .cell)=true
      · rw [if_pos hc];simp only [List.lookup_cons,hb];exact ih
      · rw [if_neg hc];simp only [List.lookup_cons,hb];exact ih
theorem pC {scope:Scope} {env:Env} {x:Str} (h:scope.names.lookup x=some .free):(relabel scope env).names.lookup x=some .cell∨(relabel scope env).names.lookup x=some .free:=by
  have e:(relabel scope env).names.lookup x=_:=eD;rw [e,h];show some (if _ then _ else _)=_∨some (if _ then _ else _)=_;split
  · exact .inl rfl
  · exact .inr rfl
theorem jS {scope:Scope} {env:Env} {x:Str} (nc:∀ y∈scope.names,y.2≠.cell) (h:(relabel scope env).names.lookup x=some .cell∨(relabel scope env).names.lookup x=some .free):scope.names.lookup x=some .free:=by
  have e:(relabel scope env).names.lookup x=_:=eD;rw [e] at h;cases q:scope.names.lookup x with
  | none=>rw [q] at h;rcases h with h | h<;>cases h
  | some k =>
    have hk:k≠.cell:=nc _ (PySem.mem_of_lookup q);rw [q] at h;cases k<;>first | rfl | exact absurd rfl hk | (rcases h with h | h<;>simp at h)
theorem lH {scope:Scope} {env:Env} (h:∀ y∈scope.names,y.2 = .free→∃ c,env.cells.lookup y.1=some c) :
    ∃ cl,closureFor scope env=pure cl∧(∀ x c,cl.lookup x=some c→env.cells.lookup x=some c)∧∀ y∈scope.names,y.2 = .free→cl.lookup y.1=env.cells.lookup y.1:=by
  unfold closureFor;have go:∀ (names:List (Str×NameKind)) (cs:List (Str×Addr)),(∀ y∈names,y.2 = .free→∃ c,env.cells.lookup y.1=some c)→(∀ x c,cs.lookup x=some c→env.cells.lookup x=some c) →
      ∃ cl,(forIn names cs λ (p:Str×NameKind) (r:List (Str×Addr))=>(match p with
          | (name,kind)=>if (kind == NameKind.free)=true then do let c ← cellOf env name;pure (ForInStep.yield ((name,c) :: r)) else pure (ForInStep.yield r):Sem (ForInStep (List (Str×Addr)))))=pure cl ∧
        (∀ x c,cl.lookup x=some c→env.cells.lookup x=some c)∧(∀ x c,cs.lookup x=some c→cl.lookup x=env.cells.lookup x)∧∀ y∈names,y.2 = .free→cl.lookup y.1=env.cells.lookup y.1:=by
    intro names
    induction names with
    | nil=>intro cs _ hc;exact ⟨cs,rfl,hc,λ x c e=>by rw [e,hc x c e],λ y hy=>nomatch hy⟩
    | cons p r ih =>
      intro cs hn hc;obtain ⟨n,k⟩:=p
      by_cases hk:k = .free
      · subst hk;obtain ⟨c,ec⟩:=hn (n,.free) List.mem_cons_self rfl;have G0:cellOf env n=pure c:=by unfold cellOf;rw [ec]
        have k_:∀ x c',((n,c) :: cs).lookup x=some c'→env.cells.lookup x=some c':=λ x c' e=>by
          by_cases hx:x=n
          · subst hx;simp only [List.lookup_cons,beq_self_eq_true] at e;rw [ec];exact e
          · have hb:(x == n)=false:=by simpa using hx
            simp only [List.lookup_cons,hb] at e;exact hc x c' e
        obtain ⟨cl,e1,e2,e3,e4⟩:=ih ((n,c) :: cs) (λ y hy=>hn y (List.mem_cons_of_mem _ hy)) k_;refine ⟨cl,?_,e2,λ x c' e=>?_,λ y hy hf=>?_⟩
        · rw [List.forIn_cons];simp only [beq_self_eq_true,if_true,G0,pure_bind];exact e1
        · by_cases hx:x=n
          · subst hx;exact e3 x c (by simp only [List.lookup_cons,beq_self_eq_true])
          · have hb:(x == n)=false:=by simpa using hx
            exact e3 x c' (by simp only [List.lookup_cons,hb];exact e)
        · rcases List.mem_cons.mp hy with rfl | hy
          · exact e3 n c (by simp only [List.lookup_cons,beq_self_eq_true])
          · exact e4 y hy hf
      · obtain ⟨cl,e1,e2,e3,e4⟩:=ih cs (λ y hy=>hn y (List.mem_cons_of_mem _ hy)) hc;refine ⟨cl,?_,e2,e3,λ y hy hf=>?_⟩
        · rw [List.forIn_cons];have hb:(k == NameKind.free)=false:=by simpa using hk
          simp only [hb,Bool.false_eq_true,if_false,pure_bind];exact e1
        · rcases List.mem_cons.mp hy with rfl | hy
          · exact absurd hf hk
          · exact e4 y hy hf
  obtain ⟨cl,e1,e2,_,e4⟩:=go scope.names [] h (λ x c e=>by simp at e);refine ⟨cl,?_,e2,e4⟩;show (forIn scope.names [] _ >>= λ cs=>pure cs)=pure cl;rw [bind_pure];exact e1
noncomputable def tK (X:Cx) (ifs:List Expr) (t:TT):Prop :=
  ∀ (pins:List (Addr×Obj)) (s:Shared) (σ:St) (H:Hp) (Q:Bool→Hp→Prop),Inv X pins σ H s→t σ H Q →
    wpAny (model X.prog X.w) X.A (forIn ifs true λ c r=>if r=true then do let ok ← isTrue c X.env (eval c X.env);pure (ForInStep.yield ok) else pure (ForInStep.yield r)) (TP X pins σ Q) X.xe s
noncomputable def tL:TT:=λ _ H Q=>Q true H
section
variable {X:Cx}
theorem br:tK X [] tL:=λ _ _ _ H _ I h=>wpAny_tests_nil ⟨H,I,h⟩
theorem fC {c:Expr} {t:TT} (h:PT X c t):tK X [c] t:=λ pins s σ H Q I q=>wpAny_tests_one (h pins s σ H Q I q)
theorem Inv.h9 {t':Nat} {its:List Addr} {pins:List (Addr×Obj)} {σ:St} {H:Hp} {s:Shared} {h':Heap} (I:Inv X pins σ H s) (k:∀ b o,b∉its→s.heap.get? b=some o→h'.get? b=some o)
    (hf:∀ b∈its,dO X pins H b):Inv X pins σ H { s with heap:=h',toks:=t' }:=by
  have xV:∀ b u,H b=some u→b∉its:=λ b u e z=>by rw [(hf b z).1] at e;cases e
  refine I.step (g':=s.gens) (d':=s.drawn) (ch:=its) (λ b hb=>?_) (λ b o _ _ hc e _=>k b o hc e) (λ b o _ _ hc e _=>⟨o.slots,k b o hc e⟩) (λ _ _ _ _ n=>n)
    (λ b o hc e=>⟨o,k b o hc e⟩) (λ _ _ e=>e) (λ _ _ _ e=>e) (λ b ps e=>⟨#[],by rw [e];simp⟩) (λ m hm=>?_) (λ b u e=>?_) I.bare
  · obtain ⟨_,f1,_,f3,f4,f5⟩:=hf b hb;exact ⟨f3,f1,f4,f5⟩
  · obtain ⟨o,es,ep,ho,r⟩:=hm;exact ⟨o,es,ep,k _ o (λ z=>(hf _ z).2.1 rfl) ho,r⟩
  · refine (I.bH b u e).k7 (λ c v hc q=>k c v ?_ q) (λ _ q=>q) λ _ _ q=>q;rcases hc with z | z
    · rw [z];exact xV b u e
    · exact xV c _ z
noncomputable def Cj (n:Nat) (eL:List Nat) (wi:TI) (g:TG) (tt:TT) (te:TE):TE:=λ σ H Q=>wi σ H λ J H1=>∀ D,H1 D=none →
  ∃ W:Nat→Nat→List V→St→Hp→Prop,(∃ m,W 0 m [] (DE n eL σ) (upd H1 D (.lst [])))∧∀ i m ys σ' H',W i m ys σ' H' →
    (J.stop i H'∧Q (.ref D) H')∨(J.go i H'∧∃ N:List V→St→Hp→Prop,(∀ zs σ2 H2,N zs σ2 H2→∃ m',m' < m∧W (i + 1) m' zs σ2 H2)∧∀ x H2,J.nK i H' x H2→g x σ' H2 λ σ3 H3=>tt σ3 H3 λ b H4 =>
      if b=true then te σ3 H4 λ y H5=>H5 D=some (.lst ys)∧ys.length < sizeLine∧N (ys ++ [y]) σ3 (upd H5 D (.lst (ys ++ [y])))
      else N ys σ3 H4)
theorem m9 {scope:Scope} {cl:List (Str×Addr)} {own:List Str} {eL:List Nat} {pins:List (Addr×Obj)} {σ:St} {H:Hp} {s:Shared} {fp:List Addr} {h₁:Heap} {m₁:Str→Option Value} {tk:Nat} (I:Inv X pins σ H s)
    (S:tJ X.env.scope X.N scope eL) (c2:∀ x c,cl.lookup x=some c→X.env.cells.lookup x=some c) (c3:∀ y∈scope.names,y.2 = .free→cl.lookup y.1=X.env.cells.lookup y.1)
    (hf:∀ b∈fp,dO X pins H b) (DF:∀ b∈fp,b < s.heap.objs.size) (old:∀ b o,s.heap.get? b=some o→h₁.get? b=some o)
    (hD:h₁.get? s.heap.objs.size=some { cls:=.type "list",data:=.seq #[] 0 }) (hC:h₁.Ns (s.heap.objs.size + 1) m₁) :
    Inv (cA X scope cl (iE X.N own eL) s H fp (s.heap.objs.size + 1)) [] (DE own.length eL σ) (upd H s.heap.objs.size (.lst [])) { s with heap:=h₁,toks:=tk }:=by
  have newD:bZ X.prog X.w (upd H s.heap.objs.size (.lst [])) h₁ s.heap.objs.size (.lst []):=⟨Nat.zero_le _,[],0,.nil,hD⟩;have I':Inv X pins σ (upd H s.heap.objs.size (.lst [])) { s with heap:=h₁,toks:=tk }:=I.laid old (Nat.le_refl _) newD;have tM:∀ a,s.heap.objs.size≤a→H a=none:=λ a ha=>I.bH.fresh ha;refine ⟨⟨I.ok.mod,S.kind,I.ok.glob,I.ok.blt,Nat.le_succ _,λ x y c e1 e2=>I.ok.inj x y c (c2 _ _ e1) (c2 _ _ e2),λ x hx=>?_,λ x c z=>absurd z (by intro q;cases q),I.ok.hd,I.ok.frames,.inl rfl,λ b hb=>?_,I.bs,Nat.le_trans I.ok.Az I.sz,λ b o e hb=>?_,λ b hb=>?_,I.stack,I.oX⟩,
    rfl,I.bare,Un.laid old (Nat.le_refl _) (tM _ (Nat.le_refl _)),⟨m₁,hC,λ i x v e1 e2 e3=>?_⟩,λ x c e=>I'.cell x c (c2 _ _ e),?_,λ x c e=>I'.gq x c (c2 _ _ e),λ p hp=>absurd (show p∈([]:List (Addr×Obj)) from hp) (by simp),I'.bH,?_⟩
  · have vZ:(relabel scope X.env).names.lookup x=some .cell∨(relabel scope X.env).names.lookup x=some .free:=hx;have k9:=jS S.yu vZ;have hm:=PySem.mem_of_lookup k9;obtain ⟨c,ec⟩:=I.ok.has x (S.free _ hm rfl);exact ⟨c,(c3 _ hm rfl).trans ec⟩
  · obtain ⟨f0,f1,f2,f3,f4,f5⟩:=hf b hb;exact ⟨Nat.ne_of_lt (Nat.lt_succ_of_lt (DF b hb)),λ x c e=>f4 x c (c2 _ _ e)⟩
  · obtain ⟨f0,f1,f2,f3,f4,f5⟩:=hf b hb;rcases f3 with z | z
    · exact I.ok.xT b o e z
    · exact absurd (Nat.lt_of_lt_of_le (Heap.lt_size (I.ok.bs b o e).1) z) (Nat.lt_irrefl _)
  · obtain ⟨f0,f1,f2,f3,f4,f5⟩:=hf b hb;intro z;rcases List.mem_cons.mp (I.k8 b z) with q | q
    · exact f1 q
    · exact f2 q
  · have DG:(List.replicate own.length none ++ eL.map λ j=>(σ[j]?).getD none)[i]?=some (some v):=e2;have E7:(own ++ eL.map λ j=>(X.N[j]?).getD Str.empty)[i]?=some x:=e1
    by_cases hi:i < own.length
    · rw [List.getElem?_append_left (by simpa using hi),List.getElem?_replicate] at DG;split at DG<;>cases DG
    · rw [List.getElem?_append_right (by simpa using Nat.le_of_not_lt hi)] at DG;rw [List.getElem?_append_right (Nat.le_of_not_lt hi)] at E7;simp only [List.length_replicate,List.getElem?_map] at DG;simp only [List.getElem?_map] at E7;cases ej:eL[i - own.length]? with
      | none=>rw [ej] at E7;cases E7
      | some j =>
        rw [ej] at E7 DG;obtain ⟨x',vZ,k9⟩:=S.K5 j (List.mem_of_getElem? ej);have ex:x'=x:=by
          have q:some ((X.N[j]?).getD Str.empty)=some x:=E7;rw [vZ] at q;exact Option.some.inj q
        subst ex;have eσ:σ[j]?=some (some v):=by
          have q:some ((σ[j]?).getD none)=some (some v):=DG;cases eq:σ[j]? with
          | none=>rw [eq] at q;cases q
          | some o=>rw [eq] at q;rw [← Option.some.inj q];rfl
        have hm:=PySem.mem_of_lookup k9;have K6:FT X.env.scope x':=.inr (S.free _ hm rfl);obtain ⟨m,_,hl⟩:=I'.loc;obtain ⟨u,r,l⟩:=hl j x' v vZ eσ K6;refine ⟨u,r,.inr ⟨pC k9,?_⟩⟩;rcases l with ⟨k,_⟩ | ⟨_,c,ec,z⟩
        · rcases S.free _ hm rfl with q | q
          · have k':X.env.scope.names.lookup x'=some .local:=k;rw [q] at k';cases k'
          · have k':X.env.scope.names.lookup x'=some .local:=k;rw [q] at k';cases k'
        · exact ⟨c,(c3 _ hm rfl).trans ec,z⟩
  · show upd H s.heap.objs.size (.lst []) (s.heap.objs.size + 1)=none;rw [aq (Nat.succ_ne_self _)];exact tM _ (Nat.le_succ _)
  · show (List.replicate own.length none ++ eL.map λ j=>(σ[j]?).getD none).length=(own ++ eL.map λ j=>(X.N[j]?).getD Str.empty).length;simp
theorem comp_back {scope:Scope} {cl:List (Str×Addr)} {N:List Str} {pins:List (Addr×Obj)} {σ σ':St} {H H':Hp} {s s':Shared} {fp:List Addr} {C:Addr} (I:Inv X pins σ H s) (hf:∀ b∈fp,dO X pins H b)
    (IY:Inv (cA X scope cl N s H fp C) [] σ' H' s'):Inv X pins σ H' s' :=
  I.FZ (ch:=fp) IY.os IY.base IY.bH IY.bare λ b hb=>by
    obtain ⟨f0,f1,f2,f3,f4,f5⟩:=hf b hb;exact ⟨f3,f1,f4,f5⟩
theorem gE {prog:Program} {w:World} {A:Around} {R:Result→Shared→Prop} {s:Shared} {elt target iter:Expr} {ifs:List Expr} {scope:Scope} {pos:Pos} {it acc:Value} {env:Env} (I:Nat→Shared→Prop)
    (turn:∀ n s,I n s→wpAny (model prog w) A (pyNext it) (λ r s₁=>match r with
      | none=>R (.ok .next) s₁
      | some v=>wpAny (model prog w) A (letOwnedTupleGo target it v) (λ _ s₁=>wpAny (model prog w) A (assign target env v) (λ _ s₂ =>
          wpAny (model prog w) A (forIn ifs true λ c r=>if r=true then do let ok ← isTrue c env (eval c env);pure (ForInStep.yield ok) else pure (ForInStep.yield r)) (λ ok s₃ =>
            if ok=true then wpAny (model prog w) A (eval elt env) (λ x s₄ =>
              wpAny (model prog w) A (call (.builtin "list.append") [acc,x]) (λ _ s₅=>∃ m,m < n∧I m s₅) (λ _ _=>False) s₄) (λ _ _=>False) s₃
            else ∃ m,m < n∧I m s₃) (λ _ _=>False) s₂) (λ _ _=>False) s₁) (λ _ _=>False) s₁) (λ _ _=>False) s)
    (n:Nat) (h:I n s) :
    codeAny (model prog w) A (.compLoop (.ListComp elt [⟨target,iter,ifs,0⟩] scope pos) 0 it acc env) R s:=by
  refine codeAny_loop rfl I (λ n s hI=>?_) n h;show wpAny _ A ((compTurn (.ListComp elt [⟨target,iter,ifs,0⟩] scope pos) 0 it acc env).onRaise (λ x=>do noteFrame x env;theTreesLotGoes x)) _ _ s
  refine wpAny_noted ?_;rw [compTurn_list];refine wpAny_bind (wpAny_standAt (wpAny_bind (wpAny_mono (turn n s hI) (λ r s₁ h₁=>?_) λ _ _ h'=>h'.elim)));cases r with
  | none=>exact wpAny_pure h₁
  | some v =>
    refine wpAny_bind (wpAny_mono h₁ (λ _ NW G6=>?_) λ _ _ h'=>h'.elim);refine wpAny_bind (wpAny_mono G6 (λ _ s₂ h₂=>wpAny_bind (wpAny_mono h₂ (λ ok s₃ h₃=>?_) λ _ _ h'=>h'.elim)) λ _ _ h'=>h'.elim);cases ok with
    | false=>exact wpAny_pure ⟨rfl,h₃⟩
    | true =>
      exact wpAny_bind (wpAny_bind (wpAny_mono h₃ (λ x s₄ h₄=>wpAny_bind (wpAny_mono h₄ (λ _ s₅ h₅=>wpAny_pure (wpAny_pure ⟨rfl,h₅⟩)) λ _ _ h'=>h'.elim)) λ _ _ h'=>h'.elim))
theorem lI {elt tg iter:Expr} {ifs:List Expr} {scope:Scope} {cl:List (Str×Addr)} {pos:Pos} {own:List Str} {eL:List Nat} {g:TG} {tt:TT} {te:TE} {E:Value→Shared→Prop}
    {pins:List (Addr×Obj)} {σ:St} {H:Hp} {s:Shared} {it:Addr} {fp:List Addr} {tn:Nat→Heap→Prop} {J:It} {Q:VK} {RR:Value→Addr→Result→Shared→Prop}
    (hc:X.calm=true) (S:tJ X.env.scope X.N scope eL) (c2:∀ x c,cl.lookup x=some c→X.env.cells.lookup x=some c) (c3:∀ y∈scope.names,y.2 = .free→cl.lookup y.1=X.env.cells.lookup y.1)
    (hb:∀ cl s H fp C,PG (cA X scope cl (iE X.N own eL) s H fp C) tg g∧tK (cA X scope cl (iE X.N own eL) s H fp C) ifs tt∧PE (cA X scope cl (iE X.N own eL) s H fp C) elt te)
    (I:Inv X pins σ H s) (T:Turn X.prog X.w X.K tg J fp it tn) (st:tn 0 s.heap) (hf:∀ b∈fp,dO X pins H b)
    (R:∀ D,H D=none→∃ W:Nat→Nat→List V→St→Hp→Prop,(∃ m,W 0 m [] (DE own.length eL σ) (upd H D (.lst [])))∧∀ i m ys σ' H',W i m ys σ' H' →
      (J.stop i H'∧Q (.ref D) H')∨(J.go i H'∧∃ N:List V→St→Hp→Prop,(∀ zs σ2 H2,N zs σ2 H2→∃ m',m' < m∧W (i + 1) m' zs σ2 H2)∧∀ x H2,J.nK i H' x H2→g x σ' H2 λ σ3 H3=>tt σ3 H3 λ b H4 =>
        if b=true then te σ3 H4 λ y H5=>H5 D=some (.lst ys)∧ys.length < sizeLine∧N (ys ++ [y]) σ3 (upd H5 D (.lst (ys ++ [y])))
        else N ys σ3 H4))
    (Qt:∀ D C H' s' m,Inv X pins σ H' s'→s'.heap.Ns C m→dO X pins H' C→Q (.ref D) H'→RR (.ref D) C (.ok .next) s') :
    wpAny (model X.prog X.w) X.A (newList []) (λ acc s₃=>wpAny (model X.prog X.w) X.A (newFunctionEnv scope X.env.globals cl [] X.env.qual none .none (some X.env)) (λ G7 s₄ =>
      codeAny (model X.prog X.w) X.A (.compStart (.ListComp elt [⟨tg,iter,ifs,0⟩] scope pos) 0 (.ref it) acc { G7 with scope:=relabel scope X.env }) (RR acc G7.locals) s₄) E s₃) E s:=by
  refine wpAny_newObj_type (wpAny_newFunctionEnv S.yu (by intro y hy;simp at hy) (λ h₁ pD pE=>?_) S.kind);dsimp only at pD pE ⊢;generalize K7:s.heap.push { cls:=.type "list",dict:=none,data:=.seq ([]:List Value).toArray }=H2 at pD pE ⊢;have hC:H2.objs.size=s.heap.objs.size + 1:=by rw [← K7,Heap.size_push]
  have DF:∀ b∈fp,b < s.heap.objs.size:=λ b hb=>by obtain ⟨o,e,_⟩:=T.obj _ _ st b hb;exact Heap.lt_size e
  have old:∀ b o,s.heap.get? b=some o→h₁.get? b=some o:=λ b o e =>
    pE.extBut b o (by rw [hC];exact Nat.ne_of_lt (Nat.lt_succ_of_lt (Heap.lt_size e))) (Heap.get?_push_of_some _ (K7 ▸ Heap.get?_push_of_some _ e))
  have qL:h₁.get? s.heap.objs.size=some { cls:=.type "list",data:=.seq #[] 0 } :=
    pE.extBut _ _ (by rw [hC];exact Nat.ne_of_lt (Nat.lt_succ_self _)) (Heap.get?_push_of_some _ (K7 ▸ Heap.get?_push_size _ rfl))
  rw [hC] at pD;have tM:H s.heap.objs.size=none:=I.bH.fresh (Nat.le_refl _);obtain ⟨W,⟨m0,w0⟩,turn⟩:=R s.heap.objs.size tM;have IY:=m9 (own:=own) (tk:=s.toks + ([]:List (Str×Value)).length) I S c2 c3 hf DF old qL pD;have e0:(newEnv scope H2.objs.size X.env.globals cl X.env.qual none Value.none (some X.env) builtinsNs).locals=s.heap.objs.size + 1:=hC;obtain ⟨hg,ht,he⟩:=hb cl s H fp (s.heap.objs.size + 1);have sZ:∀ {H':Hp},(∀ b∈fp,H' b=none)→∀ b∈fp,dO (cA X scope cl (iE X.N own eL) s H fp (s.heap.objs.size + 1)) [] H' b:=λ {H'} hn b hb=>by
    obtain ⟨f0,f1,f2,f3,f4,f5⟩:=hf b hb;refine ⟨hn b hb,Nat.ne_of_lt (Nat.lt_succ_of_lt (DF b hb)),λ z=>?_,.inl hb,λ x c e=>f4 x c (c2 _ _ e),λ p hp=>absurd (show p∈([]:List (Addr×Obj)) from hp) (by simp)⟩;rcases List.mem_cons.mp (I.k8 b z) with q | q
    · exact f1 q
    · exact f2 q
  have Qu:∀ b∈fp,upd H s.heap.objs.size (.lst []) b=none:=λ b hb=>by
    rw [aq (Nat.ne_of_lt (DF b hb))];exact (hf b hb).1
  have K8:∀ {H':Hp} {σ':St} {s':Shared},Inv (cA X scope cl (iE X.N own eL) s H fp (s.heap.objs.size + 1)) [] σ' H' s'→dO X pins H' (s.heap.objs.size + 1):=λ {H' σ' s'} I3=>by
    exact I.mY (Nat.le_succ _) I3.free
  have loop:∀ s₃:Shared,s₃ = { s with heap:=h₁,toks:=s.toks + ([]:List (Str×Value)).length } →
      codeAny (model X.prog X.w) X.A (.compLoop (.ListComp elt [⟨tg,iter,ifs,0⟩] scope pos) 0 (.ref it) (.ref s.heap.objs.size) (compEnvC scope cl (s.heap.objs.size + 1) X.env))
        (RR (.ref s.heap.objs.size) (s.heap.objs.size + 1)) s₃:=by
    rintro s₃ rfl;refine gE (λ n s'=>∃ i ys σ' H',Inv (cA X scope cl (iE X.N own eL) s H fp (s.heap.objs.size + 1)) [] σ' H' s'∧tn i s'.heap∧(∀ b∈fp,H' b=none)∧W i n ys σ' H') ?_ m0
      ⟨0,[],_,_,IY,T.keep _ _ _ st (λ b _ o e=>old b o e),Qu,w0⟩
    rintro n s3 ⟨i,ys,σ3,H3,I3,iU,Gi,w3⟩;rcases turn i n ys σ3 H3 w3 with ⟨stop,q⟩ | ⟨go,Nx,NY,step⟩
    · refine bP (T.done (cA X scope cl (iE X.N own eL) s H fp (s.heap.objs.size + 1)) rfl rfl rfl hc i [] s3 σ3 H3 (λ _ _=>False) I3 (sZ Gi) iU stop) λ r s4 ⟨hr,I4⟩=>?_;subst hr;obtain ⟨m4,Qv,_⟩:=I4.loc;exact Qt _ _ H3 s4 m4 (comp_back I hf I4) Qv (K8 I4) q
    · refine bP (T.item (cA X scope cl (iE X.N own eL) s H fp (s.heap.objs.size + 1)) rfl rfl rfl hc i [] s3 σ3 H3 (λ _ _=>False) I3 (sZ Gi) iU go) λ r s4 ⟨u,hr,h4⟩=>?_;subst hr;refine bP h4 λ _ s5 ⟨x,H5,I5,r5,y5,Ca,Kz⟩=>?_;have KA:=I5.pinned (sZ Kz) (T.obj _ _ Ca);refine bP (hg _ s5 σ3 H5 x u _ KA r5 (step x H5 y5)) λ _ s6 ⟨σ6,H6,I6,q6⟩=>?_;refine bP (ht _ s6 σ6 H6 _ I6 q6) λ ok s7 ⟨H7,I7,q7⟩=>?_;have back:∀ {σ8:St} {H8:Hp} {s8:Shared},Inv (cA X scope cl (iE X.N own eL) s H fp (s.heap.objs.size + 1)) ([] ++ lh fp s5.heap) σ8 H8 s8→tn (i + 1) s8.heap∧∀ b∈fp,H8 b=none:=λ {σ8 H8 s8} I8=>by
        refine ⟨T.keep _ _ _ Ca λ b hb o e=>(I8.pin (b,o) (List.mem_append_right _ (List.mem_append_right _ (fz hb e)))).1,λ b hb=>?_⟩;obtain ⟨o,e,d⟩:=T.obj _ _ Ca b hb;exact (I8.pin (b,o) (List.mem_append_right _ (List.mem_append_right _ (fz hb e)))).2.1
      cases ok with
      | false =>
        rw [if_neg Bool.false_ne_true] at q7 ⊢;obtain ⟨m',hm,w7⟩:=NY _ _ _ q7;exact ⟨m',hm,i + 1,ys,σ6,H7,I7.d_,(back I7).1,(back I7).2,w7⟩
      | true =>
        rw [if_pos rfl] at q7 ⊢;refine bP (he _ s7 σ6 H7 _ I7 q7) λ y s8 ⟨z,H8,I8,r8,q8⟩=>?_;obtain ⟨Qw,Qx,q8⟩:=q8;obtain ⟨m',hm,w8⟩:=NY _ _ _ q8;refine bP (d8 _ s8 σ6 H8 (.ref s.heap.objs.size) [z] (.ref s.heap.objs.size) [y] (λ _ H9=>H9=upd H8 s.heap.objs.size (.lst (ys ++ [z]))) I8 rfl (.cons r8 .nil) ⟨_,ys,z,rfl,rfl,Qw,Qx,rfl⟩) λ _ s9 ⟨_,H9,I9,_,q9⟩=>?_;subst q9;exact ⟨m',hm,i + 1,ys ++ [z],σ6,_,I9.d_,(back I9).1,(back I9).2,w8⟩
  show codeAny (model X.prog X.w) X.A (.compStart (.ListComp elt [⟨tg,iter,ifs,0⟩] scope pos) 0 (.ref it) (.ref s.heap.objs.size) (compEnvC scope cl H2.objs.size X.env)) (RR (.ref s.heap.objs.size) H2.objs.size) _;rw [hC];exact codeAny_compStart_list (loop _ rfl) (T.self _ 0 _ _ _ (T.keep _ _ _ st (λ b _ o e=>old b o e)) (loop _ rfl))
theorem bC {elt tg iter:Expr} {ifs:List Expr} {scope:Scope} {pos:Pos} {wi:TI} {g:TG} {tt:TT} {te:TE} (own:List Str) (eL:List Nat) (hc:X.calm=true) (hi:PI X tg iter wi)
    (hb:∀ cl s H fp C,PG (cA X scope cl (iE X.N own eL) s H fp C) tg g∧tK (cA X scope cl (iE X.N own eL) s H fp C) ifs tt∧PE (cA X scope cl (iE X.N own eL) s H fp C) elt te)
    (hS:pB X.env.scope X.N scope eL=true:=by kernel_rfl) (hs:∀ x,foldedSetIterable iter X.env x=pure x:=by intro _;rfl) :
    PE X (.ListComp elt [⟨tg,iter,ifs,0⟩] scope pos) (Cj own.length eL wi g tt te):=by
  intro pins s σ H Q I h;have S:=n5 hS;obtain ⟨cl,c1,c2,c3⟩:=lH (scope:=scope) (env:=X.env) λ y hy hf=>I.ok.has y.1 (S.free y hy hf);rw [eval_ListComp];refine wpAny_comprehension_free (use:=none) rfl hs c1 S.kind S.names (bP (hi pins s σ H _ I h) λ v s1 h1=>bP h1 λ Jp s2 h2=>?_);obtain ⟨it,fp,tn,J,H2,e,I2,T,ef,f2,R⟩:=h2;subst e;refine lI (Q:=Q) (RR:=λ acc C=>compPost (model X.prog X.w) X.A X.xe none (EP X pins σ Q) acc C) hc S c2 c3 hb I2 T ef f2 R ?_;intro D C H' s' m I' hn hC q;refine ⟨m,hn,λ h' eE=>⟨.ref D,H',?_,rfl,q⟩⟩;exact I'.h9 (t':=s'.toks) (its:=[C]) (λ b o hb e=>eE.extBut b o (by simpa using hb) e) (λ b hb=>by rw [List.mem_singleton.mp hb];exact hC)
theorem eQ {elt tg iter:Expr} {ifs:List Expr} {scope:Scope} {pos pos' G8:Pos} {wi:TI} {g:TG} {tt:TT} {te:TE} {i:Nat} {x:Str} (hN:X.N.Nodup) (hx:X.N[i]?=some x) (own:List Str) (eL:List Nat) (hc:X.calm=true) (hi:PI X tg iter wi)
    (hb:∀ cl s H fp C,PG (cA X scope cl (iE X.N own eL) s H fp C) tg g∧tK (cA X scope cl (iE X.N own eL) s H fp C) ifs tt∧PE (cA X scope cl (iE X.N own eL) s H fp C) elt te)
    (hl:X.env.scope.names.lookup x=some .local:=by rfl)
    (Qy:swapsWith (.ListComp elt [⟨tg,iter,ifs,0⟩] scope pos) (some (.Name x pos')) G8.line X.env=pure true:=by rfl)
    (hS:pB X.env.scope X.N scope eL=true:=by kernel_rfl) (hs:∀ x,foldedSetIterable iter X.env x=pure x:=by intro _;rfl) :
    PS X (.Assign [.Name x pos'] (.ListComp elt [⟨tg,iter,ifs,0⟩] scope pos) G8) (Dn (Cj own.length eL wi g tt te) (fb i)):=by
  intro pins s σ H D I h;have S:=n5 hS;obtain ⟨cl,c1,c2,c3⟩:=lH (scope:=scope) (env:=X.env) λ y hy hf=>I.ok.has y.1 (S.free y hy hf);rw [exec_Assign_Name_used _ _ _ _ Qy];refine wpAny_bind (wpAny_standAt (wpAny_bind ?_));show wpAny _ X.A (do let _ ← comprehension (.ListComp elt [⟨tg,iter,ifs,0⟩] scope pos) scope X.env _ (newList []) false (eval iter X.env) (some (assign (.Name x pos') X.env))) _ _ s
  refine wpAny_bind (wpAny_mono (wpAny_comprehension_free (use:=some (assign (.Name x pos') X.env)) (Q:=λ _ s'=>SP X pins D .next s') rfl hs c1 S.kind S.names (bP (hi pins s σ H _ I h) λ v s1 h1=>bP h1 λ Jp s2 h2=>?_)) (λ _ s' hq=>wpAny_pure (wpAny_pure hq)) λ _ _ e=>e);obtain ⟨it,fp,tn,J,H2,e,I2,T,ef,f2,R⟩:=h2;subst e;refine lI (Q:=λ v H1=>D.nx (σ.set i (some v)) H1) (RR:=λ acc C=>compPost (model X.prog X.w) X.A X.xe (some (assign (.Name x pos') X.env)) (λ _ s'=>SP X pins D .next s') acc C) hc S c2 c3 hb I2 T ef f2 R ?_;intro D' C H' s' m I' hn hC q;show wpAny _ X.A (assign (.Name x pos') X.env (.ref D')) _ _ _;refine wpAny_assign_Name (nG I' hN hx (.inl hl) (v:=.ref D') (u:=.ref D') rfl (λ s2 I2 ⟨a,Jw,ha⟩=>?_) (.inr hl));have Qz:C≠a:=by
    rcases ha with z | z
    · rw [z];exact hC.2.1
    · intro q';exact hC.2.2.2.2.1 x a z q'.symm
  refine ⟨m,hn.sameBut Jw Qz,λ h' eE=>⟨σ.set i (some (.ref D')),H',?_,q⟩⟩;exact I2.h9 (t':=s2.toks) (its:=[C]) (λ b o hb e=>eE.extBut b o (by simpa using hb) e) (λ b hb=>by rw [List.mem_singleton.mp hb];exact hC)
theorem gF:∀ {bs:List Bool} {us:List Value},Vals (bs.map V.bl) us→LSm.BoolsAre us bs
  | [],_,.nil=>.nil
  | b :: bs,_,.cons r t=>by
    cases (show _=Value.bool b from r);exact .cons b (gF t)
theorem bT (hc:X.calm=true):dW X (.builtin "all") (λ xs H Q=>∃ (p:Addr) (bs:List Bool),xs=[.ref p]∧aJ X.K H p (bs.map V.bl)∧Q (.bl (bs.all id)) H):=by
  intro pins s σ H xs us Q I r h;obtain ⟨p,bs,rfl,hq,q⟩:=h;obtain ⟨u,rfl,rx⟩:=vals1 r;cases rx;obtain ⟨its,rv,pl,hz⟩:=I.list hq;have hl:s.heap.IsList p its.toArray:=pl.isList;have hb:LSm.BoolsAre its bs:=gF rv;have dg:p < s.heap.objs.size:=by obtain ⟨_,e,_⟩:=hl;exact Heap.lt_size e
  refine call_all_walk (wpAny_pyIter_list hl ?_);refine ⟨s.heap.objs.size,[s.heap.objs.size,p],[s.heap.objs.size],its.toArray.size,_,_,λ i=>(bs[i]?).getD true,rfl,Walks.list (A:=X.A.in1) (I.ok.hd hc) _ p (Nat.ne_of_lt dg) its.toArray,
    ⟨⟨_,Heap.get?_push_size _ rfl,rfl,rfl⟩,hl.push _⟩,λ i v s' Q' E' hP hQ=>?_,λ h' tk hk=>?_⟩
  · obtain ⟨b,e,rfl⟩:=hb.get i v (by simpa using hP);simp only [e,Option.getD_some] at hQ;exact wpAny_truthy_bool hQ
  · have e:((List.range its.toArray.size).all λ i=>(bs[i]?).getD true)=bs.all id:=by rw [List.size_toArray,hb.length];exact LSm.range_all bs
    rw [e];exact ⟨.bl _,H,I.kept (LSm.kept_iter hk),rfl,q⟩
theorem gG (hc:X.calm=true):dW X (.builtin "any") (λ xs H Q=>∃ (p:Addr) (bs:List Bool),xs=[.ref p]∧aJ X.K H p (bs.map V.bl)∧Q (.bl (bs.any id)) H):=by
  intro pins s σ H xs us Q I r h;obtain ⟨p,bs,rfl,hq,q⟩:=h;obtain ⟨u,rfl,rx⟩:=vals1 r;cases rx;obtain ⟨its,rv,pl,hz⟩:=I.list hq;have hl:s.heap.IsList p its.toArray:=pl.isList;have hb:LSm.BoolsAre its bs:=gF rv;have dg:p < s.heap.objs.size:=by obtain ⟨_,e,_⟩:=hl;exact Heap.lt_size e
  refine call_any_walk (wpAny_pyIter_list hl ?_);refine ⟨s.heap.objs.size,[s.heap.objs.size,p],[s.heap.objs.size],its.toArray.size,_,_,λ i=>(bs[i]?).getD false,rfl,Walks.list (A:=X.A.in1) (I.ok.hd hc) _ p (Nat.ne_of_lt dg) its.toArray,
    ⟨⟨_,Heap.get?_push_size _ rfl,rfl,rfl⟩,hl.push _⟩,λ i v s' Q' E' hP hQ=>?_,λ h' tk hk=>?_⟩
  · obtain ⟨b,e,rfl⟩:=hb.get i v (by simpa using hP);simp only [e,Option.getD_some] at hQ;exact wpAny_truthy_bool hQ
  · have e:((List.range its.toArray.size).any λ i=>(bs[i]?).getD false)=bs.any id:=by rw [List.size_toArray,hb.length];exact LSm.range_any bs
    rw [e];exact ⟨.bl _,H,I.kept (LSm.kept_iter hk),rfl,q⟩
theorem cn (hc:X.calm=true):dW X (.builtin "sum") (λ xs H Q=>∃ (p:Addr) (ns:List Int),xs=[.ref p]∧aJ X.K H p (ns.map V.int)∧Q (.int ns.sum) H):=by
  intro pins s σ H xs us Q I r h;obtain ⟨p,ns,rfl,hq,q⟩:=h;obtain ⟨u,rfl,rx⟩:=vals1 r;cases rx;obtain ⟨its,rv,pl,hz⟩:=I.list hq;have hi:IntsAre its ns:=intsAre_of rv;obtain ⟨ys,hx⟩:=hi.allInts.items;have K9:s.heap.IsList p (intItems ys):=hx ▸ pl.isList;refine sum_intListG (I.ok.hd hc) K9 λ h' tk t' hk=>?_;have e1:ns=ys.toList.map (·.1):=by
    rw [← nums_intItems,← hx];exact (show numsOf its.toArray.toList=ns from hi.numsOf).symm
  have e2:preSum (numAt ys) ys.size=ns.sum:=by
    rw [preSum_eq,List.take_of_length_le (by simp),e1]
  rw [e2];exact ⟨.int ns.sum,H,I.kept hk,⟨_,rfl⟩,q⟩
theorem kq:dW X (.builtin "isinstance") (λ xs H Q=>∃ x c t u b,xs=[x,c]∧(RelV c u∧∀ v,RelV c v→v=u)∧bF X.K H x t∧PySem.W.kitOne X.K t u=some b∧Q (.bl b) H):=by
  intro pins s σ H xs us Q I r h;obtain ⟨x,c,t,u,b,rfl,⟨rc,ru⟩,ty,hk,q⟩:=h;obtain ⟨v,w',rfl,rx,QA⟩:=vals2 r;have e:=ru w' QA;subst e;exact wa I rx ty hk λ tk=>⟨.bl b,H,I.tok _,rfl,q⟩
noncomputable def DH (lo c:Int) (n:Nat):It:=⟨λ i _=>i < n,λ i H x H'=>H'=H∧x = .int (lo + i * c),λ i _=>n≤i⟩
theorem qM {P:Program} {w:World} {K:PySem.W.Frag} {tg:Expr} (it:Addr) (lo c:Int) (n:Nat):Turn P w K tg (DH lo c n) [it] it (λ i h=>IsRangeIter h it (lo + (i:Nat) * c) ((n:Int) - (i:Nat)) c) where
  mem:=by simp
  obj:=λ i h st b hb=>by
    have e:b=it:=by simpa using hb
    subst e;exact ⟨_,st,λ v z=>by
      have z':Data.fields _=Data.cell v:=z;cases z'⟩
  keep:=λ i h h' st k=>k it (by simp) _ st
  item:=by
    intro X hP hw hK hc i pins s σ H E I hf st hg;subst hP hw hK;obtain ⟨f0,f1,f2,f3,f4,f5⟩:=hf it (by simp);have W:=Walks.range (prog:=X.prog) (w:=X.w) (I.ok.hd hc) it lo c n;refine W.item i s _ _ hg st λ v h' tk hv aE kk=>?_;obtain ⟨t,rfl⟩:=hv;have I1:Inv X pins σ H { s with heap:=h',toks:=tk }:=I.turned (λ b o hb e=>kk b o (by simpa using hb) e) f0 f1 f3 f4 f5;exact ⟨_,rfl,uM (s:={ s with heap:=h',toks:=tk }) (n:="range_iterator") aE rfl rfl (by decide) ⟨.int (lo + i * c),H,I1,⟨t,rfl⟩,⟨rfl,rfl⟩,aE,λ b hb=>(hf b hb).1⟩⟩
  done:=by
    intro X hP hw hK hc i pins s σ H E I hf st hg;subst hP hw hK;obtain ⟨f0,f1,f2,f3,f4,f5⟩:=hf it (by simp);exact wpAny_pyNext_range_end (I.ok.hd hc) st (by have:n≤i:=hg;omega) λ h' eb=>⟨rfl,I.turned (t':=s.toks) (λ b o hb e=>eb b o hb e) f0 f1 f3 f4 f5⟩
  self:=λ _ _ _ _ _ st h=>wpAny_pyIter_rangeiter st h
noncomputable def steps (a b c:Int):Nat:=(Builtin.Range.rangeSize a b c).toNat
theorem qN {a b c:Int} (ha:-(2 ^ 40)≤a) (DI:a < 2 ^ 40) (hb:-(2 ^ 40)≤b) (n6:b < 2 ^ 40) (hc:0 < c) (k_:c < 2 ^ 40):Builtin.Range.small a b c=true∧0≤Builtin.Range.rangeSize a b c:=by
  unfold Builtin.Range.small;have e:Builtin.Range.rangeSize a b c=if a < b then (b - a - 1) / c + 1 else 0:=by
    unfold Builtin.Range.rangeSize;rw [if_pos hc]
  have q:a < b→0≤(b - a - 1) / c∧(b - a - 1) / c≤b - a - 1:=λ h =>
    ⟨Int.ediv_nonneg (by omega) (by omega),Int.ediv_le_self _ (by omega)⟩
  rw [e];simp only [Builtin.Range.rangeFitsLong,Bool.and_eq_true,Bool.or_eq_true,decide_eq_true_eq,beq_iff_eq,if_pos hc]
  by_cases h:a < b
  · have:=q h;rw [if_pos h];omega
  · rw [if_neg h];omega
noncomputable def G9 (ta:TA):TI:=λ σ H R=>ta σ H λ vs H1=>∃ i j c:Int,vs=[.int i,.int j,.int c]∧(-(2 ^ 40)≤i∧i < 2 ^ 40∧-(2 ^ 40)≤j∧j < 2 ^ 40∧0 < c∧c < 1000000)∧R (DH i c (steps i j c)) H1
theorem wg {tg a b c:Expr} {ta:TA} {p pos:Pos} (hg:Gl X "range") (hm:X.mg "range"=none) (ha:PA X [a,b,c] ta) (hs:starEach [a,b,c] X.env=[(false,eval a X.env),(false,eval b X.env),(false,eval c X.env)]:=by rfl)
    (kL:starEach [b,c] X.env=[(false,eval b X.env),(false,eval c X.env)]:=by rfl):PI X tg (.Call (.Name "range" p) [a,b,c] [] pos) (G9 ta):=by
  intro pins s σ H R I h;refine Call_ (gu I hg hm boot_range (PyProof.Rows.callWith_type1 (bP (ha pos pins s σ H _ I h) λ us s1 ⟨vs,H1,I1,r1,q1⟩=>?_) (by rw [hs,kL]) (by rw [kL];rfl)));obtain ⟨i,j,k,e,⟨q1,q2,q3,q4,q5,q6⟩,q⟩:=q1;subst e;cases r1 with
  | cons r rr =>
    cases rr with
    | cons r' rr =>
      cases rr with
      | cons QB rr =>
        cases rr;obtain ⟨t,rfl⟩:=r;obtain ⟨t',rfl⟩:=r';obtain ⟨Jx,rfl⟩:=QB;obtain ⟨sm,nn⟩:=qN q1 q2 q3 q4 q5 (by lia:k < 2 ^ 40);refine call_range_3 (by lia) ?_ (.inl (PyProof.noPylong_small (by lia)));refine wpAny_pyIter_range (IsRange.new ..) sm ?_;have I2:Inv X pins σ H1 { s1 with heap:=s1.heap.push { cls:=.type "range",data:=.fields #[.int i t,.int j t',.int k Jx] },toks:=s1.toks }:=I1.kept λ b o e=>Heap.get?_push_of_some _ e;refine ⟨(s1.heap.push { cls:=.type "range",data:=.fields #[.int i t,.int j t',.int k Jx] }).objs.size,[(s1.heap.push { cls:=.type "range",data:=.fields #[.int i t,.int j t',.int k Jx] }).objs.size],_,_,H1,rfl,
          I2.kept (t':=s1.toks) λ b o e=>Heap.get?_push_of_some _ e,qM _ i k (steps i j k),?_,λ b hb=>?_,q⟩
        · have e1:i + ((0:Nat):Int) * k=i:=by simp
          have e2:((steps i j k:Nat):Int) - ((0:Nat):Int)=Builtin.Range.rangeSize i j k:=by unfold steps;lia
          show IsRangeIter _ _ (i + ((0:Nat):Int) * k) (((steps i j k:Nat):Int) - ((0:Nat):Int)) k;rw [e1,e2];exact Heap.get?_push_size _ rfl
        · have e:b=(s1.heap.push { cls:=.type "range",data:=.fields #[.int i t,.int j t',.int k Jx] }).objs.size:=by simpa using hb
          subst e;exact I2.mY (Nat.le_refl _) (I2.bH.fresh (Nat.le_refl _))
noncomputable def K_ (K:PySem.W.Frag) (a b:Addr):It :=
  ⟨λ i H=>∃ xs ys x y,aJ K H a xs∧aJ K H b ys∧xs[i]?=some x∧ys[i]?=some y,
   λ i H v H'=>∃ T x y,H T=none∧v = .ref T∧H'=upd H T (.tup [x,y])∧(∀ xs,aJ K H a xs→xs[i]?=some x)∧∀ ys,aJ K H b ys→ys[i]?=some y,
   λ i H=>∃ xs ys,aJ K H a xs∧aJ K H b ys∧(xs.length≤i∨ys.length≤i)⟩
theorem yv {P:Program} {w:World} {K:PySem.W.Frag} {es:List Expr} {k:Nat} {tp:Pos} {z TI TO i1 i2:Addr} (a b:Addr) (D:ZipApart z TI TO i1 i2 a b) :
    Turn P w K (.Tuple es k tp) (K_ K a b) [z,TI,TO,i1,i2] z (λ i h=>IsZip h z TI TO .none∧IsPair h TI (.ref i1) (.ref i2)∧(∃ u v,IsPair h TO u v)∧h.IsListIter i1 a i∧h.IsListIter i2 b i) where
  mem:=by simp
  obj:=λ i h st c hc=>by
    obtain ⟨hz,yw,⟨u,v,Ao⟩,⟨o1,e1,c1,d1⟩,⟨o2,e2,c2,d2⟩⟩:=st;simp only [List.mem_cons,List.not_mem_nil,or_false] at hc;rcases hc with rfl | rfl | rfl | rfl | rfl
    · exact ⟨_,hz,λ v q=>by have q':Data.fields _=Data.cell v:=q;cases q'⟩
    · exact ⟨_,yw,λ v q=>by have q':Data.seq _ _=Data.cell v:=q;cases q'⟩
    · exact ⟨_,Ao,λ v q=>by have q':Data.seq _ _=Data.cell v:=q;cases q'⟩
    · exact ⟨o1,e1,λ v q=>by rw [d1] at q;cases q⟩
    · exact ⟨o2,e2,λ v q=>by rw [d2] at q;cases q⟩
  keep:=λ i h h' st k=>by
    obtain ⟨hz,yw,⟨u,v,Ao⟩,h1,h2⟩:=st;exact ⟨k z (by simp) _ hz,k TI (by simp) _ yw,⟨u,v,k TO (by simp) _ Ao⟩,h1.at λ o e=>k i1 (by simp) o e,h2.at λ o e=>k i2 (by simp) o e⟩
  item:=by
    intro X hP hw hK hc i pins s σ H E I hf st hg;subst hP hw hK;obtain ⟨hz,yw,⟨u,v,Ao⟩,h1,h2⟩:=st;obtain ⟨xs,ys,x,y,qa,qb,hx,hy⟩:=hg;obtain ⟨its,rv,pl,G_⟩:=I.list qa;obtain ⟨qO,nJ,E8,Ha⟩:=I.list qb;obtain ⟨ux,La,Lb⟩:=rv.get hx;obtain ⟨uy,QC,QD⟩:=nJ.get hy;refine wpAny_pyNext_zip_item D hz yw Ao h1 h2 pl.isList E8.isList (x:=ux) (y:=uy) (by simpa using La) (by simpa using QC) λ h' a1 a2 a3 a4 a5 a6 hk=>?_;have uZ:∀ b,b∉[z,TI,TO,i1,i2]→b≠z∧b≠TO∧b≠i1∧b≠i2:=λ b hb=>by
      simp only [List.mem_cons,List.not_mem_nil,or_false,not_or] at hb;exact ⟨hb.1,hb.2.2.1,hb.2.2.2.1,hb.2.2.2.2⟩
    have I1:Inv X pins σ H { s with heap:=h',toks:=s.toks }:=I.h9 (its:=[z,TI,TO,i1,i2]) (λ b o hb e=>hk b o (uZ b hb).1 (uZ b hb).2.1 (uZ b hb).2.2.1 (uZ b hb).2.2.2 e) hf;have Jy:H s.heap.objs.size=none:=I.bH.fresh (Nat.le_refl _);refine ⟨.ref s.heap.objs.size,rfl,wpAny_letOwnedTupleGo_zip a1 λ qp Jz eE=>?_⟩;have Lc:s.heap.objs.size≠z:=Nat.ne_of_gt (Heap.lt_size hz);have I2:Inv X pins σ H { s with heap:=qp,toks:=s.toks }:=I1.h9 (its:=[z,TI,TO,i1,i2]) (λ b o hb e=>eE.extBut b o (uZ b hb).1 e) hf;have n8:IsPair qp s.heap.objs.size ux uy:=eE.extBut _ _ Lc a5;refine ⟨.ref s.heap.objs.size,upd H s.heap.objs.size (.tup [x,y]),?_,rfl,⟨_,x,y,Jy,rfl,rfl,λ E9 q=>by rw [I.je q qa];exact hx,λ QE q=>by rw [I.je q qb];exact hy⟩,
      ⟨Jz,eE.extBut _ _ D.TIz (hk _ _ D.TIz D.TITO D.TIi1 D.TIi2 yw),⟨_,_,eE.extBut _ _ D.TOz a2⟩,a3.extBut eE.extBut D.i1z,a4.extBut eE.extBut D.i2z⟩,λ b hb=>?_⟩
    · -- from s,in one step: UD pair is new there
      have old:∀ b o,b∉[z,TI,TO,i1,i2]→s.heap.get? b=some o→qp.get? b=some o:=λ b o hb e=>eE.extBut b o (uZ b hb).1 (hk b o (uZ b hb).1 (uZ b hb).2.1 (uZ b hb).2.2.1 (uZ b hb).2.2.2 e);have new:bZ X.prog X.w (upd H s.heap.objs.size (.tup [x,y])) qp s.heap.objs.size (.tup [x,y]) :=
        ⟨by show 2≤sizeLine;rw [sizeLine_eq];decide,[ux,uy],.cons Lb (.cons QD .nil),⟨_,n8,rfl,0,rfl⟩⟩
      have xV:∀ b u,H b=some u→b∉[z,TI,TO,i1,i2]:=λ b u e q=>by rw [(hf b q).1] at e;cases e
      have nT:∀ b o,s.heap.get? b=some o→b≠s.heap.objs.size:=λ b o e=>Nat.ne_of_lt (Heap.lt_size e);have nH:∀ b u,H b=some u→b≠s.heap.objs.size:=λ b u e q=>by rw [q,Jy] at e;cases e
      suffices J:Inv X pins σ (upd H s.heap.objs.size (.tup [x,y])) { s with heap:=qp,gens:=s.gens,drawn:=s.drawn,toks:=s.toks } from J
      refine I.step (g':=s.gens) (d':=s.drawn) (t':=s.toks) (ch:=[z,TI,TO,i1,i2]) (λ b hb=>?_) (λ b o _ _ k_ e _=>old b o k_ e) (λ b o _ _ k_ e _=>⟨o.slots,old b o k_ e⟩) (λ b o _ e n=>by rw [aq (nT b o e)];exact n)
        (λ b o k_ e=>⟨o,old b o k_ e⟩) (λ b E9 e=>by rw [aq (nH b _ e)];exact e) (λ b o u' e=>by rw [aq (nH b _ e)];exact e) (λ b ps e=>⟨#[],by rw [aq (nH b _ e),e];simp⟩) (λ m hm=>?_) (λ b u' e=>?_) I.bare
      · obtain ⟨_,f1,_,f3,f4,f5⟩:=hf b hb;exact ⟨f3,f1,f4,f5⟩
      · obtain ⟨o,nF,ep,ho,r⟩:=hm;exact ⟨o,nF,ep,old _ o (λ q=>(hf _ q).2.1 rfl) ho,r⟩
      · by_cases hb:b=s.heap.objs.size
        · subst hb;rw [af] at e;cases e;exact new
        · rw [aq hb] at e;refine (I.bH b u' e).k7 (λ c v' k_ q=>old c v' ?_ q) (λ c q=>by rw [aq (nH c _ q)];exact q) λ c E9 q=>by rw [aq (nH c _ q)];exact q
          rcases k_ with q' | q'
          · rw [q'];exact xV b u' e
          · exact xV c _ q'
    · have n6:b≠s.heap.objs.size:=by
        intro q;have ol:=hf b hb;rw [q] at hb;simp only [List.mem_cons,List.not_mem_nil,or_false] at hb;have l1:=Heap.lt_size hz;have l2:=Heap.lt_size yw;have l3:=Heap.lt_size Ao;obtain ⟨_,l4,_⟩:=h1;obtain ⟨_,l5,_⟩:=h2;have QF:=Heap.lt_size l4;have QG:=Heap.lt_size l5;rcases hb with q | q | q | q | q
        · exact Nat.ne_of_gt l1 q
        · exact Nat.ne_of_gt l2 q
        · exact Nat.ne_of_gt l3 q
        · exact Nat.ne_of_gt QF q
        · exact Nat.ne_of_gt QG q
      rw [aq n6];exact (hf b hb).1
  done:=by
    intro X hP hw hK hc i pins s σ H E I hf st hg;subst hP hw hK;obtain ⟨hz,yw,⟨u,v,Ao⟩,h1,h2⟩:=st;obtain ⟨xs,ys,qa,qb,Hb⟩:=hg;obtain ⟨its,rv,pl,G_⟩:=I.list qa;obtain ⟨qO,nJ,E8,Ha⟩:=I.list qb;have la:=rv.length;have lb:=nJ.length;refine wpAny_pyNext_zip_end (I.ok.hd hc) D hz yw Ao h1 h2 pl.isList E8.isList ?_ λ h' hk=>⟨rfl,?_⟩
    · rcases Hb with q | q
      · exact .inl (by rw [List.getElem?_toArray];exact List.getElem?_eq_none (by lia))
      · exact .inr (by rw [List.getElem?_toArray];exact List.getElem?_eq_none (by lia))
    · refine I.h9 (t':=s.toks) (its:=[z,TI,TO,i1,i2]) (λ b o hb e=>?_) hf;simp only [List.mem_cons,List.not_mem_nil,or_false,not_or] at hb;exact hk b o hb.1 hb.2.2.1 hb.2.2.2.1 hb.2.2.2.2 e
  self:=λ _ _ _ _ _ st h=>wpAny_pyIter_zip st.1 h
theorem wj (n a b:Nat) (ha:a < n) (hb:b < n):ZipApart (n + 4) (n + 2) (n + 3) n (n + 1) a b:=by
  constructor<;>(intro q;have q':@Eq Nat _ _:=q;lia)
noncomputable def Ld (K:PySem.W.Frag) (ta:TA):TI:=λ σ H R=>ta σ H λ vs H1=>∃ a b,vs=[.ref a,.ref b]∧(∃ xs,aJ K H1 a xs)∧(∃ ys,aJ K H1 b ys)∧R (K_ K a b) H1
theorem pF {es:List Expr} {k:Nat} {tp:Pos} {a b:Expr} {ta:TA} {p pos:Pos} (hg:Gl X "zip") (hm:X.mg "zip"=none) (ha:PA X [a,b] ta) (hs:starEach [a,b] X.env=[(false,eval a X.env),(false,eval b X.env)]:=by rfl)
    (kL:starEach [b] X.env=[(false,eval b X.env)]:=by rfl):PI X (.Tuple es k tp) (.Call (.Name "zip" p) [a,b] [] pos) (Ld X.K ta):=by
  intro pins s σ H R I h;refine Call_ (gu I hg hm boot_zip (PyProof.Rows.callWith_type1 (bP (ha pos pins s σ H _ I h) λ us s1 ⟨vs,H1,I1,r1,q1⟩=>?_) (by rw [hs,kL]) (by rw [kL];rfl)));obtain ⟨a,b,e,⟨xs,qa⟩,⟨ys,qb⟩,q⟩:=q1;subst e;cases r1 with
  | cons r rr =>
    cases rr with
    | cons r' rr =>
      cases rr;cases r;cases r';obtain ⟨its,rv,pl,G_⟩:=I1.list qa;obtain ⟨qO,nJ,E8,Ha⟩:=I1.list qb;have la:a < s1.heap.objs.size:=by obtain ⟨_,e,_⟩:=pl.isList;exact Heap.lt_size e
      have lb:b < s1.heap.objs.size:=by obtain ⟨_,e,_⟩:=E8.isList;exact Heap.lt_size e
      have D:ZipApart (s1.heap.objs.size + 4) (s1.heap.objs.size + 2) (s1.heap.objs.size + 3) s1.heap.objs.size (s1.heap.objs.size + 1) a b:=wj _ _ _ la lb;refine call_zip_2 pl.isList E8.isList λ h' hz yw Ao h1 h2 iK hk=>wpAny_pyIter_zip hz ?_;have I2:Inv X pins σ H1 { s1 with heap:=h' }:=I1.kept (t':=s1.toks) hk;refine ⟨s1.heap.objs.size + 4,[s1.heap.objs.size + 4,s1.heap.objs.size + 2,s1.heap.objs.size + 3,s1.heap.objs.size,s1.heap.objs.size + 1],_,_,H1,rfl,I2,yv a b D,⟨hz,yw,⟨_,_,Ao⟩,h1,h2⟩,λ c hc=>?_,q⟩;have kF:s1.heap.objs.size≤c:=by
        simp only [List.mem_cons,List.not_mem_nil,or_false] at hc;rcases hc with rfl | rfl | rfl | rfl | rfl<;>lia
      exact I1.mY kF (I1.bH.fresh kF)
end
noncomputable def C2 (h:Heap) (e:Addr):Prop:=∃ o vs,h.get? e=some o∧o.data = .fields vs∧vs[2]?=some Value.none
noncomputable def HC (B:Heap) (l:List Env) (e:Addr) (k a0 fl:Value) (h:Heap):Prop:=(B.StaysIn h∧B.get? e=none∧h.FunFrames B l∧h.TracedAtW B e k a0 fl)∧C2 h e
theorem HC.tail {B:Heap} {env:Env} {l:List Env} {e:Addr} {k a0 fl:Value} {h:Heap} (x:HC B (env :: l) e k a0 fl h):HC B l e k a0 fl h:=⟨⟨x.1.1,x.1.2.1,x.1.2.2.1.2.2,x.1.2.2.2⟩,x.2⟩
theorem C2.at_ {h h':Heap} {e:Addr} (c:C2 h e) (k:∀ o,h.get? e=some o→h'.get? e=some o):C2 h' e:=by
  obtain ⟨o,vs,h1,h2⟩:=c;exact ⟨o,vs,k o h1,h2⟩
theorem lJ {h:Heap} {T:Addr} {oT:Obj} {ts:Array Value} (hT:h.get? T=some oT) (dT:oT.data = .fields ts) (f:Array Value→Array Value) {b:Addr} {o:Obj} (hb:h.get? b=some o) (nf:∀ vs,o.data≠.fields vs):(h.update T (Obj.mapFields f)).get? b=some o:=by
  have ne:T≠b:=λ q=>by
    rw [q,hb] at hT;cases hT;exact nf ts dT
  exact (Heap.get?_update_other _ _ ne).trans hb
section
variable {M:Model} {A:Around} {E:Value→Shared→Prop} {s:Shared} {B:Heap} {env:Env} {outer l:List Env} {L e:Addr} {k a0 fl:Value} {Q:Unit→Shared→Prop}
theorem AY (x:Option Addr) (hh:HC B l e k a0 fl s.heap) (hQ:∀ h',HC B l e k a0 (x.elim Value.none λ f=>rawInt f) h'→s.heap.UpToSlots h'→Q () { s with heap:=h' }):wpAny M A (setFlight (.ref e) x) Q E s:=by
  obtain ⟨⟨kb,en,ff,oe,vs,T,oT,ts,he,hk,dE,e1,nT,tE,hT,dT,t3⟩,c⟩:=hh;have z3:3 < ts.size:=(Array.getElem?_eq_some_iff.mp t3).1;unfold setFlight;refine wpAny_bind (wpAny_field he dE e1 ?_);rw [if_pos (by simp:(Value.ref T != Value.none)=true)];refine wpAny_setField hT dT z3 (hQ _ ?_ λ b o hb nf=>⟨o.slots,lJ hT dT _ hb nf⟩);have E_:∀ b,b≠T→(s.heap.update T (Obj.mapFields (·.setIfInBounds 3 (x.elim Value.none λ f=>rawInt f)))).get? b=s.heap.get? b:=λ b hb=>Heap.get?_update_other _ _ (Ne.symm hb);refine ⟨⟨λ b o hb=>(E_ b ?_).trans (kb b o hb),en,ff.of_keeps λ b o hb nf=>⟨o,lJ hT dT _ hb nf,rfl⟩,
    ⟨oe,vs,T,_,_,(E_ e (Ne.symm tE)).trans he,hk,dE,e1,nT,tE,Heap.get?_update_self _ hT (Obj.isFreed_of_fields (Obj.data_mapFields dT _)),Obj.data_mapFields dT _,by simp [z3]⟩⟩,c.at_ λ o q=>(E_ e (Ne.symm tE)).trans q⟩
  rintro rfl;rw [nT] at hb;cases hb
theorem DJ {oe:Obj} {vs:Array Value} {hd:Value} {hn:Bool} (tM:A.frames=some (env :: outer)) (hf:env.frame=some L) (kb:B.StaysIn s.heap) (en:B.get? e=none) (ff:s.heap.FunFrames B (env :: outer))
    (he:s.heap.get? e=some oe) (dE:oe.data = .fields vs) (z0:vs[0]?=some a0) (z2:vs[2]?=some Value.none) (hQ:∀ h',HC B (env :: outer) e oe.cls a0 (rawInt L) h'→s.heap.UpToSlots h'→Q () { s with heap:=h' }) :
    wpAny M A (do let a ← frameOf env;let pl ← entryPlaceOf L hn;let b ← EntryCells.newEntry hd a .none (rawInt L) .none pl;setField (.ref e) 1 b) Q E s:=by
  have QH:e∉(env :: outer).filterMap (·.frame):=λ m=>by
    obtain ⟨_,o,q,d⟩:=ff.mem m;rw [he] at q;cases q;exact d vs dE
  refine wpAny_bind (wpAny_frameOf_fun tM ff hf λ g sg=>wpAny_bind (wpAny_entryPlaceOf λ pl gk=>?_));have zs:2 < vs.size:=(Array.getElem?_eq_some_iff.mp z2).1;unfold EntryCells.newEntry newFields;refine wpAny_bind (wpAny_newObj_type ?_ (gk.sizeOk5 _ _ _ _ _));have NZ:([hd,Value.ref L,Value.none,rawInt L,Value.none] ++ (if pl.isEmpty then List.replicate 6 Value.none else pl)).toArray[3]?=some (rawInt L):=by
    simp
  dsimp only;generalize ([hd,Value.ref L,Value.none,rawInt L,Value.none] ++ (if pl.isEmpty then List.replicate 6 Value.none else pl)).toArray=ts at NZ ⊢;have ge:g.get? e=some oe:=(sg.2.1 e QH).trans he;have gT:g.objs.size≠e:=Nat.ne_of_gt (Heap.lt_size ge);have gB:B.StaysIn g:=λ b o q=>(sg.2.1 b λ m=>by rw [(ff.mem m).1] at q;cases q).trans (kb b o q);refine wpAny_setField (Heap.get?_push_of_some _ ge) dE (by lia) (hQ _ ?_ λ b o hb nf=>?_)
  · have keep:∀ b o,b≠e→g.get? b=some o→((g.push { cls:=.type "traceback",dict:=none,data:=.fields ts }).update e (Obj.mapFields (·.setIfInBounds 1 (Value.ref g.objs.size)))).get? b=some o:=λ b o hb q =>
      (Heap.get?_update_other _ _ (Ne.symm hb)).trans (Heap.get?_push_of_some _ q)
    have dm:=Obj.data_mapFields dE (·.setIfInBounds 1 (Value.ref g.objs.size));have self:=Heap.get?_update_self (Obj.mapFields (·.setIfInBounds 1 (Value.ref g.objs.size))) (Heap.get?_push_of_some { cls:=.type "traceback",dict:=none,data:=.fields ts } ge) (Obj.isFreed_of_fields dm);refine ⟨⟨λ b o q=>keep b o (λ z=>by rw [z,en] at q;cases q) (gB b o q),en,ff.of_keeps λ b o hb nf=>?_,⟨_,_,g.objs.size,{ cls:=.type "traceback",dict:=none,data:=.fields ts },ts,self,⟨Obj.cls_mapFields _ _,?_⟩,dm,?_,gB.fresh,gT,?_,rfl,NZ⟩⟩,⟨_,_,self,dm,?_⟩⟩
    · obtain ⟨sl,q⟩:=sg.2.2 b o hb;refine ⟨_,keep b _ (λ z=>?_) q,rfl⟩;rw [z,he] at hb;cases hb;exact nf vs dE
    · rw [Array.getElem?_setIfInBounds_ne (by decide)];exact z0
    · rw [Array.getElem?_setIfInBounds_self_of_lt (by lia)]
    · exact (Heap.get?_update_other _ _ (Ne.symm gT)).trans (Heap.get?_push_size _ rfl)
    · rw [Array.getElem?_setIfInBounds_ne (by decide)];exact z2
  · obtain ⟨sl,q⟩:=sg.2.2 b o hb;have nb:b≠e:=λ z=>by
      rw [z,he] at hb;cases hb;exact nf vs dE
    exact ⟨sl,(Heap.get?_update_other _ _ (Ne.symm nb)).trans (Heap.get?_push_of_some _ q)⟩
theorem leave_newC {h:Heap} {vs:List Value} (tM:A.frames=some (env :: outer)) (hf:env.frame=some L) (kb:B.StaysIn h) (ff:h.FunFrames B (env :: outer)) (hx:Heap.MadeExcOf h s.heap e k vs)
    (hQ:∀ h' t,HC B outer e k (.ref t) .none h'→s.heap.UpToSlots h'→Q () { s with heap:=h' }):wpAny M A (leaving env (.ref e)) Q E s:=by
  obtain ⟨t,he,_,_⟩:=hx.there;have en:B.get? e=none:=PySem.W.fresh_of_stays kb hx.new;unfold leaving;refine wpAny_bind ?_;unfold noteFrame;simp only [hf];refine wpAny_bind (wpAny_field he rfl (x:=Value.none) rfl ?_);rw [if_neg (by decide)];exact DJ (a0:=.ref t) tM hf (λ b o q=>hx.keeps b o (kb b o q)) en (ff.of_keeps λ b o q _=>⟨o,hx.keeps b o q,rfl⟩) he rfl rfl rfl λ h1 x1 u1 =>
    AY (s:={ s with heap:=h1 }) none x1 λ h2 x2 u2=>hQ h2 t x2.tail (u1.trans u2)
end
theorem bZ.ex {P:Program} {w:World} {H:Hp} {h:Heap} {a:Addr} {o:HO} (x:bZ P w H h a o):∃ ob,h.get? a=some ob:=by
  cases o with
  | lst xs=>obtain ⟨_,_,_,_,e⟩:=x;exact ⟨_,e⟩
  | tup xs=>obtain ⟨_,_,_,ob,e,_⟩:=x;exact ⟨ob,e⟩
  | dK bE=>obtain ⟨_,_,_,_,o,_,_,e,_⟩:=x;exact ⟨o,e⟩
  | dT bE=>obtain ⟨_,_,_,_,o,_,_,e,_⟩:=x;exact ⟨o,e⟩
  | set S n=>obtain ⟨o,_,_,_,e,_⟩:=x;exact ⟨o,e⟩
  | ins C dx fs=>obtain ⟨_,_,_,e,_⟩:=x;exact ⟨_,e⟩
  | own y=>exact x
  | xd fs=>obtain ⟨_,⟨o,_,_,e,_⟩,_⟩:=x;exact ⟨o,e⟩
  | Jh lo hi=>obtain ⟨_,_,_,e⟩:=x;exact ⟨_,e⟩
  | iD ob u=>obtain ⟨e,_⟩:=x;exact ⟨_,e⟩
  | gj ps=>exact ⟨_,(show h.get? a=some _ from x)⟩
  | met f y=>exact ⟨_,(show h.get? a=some _ from x)⟩
  | ext φ=>obtain ⟨_,e,_⟩:=x;exact e
structure N0 (P:Program) (w:World) (outer:List Env) (H:Hp) (s:Shared) (C:Addr) (e:Value) (H':Hp) (s':Shared):Prop where
  os:s'.os=s.os
  bare:AllBare s'.gens
  un:Un (mQ outer) [] H H' s.heap s'.heap
  bH:jd P w H' s'.heap
  fl:∃ (ea t:Addr) (B:Heap),e = .ref ea∧HC B outer ea (.ref C) (.ref t) .none s'.heap∧(∀ b o,s.heap.get? b=some o→b∉mQ outer→∃ o',B.get? b=some o') ∧
    ∀ b u,H' b=some u→∃ o,B.get? b=some o
noncomputable abbrev sM (P:Program) (w:World):xC:=λ outer H s E e s'=>∃ C H',N0 P w outer H s C e H' s'∧E (.ref C) none H'
section
variable {X:Cx} {M:Model} {pins:List (Addr×Obj)} {σ:St} {H H':Hp} {s s':Shared} {C:Addr} {Q:Unit→Shared→Prop} {E':Value→Shared→Prop}
theorem Inv.qP (I:Inv X pins σ H s) {b:Addr} {o:Obj} (e:X.s₀.heap.get? b=some o) (hb:b∉X.fs):b∉mQ X.stack:=λ z=>by
  rcases List.mem_cons.mp (I.k8 b z) with q | q
  · exact absurd (Nat.lt_of_lt_of_le (Heap.lt_size e) I.ok.above) (by rw [q];exact Nat.lt_irrefl _)
  · exact hb q
theorem Inv.DK (I:Inv X pins σ H s) {b:Addr} (hb:b∈mQ X.stack):∃ o,s.heap.get? b=some o∧∀ vs,o.data≠.fields vs:=(I.stack.mem hb).2
theorem yx {h':Heap} {e:Addr} {vs:List Value} (I:Inv X pins σ H s) (qy:X.stack=X.env :: X.outer) (tM:X.env.frame=some X.env.locals) (hex:X.ex=[]) (hx:Heap.MadeExcOf s.heap h' e (.ref C) vs)
    (hQ:∀ qp,N0 X.prog X.w X.outer X.H₀ X.s₀ C (.ref e) H { s with heap:=qp }→Q () { s with heap:=qp }):wpAny M X.A (leaving X.env (.ref e)) Q E' { s with heap:=h' }:=by
  have Le:X.A.frames=some (X.env :: X.outer):=by rw [← qy];exact I.ok.frames
  have Hc:∀ b:Addr,b∉X.ex:=λ b z=>by rw [hex] at z;cases z
  have sub:∀ b,b∈X.fs→b∈mQ X.stack:=λ b hb=>by
    have n6:b∈X.outer.filterMap (·.frame):=hb;show b∈X.stack.filterMap (·.frame);rw [qy,List.filterMap_cons,tM];exact List.mem_cons_of_mem _ n6
  have Lf:(PySem.W.hideAll s.heap (mQ X.stack)).StaysIn s.heap:=λ b o q=>PySem.W.of_hideAll _ q;have hl:s.heap.FunFrames (PySem.W.hideAll s.heap (mQ X.stack)) (X.env :: X.outer):=by
    rw [← qy];exact PySem.W.funFrames_hide I.stack λ env he a ha=>List.mem_filterMap.mpr ⟨env,he,ha⟩
  refine leave_newC (s:={ s with heap:=h' }) Le tM Lf hl hx λ qp t fl ups=>hQ qp ?_;have DL:∀ b o,s.heap.get? b=some o→b∉mQ X.stack→qp.get? b=some o:=λ b o q n=>fl.1.1 b o (PySem.W.hideAll_get _ q n);have toS:∀ b o,s.heap.get? b=some o→b∈mQ X.stack→∃ sl,qp.get? b=some { o with slots:=sl }:=λ b o q m=>by
    obtain ⟨o',q',d⟩:=I.DK m;rw [q] at q';cases q';exact ups b o (hx.keeps b o q) d
  have B8:∀ b u,H b=some u→b∉mQ X.stack:=λ b u q m=>by rw [I.oX b m] at q;cases q
  refine ⟨I.os,I.bare,⟨λ b o q n hb _=>?_,λ b o q n hb _=>?_,λ b o q n _=>I.base.free b o q n (Hc b),λ b o q _=>?_,I.base.oW,I.base.mU,I.base.mV⟩,λ b u q=>?_,e,t,_,rfl,fl,λ b o q hb=>?_,λ b u q=>?_⟩
  · exact DL b o (I.base.keep b o q n hb (Hc b)) (I.qP q hb)
  · obtain ⟨sl,q1⟩:=I.base.slot b o q n hb (Hc b);obtain ⟨Kg,q2⟩:=toS b _ q1 (sub b hb);exact ⟨Kg,q2⟩
  · obtain ⟨o',q1⟩:=I.base.there b o q (Hc b)
    by_cases m:b∈mQ X.stack
    · obtain ⟨sl,q2⟩:=toS b o' q1 m;exact ⟨_,q2⟩
    · exact ⟨o',DL b o' q1 m⟩
  · refine (I.bH b u q).k7 (λ c v hc r=>DL c v r ?_) (λ _ r=>r) λ _ _ r=>r;rcases hc with z | z
    · rw [z];exact B8 b u q
    · exact B8 c _ z
  · obtain ⟨o',q1⟩:=I.base.there b o q (Hc b);exact ⟨o',PySem.W.hideAll_get _ q1 (I.qP q hb)⟩
  · obtain ⟨ob,q1⟩:=(I.bH b u q).ex;exact ⟨ob,PySem.W.hideAll_get _ q1 (B8 b u q)⟩
end
noncomputable def Raises (X:Cx) (C:Addr) (E:XK):Prop:=∀ (pins:List (Addr×Obj)) (σ:St) (H:Hp) (s:Shared) (h':Heap) (e:Addr) (vs:List Value),Inv X pins σ H s→Heap.MadeExcOf s.heap h' e (.ref C) vs→E (.ref C) none H→X.xe (.ref e) { s with heap:=h' }
theorem pG {P:Program} {w:World} {K:PySem.W.Frag} {mg:Str→Option Value} {base:Heap} {N:List Str} {qual:Str} {scope:Scope} {f:Addr} {cd:Value} {A:Around} {outer:List Env} {s:Shared} {H:Hp} {E:XK} {C:Addr} :
    Raises (gm (sM P w) P w K mg base N qual scope f cd A outer s H E) C E:=by
  intro pins σ H1 s1 h' e vs I hx q;exact yx (X:=gm (sM P w) P w K mg base N qual scope f cd A outer s H E) I rfl rfl rfl hx λ qp F'=>⟨C,H1,F',q⟩
theorem AZ {K:PySem.W.Frag} {h:Heap} {C:Addr} {Hd:List Value} {newId:String} (X:K.In h) (q:PySem.W.excIn K C Hd newId=true) :
    ∃ bm N nm qn bs hdct sn sub ab col dd k0 k1 k2 k3 k5 mN,h.get? C=some (excClassObj nm qn C N bs bm hdct sn sub ab col dd k0 k1 k2 k3 k5 newId)∧h.Ns N mN∧mN "__init__"=none∧OwnTail h Hd bm:=by
  unfold PySem.W.excIn at q;split at q
  · rename_i dd cd sl ho
    split at q
    · rename_i C' bm k0 k1 k2 k3 n k5 hm hs
      simp only [Bool.and_eq_true,beq_iff_eq,Bool.not_eq_true'] at q;obtain ⟨⟨⟨⟨⟨rfl,rfl⟩,He⟩,ht⟩,bH⟩,JA⟩:=q;obtain ⟨nm,bs,mro,ns,qn,hd,sn,sub,ab,col,del⟩:=cd;dsimp only at hm He bH JA;subst hm He;have QI:sl = #[k0,k1,k2,k3,some (.builtin n),k5]:=by
        obtain ⟨l⟩:=sl;simp only at hs;rw [hs]
      subst QI;exact ⟨bm,ns,nm,qn,bs,hd,sn,sub,ab,col,dd,k0,k1,k2,k3,k5,_,X _ _ ho,.of_isNs (PySem.W.isNs_of_in X bH),PySem.W.nsMap_none_of_in X bH JA,PySem.W.tail_of_in X ht⟩
    · cases q
  · cases q
section
variable {X:Cx} {C:Addr} {Hd:List Value} {B newId DM:String} {x:Str} {np jk pos:Pos} {e:Expr} {es:List Expr} {t:TA} {E:XK}
theorem yz (FB:ExcBaseFacts B newId DM Hd) (hx:PySem.W.excIn X.K C Hd newId=true) (hc:X.calm=true) (hg:Gl X x) (hm:X.mg x=some (.ref C)) (ha:PA X (e :: es) t) (hR:Raises X C E)
    (hd:(x == ("__debug__":Str))=false:=by decide) (he:starEach (e :: es) X.env=(false,eval e X.env) :: starEach es X.env:=by rfl) (gk:(backTo jk (starEach es X.env)).any (·.1)=false:=by rfl) :
    PS X (.Raise (some (.Call (.Name x np) (e :: es) [] jk)) none pos) (λ _ σ H=>t σ H λ vs H1=>vs.length≤sizeLine∧E (.ref C) none H1):=by
  intro pins s σ H D I h;obtain ⟨tl,N,nm,q,bs,hdct,sn,sub,ab,col,dd,k0,k1,k2,k3,k5,mN,hC,hN,JA,T⟩:=AZ (h:=X.base) I.mod.Df hx;refine wpAny_Raise_call_subT (C:=C) (nm:=nm) (q:=q) (N:=N) (bs:=bs) (bm:=tl) (hdct:=hdct) (sn:=sn) (sub:=sub) (ab:=ab) (col:=col) (dd:=dd) (k0:=k0) (k1:=k1) (k2:=k2) (k3:=k3) (k5:=k5)
    FB (mN:=mN) (T.hasType FB.hasBase) (I.ok.hd hc) (by rw [he];show (false || (backTo jk (starEach es X.env)).any (·.1))=false;rw [gk];rfl) JA (kH I hg hm ⟨rfl,?_⟩ hd)
  have h0:=bP (ha jk pins s σ H _ I h) (Q':=λ vs s₂=>vs.length≤sizeLine∧(∀ b o,X.base.get? b=some o→s₂.heap.get? b=some o)∧∀ h' e,Heap.MadeExcOf s₂.heap h' e (.ref C) vs→X.xe (.ref e) { s₂ with heap:=h' })
    λ us s1 ⟨vs,H1,I1,r1,q1,q2⟩=>⟨by rw [← r1.length];exact q1,I1.bk,λ h' e vZ=>hR pins σ H1 s1 h' e us I1 vZ q2⟩
  rw [he] at h0 ⊢;exact Calls.evalArgs_plain (wpAny_mono h0 (λ vs s₂ h₂=>⟨rfl,h₂.1,h₂.2.1 _ _ hC,hN.keeps h₂.2.1,T.keeps h₂.2.1,h₂.2.2⟩) λ _ _ y=>y)
end
theorem uX.Fb {P:Program} {w:World} {K:PySem.W.Frag} {mg:Str→Option Value} {base:Heap} {x qual:Str} {st:Stmt} {f:Addr} {fd:FuncData} {N ps:List Str} {k:Nat} {sp:Sp} (F:uX K x qual st f fd) (S:az N ps (ao st)) (len:∀ vs H Q E,sp vs H Q E→vs.length=ps.length)
    (cS:∀ (bM:Value) (A:Around) (outer:List Env) (s:Shared) (H:Hp) (vs:List V) (Q:VK) (E:XK),bc k (A.deeper (envOfC qual (ao st) s.heap.objs.size f bM))→sp vs H Q E →
      ∃ t,jM (gm (sM P w) P w K mg base N qual (ao st) f bM A outer s H E) (bQ st) t∧t { nx:=λ _ H'=>Q .cc H',rt:=Q } (start N vs) H):fA P w K mg base (sM P w) (k + 1) f fd ps sp:=by
  obtain ⟨oc,od,kV,doc,pm,an,bM,ct,nV,rfl,lk,sL⟩:=F.ex;exact yg lk sL S len λ A outer s H vs Q E hr An=>cS bM A outer s H vs Q E hr An
noncomputable def A0 (X:Cx) (H:Hp) (n:Nat) (x y:V) (b:Bool):Prop :=
  ∀ (pins:List (Addr×Obj)) (σ:St) (s:Shared) (u v:Value) (A:Around),Inv X pins σ H s→RelV x u→RelV y v→A.units + n < cLine→SeqAt.EqAt A s u v b
section
variable {X:Cx} {H:Hp}
theorem qQ {x y:V} (fx:eB x=true) (fy:eB y=true):A0 X H 0 x y (uW x y):=λ _ _ _ _ _ _ _ rx ry _=>yj rx ry fx fy
theorem A0.mono {m n:Nat} {x y:V} {b:Bool} (h:A0 X H m x y b) (hn:m≤n):A0 X H n x y b:=λ pins σ s u v A I rx ry hu=>h pins σ s u v A I rx ry (by lia)
theorem A3 {n:Nat} {a b:Addr} {xs ys:List V} {e:Nat→Bool} (ha:b_ X.K H a xs) (hb:b_ X.K H b ys) (hl:xs.length=ys.length) (hs:a=b→∀ j,j < xs.length→e j=true)
    (he:∀ j x y,xs[j]?=some x→ys[j]?=some y→A0 X H n x y (e j)):A0 X H (n + 1) (.ref a) (.ref b) ((List.range xs.length).all e):=by
  intro pins σ s u v A I rx ry hu;cases rx;cases ry;obtain ⟨its,r,p,hz⟩:=I.tuple ha;obtain ⟨qO,r',p',Jz⟩:=I.tuple hb;have l1:=r.length;have l2:=r'.length
  by_cases Fc:a=b
  · subst Fc;have q:(List.range xs.length).all e=true:=List.all_eq_true.mpr λ j hj=>hs rfl j (List.mem_range.mp hj);rw [q];exact SeqAt.EqAt.same _
  · have R:=SeqAt.RcAt.tuples (A:=A) (e:=e) (show s.heap.IsTuple a its.toArray from p) (show s.heap.IsTuple b qO.toArray from p') (by lia) λ j h1 h2=>by
      have Ck:j < its.length:=by simpa using h1
      have Ap:j < qO.length:=by simpa using h2
      obtain ⟨x,ex⟩:∃ x,xs[j]?=some x:=⟨_,List.getElem?_eq_getElem (by lia)⟩;obtain ⟨y,ey⟩:∃ y,ys[j]?=some y:=⟨_,List.getElem?_eq_getElem (by lia)⟩;obtain ⟨ux,eu,ru⟩:=r.get ex;obtain ⟨uy,ev,rv⟩:=r'.get ey;have e1:its.toArray[j]=ux:=by
        have:=List.getElem?_eq_getElem Ck;rw [eu] at this;simpa using (Option.some.inj this).symm
      have e2:qO.toArray[j]=uy:=by
        have:=List.getElem?_eq_getElem Ap;rw [ev] at this;simpa using (Option.some.inj this).symm
      rw [e1,e2];exact he j x y ex ey pins σ s ux uy A.in1 I ru rv (by show A.units + 1 + n < cLine;lia)
    have q:((List.range (min its.toArray.size qO.toArray.size)).all e && its.toArray.size == qO.toArray.size)=(List.range xs.length).all e:=by
      have s1:its.toArray.size=xs.length:=by simp [l1]
      have s2:qO.toArray.size=xs.length:=by simp [← l2,hl]
      rw [s1,s2,Nat.min_self,beq_self_eq_true,Bool.and_true]
    rw [q] at R;exact .of_refs Fc R
theorem n9 {pins:List (Addr×Obj)} {σ:St} {s:Shared} {n:Nat} {xs ys:List V} {its qO:List Value} {A:Around} {e:Nat→Bool} (I:Inv X pins σ H s) (r:Vals xs its) (r':Vals ys qO) (hu:A.units + 1 + n < cLine)
    (he:∀ j x y,xs[j]?=some x→ys[j]?=some y→A0 X H n x y (e j)):∀ j (h1:j < its.toArray.size) (h2:j < qO.toArray.size),SeqAt.EqAt A.in1 s its.toArray[j] qO.toArray[j] (e j):=λ j h1 h2=>by
  have l1:=r.length;have l2:=r'.length;have Ck:j < its.length:=by simpa using h1
  have Ap:j < qO.length:=by simpa using h2
  obtain ⟨x,ex⟩:∃ x,xs[j]?=some x:=⟨_,List.getElem?_eq_getElem (by lia)⟩;obtain ⟨y,ey⟩:∃ y,ys[j]?=some y:=⟨_,List.getElem?_eq_getElem (by lia)⟩;obtain ⟨ux,eu,ru⟩:=r.get ex;obtain ⟨uy,ev,rv⟩:=r'.get ey;have e1:its.toArray[j]=ux:=by
    have:=List.getElem?_eq_getElem Ck;rw [eu] at this;simpa using (Option.some.inj this).symm
  have e2:qO.toArray[j]=uy:=by
    have:=List.getElem?_eq_getElem Ap;rw [ev] at this;simpa using (Option.some.inj this).symm
  rw [e1,e2];exact he j x y ex ey pins σ s ux uy A.in1 I ru rv (by show A.units + 1 + n < cLine;lia)
noncomputable def DN (X:Cx) (neg:Bool):R2:=λ x y H Q=>∃ a b xs ys,x = .ref a∧y = .ref b∧aJ X.K H a xs∧aJ X.K H b ys ∧
  ((xs.length=ys.length∧∃ e:Nat→Bool,(∀ j x y,xs[j]?=some x→ys[j]?=some y→A0 X H 8 x y (e j))∧Q (.bl (if neg then !(List.range xs.length).all e else (List.range xs.length).all e)) H) ∨
   (xs.length≠ys.length∧Q (.bl neg) H))
theorem wk (hu:X.A.units + 64 < cLine):iI X (compareOp .Eq) (DN X false):=by
  intro pins s σ H x y v u Q I rx ry h;obtain ⟨a,b,xs,ys,rfl,rfl,ha,hb,h⟩:=h;cases rx;cases ry;obtain ⟨its,r,p,hz⟩:=I.list ha;obtain ⟨qO,r',p',Jz⟩:=I.list hb;have l1:=r.length;have l2:=r'.length;rcases h with ⟨hl,e,he,q⟩ | ⟨hl,q⟩
  · refine SeqAt.eq_listAt (e:=e) p.isList p'.isList (by simp;lia) (by lia) (n9 I r r' (by lia) he) ⟨.bl _,H,I,rfl,?_⟩;have s1:its.toArray.size=xs.length:=by simp [l1]
    rw [s1];exact q
  · exact SeqAt.eq_list_lengthsAt p.isList p'.isList (by simp;lia) (by lia) ⟨.bl false,H,I,rfl,q⟩
theorem n_ (hu:X.A.units + 64 < cLine):iI X (compareOp .NotEq) (DN X true):=by
  intro pins s σ H x y v u Q I rx ry h;obtain ⟨a,b,xs,ys,rfl,rfl,ha,hb,h⟩:=h;cases rx;cases ry;obtain ⟨its,r,p,hz⟩:=I.list ha;obtain ⟨qO,r',p',Jz⟩:=I.list hb;have l1:=r.length;have l2:=r'.length;rcases h with ⟨hl,e,he,q⟩ | ⟨hl,q⟩
  · refine SeqAt.RcNeAt.lists (e:=e) p.isList p'.isList (by simp;lia) (by lia) (n9 I r r' (by lia) he) X.prog X.w _ _ ⟨.bl _,H,I,rfl,?_⟩;have s1:its.toArray.size=xs.length:=by simp [l1]
    rw [s1];exact q
  · exact SeqAt.RcNeAt.lists_lengths p.isList p'.isList (by simp;lia) (by lia) X.prog X.w _ _ ⟨.bl true,H,I,rfl,q⟩
end
noncomputable def FnAt (K:PySem.W.Frag) (mg:Str→Option Value) (x:Str) (st:Stmt) (ps:List Str):Prop:=∃ f fd,mg x=some (.ref f)∧uX K x x st f fd∧Binds K fd ps []
noncomputable def Def (P:Program) (w:World) (K:PySem.W.Frag) (mg:Str→Option Value) (base:Heap) (CX:xC) (k:Nat) (x:Str) (ps:List Str) (sp:Sp):Prop :=
  ∃ f fd,mg x=some (.ref f)∧PySem.W.keepIn K (.ref f)=true∧Binds K fd ps []∧fA P w K mg base CX k f fd ps sp
section
variable {P:Program} {w:World} {K:PySem.W.Frag} {mg:Str→Option Value} {base:Heap} {x:Str} {st:Stmt} {N ps:List Str} {k:Nat} {sp:Sp}
theorem FnAt.ok (D:FnAt K mg x st ps) (S:az N ps (ao st)) (len:∀ vs H Q E,sp vs H Q E→vs.length=ps.length)
    (cS:∀ (f:Addr) (bM:Value) (A:Around) (outer:List Env) (s:Shared) (H:Hp) (vs:List V) (Q:VK) (E:XK),bc k (A.deeper (envOfC x (ao st) s.heap.objs.size f bM))→sp vs H Q E →
      ∃ t,jM (gm bN P w K mg base N x (ao st) f bM A outer s H E).B_ (bQ st) t∧t { nx:=λ _ H'=>Q .cc H',rt:=Q } (start N vs) H):Def P w K mg base bN (k + 1) x ps sp:=by
  obtain ⟨f,fd,hm,F,b⟩:=D;exact ⟨f,fd,hm,F.kp,b,F.ok S len (cS f)⟩
theorem FnAt.Fb (D:FnAt K mg x st ps) (S:az N ps (ao st)) (len:∀ vs H Q E,sp vs H Q E→vs.length=ps.length)
    (cS:∀ (f:Addr) (bM:Value) (A:Around) (outer:List Env) (s:Shared) (H:Hp) (vs:List V) (Q:VK) (E:XK),bc k (A.deeper (envOfC x (ao st) s.heap.objs.size f bM))→sp vs H Q E →
      ∃ t,jM (gm (sM P w) P w K mg base N x (ao st) f bM A outer s H E) (bQ st) t∧t { nx:=λ _ H'=>Q .cc H',rt:=Q } (start N vs) H):Def P w K mg base (sM P w) (k + 1) x ps sp:=by
  obtain ⟨f,fd,hm,F,b⟩:=D;exact ⟨f,fd,hm,F.kp,b,F.Fb S len (cS f)⟩
end
section
variable {X:Cx} {CX:xC} {k:Nat} {x:Str} {ps:List Str} {sp:Sp} {E:XK} {p pos:Pos} {e:Expr} {es:List Expr} {t:TA}
theorem au (D:Def X.prog X.w X.K X.mg X.base CX k x ps sp) (hr:bc k X.A) (hg:Gl X x) (hx:Passes CX X E) (ha:PA X (e :: es) t) (yc:(x == ("__debug__":Str))=false:=by decide)
    (he:starEach (e :: es) X.env=(false,eval e X.env) :: starEach es X.env:=by rfl) (gk:(backTo pos (starEach es X.env)).any (·.1)=false:=by rfl):PE X (.Call (.Name x p) (e :: es) [] pos) (Cd sp [] E t):=by
  obtain ⟨f,fd,hm,kp,b,F⟩:=D;exact AO F hr hg hm kp b .nil hx ha yc he gk
end
theorem df {c A B:Prop} [Decidable c] (h:¬ c) (b:B):if c then A else B:=by rw [if_neg h];exact b
theorem fE {c A B:Prop} [Decidable c] (h:c) (a:A):if c then A else B:=by rw [if_pos h];exact a
theorem wm {K:PySem.W.Frag} {a:Addr} {xs:List V} {g:TG} {tt:TT} {te:TE} {R:Hp→Prop} {H1:Hp} {σ0:St} {D:Addr} (Pv:Nat→List V→St→Hp→Prop) (hl:∀ i ys σ H,i≤xs.length→Pv i ys σ H→aJ K H a xs) (h0:Pv 0 [] σ0 (upd H1 D (.lst [])))
    (hs:∀ i x ys σ H,xs[i]?=some x→Pv i ys σ H→g x σ H λ σ3 H3=>tt σ3 H3 λ b H4=>if b=true then te σ3 H4 λ y H5=>H5 D=some (.lst ys)∧ys.length < sizeLine∧Pv (i + 1) (ys ++ [y]) σ3 (upd H5 D (.lst (ys ++ [y]))) else Pv (i + 1) ys σ3 H4)
    (hq:∀ ys σ H,Pv xs.length ys σ H→R H) :
    ∃ W:Nat→Nat→List V→St→Hp→Prop,(∃ m,W 0 m [] σ0 (upd H1 D (.lst [])))∧∀ i m ys σ' H',W i m ys σ' H' →
      ((E4 K a).stop i H'∧R H')∨((E4 K a).go i H'∧∃ N:List V→St→Hp→Prop,(∀ zs σ2 H2,N zs σ2 H2→∃ m',m' < m∧W (i + 1) m' zs σ2 H2)∧∀ x H2,(E4 K a).nK i H' x H2→g x σ' H2 λ σ3 H3=>tt σ3 H3 λ b H4 =>
        if b=true then te σ3 H4 λ y H5=>H5 D=some (.lst ys)∧ys.length < sizeLine∧N (ys ++ [y]) σ3 (upd H5 D (.lst (ys ++ [y])))
        else N ys σ3 H4):=by
  refine ⟨λ i m ys σ H=>m=xs.length - i∧i≤xs.length∧Pv i ys σ H,⟨xs.length,by simp,Nat.zero_le _,h0⟩,?_⟩;rintro i m ys σ H ⟨rfl,hi,p⟩;have q2:=hl i ys σ H hi p
  by_cases dg:i < xs.length
  · refine .inr ⟨⟨xs,xs[i],q2,by simp [dg]⟩,Pv (i + 1),λ zs σ2 H2 p'=>⟨xs.length - (i + 1),by lia,rfl,dg,p'⟩,λ x H2 y=>?_⟩;obtain ⟨e,y⟩:=y;subst e;exact hs i x ys σ _ (y xs q2) p
  · have e:i=xs.length:=by lia
    subst e;exact .inl ⟨⟨xs,q2,Nat.le_refl _⟩,hq ys σ H p⟩
end L2
namespace Sp
open PySem L2
noncomputable def top (i:Nat):Stmt:=PySem.Challenge.pw_spantolls_k03_whole_due.main.body.getD i (.Pass ⟨0,0,0,0⟩)
noncomputable abbrev iV:Stmt:=top 6
noncomputable abbrev iW:Stmt:=top 7
noncomputable abbrev fF:Stmt:=top 8
noncomputable abbrev eF:Stmt:=top 9
noncomputable abbrev gH:Stmt:=top 10
noncomputable abbrev dj:Stmt:=top 11
noncomputable abbrev eY:Stmt:=top 12
noncomputable abbrev cZ:Stmt:=top 13
noncomputable abbrev fG:Stmt:=top 14
noncomputable abbrev gJ:Stmt:=top 16
noncomputable abbrev gK:Stmt:=top 17
noncomputable abbrev iX:Stmt:=top 18
noncomputable abbrev tN:Stmt:=top 19
noncomputable abbrev jT:Stmt:=top 20
noncomputable abbrev gM:Stmt:=top 21
noncomputable abbrev eZ:Stmt:=top 22
noncomputable abbrev jU:Stmt:=top 23
noncomputable abbrev iY:Stmt:=top 24
noncomputable abbrev jV:Stmt:=top 25
noncomputable abbrev f_:Stmt:=inClass (top 28) 0
noncomputable abbrev gN:Stmt:=inClass (top 29) 0
noncomputable abbrev kr:Stmt:=inClass (top 29) 1
noncomputable abbrev gO:Stmt:=top 33
noncomputable abbrev pH:Stmt:=top 34
noncomputable abbrev gb:Stmt:=inClass (top 35) 0
noncomputable abbrev eR:Stmt:=inClass (top 35) 1
noncomputable abbrev cR:Stmt:=inClass (top 35) 2
noncomputable abbrev cq:Stmt:=inClass (top 35) 3
noncomputable abbrev jl:Stmt:=inClass (top 35) 4
noncomputable abbrev iO:Stmt:=inClass (top 35) 5
noncomputable abbrev gc:Stmt:=inClass (top 35) 6
noncomputable abbrev iP:Stmt:=inClass (top 35) 7
noncomputable abbrev fe:Stmt:=inClass (top 35) 8
noncomputable abbrev lK:Stmt:=top 36
noncomputable abbrev tO:Stmt:=top 37
noncomputable abbrev yA:Stmt:=top 38
noncomputable abbrev eG:Stmt:=top 40
noncomputable abbrev gP:Stmt:=top 41
noncomputable abbrev dQ:Stmt:=top 42
noncomputable abbrev fH:Stmt:=top 43
noncomputable abbrev fJ:Stmt:=top 44
noncomputable abbrev e7:Stmt:=top 45
noncomputable abbrev fK:Stmt:=top 46
noncomputable abbrev fL:Stmt:=top 47
noncomputable abbrev gQ:Stmt:=top 48
noncomputable abbrev gU:Stmt:=top 49
noncomputable abbrev u0:Stmt:=top 50
structure Bl (mg:Str→Option Value):Prop where
  isinstance:mg "isinstance"=none
  int:mg "int"=none
  bool:mg "bool"=none
  list:mg "list"=none
  tuple:mg "tuple"=none
  len:mg "len"=none
  all:mg "all"=none
  any:mg "any"=none
  sum:mg "sum"=none
  zip:mg "zip"=none
  range:mg "range"=none
  max:mg "max"=none
  sorted:mg "sorted"=none
  set:mg "set"=none
  abs:mg "abs"=none
  dict:mg "dict"=none
  enumerate:mg "enumerate"=none
  ValueError:mg "ValueError"=none
  str:mg "str"=none
section
variable {P:Program} {w:World} {K:PySem.W.Frag} {mg:Str→Option Value} {base:Heap}
theorem pI {H:Hp} {v:V} {T:String} (ty:bF K H v (.type T)) :
    PySem.W.kitOne K (.type T) (.type "int")=some (T == "int" || T == "bool")∧PySem.W.kitOne K (.type T) (.type "bool")=some (T == "bool")∧PySem.W.kitOne K (.type T) (.type "list")=some (T == "list")∧PySem.W.kitOne K (.type T) (.type "tuple")=some (T == "tuple"):=by
  cases ty<;>exact ⟨by kernel_rfl,by kernel_rfl,by kernel_rfl,by kernel_rfl⟩
theorem fM {X:Cx} {e:Expr} {te:TE} {T:String} {n:Str} {p1 p2 pos:Pos} (B:X.mg "isinstance"=none) (hT:X.mg n=none) (hb:bootBuiltins n=some (.type T)) (he:PE X e te) (hg:Gl X "isinstance":=by rfl) (Lh:Gl X n:=by rfl)
    (hn:n≠"__name__":=by decide) (hd:(n == ("__debug__":Str))=false:=by decide) (hs:starEach [e,.Name n p2] X.env=(false,eval e X.env) :: starEach [.Name n p2] X.env:=by rfl) (kL:starEach [.Name n p2] X.env=(false,eval (.Name n p2) X.env) :: starEach [] X.env:=by rfl)
    (gk:(backTo pos (starEach [.Name n p2] X.env)).any (·.1)=false:=by rfl) :
    PE X (.Call (.Name "isinstance" p1) [e,.Name n p2] [] pos) (Jt (λ xs H Q=>∃ x t b,xs=[x,.ty T]∧bF X.K H x t∧PySem.W.kitOne X.K t (.type T)=some b∧Q (.bl b) H) (nM te (nM (tC (.ty T)) fc))):=by
  have c:dW X (.builtin "isinstance") (λ xs H Q=>∃ x t b,xs=[x,.ty T]∧bF X.K H x t∧PySem.W.kitOne X.K t (.type T)=some b∧Q (.bl b) H):=λ pins s σ H xs us Q I r ⟨x,t,b,e1,ty,k,q⟩ =>
    kq pins s σ H xs us Q I r ⟨x,_,t,.type T,b,e1,⟨rfl,λ _ h=>h⟩,ty,k,q⟩
  exact aB c hg B PyProof.Rows.Boot.«isinstance» (aa he (aa (AD Lh hT hb (show RelV (.ty T) (.type T) from rfl) hn hd) ae kL) hs) (by decide) (by decide) hs gk
theorem yB:az ["value"] ["value"] (ao iV):=dZ
noncomputable def fg (K:PySem.W.Frag):Sp:=λ vs H Q _=>∃ v T,vs=[v]∧bF K H v (.type T)∧Q (.bl (T == "int")) H
theorem yC (B:Bl mg) (D:FnAt K mg "is_whole" iV ["value"]):Def P w K mg base bN 1 "is_whole" ["value"] (fg K):=by
  refine D.ok yB (λ vs H Q E h=>?_) λ f bM A outer s H vs Q E hr h=>?_
  · obtain ⟨v,T,rfl,_⟩:=h;rfl
  · obtain ⟨v,T,rfl,ty,q⟩:=h;refine ⟨_,aj (aH (cp (fM B.isinstance B.int PyProof.Rows.Boot.«int» (pv 0)) (c_ (sW (fM B.isinstance B.bool PyProof.Rows.Boot.«bool» (pv 0)))))),?_⟩;obtain ⟨k1,k2,_⟩:=pI ty;refine ⟨_,rfl,_,_,_,rfl,ty,k1,_,rfl,?_⟩
    by_cases h1:(T == "int" || T == "bool")=true
    · rw [if_pos h1];refine ⟨_,rfl,_,_,_,rfl,ty,k2,_,rfl,?_⟩;have e:(!(T == "bool"))=(T == "int"):=by
        rcases Bool.or_eq_true_iff.mp h1 with z | z
        · rw [beq_iff_eq.mp z];decide
        · rw [beq_iff_eq.mp z];decide
      rw [e];exact q
    · rw [if_neg h1];have e:(T == "int")=false:=(Bool.or_eq_false_iff.mp (Bool.eq_false_iff.mpr h1)).1;rw [e] at q;exact q
noncomputable def ku:V→V→Bool
  | .int i,.int j=>decide (i≤j)
  | _,_=>false
noncomputable def yD:V→Bool
  | .int _=>true
  | _=>false
theorem h_ {H:Hp} {v:V} {t:Value} (ty:bF K H v t):∀ T,t = .type T→yD v=(T == "int"):=by
  intro T e;cases ty<;>first | (cases e;simp [yD];done) | (cases e;done)
theorem A4:az ["first","last"] ["first","last"] (ao iW):=dZ
noncomputable def pJ (K:PySem.W.Frag):Sp:=λ vs H Q _=>∃ v u T S,vs=[v,u]∧bF K H v (.type T)∧bF K H u (.type S)∧Q (.bl (ku v u)) H
theorem A5 (G:Def P w K mg base bN 1 "is_whole" ["value"] (fg K)) (D:FnAt K mg "are_days" iW ["first","last"]):Def P w K mg base bN 2 "are_days" ["first","last"] (pJ K):=by
  refine D.ok A4 (λ vs H Q E h=>?_) λ f bM A outer s H vs Q E hr h=>?_
  · obtain ⟨v,u,T,S,rfl,_⟩:=h;rfl
  · obtain ⟨v,u,T,S,rfl,tv,tu,q⟩:=h;refine ⟨_,aj (aH (cp (au G hr rfl aD (aa (pv 0) ae)) (cp (au G hr rfl aD (aa (pv 1) ae)) (c_ (b8 lr (pv 0) (pv 1) (aR _)))))),?_⟩;refine ⟨_,rfl,v,T,rfl,tv,_,rfl,?_⟩;rw [← h_ tv T rfl];cases v with
    | int i =>
      refine bW ⟨_,rfl,u,S,rfl,tu,_,rfl,?_⟩;rw [← h_ tu S rfl];cases u with
      | int j=>exact bW ⟨_,rfl,_,rfl,_,_,rfl,rfl,q⟩
      | _=>exact bV q
    | _=>exact bV q
noncomputable def iZ (K:PySem.W.Frag) (H:Hp) (v:V):Prop:=(∃ T,T≠"tuple"∧bF K H v (.type T))∨∃ a xs,v = .ref a∧H a=some (.tup xs)∧∀ x∈xs,∃ T,bF K H x (.type T)
noncomputable def m_:V→Bool
  | .int i=>decide (0≤i)
  | _=>false
noncomputable def Cm:List V→Bool
  | [x,y,z]=>ku x y && m_ z
  | _=>false
noncomputable def ng (K:PySem.W.Frag) (H:Hp) (v:V) (b:Bool):Prop:=(b=false∧∃ T,T≠"tuple"∧bF K H v (.type T))∨∃ a xs,v = .ref a∧H a=some (.tup xs)∧b=Cm xs
theorem qR {H:Hp} {a:Addr} {xs:List V} {t:Value} (ty:bF K H (.ref a) t) (ha:H a=some (.tup xs)):∀ {T:String},t = .type T→T = "tuple":=by
  intro T e;cases ty with
  | lst q=>rw [ha] at q;cases q
  | iD q=>rw [ha] at q;cases q
  | tup q=>cases e;rfl
  | dK q=>rw [ha] at q;cases q
  | dT q=>rw [ha] at q;cases q
  | ins q=>rw [ha] at q;cases q
theorem DO:az ["value"] ["value"] (ao fF):=dZ
noncomputable def tP (K:PySem.W.Frag):Sp:=λ vs H Q _=>∃ v,vs=[v]∧iZ K H v∧∀ b,ng K H v b→Q (.bl b) H
theorem DP (B:Bl mg) (GW:Def P w K mg base bN 1 "is_whole" ["value"] (fg K)) (GD:Def P w K mg base bN 2 "are_days" ["first","last"] (pJ K)) (D:FnAt K mg "is_request" fF ["value"]):Def P w K mg base bN 3 "is_request" ["value"] (tP K):=by
  refine D.ok DO (λ vs H Q E h=>?_) λ f bM A outer s H vs Q E hr h=>?_
  · obtain ⟨v,rfl,_⟩:=h;rfl
  · obtain ⟨v,rfl,DQ,q⟩:=h;have de:bc 1 _:=hr.mono (by decide);refine ⟨_,ag (bK (PW.pt (pw_or (bJ (aW (fM B.isinstance B.tuple PyProof.Rows.Boot.«tuple» (pv 0)))) (pw_or1 (bh uR (aB aL (by rfl) B.len PySem.boot_len (aa (pv 0) ae)) ai (aR _))))) (aj (aH b7)) aQ)
      (aj (aH (cp (au GD hr rfl aD (aa (aO cx (pv 0) ai (λ _ _=>rfl)) (aa (aO cx (pv 0) ai (λ _ _=>rfl)) ae)))
        (cp (au GW de rfl aD (aa (aO cx (pv 0) ai (λ _ _=>rfl)) ae)) (c_ (b8 nL (aO cx (pv 0) ai (λ _ _=>rfl)) ai (aR _))))))),?_⟩
    rcases DQ with ⟨T,hT,ty⟩ | ⟨a,xs,rfl,ha,hx⟩
    · refine ⟨_,rfl,_,_,_,rfl,ty,(pI ty).2.2.2,_,rfl,?_⟩;have e:(T == "tuple")=false:=by simpa using hT
      rw [e];exact bW (bW (q false (.inl ⟨rfl,T,hT,ty⟩)))
    · refine ⟨_,rfl,_,_,_,rfl,bF.tup ha,(pI (bF.tup ha)).2.2.2,_,rfl,?_⟩;refine df (by decide) ?_;refine ⟨_,rfl,a,xs,rfl,.inr (b_.of ha),rfl,_,rfl,?_⟩
      by_cases hl:xs.length=3
      · obtain ⟨x,y,z,rfl⟩:∃ x y z,xs=[x,y,z]:=by
          match xs,hl with
          | [x,y,z],_=>exact ⟨x,y,z,rfl⟩
        obtain ⟨T,tx⟩:=hx x (by simp);obtain ⟨S,ty⟩:=hx y (by simp);obtain ⟨R,tz⟩:=hx z (by simp);refine df (by simp) ?_;have Hf:eA [x,y,z] 0=some x:=rfl;have Fd:eA [x,y,z] 1=some y:=rfl;have at2:eA [x,y,z] 2=some z:=rfl;refine ⟨_,rfl,a,_,_,_,rfl,rfl,b_.of ha,Hf,_,rfl,a,_,_,_,rfl,rfl,b_.of ha,Fd,x,y,T,S,rfl,tx,ty,_,rfl,?_⟩;have fin:∀ b,b=(ku x y && m_ z)→Q (.bl b) H:=λ b e=>q b (.inr ⟨a,_,rfl,ha,e⟩);cases hd:ku x y with
        | false=>exact bV (fin false (by rw [hd];rfl))
        | true =>
          refine bW ⟨_,rfl,a,_,_,_,rfl,rfl,b_.of ha,at2,z,R,rfl,tz,_,rfl,?_⟩;rw [← h_ tz R rfl];cases z with
          | int k=>exact bW ⟨_,rfl,a,_,_,_,rfl,rfl,b_.of ha,at2,_,_,rfl,rfl,fin _ (by rw [hd];rfl)⟩
          | _=>exact bV (fin false (by rw [hd];rfl))
      · refine fE (by simp;lia) (q false (.inr ⟨a,xs,rfl,ha,?_⟩))
        match xs,hl with
        | [],_=>rfl
        | [_],_=>rfl
        | [_,_],_=>rfl
        | [_,_,_],h=>exact absurd rfl h
        | _ :: _ :: _ :: _ :: _,_=>rfl
theorem pK {H H':Hp} {v:V} {t:Value} (s:av H H') (ty:bF K H v t):bF K H' v t:=by
  cases ty with
  | cc=>exact .cc
  | bl x=>exact .bl x
  | int i=>exact .int i
  | str x=>exact .str x
  | Ax x=>exact .Ax x
  | lst e=>exact .lst (s _ _ e)
  | iD e=>exact .iD (s _ _ e)
  | tup e=>exact .tup (s _ _ e)
  | dK e=>exact .dK (s _ _ e)
  | dT e=>exact .dT (s _ _ e)
  | ins e cl ha hn v_ hm=>exact .ins (s _ _ e) cl ha hn v_ hm
theorem tQ {H H':Hp} {v:V} (s:av H H') (p:iZ K H v):iZ K H' v:=by
  rcases p with ⟨T,hT,ty⟩ | ⟨a,xs,e,ha,hx⟩
  · exact .inl ⟨T,hT,pK s ty⟩
  · exact .inr ⟨a,xs,e,s _ _ ha,λ x vZ=>let ⟨T,ty⟩:=hx x vZ;⟨T,pK s ty⟩⟩
theorem yE {H H':Hp} {v:V} {b:Bool} (s:av H H') (p:ng K H v b):ng K H' v b:=by
  rcases p with ⟨e,T,hT,ty⟩ | ⟨a,xs,e,ha,hb⟩
  · exact .inl ⟨e,T,hT,pK s ty⟩
  · exact .inr ⟨a,xs,e,s _ _ ha,hb⟩
theorem jm {H:Hp} {v:V} {b c:Bool} (p:ng K H v b) (q:ng K H v c):b=c:=by
  rcases p with ⟨rfl,T,hT,ty⟩ | ⟨a,xs,rfl,ha,rfl⟩<;>rcases q with ⟨rfl,S,hS,tz⟩ | ⟨a',ys,e,DI,rfl⟩
  · rfl
  · subst e;exact absurd (qR ty DI rfl) hT
  · exact absurd (qR tz ha rfl) hS
  · cases e;rw [ha] at DI;cases DI;rfl
theorem wo {H:Hp} {v:V} (p:iZ K H v):∃ b,ng K H v b:=by
  rcases p with ⟨T,hT,ty⟩ | ⟨a,xs,e,ha,hx⟩
  · exact ⟨false,.inl ⟨rfl,T,hT,ty⟩⟩
  · exact ⟨_,.inr ⟨a,xs,e,ha,rfl⟩⟩
theorem qS {H H':Hp} {D:Addr} {o:HO} (s:av H H') (hD:H D=none):av H (upd H' D o):=λ b u e=>by
  rw [aq (ay e hD)];exact s b u e
theorem A6:az ["value"] ["value"] (ao eF):=dZ
noncomputable def kP (K:PySem.W.Frag):Sp:=λ vs H Q _=>∃ v,vs=[v]∧((∃ T,T≠"list"∧bF K H v (.type T)∧Q (.bl false) H) ∨
  ∃ a xs,v = .ref a∧H a=some (.lst xs)∧xs.length≤60000∧(∀ x∈xs,iZ K H x)∧∀ (bs:List Bool) H',av H H'→bs.length=xs.length→(∀ (j:Nat) (b:Bool) (x:V),bs[j]?=some b→xs[j]?=some x→ng K H x b)→Q (.bl (bs.all id)) H')
theorem A7 (B:Bl mg) (GR:Def P w K mg base bN 3 "is_request" ["value"] (tP K)) (D:FnAt K mg "are_requests" eF ["value"]):Def P w K mg base bN 4 "are_requests" ["value"] (kP K):=by
  refine D.ok A6 (λ vs H Q E h=>?_) λ f bM A outer s H vs Q E hr h=>?_
  · obtain ⟨v,rfl,_⟩:=h;rfl
  · obtain ⟨v,rfl,h⟩:=h;refine ⟨_,aj (aH (cp (fM B.isinstance B.list PyProof.Rows.Boot.«list» (pv 0)) (c_ (aB (bT rfl) (by rfl) B.all PyProof.Rows.Boot.«all» (aa
      (bC ["request"] [] rfl (aY (pv 0)) λ cl s H fp C=>⟨aV (i:=0) (show (["request"]:List Str).Nodup by decide +kernel) rfl (Or.inl rfl),br,au GR hr rfl aD (aa (pv 0) ae)⟩) ae))))),?_⟩
    rcases h with ⟨T,hT,ty,q⟩ | ⟨a,xs,rfl,ha,hz,hx,q⟩
    · refine ⟨_,rfl,_,_,_,rfl,ty,(pI ty).2.2.1,_,rfl,df (by simpa using hT) q⟩
    · refine ⟨_,rfl,_,_,_,rfl,bF.lst ha,(pI (bF.lst ha)).2.2.1,_,rfl,fE (by decide) ?_⟩;refine ⟨_,rfl,a,rfl,⟨_,aJ.of ha⟩,λ D hD=>?_⟩;refine wm (K:=K) (a:=a) (xs:=xs) (λ i ys σ H'=>av H H'∧H' D=some (.lst ys)∧(∃ o,σ=[o])∧∃ bs:List Bool,ys=bs.map V.bl∧bs.length=i∧∀ (j:Nat) (b:Bool) (x:V),bs[j]?=some b→xs[j]?=some x→ng K H x b)
        (λ i ys σ H' _ p=>aJ.of (p.1 _ _ ha)) ⟨qS (av.refl H) hD,af,⟨none,rfl⟩,[],rfl,rfl,λ j b x e=>by simp at e⟩ ?_ ?_
      · rintro i x ys σ H' ex ⟨sm,qL,⟨o,rfl⟩,bs,rfl,hl,hb⟩;have px:=hx x (List.mem_of_getElem? ex);refine ⟨_,rfl,x,rfl,tQ sm px,λ b rb=>⟨qL,?_,qS sm hD,af,⟨_,rfl⟩,bs ++ [b],by simp,by simp [hl],λ j c y ec ey=>?_⟩⟩
        · have:=(List.getElem?_eq_some_iff.mp ex).1;rw [List.length_map];exact (show _ < sizeLine by rw [sizeLine_eq];lia)
        · by_cases hj:j < bs.length
          · rw [List.getElem?_append_left hj] at ec;exact hb j c y ec ey
          · rw [List.getElem?_append_right (Nat.le_of_not_lt hj)] at ec;have e0:j=bs.length:=by
              have:=(List.getElem?_eq_some_iff.mp ec).1;simp at this
              lia
            subst e0;simp at ec;subst ec;rw [hl,ex] at ey;cases ey;obtain ⟨b0,r0⟩:=wo px;rw [jm rb (yE sm r0)];exact r0
      · rintro ys σ H' ⟨sm,qL,_,bs,rfl,hl,hb⟩;exact ⟨D,bs,rfl,aJ.of qL,q bs H' sm hl hb⟩
theorem yF:az ["value"] ["value"] (ao gH):=dZ
noncomputable def jn (K:PySem.W.Frag):Sp:=λ vs H Q _=>∃ v T,vs=[v]∧bF K H v (.type T)∧Q (.bl (m_ v)) H
theorem yG (GW:Def P w K mg base bN 1 "is_whole" ["value"] (fg K)) (D:FnAt K mg "are_rooms" gH ["value"]):Def P w K mg base bN 2 "are_rooms" ["value"] (jn K):=by
  refine D.ok yF (λ vs H Q E h=>?_) λ f bM A outer s H vs Q E hr h=>?_
  · obtain ⟨v,T,rfl,_⟩:=h;rfl
  · obtain ⟨v,T,rfl,ty,q⟩:=h;refine ⟨_,aj (aH (cp (au GW hr rfl aD (aa (pv 0) ae)) (c_ (b8 nL (pv 0) ai (aR _))))),?_⟩;refine ⟨_,rfl,v,T,rfl,ty,_,rfl,?_⟩;rw [← h_ ty T rfl];cases v with
    | int i=>exact bW ⟨_,rfl,_,_,rfl,rfl,q⟩
    | _=>exact bV q
end
noncomputable abbrev N1:List Value:=[.type "ValueError",.type "Exception",.type "BaseException",.type "object"]
structure A8 (K:PySem.W.Frag) (mg:Str→Option Value) (n:Str) (C:Addr):Prop where
  at_:mg n=some (.ref C)
  ex:PySem.W.excIn K C N1 "ValueError.__new__"=true
section
variable {P:Program} {w:World} {K:PySem.W.Frag} {mg:Str→Option Value} {base:Heap}
theorem pL {X:Cx} {n:Str} {C:Addr} {E:XK} {x:Str} {j} {p np jk pos:Pos} (R:A8 X.K X.mg n C) (hc:X.calm=true) (hg:Gl X n) (hR:Raises X C E) (hd:(n == ("__debug__":Str))=false:=by decide) :
    PS X (.Raise (some (.Call (.Name n np) [.Constant (.str x) j p] [] jk)) none pos) (λ _ _ H=>E (.ref C) none H):=by
  intro pins s σ H D I h;exact yz PySem.F.excBase_ValueError R.ex hc hg R.at_ (aa (Dj (x:=x)) ae) hR hd (by rfl) (by rfl) pins s σ H D I (show [V.str x].length≤sizeLine∧_ from ⟨by show 1≤sizeLine;decide,h⟩)
noncomputable def A9 (K:PySem.W.Frag) (H:Hp) (v:V):Prop:=(∃ T,T≠"list"∧bF K H v (.type T)) ∨
  ∃ a xs,v = .ref a∧H a=some (.lst xs)∧xs.length≤60000∧(∀ x∈xs,iZ K H x)∧∃ x∈xs,ng K H x false
noncomputable def lM (H:Hp) (v:V):Prop:=∃ a xs,v = .ref a∧H a=some (.lst xs)∧xs.length≤60000∧∀ x∈xs,∃ p i j k,x = .ref p∧H p=some (.tup [.int i,.int j,.int k])∧i≤j∧0≤k
theorem lN {H:Hp} {p:Addr} {i j k:Int} (h:H p=some (.tup [.int i,.int j,.int k])):iZ K H (.ref p) :=
  .inr ⟨p,_,rfl,h,λ x hx=>by
    simp only [List.mem_cons,List.not_mem_nil,or_false] at hx;rcases hx with rfl | rfl | rfl<;>exact ⟨_,.int _⟩⟩
theorem lO {H:Hp} {p:Addr} {i j k:Int} (h:H p=some (.tup [.int i,.int j,.int k])) (h1:i≤j) (h2:0≤k):ng K H (.ref p) true :=
  .inr ⟨p,_,rfl,h,by simp [Cm,ku,m_,h1,h2]⟩
theorem A_:az ["requests"] ["requests"] (ao dj):=dZ
noncomputable def pM (K:PySem.W.Frag) (C:Addr):Sp:=λ vs H Q E=>∃ v,vs=[v]∧((A9 K H v∧∀ H',av H H'→E (.ref C) none H')∨(lM H v∧∀ H',av H H'→Q .cc H'))
theorem Ba {C:Addr} (R:A8 K mg "BadRequests" C) (G:Def P w K mg base bN 4 "are_requests" ["value"] (kP K)) (D:FnAt K mg "check_requests" dj ["requests"]):Def P w K mg base (sM P w) 5 "check_requests" ["requests"] (pM K C):=by
  refine D.Fb A_ (λ vs H Q E h=>?_) λ f bM A outer s H vs Q E hr h=>?_
  · obtain ⟨v,rfl,_⟩:=h;rfl
  · obtain ⟨v,rfl,h⟩:=h;refine ⟨_,aj (bK (bJ (aW (au G hr rfl aD (aa (pv 0) ae)))) (aj (pL R rfl rfl pG)) aQ),?_⟩;rcases h with ⟨bad,e⟩ | ⟨good,q⟩
    · rcases bad with ⟨T,hT,ty⟩ | ⟨a,xs,rfl,ha,hl,hp,x,hx,r⟩
      · exact ⟨_,rfl,_,rfl,.inl ⟨T,hT,ty,_,rfl,bW (e H (av.refl H))⟩⟩
      · refine ⟨_,rfl,_,rfl,.inr ⟨a,xs,rfl,ha,hl,hp,λ bs H' sm hb Hg=>?_⟩⟩;obtain ⟨j,hj,ej⟩:=List.getElem_of_mem hx;have e1:xs[j]?=some x:=by rw [List.getElem?_eq_getElem hj,ej]
        have ie:j < bs.length:=by lia
        have e2:bs[j]?=some bs[j]:=List.getElem?_eq_getElem ie;have e3:bs[j]=false:=jm (Hg j _ x e2 e1) r;have e4:bs.all id=false:=by
          rw [List.all_eq_false];exact ⟨bs[j],List.getElem_mem ie,by rw [e3];simp⟩
        rw [e4];exact ⟨_,rfl,bW (e H' sm)⟩
    · obtain ⟨a,xs,rfl,ha,hl,hp⟩:=good;refine ⟨_,rfl,_,rfl,.inr ⟨a,xs,rfl,ha,hl,λ x hx=>?_,λ bs H' sm hb Hg=>?_⟩⟩
      · obtain ⟨p,i,j,k,rfl,e2,_⟩:=hp x hx;exact lN e2
      · have e4:bs.all id=true:=by
          rw [List.all_eq_true];intro b n6;obtain ⟨j,hj,ej⟩:=List.getElem_of_mem n6;have ie:j < xs.length:=by lia
          obtain ⟨p,i,j',k,e1,e2,h1,h2⟩:=hp xs[j] (List.getElem_mem ie);have r:=Hg j b xs[j] (by rw [List.getElem?_eq_getElem hj,ej]) (List.getElem?_eq_getElem ie);rw [e1] at r;exact (jm r (lO e2 h1 h2))
        rw [e4];exact ⟨_,rfl,bV (q H' sm)⟩
theorem yH:az ["rooms"] ["rooms"] (ao eY):=dZ
noncomputable def qT (K:PySem.W.Frag) (C:Addr):Sp:=λ vs H Q E=>∃ v T,vs=[v]∧bF K H v (.type T)∧((m_ v=false∧E (.ref C) none H)∨(m_ v=true∧Q .cc H))
theorem yI {C:Addr} (R:A8 K mg "BadRooms" C) (G:Def P w K mg base bN 2 "are_rooms" ["value"] (jn K)) (D:FnAt K mg "check_rooms" eY ["rooms"]):Def P w K mg base (sM P w) 3 "check_rooms" ["rooms"] (qT K C):=by
  refine D.Fb yH (λ vs H Q E h=>?_) λ f bM A outer s H vs Q E hr h=>?_
  · obtain ⟨v,T,rfl,_⟩:=h;rfl
  · obtain ⟨v,T,rfl,ty,h⟩:=h;refine ⟨_,aj (bK (bJ (aW (au G hr rfl aD (aa (pv 0) ae)))) (aj (pL R rfl rfl pG)) aQ),?_⟩;refine ⟨_,rfl,v,T,rfl,ty,_,rfl,?_⟩;rcases h with ⟨e,q⟩ | ⟨e,q⟩
    · rw [e];exact bW q
    · rw [e];exact bV q
noncomputable def fj (r:Int×Int×Int):List V:=[.int r.1,.int r.2.1,.int r.2.2]
noncomputable def a9 (H:Hp) (a:Addr) (rs:List (Int×Int×Int)):Prop:=∃ xs:List V,H a=some (.lst xs)∧xs.length=rs.length∧∀ (i:Nat) r,rs[i]?=some r→∃ p,xs[i]?=some (.ref p)∧H p=some (.tup (fj r))
noncomputable def GoodR (rs:List (Int×Int×Int)):Prop:=∀ r∈rs,r.1≤r.2.1∧0≤r.2.2
theorem aC {H H':Hp} {a:Addr} {rs:List (Int×Int×Int)} (s:av H H') (h:a9 H a rs):a9 H' a rs:=by
  obtain ⟨xs,h1,h2,h3⟩:=h;exact ⟨xs,s _ _ h1,h2,λ i r e=>let ⟨p,e1,e2⟩:=h3 i r e;⟨p,e1,s _ _ e2⟩⟩
theorem jW {H:Hp} {a:Addr} {rs:List (Int×Int×Int)} (h:a9 H a rs) (g:GoodR rs) (hl:rs.length≤60000):lM H (.ref a):=by
  obtain ⟨xs,h1,h2,h3⟩:=h;refine ⟨a,xs,rfl,h1,by lia,λ x hx=>?_⟩;obtain ⟨i,hi,ei⟩:=List.getElem_of_mem hx;have dG:i < rs.length:=by lia
  obtain ⟨p,e1,e2⟩:=h3 i rs[i] (List.getElem?_eq_getElem dG);rw [List.getElem?_eq_getElem hi,ei] at e1;obtain ⟨g1,g2⟩:=g rs[i] (List.getElem_mem dG);exact ⟨p,_,_,_,Option.some.inj e1,e2,g1,g2⟩
end
end Sp
namespace L2
open PySem PySem.Spec PyProof.Rows
structure eH (J:It) (n:Nat) (Ok:Hp→Prop) (item:Nat→V→Hp→Hp→Prop):Prop where
  go:∀ i H,i < n→Ok H→J.go i H
  nK:∀ i H x H',i < n→Ok H→J.nK i H x H'→item i x H H'
  stop:∀ H,Ok H→J.stop n H
theorem aI {K:PySem.W.Frag} {a:Addr} (xs:List V):eH (E4 K a) xs.length (λ H=>aJ K H a xs) (λ i x H H'=>H'=H∧xs[i]?=some x) where
  go:=λ i H hi q=>⟨xs,xs[i],q,by simp [hi]⟩
  nK:=λ i H x H' hi q y=>⟨y.1,y.2 xs q⟩
  stop:=λ H q=>⟨xs,q,Nat.le_refl _⟩
theorem lP {K:PySem.W.Frag} {a:Addr} (xs:List V):eH (Kv K a) xs.length (λ H=>b_ K H a xs) (λ i x H H'=>H'=H∧xs[i]?=some x) where
  go:=λ i H hi q=>⟨xs,xs[i],q,by simp [hi]⟩
  nK:=λ i H x H' hi q y=>⟨y.1,y.2 xs q⟩
  stop:=λ H q=>⟨xs,q,Nat.le_refl _⟩
theorem d5 {lo:Int} {n:Nat}:eH (Jq lo n) n (λ _=>True) (λ i x H H'=>H'=H∧x = .int (lo + i)) where
  go:=λ i H hi _=>hi
  nK:=λ i H x H' hi _ y=>y
  stop:=λ H _=>Nat.le_refl _
theorem ni {lo c:Int} {n:Nat}:eH (DH lo c n) n (λ _=>True) (λ i x H H'=>H'=H∧x = .int (lo + i * c)) where
  go:=λ i H hi _=>hi
  nK:=λ i H x H' hi _ y=>y
  stop:=λ H _=>Nat.le_refl _
theorem fN {K:PySem.W.Frag} {a b:Addr} (xs zs:List V):eH (K_ K a b) (min xs.length zs.length) (λ H=>aJ K H a xs∧aJ K H b zs)
    (λ i v H H'=>∃ T x y,H T=none∧v = .ref T∧H'=upd H T (.tup [x,y])∧xs[i]?=some x∧zs[i]?=some y) where
  go:=λ i H hi q=>by
    have h1:i < xs.length:=by omega
    have h2:i < zs.length:=by omega
    exact ⟨xs,zs,xs[i],zs[i],q.1,q.2,by simp [h1],by simp [h2]⟩
  nK:=λ i H x H' hi q y=>by
    obtain ⟨T,x',z',hT,e1,e2,y1,y2⟩:=y;exact ⟨T,x',z',hT,e1,e2,y1 xs q.1,y2 zs q.2⟩
  stop:=λ H q=>⟨xs,zs,q.1,q.2,by omega⟩
noncomputable def DR:Expr→Option Int
  | .Constant (.int i) _ _=>some i
  | _=>none
noncomputable def pN:List Expr→Option (List Int)
  | []=>some []
  | e :: es=>(DR e).bind λ i=>(pN es).map (i :: ·)
noncomputable def Hh (ns:List Int):TA:=λ _ H Q=>Q (ns.map V.int) H
theorem jo {X:Cx}:∀ {es:List Expr} {ns:List Int},pN es=some ns→PA X es (Hh ns)
  | [],ns,h=>by
    cases h;exact ae
  | x :: es,ns,h=>by
    have h':(DR x).bind (λ i=>(pN es).map (i :: ·))=some ns:=h
    obtain ⟨i,e1,e2⟩:=Option.bind_eq_some_iff.mp h';obtain ⟨ms,e,rfl⟩:=Option.map_eq_some_iff.mp e2;unfold DR at e1;split at e1
    · cases e1;exact λ pos pins s σ H Q I q=>aa ai (jo e) rfl pos pins s σ H Q I q
    · cases e1
theorem cB {X:Cx} {K:PySem.W.Frag} (hK:X.K=K:=by rfl):Gv X (Gw K):=hK ▸ bU
theorem cg {X:Cx} {K:PySem.W.Frag} (hK:X.K=K:=by rfl):Gv X (Dz K):=hK ▸ cx
noncomputable def sN:List V→List V→Bool
  | [],[]=>true
  | x :: xs,y :: ys=>uW x y && sN xs ys
  | _,_=>false
noncomputable def Hi (K:PySem.W.Frag) (neg:Bool):R2:=λ x y H Q=>∃ a b xs ys,x = .ref a∧y = .ref b∧aJ K H a xs∧aJ K H b ys∧xs.all eB=true∧ys.all eB=true∧Q (.bl (if neg then !sN xs ys else sN xs ys)) H
theorem u3:∀ {xs ys:List V},sN xs ys=true→xs.length=ys.length
  | [],[],_=>rfl
  | x :: xs,y :: ys,h=>by
    unfold sN at h;rw [Bool.and_eq_true] at h;simp [u3 h.2]
  | [],_ :: _,h=>by simp [sN] at h
  | _ :: _,[],h=>by simp [sN] at h
theorem oa:∀ {xs ys:List V},xs.length=ys.length→(List.range xs.length).all (λ j=>uW (xs.getD j .cc) (ys.getD j .cc))=sN xs ys
  | [],[],_=>rfl
  | x :: xs,y :: ys,h=>by
    have ih:=oa (xs:=xs) (ys:=ys) (by simpa using h);rw [List.length_cons,List.range_succ_eq_map,List.all_cons,List.all_map];unfold sN;rw [← ih];rfl
  | [],_ :: _,h=>by simp at h
  | _ :: _,[],h=>by simp at h
theorem u4 {xs:List V} {j:Nat} {x:V} (h:xs.all eB=true) (e:xs[j]?=some x):eB x=true:=List.all_eq_true.mp h x (List.mem_of_getElem? e)
theorem DS {X:Cx} {neg:Bool} {x y:V} {H:Hp} {Q:VK} (h:Hi X.K neg x y H Q):DN X neg x y H Q:=by
  obtain ⟨a,b,xs,ys,e1,e2,ha,hb,fx,fy,q⟩:=h;refine ⟨a,b,xs,ys,e1,e2,ha,hb,?_⟩
  by_cases hl:xs.length=ys.length
  · refine .inl ⟨hl,λ j=>uW (xs.getD j .cc) (ys.getD j .cc),λ j x y ex ey=>?_,?_⟩
    · have:=(qQ (X:=X) (H:=H) (u4 fx ex) (u4 fy ey)).mono (Nat.zero_le 8);simpa [List.getD,ex,ey] using this
    · rw [oa hl];exact q
  · have:sN xs ys=false:=Bool.eq_false_iff.mpr λ z=>hl (u3 z);rw [this] at q;refine .inr ⟨hl,?_⟩;cases neg<;>exact q
theorem DT {X:Cx} {K:PySem.W.Frag} (hu:X.A.units + 64 < cLine) (hK:X.K=K:=by rfl):iI X (compareOp .Eq) (Hi K false):=by
  subst hK;exact λ pins s σ H x y v u Q I rx ry h=>wk hu pins s σ H x y v u Q I rx ry (DS h)
theorem cC {X:Cx} {K:PySem.W.Frag} {x y:Str} {k:Nat} {p1 p2 pos:Pos} (i j:Nat) (hc:X.calm=true) (hN:X.N.Nodup) (hi:X.N[i]?=some x:=by rfl) (hj:X.N[j]?=some y:=by rfl) (hx:X.env.scope.names.lookup x=some .local:=by rfl) (hy:X.env.scope.names.lookup y=some .local:=by rfl)
    (hs:(assignEach [.Name x p1,.Name y p2] X.env).map (·.2)=[assign (.Name x p1) X.env,assign (.Name y p2) X.env]:=by rfl) (kL:(assignEach [.Name y p2] X.env).map (·.2)=[assign (.Name y p2) X.env]:=by rfl)
    (hn:(assignEach [.Name x p1,.Name y p2] X.env).length=2:=by rfl) (qy:(assignEach [.Name x p1,.Name y p2] X.env).findIdx? (·.1)=none:=by rfl) (hK:X.K=K:=by rfl) :
    PG X (.Tuple [.Name x p1,.Name y p2] k pos) (AF K 2 (iH (fb i) (iH (fb j) AE))) :=
  hK ▸ o_ hc (cj (aV hN hi (.inl hx) (.inr hx)) (cj (aV hN hj (.inl hy) (.inr hy)) kI kL) hs) hn qy
theorem gX {X:Cx} {K:PySem.W.Frag} {x y z:Str} {k:Nat} {p1 p2 p3 pos:Pos} (i j l:Nat) (hc:X.calm=true) (hN:X.N.Nodup) (hi:X.N[i]?=some x:=by rfl) (hj:X.N[j]?=some y:=by rfl) (hl:X.N[l]?=some z:=by rfl) (hx:X.env.scope.names.lookup x=some .local:=by rfl) (hy:X.env.scope.names.lookup y=some .local:=by rfl)
    (hz:X.env.scope.names.lookup z=some .local:=by rfl)
    (hs:(assignEach [.Name x p1,.Name y p2,.Name z p3] X.env).map (·.2)=assign (.Name x p1) X.env :: (assignEach [.Name y p2,.Name z p3] X.env).map (·.2):=by rfl) (kL:(assignEach [.Name y p2,.Name z p3] X.env).map (·.2)=assign (.Name y p2) X.env :: (assignEach [.Name z p3] X.env).map (·.2):=by rfl) (Li:(assignEach [.Name z p3] X.env).map (·.2)=[assign (.Name z p3) X.env]:=by rfl)
    (hn:(assignEach [.Name x p1,.Name y p2,.Name z p3] X.env).length=3:=by rfl) (qy:(assignEach [.Name x p1,.Name y p2,.Name z p3] X.env).findIdx? (·.1)=none:=by rfl) (hK:X.K=K:=by rfl) :
    PG X (.Tuple [.Name x p1,.Name y p2,.Name z p3] k pos) (AF K 3 (iH (fb i) (iH (fb j) (iH (fb l) AE)))) :=
  hK ▸ o_ hc (cj (aV hN hi (.inl hx) (.inr hx)) (cj (aV hN hj (.inl hy) (.inr hy)) (cj (aV hN hl (.inl hz) (.inr hz)) kI Li) kL) hs) hn qy
section
variable {J:It} {n:Nat} {Ok:Hp→Prop} {item:Nat→V→Hp→Hp→Prop}
theorem eI {g:TG} {tb:TS} {D:Ends} {σ:St} {H:Hp} (Y:eH J n Ok item) (Pv:Nat→St→Hp→Prop) (hl:∀ i σ H,i≤n→Pv i σ H→Ok H) (h0:Pv 0 σ H)
    (hs:∀ i x σ H H',i < n→item i x H H'→Pv i σ H→g x σ H' λ σ2 H2=>tb { D with nx:=Pv (i + 1),ct:=Pv (i + 1),bk:=D.nx } σ2 H2) (hd:∀ σ H,Pv n σ H→D.nx σ H) :
    ∃ W:Nat→Nat→St→Hp→Prop,(∃ m,W 0 m σ H)∧∀ i m σ H,W i m σ H →
      (J.stop i H∧D.nx σ H)∨(J.go i H∧∃ N:St→Hp→Prop,(∀ σ' H',N σ' H'→∃ m',m' < m∧W (i + 1) m' σ' H')∧∀ x H',J.nK i H x H'→g x σ H' λ σ2 H2=>tb { D with nx:=N,ct:=N,bk:=D.nx } σ2 H2):=by
  refine ⟨λ i m σ H=>m=n - i∧i≤n∧Pv i σ H,⟨n,by simp,Nat.zero_le _,h0⟩,?_⟩;rintro i m σ H ⟨rfl,hi,p⟩;have ok:=hl i σ H hi p
  by_cases dg:i < n
  · exact .inr ⟨Y.go i H dg ok,Pv (i + 1),λ σ' H' p'=>⟨n - (i + 1),by lia,rfl,dg,p'⟩,λ x H' y=>hs i x σ H H' dg (Y.nK i H x H' dg ok y) p⟩
  · have e:i=n:=by lia
    subst e;exact .inl ⟨Y.stop H ok,hd σ H p⟩
theorem u5 {g:TG} {tt:TT} {te:TE} {R:Hp→Prop} {H1:Hp} {σ0:St} {D:Addr} (Y:eH J n Ok item) (Pv:Nat→List V→St→Hp→Prop) (hl:∀ i ys σ H,i≤n→Pv i ys σ H→Ok H) (h0:Pv 0 [] σ0 (upd H1 D (.lst [])))
    (hs:∀ i x ys σ H H',i < n→item i x H H'→Pv i ys σ H→g x σ H' λ σ3 H3=>tt σ3 H3 λ b H4=>if b=true then te σ3 H4 λ y H5=>H5 D=some (.lst ys)∧ys.length < sizeLine∧Pv (i + 1) (ys ++ [y]) σ3 (upd H5 D (.lst (ys ++ [y]))) else Pv (i + 1) ys σ3 H4)
    (hq:∀ ys σ H,Pv n ys σ H→R H) :
    ∃ W:Nat→Nat→List V→St→Hp→Prop,(∃ m,W 0 m [] σ0 (upd H1 D (.lst [])))∧∀ i m ys σ' H',W i m ys σ' H' →
      (J.stop i H'∧R H')∨(J.go i H'∧∃ N:List V→St→Hp→Prop,(∀ zs σ2 H2,N zs σ2 H2→∃ m',m' < m∧W (i + 1) m' zs σ2 H2)∧∀ x H2,J.nK i H' x H2→g x σ' H2 λ σ3 H3=>tt σ3 H3 λ b H4 =>
        if b=true then te σ3 H4 λ y H5=>H5 D=some (.lst ys)∧ys.length < sizeLine∧N (ys ++ [y]) σ3 (upd H5 D (.lst (ys ++ [y])))
        else N ys σ3 H4):=by
  refine ⟨λ i m ys σ H=>m=n - i∧i≤n∧Pv i ys σ H,⟨n,by simp,Nat.zero_le _,h0⟩,?_⟩;rintro i m ys σ H ⟨rfl,hi,p⟩;have ok:=hl i ys σ H hi p
  by_cases dg:i < n
  · exact .inr ⟨Y.go i H dg ok,Pv (i + 1),λ zs σ2 H2 p'=>⟨n - (i + 1),by lia,rfl,dg,p'⟩,λ x H' y=>hs i x ys σ H H' dg (Y.nK i H x H' dg ok y) p⟩
  · have e:i=n:=by lia
    subst e;exact .inl ⟨Y.stop H ok,hq ys σ H p⟩
noncomputable def bp (p:Nat→Bool) (f:Nat→V) (m:Nat):List V:=((List.range m).filter p).map f
theorem lQ (p:Nat→Bool) (f:Nat→V) (m:Nat):(bp p f m).length≤m:=by
  unfold bp;rw [List.length_map];exact Nat.le_trans (List.length_filter_le _ _) (by simp)
theorem tR {p:Nat→Bool} {f:Nat→V} {m:Nat} (h:p m=true):bp p f (m + 1)=bp p f m ++ [f m]:=by
  unfold bp;rw [List.range_succ,List.filter_append,List.map_append];simp [h]
theorem wq {p:Nat→Bool} {f:Nat→V} {m:Nat} (h:p m=false):bp p f (m + 1)=bp p f m:=by
  unfold bp;rw [List.range_succ,List.filter_append,List.map_append];simp [h]
theorem DU {n:Nat} (h:n≤100000):n < sizeLine:=by rw [sizeLine_eq];lia
theorem fk {g:TG} {tt:TT} {te:TE} {R:Hp→Prop} {H1:Hp} {σ0:St} {D:Addr} (Y:eH J n Ok item) (S:St→Prop) (p:Nat→Bool) (f:Nat→V) (hD:H1 D=none) (hn:n≤100000) (bH:∀ H,av H1 H→Ok H) (s0:S σ0)
    (hs:∀ i x σ H H',i < n→item i x H H'→av H1 H→S σ→∀ (Ky:St→V→Hp→Prop) (Kn:St→Hp→Prop),(∀ σ3 y H5,av H H5→S σ3→p i=true→y=f i→Ky σ3 y H5)→(∀ σ3 H4,av H H4→S σ3→p i=false→Kn σ3 H4) →
      g x σ H' λ σ3 H3=>tt σ3 H3 λ b H4=>if b=true then te σ3 H4 λ y H5=>Ky σ3 y H5 else Kn σ3 H4)
    (hq:∀ H,av H1 H→H D=some (.lst (bp p f n))→R H) :
    ∃ W:Nat→Nat→List V→St→Hp→Prop,(∃ m,W 0 m [] σ0 (upd H1 D (.lst [])))∧∀ i m ys σ' H',W i m ys σ' H' →
      (J.stop i H'∧R H')∨(J.go i H'∧∃ N:List V→St→Hp→Prop,(∀ zs σ2 H2,N zs σ2 H2→∃ m',m' < m∧W (i + 1) m' zs σ2 H2)∧∀ x H2,J.nK i H' x H2→g x σ' H2 λ σ3 H3=>tt σ3 H3 λ b H4 =>
        if b=true then te σ3 H4 λ y H5=>H5 D=some (.lst ys)∧ys.length < sizeLine∧N (ys ++ [y]) σ3 (upd H5 D (.lst (ys ++ [y])))
        else N ys σ3 H4):=by
  refine u5 Y (λ i ys σ H=>av H1 H∧H D=some (.lst ys)∧S σ∧ys=bp p f i) (λ i ys σ H _ q=>bH H q.1) ⟨λ b o e=>by rw [aq (ay e hD)];exact e,af,s0,rfl⟩ ?_ ?_
  · rintro i x ys σ H H' hi it ⟨sm,qL,hS,rfl⟩;refine hs i x σ H H' hi it sm hS (λ σ3 y H5=>H5 D=some (.lst (bp p f i))∧(bp p f i).length < sizeLine∧av H1 (upd H5 D (.lst (bp p f i ++ [y])))∧upd H5 D (.lst (bp p f i ++ [y])) D=some (.lst (bp p f i ++ [y]))∧S σ3∧bp p f i ++ [y]=bp p f (i + 1))
      (λ σ3 H4=>av H1 H4∧H4 D=some (.lst (bp p f i))∧S σ3∧bp p f i=bp p f (i + 1)) (λ σ3 y H5 s5 xE hp e=>?_) (λ σ3 H4 s4 xE hp=>?_)
    · subst e;refine ⟨s5 _ _ qL,DU (Nat.le_trans (lQ _ _ _) (by lia)),λ b o e=>?_,af,xE,(tR hp).symm⟩;rw [aq (ay e hD)];exact s5 _ _ (sm _ _ e)
    · exact ⟨λ b o e=>s4 _ _ (sm _ _ e),s4 _ _ qL,xE,(wq hp).symm⟩
  · rintro ys σ H ⟨sm,qL,_,rfl⟩;exact hq H sm qL
theorem aX {g:TG} {te:TE} {R:Hp→Prop} {H1:Hp} {σ0:St} {D:Addr} (Y:eH J n Ok item) (S:St→Prop) (f:Nat→V) (hD:H1 D=none) (hn:n≤100000) (bH:∀ H,av H1 H→Ok H) (s0:S σ0)
    (hs:∀ i x σ H H',i < n→item i x H H'→av H1 H→S σ→∀ (Ky:St→V→Hp→Prop),(∀ σ3 y H5,av H H5→S σ3→y=f i→Ky σ3 y H5)→g x σ H' λ σ3 H3=>te σ3 H3 λ y H5=>Ky σ3 y H5)
    (hq:∀ H,av H1 H→H D=some (.lst ((List.range n).map f))→R H) :
    ∃ W:Nat→Nat→List V→St→Hp→Prop,(∃ m,W 0 m [] σ0 (upd H1 D (.lst [])))∧∀ i m ys σ' H',W i m ys σ' H' →
      (J.stop i H'∧R H')∨(J.go i H'∧∃ N:List V→St→Hp→Prop,(∀ zs σ2 H2,N zs σ2 H2→∃ m',m' < m∧W (i + 1) m' zs σ2 H2)∧∀ x H2,J.nK i H' x H2→g x σ' H2 λ σ3 H3=>tL σ3 H3 λ b H4 =>
        if b=true then te σ3 H4 λ y H5=>H5 D=some (.lst ys)∧ys.length < sizeLine∧N (ys ++ [y]) σ3 (upd H5 D (.lst (ys ++ [y])))
        else N ys σ3 H4):=by
  refine fk (tt:=tL) Y S (λ _=>true) f hD hn bH s0 (λ i x σ H H' hi it sm hS Ky Kn hy _=>?_) (λ H sm e=>hq H sm (by rw [e];unfold bp;rw [List.filter_eq_self.mpr (λ _ _=>rfl)]));exact hs i x σ H H' hi it sm hS Ky λ σ3 y H5 s5 h3 e=>hy σ3 y H5 s5 h3 rfl e
end
end L2
set_option maxHeartbeats 1000000
namespace Sp
open PySem L2
seal PE PA PS jM PT PG uK PI PW tK
section
variable {P:Program} {w:World} {K:PySem.W.Frag} {mg:Str→Option Value} {base:Heap}
theorem ah {H:Hp} {D:Addr} {o:HO} (hD:H D=none):av H (upd H D o):=λ b u e=>by rw [aq (ay e hD)];exact e
theorem kQ {xs:List V} {k:Int} {v:V} (h0:0≤k) (h:xs[k.toNat]?=some v):eA xs k=some v:=by
  have:=eP h
  rwa [Int.toNat_of_nonneg h0] at this
theorem Bb:az ["_law_script","_law_k"] ["_law_script","_law_k"] (ao eG):=dZ
noncomputable def kR (K:PySem.W.Frag):Sp:=λ vs H Q _=>∃ (a:Addr) (ns:List Int) (k:Int),vs=[.ref a,.int k]∧aJ K H a (ns.map V.int)∧0≤k∧Q (.int (ns.getD k.toNat 0)) H
theorem Bc (B:Bl mg) (D:FnAt K mg "_law_cell_at" eG ["_law_script","_law_k"]):Def P w K mg base bN 1 "_law_cell_at" ["_law_script","_law_k"] (kR K):=by
  refine D.ok Bb (λ vs H Q E h=>?_) λ f bM A outer s H vs Q E hr h=>?_
  · obtain ⟨a,ns,k,rfl,_⟩:=h;rfl
  · obtain ⟨a,ns,k,rfl,hl,hk,q⟩:=h;refine ⟨_,ag (bK (bh iJ (pv 1) (aB aL (by rfl) B.len PySem.boot_len (aa (pv 0) ae)) (aR _)) (aj (aH (aO bU (pv 0) (pv 1) (λ _ _=>rfl)))) aQ) (aj (aH ai)),?_⟩;refine ⟨_,rfl,_,rfl,a,_,rfl,.inl hl,_,_,rfl,rfl,_,rfl,yp (λ h=>?_) (λ h=>?_)⟩
    · have h':k < ((ns.map V.int).length:Nat):=by simpa using h
      rw [List.length_map] at h';have Aq:k.toNat < ns.length:=by omega
      refine ⟨_,rfl,_,rfl,a,_,_,_,rfl,rfl,hl,kQ hk (v:=.int ns[k.toNat]) (by simp [Aq]),?_⟩;rw [show ns.getD k.toNat 0=ns[k.toNat] by simp [List.getD,Aq]] at q;exact q
    · have h':¬ k < ((ns.map V.int).length:Nat):=by simpa using h
      rw [List.length_map] at h';have Aq:¬ k.toNat < ns.length:=by omega
      rw [show ns.getD k.toNat 0=0 by simp [List.getD,Aq]] at q;exact q
theorem u6:az ["_law_cell","_law_k","_law_many","_law_primes"] ["_law_cell","_law_k","_law_many"] (ao gP):=dZ
noncomputable def kT:Sp:=λ vs H Q _=>∃ c k m:Int,vs=[.int c,.int k,.int m]∧0≤k∧0 < m∧∀ r H',0≤r→r < m→av H H'→Q (.int r) H'
noncomputable def lR:List Int:=[1000003,1000033,1000037,1000039,1000081,1000099,1000117,1000121,1000133,1000151,1000159,1000171,1000183,1000187,1000193,1000199]
theorem tS:∀ p∈lR,0 < p:=by decide
theorem Bd (D:FnAt K mg "_law_draw" gP ["_law_cell","_law_k","_law_many"]):Def P w K mg base bN 1 "_law_draw" ["_law_cell","_law_k","_law_many"] kT:=by
  refine D.ok u6 (λ vs H Q E h=>?_) λ f bM A outer s H vs Q E hr h=>?_
  · obtain ⟨c,k,m,rfl,_⟩:=h;rfl
  · obtain ⟨c,k,m,rfl,hk,hm,q⟩:=h;refine ⟨_,ag (aK (i:=3) u6.nd rfl (Or.inl rfl) (bL (jo (ns:=lR) rfl)))
      (aj (aH (aF cX (aF cX (aF bj (aF eX (pv 0) ai) (aF eX (pv 1) ai)) (aO cx (pv 3) (aF cX (pv 1) ai) (λ _ _=>rfl))) (pv 2)))),?_⟩
    refine ⟨by show 16≤sizeLine;decide,λ t ht=>?_⟩;have DV:(k % 16).toNat < 16:=by lia
    have Lj:0≤k % 16:=by lia
    obtain ⟨p,hp,JB⟩:∃ p:Int,lR[(k % 16).toNat]?=some p∧0 < p:=by
      exact ⟨lR[(k % 16).toNat]'DV,List.getElem?_eq_getElem DV,tS _ (List.getElem_mem DV)⟩
    refine ⟨_,rfl,_,_,rfl,rfl,.inr ⟨by decide,by decide⟩,_,rfl,_,_,rfl,rfl,.inr ⟨by decide,by decide⟩,_,_,rfl,rfl,?_⟩;refine ⟨_,rfl,_,rfl,_,_,rfl,rfl,by show (0:Int) < 16;decide,t,_,_,.int p,rfl,rfl,b_.of af,kQ Lj ?_,?_⟩
    · have:(lR.map V.int)[(k % 16).toNat]?=some (V.int p):=by rw [List.getElem?_map,hp];rfl
      exact this
    · refine ⟨_,_,rfl,rfl,JB,_,rfl,_,_,rfl,rfl,hm,?_⟩;exact q _ _ (Int.emod_nonneg _ (by lia)) (Int.emod_lt_of_pos _ hm) (ah ht)
noncomputable def Hj (r:Int×Int×Int):Prop:=r.1≤r.2.1∧0≤r.2.2∧-(10 ^ 50) < r.1∧r.1 < 10 ^ 50∧r.2.1 < 10 ^ 50∧r.2.2 < 10 ^ 60
theorem yJ {H:Hp} {l:Addr}:a9 (upd H l (.lst [])) l []:=⟨[],af,rfl,λ i r e=>by simp at e⟩
theorem og {H:Hp} {l p:Addr} {rs:List (Int×Int×Int)} {xs:List V} {r:Int×Int×Int} (h:H l=some (.lst xs)) (hx:xs.length=rs.length) (kU:∀ (i:Nat) r,rs[i]?=some r→∃ p,xs[i]?=some (.ref p)∧H p=some (.tup (fj r))) (hp:H p=none) :
    a9 (upd (upd H p (.tup (fj r))) l (.lst (xs ++ [.ref p]))) l (rs ++ [r]):=by
  have Hk:l≠p:=ay h hp;refine ⟨_,af,by simp [hx],λ i r' e=>?_⟩
  by_cases hi:i < rs.length
  · rw [List.getElem?_append_left hi] at e;obtain ⟨p',e1,e2⟩:=kU i r' e;refine ⟨p',by rw [List.getElem?_append_left (by lia)];exact e1,?_⟩;rw [aq (nE e2 h (by intro z;cases z)),aq (ay e2 hp)];exact e2
  · rw [List.getElem?_append_right (Nat.le_of_not_lt hi)] at e;have Lk:i=rs.length:=by
      have:=(List.getElem?_eq_some_iff.mp e).1;simp at this
      lia
    subst Lk;simp at e;subst e;exact ⟨p,by rw [← hx];simp,by rw [aq Hk.symm];exact af⟩
theorem cD:az ["_law_script","_law_found","_law_k","_law_first","_law_kind","_law_times","_law_days","_law_most","_law_each","_law_cell","_law_last"] ["_law_script"] (ao dQ):=dZ
noncomputable def qU (K:PySem.W.Frag):Sp:=λ vs H Q _=>∃ (a:Addr) (ns:List Int),vs=[.ref a]∧aJ K H a (ns.map V.int)∧ns.length≤63∧∀ l rs H',H l=none→av H H'→a9 H' l rs→rs.length≤126→(∀ r∈rs,Hj r)→Q (.ref l) H'
theorem pick {ts:List Int} {p:Int→Prop} (hp:∀ x∈ts,p x) {r:Int} (h0:0≤r) (h1:r < (ts.length:Nat)):∃ x,eA (ts.map V.int) r=some (.int x)∧p x:=by
  have h2:r.toNat < ts.length:=by lia
  exact ⟨ts[r.toNat],kQ h0 (by simp [h2]),hp _ (List.getElem_mem h2)⟩
theorem DW {n:Nat} (h:n % 3=0):steps 0 (n:Int) 3=n / 3:=by
  unfold steps Builtin.Range.rangeSize;rw [if_pos (by decide)]
  by_cases h0:n=0
  · subst h0;rfl
  · rw [if_pos (by omega)];omega
theorem js {ns:List Int} {j:Nat} {k:Int} (hk:k=(j:Nat)) (h:j < ns.length):eA (ns.map V.int) k=some (.int ns[j]):=by
  subst hk;exact eP (by simp [h])
theorem yK {c:Prop} [Decidable c] {σ:St} {H:Hp} {Q:VK} (h:∀ e:Int,(e=1∨e=2)→Q (.int e) H):if c then tC (.int 2) σ H Q else tC (.int 1) σ H Q:=by
  split
  · exact h 2 (.inr rfl)
  · exact h 1 (.inl rfl)
theorem oh {x t:Int} (h1:-100≤x) (h2:x≤100) (h3:0≤t) (h4:t≤1000000000):-100000000000≤x * t∧x * t≤100000000000:=by
  have a:=Int.mul_le_mul_of_nonneg_right h1 h3;have b:=Int.mul_le_mul_of_nonneg_right h2 h3
  lia
theorem yL (B:Bl mg) (GC:Def P w K mg base bN 1 "_law_cell_at" ["_law_script","_law_k"] (kR K)) (GD:Def P w K mg base bN 1 "_law_draw" ["_law_cell","_law_k","_law_many"] kT) (D:FnAt K mg "_law_requests" dQ ["_law_script"]) :
    Def P w K mg base bN 2 "_law_requests" ["_law_script"] (qU K):=by
  refine D.ok cD (λ vs H Q E h=>?_) λ f bM A outer s H vs Q E hr h=>?_
  · obtain ⟨a,ns,rfl,_⟩:=h;rfl
  · obtain ⟨a,ns,rfl,hl,hn,q⟩:=h;refine ⟨_,ag (aK (i:=1) cD.nd rfl (Or.inl rfl) (cQ ae))
      (ag (bK (bh gw (aF cX (aB aL (by rfl) B.len PySem.boot_len (aa (pv 0) ae)) ai) ai (aR _))
        (ag (ee PassesOwn.never rfl (wg rfl B.range (aa ai (aa (aB aL (by rfl) B.len PySem.boot_len (aa (pv 0) ae)) (aa ai ae)))) (aV (i:=2) cD.nd rfl (Or.inl rfl))
          (ag (aK (i:=3) cD.nd rfl (Or.inl rfl) (aF eX (aF cX (aF kK (aO bU (pv 0) (pv 2) (λ _ _=>rfl)) ai) (aF lp ai ai)) (aF di ai (aF eX (aF cX (aO bU (pv 0) (pv 2) (λ _ _=>rfl)) ai) ai))))
          (aj (cG (qG PySem.F.plainAttrs_list PySem.F.slot_list_append PySem.F.type_list_append d8 (pv 1) (aa (bL (aa (pv 3) (aa (aF bj (pv 3) (aF cX (aO bU (pv 0) (aF bj (pv 2) ai) (λ _ _=>rfl)) (aF lp ai ai)))
            (aa (aF cX (aO bU (pv 0) (aF bj (pv 2) ai) (λ _ _=>rfl)) (aF lp ai ai)) ae)))) ae))))))
        (aj (aH (pv 1)))) aQ)
      (ag (xY (i:=4) (j:=5) rfl cD.nd rfl rfl (by decide) rfl rfl (aa (au GD (hr.mono (by decide)) rfl aD (aa (au GC (hr.mono (by decide)) rfl aD (aa (pv 0) (aa ai ae))) (aa ai (aa ai ae))))
          (aa (aO cx (bL (aa ai (aa ai (aa (aF lp ai ai) (aa ai ae))))) (au GD (hr.mono (by decide)) rfl aD (aa (au GC (hr.mono (by decide)) rfl aD (aa (pv 0) (aa ai ae))) (aa ai (aa ai ae)))) (λ _ _=>rfl)) ae)) rfl)
      (ag (xY (i:=6) (j:=7) rfl cD.nd rfl rfl (by decide) rfl rfl (aa (aO cx (bL (jo rfl)) (pv 4) (λ _ _=>rfl))
          (aa (aO cx (bL (jo rfl)) (au GD (hr.mono (by decide)) rfl aD (aa (au GC (hr.mono (by decide)) rfl aD (aa (pv 0) (aa ai ae))) (aa ai (aa ai ae)))) (λ _ _=>rfl)) ae)) rfl)
      (ag (aK (i:=8) cD.nd rfl (Or.inl rfl) (xW (bh gw (au GD (hr.mono (by decide)) rfl aD (aa (au GC (hr.mono (by decide)) rfl aD (aa (pv 0) (aa ai ae))) (aa ai (aa ai ae)))) ai (aR _)) ai ai))
      (ag (ee PassesOwn.never rfl (h8 rfl B.range (aa (aF eX (pv 8) (aB aL (by rfl) B.len PySem.boot_len (aa (pv 0) ae))) ae)) (aV (i:=2) cD.nd rfl (Or.inl rfl))
          (ag (aK (i:=9) cD.nd rfl (Or.inl rfl) (aF bj (aO bU (pv 0) (aF kK (pv 2) (pv 8)) (λ _ _=>rfl)) (aF eX ai (aF cX (pv 2) (pv 8)))))
          (ag (aK (i:=3) cD.nd rfl (Or.inl rfl) (aF di (au GD (hr.mono (by decide)) rfl aD (aa (pv 9) (aa (aF bj (aF cX (pv 2) ai) ai) (aa (aF bj (pv 6) (aF cX (pv 2) ai)) ae)))) (aF kK (pv 6) ai)))
          (ag (aK (i:=10) cD.nd rfl (Or.inl rfl) (aF bj (pv 3) (au GD (hr.mono (by decide)) rfl aD (aa (pv 9) (aa (aF bj (aF cX (pv 2) ai) ai) (aa (aO cx (bL (jo rfl)) (pv 4) (λ _ _=>rfl)) ae))))))
          (aj (cG (qG PySem.F.plainAttrs_list PySem.F.slot_list_append PySem.F.type_list_append d8 (pv 1) (aa (bL (aa (aF eX (pv 3) (pv 5)) (aa (aF eX (pv 10) (pv 5)) (aa (au GD (hr.mono (by decide)) rfl aD (aa (pv 9) (aa (aF bj (aF cX (pv 2) ai) ai) (aa (pv 7) ae)))) ae)))) ae))))))))
      (aj (aH (pv 1)))))))),?_⟩
    refine ⟨Nat.zero_le _,λ l JC=>?_⟩;have s0:av H (upd H l (.lst [])):=ah JC;have keep:∀ {H1:Hp} {o:HO},av H H1→av H (upd H1 l o):=λ s1 b u e=>by rw [aq (ay e JC)];exact s1 b u e
    refine ⟨_,rfl,a,_,rfl,.inl (s0.seq hl),_,_,rfl,rfl,by show (0:Int) < 3;decide,rfl,_,rfl,yp (λ h3=>?_) (λ h3=>?_)⟩
    · -- by Ll
      have QJ:ns.length % 3=0:=by
        simp only [List.length_map,decide_eq_true_eq,V.int.injEq] at h3
        lia
      refine ⟨_,rfl,a,_,rfl,.inl (s0.seq hl),0,_,3,rfl,⟨by decide,by decide,by simp only [List.length_map];lia,by simp only [List.length_map];lia,by decide,by decide⟩,?_⟩;rw [List.length_map,DW QJ];refine eI ni (λ i σ H2=>∃ rs xs o2 o3,σ=[some (.ref a),some (.ref l),o2,o3,none,none,none,none,none,none,none]∧av H H2∧H2 l=some (.lst xs)∧xs.length=rs.length∧(∀ (i:Nat) r,rs[i]?=some r→∃ p,xs[i]?=some (.ref p)∧H2 p=some (.tup (fj r)))∧rs.length=i∧∀ r∈rs,Hj r)
        (λ _ _ _ _ _=>trivial) ⟨[],[],_,_,rfl,s0,af,rfl,λ i r e=>by simp at e,rfl,λ r DX=>by simp at DX⟩ ?_ ?_
      · rintro i x σ H2 Lm hi ⟨rfl,rfl⟩ ⟨rs,xs,o2,o3,rfl,s2,hx,eM,kU,tT,bH⟩;have UE:i * 3 + 2 < ns.length:=by lia
        have Hf:eA (ns.map V.int) (0 + (i:Int) * 3)=some (.int (ns[i * 3]'(by lia))):=js (by lia) (by lia);have Fd:eA (ns.map V.int) (0 + (i:Int) * 3 + 1)=some (.int (ns[i * 3 + 1]'(by lia))):=js (by lia) (by lia);have at2:eA (ns.map V.int) (0 + (i:Int) * 3 + 2)=some (.int (ns[i * 3 + 2]'(by lia))):=js (by lia) (by lia);have iM:=s2.seq hl;generalize ns[i * 3]'(by lia)=u at Hf;generalize ns[i * 3 + 1]'(by lia)=v at Fd;generalize ns[i * 3 + 2]'(by lia)=z at at2;have Hl:(0:Int) < 10 ^ (40:Int).toNat:=by decide +kernel
        have Lo:(0:Int) < 10 ^ (60:Int).toNat:=by decide +kernel
        refine ⟨_,rfl,_,rfl,a,_,_,_,rfl,rfl,iM,Hf,_,_,rfl,rfl,⟨by decide,by decide⟩,_,_,rfl,rfl,⟨by decide,by decide,by decide⟩,_,_,rfl,rfl,Hl,?_⟩;refine ⟨_,rfl,_,rfl,a,_,_,_,rfl,rfl,iM,Hf,_,_,rfl,rfl,(by show (0:Int) < 2;decide),_,_,rfl,rfl,.inr ⟨by decide,by decide⟩,_,_,rfl,rfl,_,_,rfl,rfl,.inr ⟨by lia,by lia⟩,?_⟩;refine ⟨_,rfl,.inl ⟨rfl,_,aJ.of hx⟩,?_⟩;refine ⟨_,rfl,_,rfl,_,rfl,_,rfl,_,_,rfl,rfl,a,_,_,_,rfl,rfl,iM,Fd,_,_,rfl,rfl,⟨by decide,by decide,by decide⟩,_,_,rfl,rfl,Hl,_,_,rfl,rfl,?_⟩;refine ⟨_,rfl,_,rfl,_,_,rfl,rfl,a,_,_,_,rfl,rfl,iM,at2,_,_,rfl,rfl,⟨by decide,by decide,by decide⟩,_,_,rfl,rfl,Lo,by show 3≤sizeLine;decide,λ p hp=>?_⟩;have Hk:l≠p:=ay hx hp;refine ⟨l,xs,_,rfl,rfl,by rw [aq Hk];exact hx,nX (by lia),?_⟩;have N2:(10:Int) ^ (40:Int).toNat=10 ^ 40:=by decide +kernel
        have N3:(10:Int) ^ (60:Int).toNat=10 ^ 60:=by decide +kernel
        rw [N2] at Hl;rw [N3] at Lo;rw [N2,N3];obtain ⟨ys,y1,y2,y3⟩:=og (r:=(u / 2 % 10 ^ 40 * (1 - u % 2 * 2),u / 2 % 10 ^ 40 * (1 - u % 2 * 2) + v % 10 ^ 40,z % 10 ^ 60)) hx eM kU hp;rw [af] at y1;cases y1;refine ⟨_,_,_,_,rfl,keep (s2.trans (ah hp)),af,y2,y3,by simp [tT],λ r DX=>?_⟩;rcases List.mem_append.mp DX with hm | hm
        · exact bH r hm
        · rw [List.mem_singleton] at hm;subst hm;have a1:0≤u / 2 % 10 ^ 40:=Int.emod_nonneg _ (by lia);have a2:u / 2 % 10 ^ 40 < 10 ^ 40:=Int.emod_lt_of_pos _ Hl;have b1:0≤v % 10 ^ 40:=Int.emod_nonneg _ (by lia);have b2:v % 10 ^ 40 < 10 ^ 40:=Int.emod_lt_of_pos _ Hl;have c1:0≤z % 10 ^ 60:=Int.emod_nonneg _ (by lia);have c2:z % 10 ^ 60 < 10 ^ 60:=Int.emod_lt_of_pos _ Lo;have d:u % 2=0∨u % 2=1:=by lia
          generalize u / 2 % 10 ^ 40=x at *;generalize v % 10 ^ 40=y at *;generalize z % 10 ^ 60=t at *;unfold Hj;dsimp only;rcases d with d | d<;>rw [d]<;>refine ⟨by lia,c1,by lia,by lia,by lia,c2⟩
      · rintro σ H2 ⟨rs,xs,o2,o3,rfl,s2,hx,eM,kU,tT,bH⟩;exact ⟨_,rfl,q l rs H2 JC s2 ⟨xs,hx,eM,kU⟩ (by lia) bH⟩
    · -- drawn
      have DY:=s0.seq hl;refine ⟨_,rfl,a,ns,0,rfl,DY,by decide,_,6,4,rfl,by decide,by decide,λ kind H1 k0 k1 s1=>?_⟩;have S1:av H H1:=s0.trans s1;have N4:H1 l=some (.lst []):=s1 _ _ af;refine ⟨_,_,rfl,rfl,⟨by decide,by decide,by decide⟩,by show 4≤sizeLine;decide,λ t1 Cn=>?_⟩;have S2:=S1.trans (ah (o:=.tup [.int 1,.int 1,.int (10 ^ (9:Int).toNat),.int 7]) Cn);refine ⟨_,rfl,a,ns,1,rfl,S2.seq hl,by decide,_,7,4,rfl,by decide,by decide,λ r1 H2 QK QL s2=>?_⟩;obtain ⟨times,Fd,tm⟩:=pick (ts:=[1,1,10 ^ (9:Int).toNat,7]) (p:=λ x=>1≤x∧x≤1000000000) (by decide +kernel) QK QL;refine ⟨t1,_,_,.int times,rfl,rfl,b_.of (s2 _ _ af),Fd,_,_,rfl,?_⟩;have S3:=S2.trans s2;have N5:H2 l=some (.lst []):=s2 _ _ (by rw [aq (ay N4 Cn)];exact N4);refine ⟨by show 4≤sizeLine;decide,λ t2 pO=>?_⟩;have S4:=S3.trans (ah (o:=.tup [.int 5,.int 12,.int 30,.int 3]) pO);obtain ⟨days,at2,dm⟩:=pick (ts:=[5,12,30,3]) (p:=λ x=>1≤x∧x≤30) (by decide +kernel) k0 k1;refine ⟨_,rfl,t2,_,_,.int days,rfl,rfl,b_.of af,at2,?_⟩;refine ⟨by show 4≤sizeLine;decide,λ t3 Be=>?_⟩;have S5:=S4.trans (ah (o:=.tup [.int 4,.int 50,.int 1000000,.int 10]) Be);refine ⟨_,rfl,a,ns,2,rfl,S5.seq hl,by decide,_,8,4,rfl,by decide,by decide,λ r2 H3 QM QN s3=>?_⟩;obtain ⟨most,QO,mm⟩:=pick (ts:=[4,50,1000000,10]) (p:=λ x=>1≤x∧x≤1000000) (by decide +kernel) QM QN;refine ⟨t3,_,_,.int most,rfl,rfl,b_.of (s3 _ _ af),QO,_,_,rfl,?_⟩;have S6:=S5.trans s3;have JD:upd H2 t2 (.tup [.int 5,.int 12,.int 30,.int 3]) l=some (.lst []):=by rw [aq (ay N5 pO)];exact N5
      have QP:H3 l=some (.lst []):=s3 _ _ (by rw [aq (ay JD Be)];exact JD);refine ⟨_,rfl,a,ns,1,rfl,S6.seq hl,by decide,_,9,8,rfl,by decide,by decide,λ r3 H4 UG UH s4=>?_⟩;have S7:=S6.trans s4;have QQ:H4 l=some (.lst []):=s4 _ _ QP;refine ⟨rfl,_,rfl,yK λ each he=>?_⟩;refine ⟨_,rfl,_,rfl,a,_,rfl,.inl (S7.seq hl),_,_,rfl,rfl,.inl ⟨by lia,by lia⟩,?_⟩;rw [List.length_map];have hb:0≤each * (ns.length:Nat)∧each * (ns.length:Nat)≤126:=by rcases he with rfl | rfl<;>lia
      refine ⟨_,rfl,by lia,by lia,?_⟩;refine eI d5 (λ i σ H2=>∃ rs xs o2 o3 o9 Lp,σ=[some (.ref a),some (.ref l),o2,o3,some (.int kind),some (.int times),some (.int days),some (.int most),some (.int each),o9,Lp]∧av H H2∧H2 l=some (.lst xs)∧xs.length=rs.length∧(∀ (i:Nat) r,rs[i]?=some r→∃ p,xs[i]?=some (.ref p)∧H2 p=some (.tup (fj r)))∧rs.length=i∧∀ r∈rs,Hj r)
        (λ _ _ _ _ _=>trivial) ⟨[],[],_,_,_,_,rfl,S7,QQ,rfl,λ i r e=>by simp at e,rfl,λ r DX=>by simp at DX⟩ ?_ ?_
      · rintro i x σ N6 H5 hi ⟨rfl,rfl⟩ ⟨rs,xs,o2,o3,o9,Lp,rfl,s5,hx,eM,kU,tT,bH⟩;have Lk:((0 + (i:Int)) / each).toNat < ns.length:=by rcases he with rfl | rfl<;>lia
        have N7:eA (ns.map V.int) ((0 + (i:Int)) / each)=some (.int ns[((0 + (i:Int)) / each).toNat]):=js (by rcases he with rfl | rfl<;>lia) Lk;generalize ns[((0 + (i:Int)) / each).toNat]=u at N7;refine ⟨_,rfl,_,rfl,_,rfl,_,_,rfl,rfl,⟨by lia,by lia⟩,a,_,_,_,rfl,rfl,s5.seq hl,N7,_,rfl,_,rfl,_,_,rfl,rfl,by lia,_,_,rfl,rfl,.inl ⟨by decide,by decide⟩,_,_,rfl,rfl,?_⟩;refine ⟨_,rfl,_,rfl,_,_,rfl,rfl,by show (0:Int) < 5;decide,_,_,rfl,rfl,_,rfl,_,rfl,_,_,rfl,rfl,by show (0:Int) < 3;decide,_,_,rfl,rfl,_,_,_,rfl,by lia,by lia,λ f1 H6 UI UJ s6=>?_⟩;refine ⟨_,rfl,_,_,rfl,rfl,⟨by decide,by decide⟩,_,_,rfl,rfl,?_⟩;refine ⟨_,rfl,_,rfl,_,rfl,_,_,rfl,rfl,by show (0:Int) < 7;decide,_,_,rfl,rfl,by show 4≤sizeLine;decide,λ t4 Lq=>?_⟩;obtain ⟨span,QR,sm⟩:=pick (ts:=[1,3,8,2]) (p:=λ x=>1≤x∧x≤8) (by decide +kernel) k0 k1;refine ⟨_,rfl,t4,_,_,.int span,rfl,rfl,b_.of af,QR,_,_,_,rfl,by lia,by lia,λ f2 H7 UK UL s7=>?_⟩;have S8:av H5 H7:=(s6.trans (ah Lq)).trans s7;refine ⟨_,_,rfl,rfl,?_⟩;refine ⟨_,rfl,.inl ⟨rfl,_,aJ.of (S8 _ _ hx)⟩,?_⟩;refine ⟨_,rfl,_,rfl,_,_,rfl,rfl,.inr ⟨by lia,by lia⟩,_,rfl,_,rfl,_,_,rfl,rfl,.inr ⟨by lia,by lia⟩,?_⟩;refine ⟨_,rfl,_,rfl,_,_,rfl,rfl,by show (0:Int) < 3;decide,_,_,rfl,rfl,_,rfl,_,_,_,rfl,by lia,by lia,λ f3 H8 QS UM s8=>?_⟩;refine ⟨by show 3≤sizeLine;decide,λ p hp=>?_⟩;have S9:av H5 H8:=S8.trans s8;have DZ:=S9 _ _ hx;have Hk:l≠p:=ay DZ hp;refine ⟨l,xs,_,rfl,rfl,by rw [aq Hk];exact DZ,nX (by lia),?_⟩;obtain ⟨ys,y1,y2,y3⟩:=og (r:=((f1 - days / 2) * times,(f1 - days / 2 + f2) * times,f3)) DZ eM (λ i r e=>let ⟨p',e1,e2⟩:=kU i r e;⟨p',e1,S9 _ _ e2⟩) hp;rw [af] at y1;cases y1;refine ⟨_,_,_,_,_,_,rfl,keep ((s5.trans S9).trans (ah hp)),af,y2,y3,by simp [tT],λ r DX=>?_⟩;rcases List.mem_append.mp DX with hm | hm
        · exact bH r hm
        · rw [List.mem_singleton] at hm;subst hm;have d0:0≤days / 2:=Int.ediv_nonneg (by lia) (by decide);have d1:days / 2≤15:=by lia
          have d2:(0 + (i:Int)) % 3 < 3:=by lia
          obtain ⟨m1,m2⟩:=oh (x:=f1 - days / 2) (t:=times) (by lia) (by lia) (by lia) (by lia);obtain ⟨m3,m4⟩:=oh (x:=f1 - days / 2 + f2) (t:=times) (by lia) (by lia) (by lia) (by lia);have m5:(f1 - days / 2) * times≤(f1 - days / 2 + f2) * times:=Int.mul_le_mul_of_nonneg_right (by lia) (by lia);unfold Hj;dsimp only;generalize (f1 - days / 2) * times=A at *;generalize (f1 - days / 2 + f2) * times=B at *;exact ⟨m5,QS,by lia,by lia,by lia,by lia⟩
      · rintro σ H5 ⟨rs,xs,o2,o3,o9,Lp,rfl,s5,hx,eM,kU,tT,bH⟩;exact ⟨_,rfl,q l rs H5 JC s5 ⟨xs,hx,eM,kU⟩ (by lia) bH⟩
end
end Sp
namespace jN
open PySem
noncomputable def nj (xs:Array Nat):Prop:=∀ i j,i < j→j < xs.size→xs.getD i 0 < xs.getD j 0
theorem getD_eq {xs:Array Nat} {i d:Nat} (h:i < xs.size):xs.getD i d=xs[i]:=by simp [Array.getD,h]
theorem pP {xs:Array Nat} {j:Nat} (hr:nj xs):∀ (fuel lo hi:Nat),lo≤hi→hi≤xs.size→hi - lo≤fuel→(∀ i,i < lo→xs.getD i 0 < j)→(∀ i,hi≤i→i < xs.size→j≤xs.getD i 0) →
    SetTable.below.go xs j fuel lo hi≤xs.size∧(∀ i,i < SetTable.below.go xs j fuel lo hi→xs.getD i 0 < j)∧∀ i,SetTable.below.go xs j fuel lo hi≤i→i < xs.size→j≤xs.getD i 0
  | 0,lo,hi,h1,h2,h3,h4,h5=>by
    have:lo=hi:=by omega
    subst this;exact ⟨h2,h4,h5⟩
  | fuel + 1,lo,hi,h1,h2,h3,h4,h5=>by
    unfold SetTable.below.go
    by_cases c:lo < hi
    · rw [if_pos c];dsimp only;have hm:(lo + hi) / 2 < xs.size:=by omega
      have e:xs.getD ((lo + hi) / 2) j=xs.getD ((lo + hi) / 2) 0:=by rw [getD_eq hm,getD_eq hm]
      by_cases c2:xs.getD ((lo + hi) / 2) j < j
      · rw [if_pos c2];refine pP hr fuel _ _ (by omega) h2 (by omega) (λ i dG=>?_) h5;rw [e] at c2
        by_cases ei:i=(lo + hi) / 2
        · subst ei;exact c2
        · have:=hr i ((lo + hi) / 2) (by omega) hm;omega
      · rw [if_neg c2];refine pP hr fuel _ _ (by omega) (by omega) (by omega) h4 (λ i Ck Ap=>?_);rw [e] at c2
        by_cases ei:i=(lo + hi) / 2
        · subst ei;omega
        · have:=hr ((lo + hi) / 2) i (by omega) Ap;omega
    · rw [if_neg c];have:lo=hi:=by omega
      subst this;exact ⟨h2,h4,h5⟩
theorem i0 {xs:Array Nat} (hr:nj xs) (j:Nat):SetTable.below xs j≤xs.size∧(∀ i,i < SetTable.below xs j→xs.getD i 0 < j)∧∀ i,SetTable.below xs j≤i→i < xs.size→j≤xs.getD i 0 :=
  pP hr xs.size 0 xs.size (Nat.zero_le _) (Nat.le_refl _) (by lia) (λ i hi=>absurd hi (Nat.not_lt_zero _)) λ i h1 h2=>by lia
theorem lS {xs:Array Nat} (hr:nj xs):SetTable.below xs 0=0:=by
  obtain ⟨h1,h2,_⟩:=i0 hr 0;rcases Nat.eq_zero_or_pos (SetTable.below xs 0) with h | h
  · exact h
  · have:=h2 0 h
    lia
theorem lT {xs:Array Nat} (hr:nj xs) {i:Nat} (hi:i < xs.size):SetTable.below xs (xs.getD i 0 + 1)=i + 1:=by
  obtain ⟨h1,h2,h3⟩:=i0 hr (xs.getD i 0 + 1);rcases Nat.lt_trichotomy (SetTable.below xs (xs.getD i 0 + 1)) (i + 1) with h | h | h
  · have:=h3 i (by omega) hi;omega
  · exact h
  · have h4:=h2 (i + 1) h;have h5:=hr i (i + 1) (by omega) (by omega);omega
theorem qV {xs:Array Nat} (hr:nj xs) {j:Nat} (hn:xs[SetTable.below xs j]?≠some j):nj (SetTable.insertAt xs (SetTable.below xs j) j):=by
  obtain ⟨h1,h2,h3⟩:=i0 hr j;have iK:(SetTable.insertAt xs (SetTable.below xs j) j).size=xs.size + 1:=by
    have:=(SetTable.insertAt_perm xs (SetTable.below xs j) j).length_eq;simpa using this
  generalize hb:SetTable.below xs j=b at h1 h2 h3 hn iK ⊢;have get:∀ i,i < xs.size + 1→(SetTable.insertAt xs b j).getD i 0=if i < b then xs.getD i 0 else if i=b then j else xs.getD (i - 1) 0:=λ i hi=>by
    have hl:=SetTable.toList_insertAt xs b j;have e:(SetTable.insertAt xs b j)[i]?=(xs.toList.take b ++ j :: xs.toList.drop b)[i]?:=by rw [← Array.getElem?_toList,hl]
    have v_:(xs.toList.take b).length=b:=by simp;lia
    rw [Array.getD_eq_getD_getElem?,e]
    by_cases c1:i < b
    · rw [if_pos c1,List.getElem?_append_left (by lia),List.getElem?_take_of_lt c1,Array.getElem?_toList,← Array.getD_eq_getD_getElem?]
    · rw [if_neg c1,List.getElem?_append_right (by lia),v_]
      by_cases c2:i=b
      · subst c2;simp
      · rw [if_neg c2];obtain ⟨k,hk⟩:∃ k,i - b=k + 1:=⟨i - b - 1,by lia⟩;rw [hk,List.getElem?_cons_succ,List.getElem?_drop,Array.getElem?_toList,← Array.getD_eq_getD_getElem?,show b + k=i - 1 by lia]
  have up:∀ i,b≤i→i < xs.size→j < xs.getD i 0:=λ i h4 h5=>by
    have D0:b < xs.size:=by lia
    have h6:=h3 b (Nat.le_refl _) D0;have h7:xs.getD b 0≠j:=λ z=>hn (by rw [getElem?_pos xs b D0,← z,getD_eq D0])
    by_cases e:i=b
    · subst e;lia
    · have:=hr b i (by lia) h5
      lia
  intro i k QT hk;rw [iK] at hk;rw [get i (by lia),get k hk]
  by_cases c1:i < b
  · rw [if_pos c1]
    by_cases c2:k < b
    · rw [if_pos c2];exact hr i k QT (by lia)
    · rw [if_neg c2]
      by_cases c3:k=b
      · rw [if_pos c3];exact h2 i c1
      · rw [if_neg c3];exact hr i (k - 1) (by lia) (by lia)
  · rw [if_neg c1,if_neg (by lia:¬ k < b),if_neg (by lia:¬ k=b)]
    by_cases c2:i=b
    · rw [if_pos c2];exact up (k - 1) (by lia) (by lia)
    · rw [if_neg c2];exact hr (i - 1) (k - 1) (by lia) (by lia)
structure Good (t:SetTable) (b:Bool):Prop where
  led:t.led=b
  N8:t.dummies = #[]
  rise:t.plain=true→nj t.place
theorem Good.fresh {m f:Nat} {b:Bool}:Good (.fresh m f b) b:=⟨rfl,rfl,λ _ i j h1 h2=>absurd h2 (Nat.not_lt_zero _)⟩
theorem Good.u7 {t:SetTable} {b:Bool} (h:Good t b) (n:Nat):Good (t.standIn n) b:=⟨h.led,rfl,λ z=>by cases z⟩
theorem Good.Bf {t:SetTable} {b:Bool} (h:Good t b) (n:Nat):Good (t.orStandIn n) b:=by
  unfold SetTable.orStandIn;split
  · exact h
  · exact h.u7 n
theorem has_none (j:Nat):SetTable.has #[] j=false:=by
  unfold SetTable.has;simp
theorem qW {t:SetTable} (hd:t.dummies = #[]) {f:Nat→Int} {h:Int}:∀ (fuel:Nat) (p:SetTable.Probe) {j:Nat} {d:Option Nat},p.dummy=none→SetTable.probe.go t f h fuel p=some (.empty j d)→t.slot j = .empty∧d=none
  | 0,p,j,d,_,e=>by cases e
  | fuel + 1,p,j,d,hp,e=>by
    unfold SetTable.probe.go at e;have QU:∀ p:SetTable.Probe,p.dummy=none→(t.advance p).dummy=none:=λ p h=>by
      unfold SetTable.advance;split
      · exact h
      · exact h
    have nd:t.slot p.j≠.dummy:=by
      unfold SetTable.slot;dsimp only;split
      · intro z;cases z
      · rw [hd,has_none];intro z;cases z
    cases hs:t.slot p.j with
    | empty =>
      rw [hs] at e;dsimp only at e;cases e;exact ⟨hs,hp⟩
    | dummy=>exact absurd hs nd
    | live i =>
      rw [hs] at e;dsimp only at e;split at e
      · cases e
      · exact qW hd fuel _ (QU p hp) e
theorem Good.put {t:SetTable} {b:Bool} (h:Good t b) {j:Nat} (hs:t.slot j = .empty):Good (t.put j).1 b:=by
  refine ⟨h.led,?_,λ hp=>?_⟩
  · show (if SetTable.has t.dummies j=true then _ else t.dummies) = #[];rw [h.N8,has_none,if_neg (by simp)]
  · refine qV (h.rise hp) λ z=>?_;unfold SetTable.slot at hs;dsimp only at hs;rw [z] at hs;simp at hs
theorem Good.new {t:SetTable} {b:Bool} (h:Good t b) (es:Array (Int×Value)) (n:Int) (x:Value):Good (layNew t es n x).2.1 b:=by
  unfold layNew;cases e:t.freeSlot n with
  | none=>exact h.u7 _
  | some r =>
    obtain ⟨slot,N9⟩:=r;dsimp only;unfold SetTable.freeSlot SetTable.probe at e;cases e2:SetTable.probe.go t (λ _=>n + 1) n (10 * SetTable.turns t.mask) (t.probeStart n) with
    | none=>rw [e2] at e;cases e
    | some m =>
      rw [e2] at e;cases m with
      | candidate=>cases e
      | empty j d =>
        obtain ⟨h1,rfl⟩:=qW h.N8 _ _ rfl e2;cases e;exact (h.put h1).Bf _
theorem wt {n:Nat} {f:Nat→Option Nat}:nj (((List.range n).filterMap λ j=>(f j).map (j,·)).map (·.1)).toArray:=by
  have key:(((List.range n).filterMap λ j=>(f j).map (j,·)).map (·.1)).Pairwise (· < ·):=by
    rw [List.pairwise_map];refine List.Pairwise.filterMap _ ?_ (List.pairwise_lt_range (n:=n));intro a a' h b hb b' n6;cases ha:f a with
    | none=>rw [ha] at hb;simp at hb
    | some x =>
      cases DI:f a' with
      | none=>rw [DI] at n6;simp at n6
      | some x' =>
        rw [ha] at hb;rw [DI] at n6;simp at hb n6;subst hb;subst n6;exact h
  intro i j kJ hj;have ie:j < (((List.range n).filterMap λ j=>(f j).map (j,·)).map (·.1)).length:=by simpa using hj
  have:=List.pairwise_iff_getElem.mp key i j (by lia) ie kJ;have dG:i < (((List.range n).filterMap λ j=>(f j).map (j,·)).map (·.1)).toArray.size:=by lia
  rw [getD_eq dG,getD_eq hj];simpa using this
theorem Good.Hm {t:SetTable} {b:Bool} (h:Good t b) (es:Array (Int×Value)) (n:Nat):Good (relayAll t es n).2.1 b:=by
  unfold relayAll;cases e:t.relaid (es.map (·.1)) n with
  | none=>exact h.u7 _
  | some r =>
    obtain ⟨t',order⟩:=r;dsimp only;split
    · unfold SetTable.relaid SetTable.laid at e;cases e2:SetTable.layClean (SetTable.sizeAbove n - 1) (es.map (·.1)) with
      | none=>rw [e2] at e;cases e
      | some owner =>
        rw [e2] at e;cases e;exact ⟨h.led,rfl,λ _=>wt⟩
    · exact h.u7 _
end jN
namespace jN
open PySem PyProof.Rows
section
variable {prog:Program} {w:World}
noncomputable def SX (prog:Program) (w:World) (h:Heap) (a:Addr) (l:List Int) (b:Bool):Prop :=
  ∃ o es ep t,h.get? a=some o∧o.ExactSet∧o.data = .set es ep t∧ElemsOf (intKind prog w) es.toList∧(es.toList.map λ e=>numOf e.2).Perm l∧l.length < scanBound∧t.fits es.size=true∧Good t b
theorem SX.keeps {h h':Heap} {a:Addr} {l:List Int} {b:Bool} (x:SX prog w h a l b) (hk:∀ o,h.get? a=some o→h'.get? a=some o):SX prog w h' a l b:=by
  obtain ⟨o,es,ep,t,g,r⟩:=x;exact ⟨o,es,ep,t,hk o g,r⟩
theorem tU {k:Int} {v:Value} (h:(intKind prog w).is k v=true):∃ t,v = .int k t:=Value.isInt_shape h
theorem size_of {es:Array (Int×Value)} {l:List Int} (h:(es.toList.map λ e=>numOf e.2).Perm l):es.size=l.length:=by
  have:=h.length_eq;simpa using this
noncomputable def eS (l:List Int) (n:Int):List Int:=if n∈l then l else l ++ [n]
variable {A:Around} {E:Value→Shared→Prop} {s:Shared}
theorem u9 {a:Addr} {o:Obj} {es nF:Array (Int×Value)} {ep:Nat} {t t':SetTable} {l:List Int} {b:Bool} (ho:s.heap.get? a=some o) (hex:o.ExactSet) (hd:o.data = .set es ep t) (Bg:ElemsOf (intKind prog w) nF.toList)
    (hp:(nF.toList.map λ e=>numOf e.2).Perm l) (hb:l.length < scanBound) (hf:t'.fits nF.size=true) (hg:Good t' b) :
    (s.heap.update a (Obj.putSet nF t')).get? a=some { o with data:=.set nF (ep + 1) t' }∧SX prog w (s.heap.update a (Obj.putSet nF t')) a l b:=by
  have g:(s.heap.update a (Obj.putSet nF t')).get? a=some { o with data:=.set nF (ep + 1) t' }:=by
    have:=Heap.get?_update_self (Obj.putSet nF t') ho (by rw [putSet_of nF t' hd];rfl)
    rwa [putSet_of nF t' hd] at this
  exact ⟨g,_,nF,ep + 1,t',g,hex,rfl,Bg,hp,hb,hf,hg⟩
theorem Hn {a:Addr} {l:List Int} {b:Bool} {n:Int} {tk:Tok} {Q:Bool→Shared→Prop} (hS:SX prog w s.heap a l b) (N_:l.length + 1 < scanBound)
    (h:∀ r h',Heap.SameBut a s.heap h'→SX prog w h' a (eS l n) b→Q r { s with heap:=h' }):wpAny (model prog w) A (setAddHashed a (.int n tk) ((intKind prog w).hash n)) Q E s:=by
  obtain ⟨o,es,ep,t,ho,hex,hd,Bg,hp,hb,hf,hg⟩:=hS;have iK:=size_of hp;have pk:(intKind prog w).is n (.int n tk)=true:=intKind_is _ _ _ _;unfold setAddHashed setAddHashedIn;refine wpAny_holding (wpAny_bind (wpAny_setState_of ho hd hf ?_));dsimp only;rw [byScan_of rfl (by omega) Bg];simp only [↓reduceIte];unfold setAddByScan;refine wpAny_bind (wpAny_bind (wpAny_rule (wpAny_bind (wpAny_setScan_of pk ho hd hf Bg ?_))));cases hr:List.findIdx? (λ e=>(intKind prog w).is n e.2) es.toList with
  | some j =>
    dsimp only;obtain ⟨hj,QV,_⟩:=List.findIdx?_eq_some_iff_getElem.mp hr;obtain ⟨t',e'⟩:=tU QV;have hm:n∈l:=hp.mem_iff.mp (List.mem_map.mpr ⟨es.toList[j],List.getElem_mem hj,by rw [e'];rfl⟩);refine wpAny_pure (wpAny_pure ?_);have:=h false s.heap (Heap.SameBut.refl a s.heap) ⟨o,es,ep,t,ho,hex,hd,Bg,by unfold eS;rw [if_pos hm];exact hp,by unfold eS;rw [if_pos hm];exact hb,hf,hg⟩;exact this
  | none =>
    dsimp only;have hm:n∉l:=λ z=>by
      obtain ⟨e,he,e1⟩:=List.mem_map.mp (hp.mem_iff.mpr z);have h1:=List.findIdx?_eq_none_iff.mp hr e he;obtain ⟨⟨k,hk,_⟩,_⟩:=Bg e he;obtain ⟨t',e2⟩:=tU hk;have e3:k=n:=by rw [e2] at e1;exact e1
      rw [← e3,hk] at h1;cases h1
    have qX:=layNew_perm t es ((intKind prog w).hash n) (.int n tk);have u_:=layNew_fits t es ((intKind prog w).hash n) (.int n tk);have va:=hg.new es ((intKind prog w).hash n) (.int n tk);generalize layNew t es ((intKind prog w).hash n) (.int n tk)=L at qX u_ va ⊢;obtain ⟨nq,t1,N9,QW⟩:=L;dsimp only at qX u_ va ⊢;rw [Array.toList_push] at qX;have Ho:ElemsOf (intKind prog w) nq.toList:=(Bg.push pk rfl).perm qX;have pQ:(nq.toList.map λ e=>numOf e.2).Perm (eS l n):=by
      unfold eS;rw [if_neg hm];refine (qX.map _).trans ?_;rw [List.map_append];exact hp.append_right _
    have vc:(eS l n).length < scanBound:=by unfold eS;rw [if_neg hm,List.length_append,List.length_singleton];omega
    have way:∀ (g:Bool) {s₁:Shared} {Q':Unit→Shared→Prop},Q' () s₁→wpAny (model prog w) A (match g with | true=>rule "set.scan.the-table-gave-way" | false=>pure ()) Q' E s₁ :=
      λ g s₁ Q' hq=>by cases g<;>first | exact wpAny_pure hq | exact wpAny_rule hq
    refine wpAny_bind (way _ ?_);have rest:∀ t2:SetTable,t2.fits nq.size=true→Good t2 b→wpAny (model prog w) A (do
        storeSet a nq t2
        if (!N9 && t2.tooFull)=true then do
            (match (relayAll t2 nq (SetTable.grown nq.size)).2.2 with | true=>rule "set.scan.the-table-gave-way" | false=>pure ())
            storeSet a (relayAll t2 nq (SetTable.grown nq.size)).1 (relayAll t2 nq (SetTable.grown nq.size)).2.1
            pure (some true)
          else pure (some true)) (λ r s'=>wpAny (model prog w) A (match r with | some added=>pure added | none=>setAddHashedIn a (.int n tk) ((intKind prog w).hash n) 99999) Q E s') E s:=λ t2 JD Oa=>by
      have z1:nq.size≤sizeLine:=fits_of_scanBound (by rw [size_of pQ];exact vc);refine wpAny_bind (wpAny_storeSet_of ho hd ?_ z1);obtain ⟨g1,x1⟩:=u9 (prog:=prog) (w:=w) ho hex hd Ho pQ vc JD Oa;have Ob:=Heap.SameBut.update s.heap a (Obj.putSet nq t2);split
      · have JE:=relayAll_perm t2 nq (SetTable.grown nq.size);have tM:=relayAll_fits t2 nq (SetTable.grown nq.size);have Fe:=Oa.Hm nq (SetTable.grown nq.size);generalize relayAll t2 nq (SetTable.grown nq.size)=Rl at JE tM Fe ⊢;obtain ⟨QX,t3,Oc⟩:=Rl;dsimp only at JE tM Fe ⊢;have iM:(QX.toList.map λ e=>numOf e.2).Perm (eS l n):=(JE.map _).trans pQ;refine wpAny_bind (way _ ?_);refine wpAny_bind (wpAny_storeSet_of g1 rfl ?_ (fits_of_scanBound (by rw [size_of iM];exact vc)));obtain ⟨_,x2⟩:=u9 (prog:=prog) (w:=w) (s:={ s with heap:=s.heap.update a (Obj.putSet nq t2) }) g1 hex rfl (Ho.perm JE) iM vc tM Fe;exact wpAny_pure (wpAny_pure (h true _ (Ob.trans (Heap.SameBut.update _ a _)) x2))
      · exact wpAny_pure (wpAny_pure (h true _ Ob x1))
    split
    · refine wpAny_bind ?_;rw [hashByValue_scannable 8 rfl];refine wpAny_pure ?_;exact rest t1 u_ va
    · refine wpAny_bind (wpAny_pure ?_);simp only [↓reduceIte];exact rest t1 u_ va
end
end jN
set_option maxHeartbeats 3200000
namespace jN
open PySem PyProof.Rows
noncomputable def seen (val:Nat→Int) (i:Nat):List Int:=((List.range i).map val).foldl eS []
theorem ig (val:Nat→Int) (i:Nat):seen val (i + 1)=eS (seen val i) (val i):=by
  unfold seen;rw [List.range_succ,List.map_append,List.foldl_append];rfl
theorem gY (val:Nat→Int):∀ i,(seen val i).length≤i
  | 0=>Nat.le_refl _
  | i + 1=>by
    rw [ig];have:=gY val i;unfold eS;split
    · lia
    · rw [List.length_append,List.length_singleton];lia
theorem lU (val:Nat→Int):∀ i,(seen val i).Nodup
  | 0=>.nil
  | i + 1=>by
    rw [ig];have ih:=lU val i;unfold eS;split
    · exact ih
    · rename_i h
      exact List.nodup_append.mpr ⟨ih,by simp,λ x hx y hy z=>h (by rw [List.mem_singleton] at hy;rw [← hy,← z];exact hx)⟩
theorem qY (val:Nat→Int) {n:Int}:∀ i,n∈seen val i↔∃ j,j < i∧val j=n
  | 0=>⟨λ h=>by simp [seen] at h,λ ⟨j,h,_⟩=>by lia⟩
  | i + 1=>by
    rw [ig];have ih:=qY val (n:=n) i;have step:n∈eS (seen val i) (val i)↔n∈seen val i∨n=val i:=by
      unfold eS;split
      · rename_i h
        exact ⟨.inl,λ z=>z.elim id λ e=>e ▸ h⟩
      · rw [List.mem_append,List.mem_singleton]
    rw [step,ih];constructor
    · rintro (⟨j,h1,h2⟩ | h)
      · exact ⟨j,by lia,h2⟩
      · exact ⟨i,by lia,h.symm⟩
    · rintro ⟨j,h1,h2⟩
      by_cases e:j=i
      · subst e;exact .inr h2.symm
      · exact .inl ⟨j,by lia,h2⟩
section
variable {prog:Program} {w:World} {A:Around} {b:Bool}
theorem D6 {R:Result→Shared→Prop} {I:Addr} {fp wr:List Addr} {G:Array GenState→Array GenState→Prop} {n:Nat} {P:Nat→Value→Prop} {St:Nat→Shared→Prop} (W:WalksS prog w A.in1 I fp wr G n P St) (S:Addr) (hS:S∉fp)
    (val:Nat→Int) (hv:∀ i v,P i v→∃ t,v = .int (val i) t) (hb:n + 1 < scanBound) :
    ∀ (k i:Nat) (s:Shared),n - i=k→i≤n→St i s→SX prog w s.heap S (seen val i) b→(∀ s',Moved (S :: wr) G s s'→SX prog w s'.heap S (seen val n) b→R (.ok (.ret .none)) s') →
      codeAny (model prog w) A (.builtin "set.update.loop" ⟨[.ref S,.ref I],[]⟩) R s:=by
  have nw:S∉wr:=λ h=>hS (W.sub _ h);have up:∀ c∈wr,c∈S :: wr:=λ c hc=>List.mem_cons_of_mem _ hc;intro k
  induction k with
  | zero =>
    intro i s hk hi st x hR;obtain rfl:i=n:=by lia
    refine codeAny_builtin PyProof.Rows.F.entry_set_update_loop ?_;rw [Around.under_plainId PyProof.Rows.F.plain_set_update_loop _];show wpAny _ A.in1 (pyNext (.ref I) >>= _) _ _ s;refine wpAny_bind (W.done s _ _ st λ s' hm=>?_);show wpAny _ A.in1 (ret Value.none) _ _ s';exact wpAny_pure (hR s' (hm.mono up) (x.keeps λ o e=>hm.heap S _ nw e))
  | succ k ih =>
    intro i s hk hi st x hR;refine codeAny_builtin PyProof.Rows.F.entry_set_update_loop ?_;rw [Around.under_plainId PyProof.Rows.F.plain_set_update_loop _];show wpAny _ A.in1 (pyNext (.ref I) >>= _) _ _ s;refine wpAny_bind (W.item i s _ _ (by lia) st λ v s' hP aE hm=>?_);obtain ⟨t,rfl⟩:=hv i v hP;have x':SX prog w s'.heap S (seen val i) b:=x.keeps λ o e=>hm.heap S _ nw e;show wpAny _ A.in1 (holding [Value.int (val i) t] (setAdd S (.int (val i) t)) >>= _) _ _ s';unfold setAdd;refine wpAny_bind (wpAny_holding (wpAny_holding (wpAny_bind ((intKind prog w).pyHash (k:=val i) (intKind_is _ _ _ _) ?_))));have room:(seen val i).length + 1 < scanBound:=by have:=gY val i;lia
    refine Hn (s:={ s' with toks:=s'.toks + 1 }) x' room λ r h' Jw x2=>?_;rw [← ig] at x2;refine wpAny_pure ⟨plainId_quiet PyProof.Rows.F.plain_set_update_loop _,ih (i + 1) _ (by lia) (by lia) (W.frame _ s' _ _ aE (Nat.le_succ _) λ c hc o e=>?_) x2 λ Am Lr x3=>?_⟩
    · rw [Jw.2 c λ z:c=S=>hS (z ▸ hc)];exact e
    · refine hR Am (Moved.trans W.gtrans ((hm.mono up).then_heap (Nat.le_succ _) λ c o hc e=>?_) Lr) x3;rw [Jw.2 c λ z:c=S=>hc (z ▸ List.mem_cons_self)];exact e
variable {E:Value→Shared→Prop} {s:Shared}
noncomputable def dh (w:World):Bool:=!w.params.followText "set-order"
theorem Hq (v:Value) {Q:Value→Shared→Prop} (h:Q (.ref s.heap.objs.size) { s with heap:=s.heap.push { cls:=.type "set",dict:=none,data:=.set #[] 0 (.fresh 0 0 (dh w)) } }) :
    codeAny (model prog w) A (.call (.builtin "set.__new__") ⟨[.type "set",v],[]⟩) (wants Q E) s:=by
  refine codeAny_of_tree ?_;show wpAny _ A.in1 (do checkBuiltinCall "set.__new__" ⟨[.type "set",v],[]⟩;again (.builtin "set.__new__" ⟨[.type "set",v],[]⟩)) _ _ s
  refine wpAny_bind (wpAny_of_eq (PySem.F.newCall_set_1 v) (wpAny_pure ⟨plainId_quiet PySem.F.plain_set_new _,codeAny_builtin PySem.F.entry_set_new ?_⟩));rw [Around.under_plainId PySem.F.plain_set_new _];unfold Builtin.«set.__new__» Builtin.Frozenset.newClass;have y1:=sub_set_self;obtain ⟨hp,g,d,tk,os⟩:=s;dsimp only
  wp_walk
  refine wpAny_askSetting (wpAny_pure ?_);dsimp only;simp only [newObj];exact wpAny_bind (wpAny_alloc (wpAny_pure (wpAny_pure h)))
theorem tV {l:Addr} {items:Array Value} {ns:List Int} {Q:Value→Shared→Prop} (hh:A.handled=none) (hl:s.heap.IsList l items) (hi:IntsAre items.toList ns) (hb:items.size + 1 < scanBound)
    (h:∀ (h':Heap) (tk:Nat),SX prog w h' s.heap.objs.size (seen (λ i=>ns.getD i 0) items.size) (dh w)→(∀ c o,c < s.heap.objs.size→s.heap.get? c=some o→h'.get? c=some o)→Q (.ref s.heap.objs.size) { s with heap:=h',toks:=tk }) :
    wpAny (model prog w) A (call (.type "set") [.ref l]) Q E s:=by
  obtain ⟨c0,t0,m0⟩:=PySem.F.called_set.mro;have m1:=PySem.F.called_set.made;have m2:=PySem.F.called_set.sub;refine wpAny_call (codeAny_of_tree ?_);show wpAny _ _ (callAny (.type "set") _) _ _ _;refine wpAny_pure ⟨Code.quiet_builtin _ (by decide +kernel),codeAny_builtin PySem.F.entry_type_call ?_⟩;rw [Around.under_plain (weight_type_call_type "set" [.ref l] []) rfl];have m3:=PySem.F.called_set.notType;have m4:=PySem.F.called_set.canCreate;have m5:=PySem.F.typeCall_set_1 (.ref l)
  repeat (any_goals (first | assumption | wp_step))
  refine codeAny_mono (Hq (.ref l) (E:=E) (Q:=λ v s₁=>v = .ref s.heap.objs.size∧s₁ = { s with heap:=s.heap.push { cls:=.type "set",dict:=none,data:=.set #[] 0 (.fresh 0 0 (dh w)) } }) ⟨rfl,rfl⟩) λ r s₁ hr=>?_;cases r with
  | error e=>exact hr
  | ok fl =>
    cases fl with
    | ret v0 =>
      obtain ⟨rfl,rfl⟩:=hr;have hS:(s.heap.push { cls:=.type "set",dict:=none,data:=.set #[] 0 (.fresh 0 0 (dh w)) }).get? s.heap.objs.size=some { cls:=.type "set",dict:=none,data:=.set #[] 0 (.fresh 0 0 (dh w)) }:=Heap.get?_push_size _ rfl;have hT:Shared.TypeIs { s with heap:=s.heap.push { cls:=.type "set",dict:=none,data:=.set #[] 0 (.fresh 0 0 (dh w)) } } (.ref s.heap.objs.size) "set":=⟨_,hS,rfl⟩;have m6:=PySem.F.called_set.init.lookup;have m7:=PySem.F.called_set.init.bind (.ref s.heap.objs.size)
      repeat (any_goals (first | assumption | wp_step))
      refine codeAny_mono (codeAny_call_builtin (R:=wants (λ r s₂=>r = .none∧∃ h' tk,s₂ = { s with heap:=h',toks:=tk }∧SX prog w h' s.heap.objs.size (seen (λ i=>ns.getD i 0) items.size) (dh w) ∧
          ∀ c o,c < s.heap.objs.size→s.heap.get? c=some o→h'.get? c=some o) E) PySem.F.called_set.init.plain PySem.F.entry_set_init (check_set_init_1 hT ?_)) λ r₂ s₂ yM=>?_
      · obtain ⟨ol,gl,cl,nl,dl⟩:=hl;obtain ⟨QY,Hr,Od,D7⟩:=ol;simp only at cl dl;subst cl;subst dl;have QZ:(s.heap.push { cls:=.type "set",dict:=none,data:=.set #[] 0 (.fresh 0 0 (dh w)) }).get? l=some { cls:=.type "list",dict:=Hr,data:=.seq items nl,slots:=D7 }:=Heap.get?_push_of_some _ gl;have n1:=PySem.F.sub_list_set;have n2:=PySem.F.sub_list_frozenset;have n3:(Value.type "list" == Value.type "dict")=false:=by decide
        have il:(s.heap.push { cls:=.type "set",dict:=none,data:=.set #[] 0 (.fresh 0 0 (dh w)) }).IsList l items:=⟨_,QZ,rfl,nl,rfl⟩;unfold Builtin.«set.__init__» noKeywords Builtin.Frozenset.updateFrom;generalize Q0:pyIter=PI
        wp_walk
        subst Q0;refine wpAny_pyIter_list il (wpAny_bind (wpAny_runValue ?_));have ll:l < s.heap.objs.size:=Heap.lt_size gl;have h3:A.in1.in1.in1.handled=none:=by simp [hh]
        have nI:l≠(s.heap.push { cls:=.type "set",dict:=none,data:=.set #[] 0 (.fresh 0 0 (dh w)) }).objs.size:=by rw [Heap.size_push];exact Nat.ne_of_lt (Nat.lt_succ_of_lt ll)
        have nS:s.heap.objs.size∉[(s.heap.push { cls:=.type "set",dict:=none,data:=.set #[] 0 (.fresh 0 0 (dh w)) }).objs.size,l]:=by
          rw [Heap.size_push];simp only [List.mem_cons,List.mem_singleton,List.not_mem_nil,or_false,not_or];exact ⟨Nat.ne_of_lt (Nat.lt_succ_self _),Nat.ne_of_gt ll⟩
        have vv:∀ (i:Nat) (v:Value),items[i]?=some v→∃ t,v = .int ((λ i=>ns.getD i 0) i) t:=λ i v e=>IntsAre.int_at hi i v (by rw [Array.getElem?_toList];exact e);refine D6 (b:=dh w) ((Walks.list h3 _ l nI items).toS) s.heap.objs.size nS (λ i=>ns.getD i 0) vv hb (items.size - 0) 0 _ (by lia) (Nat.zero_le _) ⟨⟨_,Heap.get?_push_size _ rfl,rfl,rfl⟩,(il.push _)⟩ ?x0 ?xR
        case x0 =>
          exact ⟨_,#[],0,_,Heap.get?_push_of_some _ hS,⟨rfl,rfl,rfl⟩,rfl,λ e he=>by simp at he,.nil,by show 0 < scanBound;decide,rfl,Good.fresh⟩
        case xR =>
          intro s' hm x';obtain ⟨h',g',d',JF,KP⟩:=s';obtain rfl:g'=s.gens:=hm.gens;obtain rfl:d'=s.drawn:=hm.drawn;obtain rfl:KP=s.os:=hm.os;show wpAny _ _ _ _ _ _;refine wpAny_pure ?_;show wpAny _ _ (ret Value.none) _ _ _;refine wpAny_pure ⟨rfl,h',JF,rfl,x',λ c o hc e=>?_⟩;refine hm.heap c o ?_ (Heap.get?_push_of_some _ (Heap.get?_push_of_some _ e));simp only [List.mem_cons,List.mem_singleton,List.not_mem_nil,or_false,not_or];exact ⟨Nat.ne_of_lt hc,by rw [Heap.size_push];exact Nat.ne_of_lt (Nat.lt_succ_of_lt hc)⟩
      · cases r₂ with
        | error e=>exact yM
        | ok Hs =>
          cases Hs with
          | ret r =>
            obtain ⟨rfl,h',tk,rfl,x',k'⟩:=yM
            repeat (any_goals (first | assumption | wp_step))
            exact h _ _ x' k'
          | _=>exact yM.elim
    | _=>exact hr.elim
end
end jN
set_option maxHeartbeats 1000000
namespace jN
open PySem PyProof.Rows
theorem cH:Slot "set_iterator" "__next__" "set_iterator.__next__":=.of (owner:="set_iterator") (n:="__next__") (by rw [typeLookup_type,builtinLookup_eq_fast];kernel_rfl) (by decide +kernel) (by decide +kernel) (by decide +kernel) (by first | exact .inl (by decide +kernel) | exact .inr (by decide +kernel)) (by rw [isSubtype_type];kernel_rfl)
theorem jt:Slot "set_iterator" "__iter__" "set_iterator.__iter__":=.of (owner:="set_iterator") (n:="__iter__") (by rw [typeLookup_type,builtinLookup_eq_fast];kernel_rfl) (by decide +kernel) (by decide +kernel) (by decide +kernel) (by first | exact .inl (by decide +kernel) | exact .inr (by decide +kernel)) (by rw [isSubtype_type];kernel_rfl)
theorem iQ:entryFor table "set_iterator.__next__"=some Builtin.«set_iterator.__next__»:=entryFor_of_fast (by kernel_rfl)
theorem ny:entryFor table "set_iterator.__iter__"=some Builtin.«dict_keyiterator.__iter__»:=entryFor_alias (id':="dict_keyiterator.__iter__") (by kernel_rfl) rfl (by decide +kernel) (by kernel_rfl)
theorem pR:entryFor table "set.__iter__"=some Builtin.«frozenset.__iter__»:=entryFor_alias (id':="frozenset.__iter__") (by kernel_rfl) rfl (by decide +kernel) (by kernel_rfl)
theorem ju (a:Value):argsOk "set_iterator.__next__" ⟨[a],[]⟩:=by unfold argsOk;kernel_rfl
theorem pS (a:Value):argsOk "set_iterator.__iter__" ⟨[a],[]⟩:=by unfold argsOk;kernel_rfl
theorem i4 {α:Type}:∀ {l:List α} {i:Nat} (hi:i < l.length),(l[i] :: l.eraseIdx i).Perm l
  | [],i,h=>by simp at h
  | x :: l,0,_=>List.Perm.refl _
  | x :: l,i + 1,h=>by
    have h':i < l.length:=by simpa using h
    exact (List.Perm.swap x (l[i]'h') (l.eraseIdx i)).trans ((i4 h').cons x)
section
variable {prog:Program} {w:World} {A:Around} {E:Value→Shared→Prop} {s:Shared}
theorem tW {M:Model} {src:Source} {n:Nat} {Q:Nat→Shared→Prop} (hn:n≠0) (h:∀ i d,i < n→Q i { s with drawn:=d }):wpAny M A (choose src n) Q E s:=λ _ _ _=>⟨hn,h _ _ (Nat.mod_lt _ (Nat.pos_of_ne_zero hn))⟩
theorem vd {M:Model} {α:Type}:∀ (n:Nat) (xs:List α) (s:Shared) {Q:List α→Shared→Prop},xs.length=n→(∀ ys d,ys.Perm xs→Q ys { s with drawn:=d })→wpAny M A (drawOrder n xs) Q E s
  | 0,[],s,Q,_,h=>by
    unfold drawOrder;exact wpAny_pure (h [] s.drawn (List.Perm.refl _))
  | 0,_ :: _,s,Q,e,_=>by simp at e
  | n + 1,[],s,Q,e,_=>by simp at e
  | n + 1,x :: xs,s,Q,e,h=>by
    unfold drawOrder;refine wpAny_bind (tW (by simp) λ i d hi=>?_);rw [List.getElem?_eq_getElem hi];dsimp only;have hl:((x :: xs).eraseIdx i).length=n:=by rw [List.length_eraseIdx_of_lt hi];simp at e ⊢;exact e
    refine wpAny_bind (vd n _ _ hl λ ys d' hp=>wpAny_pure (h _ d' ?_));refine (hp.cons _).trans ?_;exact i4 hi
structure jv (prog:Program) (w:World) (h:Heap) (a:Addr) (o:Obj) (es:Array (Int×Value)) (ep:Nat) (t:SetTable):Prop where
  get:h.get? a=some o
  ex:o.ExactSet
  dat:o.data = .set es ep t
  fits:t.fits es.size=true
theorem ij {Q:Bool→Shared→Prop} (h:Q (w.params.followText "set-order") s):wpAny (model prog w) A setsByText Q E s:=by
  unfold setsByText;exact wpAny_bind (wpAny_askSetting (wpAny_pure h))
theorem wu {α:Type} (next:Nat→Nat) (xs:Array α):(pickOrder next xs).toList.Perm xs.toList:=by
  have key:∀ (fuel k:Nat) (left:List α) (out:Array α),left.length=fuel→(pickOrder.go next fuel k left out).toList.Perm (out.toList ++ left):=by
    intro fuel
    induction fuel with
    | zero =>
      intro k left out e;have:left=[]:=List.length_eq_zero_iff.mp e;subst this;unfold pickOrder.go;simp
    | succ fuel ih =>
      intro k left out e;unfold pickOrder.go;have hi:next k % left.length < left.length:=Nat.mod_lt _ (by lia);rw [List.getElem?_eq_getElem hi];dsimp only;refine (ih (k + 1) _ _ (by rw [List.length_eraseIdx_of_lt hi];lia)).trans ?_;rw [Array.toList_push,List.append_assoc];exact (i4 hi).append_left _
  unfold pickOrder;have:=key xs.size 0 xs.toList #[] (by simp);simpa using this
theorem oj {a:Addr} {o:Obj} {es:Array (Int×Value)} {ep slot given:Nat} {t:SetTable} {Q:Option (Value×Nat)→Shared→Prop} (x:jv prog w s.heap a o es ep t) (hb:w.params.followText "set-order"=true)
    (h:Q (((pickOrder (w.params.setOrder a ep) es)[given]?).map λ e=>(e.2,slot)) s):wpAny (model prog w) A (setNext a slot given ep) Q E s:=by
  unfold setNext;refine wpAny_bind (wpAny_setState_of x.get x.dat x.fits ?_);dsimp only;refine wpAny_bind (ij ?_);rw [hb,if_pos rfl,if_neg (by simp)];unfold setWalk;refine wpAny_bind (wpAny_bind (wpAny_setState_of x.get x.dat x.fits ?_));dsimp only;refine wpAny_bind (ij ?_);rw [hb,if_pos rfl];exact wpAny_bind (wpAny_askSetting (wpAny_pure (wpAny_pure h)))
theorem lV {a:Addr} {o:Obj} {es:Array (Int×Value)} {ep slot given e':Nat} {t:SetTable} {Q:Option (Value×Nat)→Shared→Prop} (x:jv prog w s.heap a o es ep t) (hb:w.params.followText "set-order"=false) (hd:(!t.plain && decide (es.size > 1))=false) (hl:t.led=true)
    (h:Q (match es[SetTable.below t.place slot]?,t.place[SetTable.below t.place slot]? with | some (_,v),some j=>some (v,j + 1) | _,_=>none) s):wpAny (model prog w) A (setNext a slot given e') Q E s:=by
  unfold setNext;refine wpAny_bind (wpAny_setState_of x.get x.dat x.fits ?_);dsimp only;refine wpAny_bind (ij ?_);rw [hb,if_neg (by simp)];show wpAny _ _ (if (!t.plain && decide (es.size > 1))=true then _ else _) _ _ _;rw [hd,if_neg (by simp)];show wpAny _ _ (do (if (!t.led && !es.isEmpty)=true then unsupported "set:maker-not-led" else pure ());_) _ _ _
  rw [hl];simp only [Bool.not_true,Bool.false_and,Bool.false_eq_true,if_false];exact wpAny_bind (wpAny_pure (wpAny_pure h))
inductive Road (w:World) (a:Addr) (es:Array (Int×Value)) (ep:Nat) (t:SetTable):(Nat→Value)→List Value→List (Addr×Obj)→Prop
  | text (hb:w.params.followText "set-order"=true):Road w a es ep t (λ _=>.int 0 0) ((pickOrder (w.params.setOrder a ep) es).toList.map (·.2)) []
  | slots (hb:w.params.followText "set-order"=false) (hd:(!t.plain && decide (es.size > 1))=false) (hl:t.led=true) (hr:nj t.place) :
      Road w a es ep t (λ i=>match i with | 0=>.int 0 0 | i + 1=>.int (t.place.getD i 0 + 1:Nat) 0) (es.toList.map (·.2)) []
  | drawn {T:Addr} {oT:Obj} {nT:Nat} {ps:List Nat} (hp:ps.Perm (List.range es.size)) (hT:oT.data = .seq (ps.map λ i:Nat=>rawInt i).toArray nT):Road w a es ep t (λ _=>.ref T) (ps.map λ p=>(es.getD p (0,.none)).2) [(T,oT)]
theorem Road.perm {w:World} {a:Addr} {es:Array (Int×Value)} {ep:Nat} {t:SetTable} {f:Nat→Value} {vs:List Value} {ts:List (Addr×Obj)} (r:Road w a es ep t f vs ts):vs.Perm (es.toList.map (·.2)):=by
  cases r with
  | text hb=>exact (wu _ _).map _
  | slots=>exact List.Perm.refl _
  | drawn hp hT =>
    have e:(List.range es.size).map (λ p=>(es.getD p (0,.none)).2)=es.toList.map (·.2):=by
      apply List.ext_getElem
      · simp
      · intro i h1 h2;have Ck:i < es.size:=by simpa using h1
        simp [Array.getD,Ck]
    rw [← e];exact hp.map _
noncomputable def kx (f:Value) (i:Nat) (a:Addr) (n ep:Nat):Obj:={ cls:=.type "set_iterator",data:=.fields #[f,.int i 0,.ref a,.int n 0,.int ep 0] }
noncomputable def JG (a:Addr) (o:Obj) (n ep:Nat) (I:Addr) (f:Nat→Value) (ts:List (Addr×Obj)) (i:Nat) (h:Heap):Prop :=
  h.get? I=some (kx (f i) i a n ep)∧h.get? a=some o∧∀ p∈ts,h.get? p.1=some p.2
end
section
variable {prog:Program} {w:World} {A:Around} {E:Value→Shared→Prop} {s:Shared} {I a:Addr} {o:Obj} {es:Array (Int×Value)} {ep:Nat} {t:SetTable}
theorem fO {f:Value} {i n:Nat} (h:s.heap.get? I=some (kx f i a n ep)):s.TypeIs (.ref I) "set_iterator":=⟨_,h,rfl⟩
theorem yN {h:Heap} {f:Value} {i n k:Nat} {v:Value} (e:h.get? I=some (kx f i a n ep)):(h.update I (Obj.mapFields (·.setIfInBounds k v))).get? I=some { cls:=.type "set_iterator",data:=.fields ((#[f,.int i 0,.ref a,.int n 0,.int ep 0]:Array Value).setIfInBounds k v) }:=by
  rw [Heap.get?_update_self _ e (by rfl)];rfl
theorem wx {f g v:Value} {i:Nat} {Q:Option Value→Shared→Prop} (x:jv prog w s.heap a o es ep t) (hI:s.heap.get? I=some (kx f i a es.size ep)) (D8:a≠I)
    (road:(∃ k j:Nat,f = .int k 0∧g = .int j 0∧∀ (A:Around) (E:Value→Shared→Prop) (Q:Option (Value×Nat)→Shared→Prop),Q (some (v,j)) s→wpAny (model prog w) A (setNext a k i ep) Q E s) ∨
      ∃ T oT nT ps p u,f = .ref T∧g=f∧s.heap.get? T=some oT∧oT.data = .seq ps nT∧ps[i]?=some (.int (p:Nat) u)∧∃ k,es[p]?=some (k,v))
    (hQ:∀ h',Heap.SameBut I s.heap h'→h'.get? I=some (kx g (i + 1) a es.size ep)→Q (some v) { s with heap:=h' }):wpAny (model prog w) A (pyNext (.ref I)) Q E s:=by
  unfold pyNext;refine wpAny_bind (wpAny_attempt (wpAny_callSpecial?_slot (name:=Str.ofString "__next__") (fO hI) cH (wpAny_call_entry cH (fO hI) iQ ?_ (ju _))));unfold Builtin.«set_iterator.__next__»;refine wpAny_bind (m:=slotArgs "__next__" 0 _) (wpAny_pure ?_);dsimp only;refine wpAny_bind (wpAny_fieldsOf hI rfl ?_);show wpAny _ _ (setEntries a >>= _) _ _ _;refine wpAny_bind (wpAny_setEntries_of x.get x.dat x.fits ?_);rw [if_neg (by simp)];have fin:∀ h',Heap.SameBut I s.heap h'→h'.get? I=some (kx g (i + 1) a es.size ep)→wpAny (model prog w) A (pure (some v)) Q E { s with heap:=h' }:=λ h' h1 h2=>wpAny_pure (hQ h' h1 h2);rcases road with ⟨k,j,rfl,rfl,hn⟩ | ⟨T,oT,nT,ps,p,u,rfl,rfl,gT,dT,hp,k,he⟩
  · dsimp only;refine wpAny_bind ?_;simp only [Int.toNat_natCast];refine hn _ _ _ ?_;dsimp only;have e1:=yN (k:=0) (v:=rawInt (j:Nat)) hI;refine wpAny_bind (wpAny_setField hI rfl (by show 0 < 5;decide) ?_);refine wpAny_bind (wpAny_setField e1 rfl (by show 1 < 5;decide) (wpAny_pure ⟨v,rfl,?_⟩));refine fin _ ((Heap.SameBut.update ..).trans (Heap.SameBut.update ..)) ?_;rw [Heap.get?_update_self _ e1 (by rfl)];rfl
  · dsimp only;refine wpAny_bind (wpAny_seqItems gT dT ?_);simp only [Int.toNat_natCast,hp];unfold setNextDrawn;refine wpAny_bind (wpAny_bind (wpAny_setState_of x.get x.dat x.fits ?_));dsimp only;rw [if_neg (by simp)];simp only [Int.toNat_natCast,he];refine wpAny_pure (wpAny_bind (wpAny_setField hI rfl (by show 1 < 5;decide) (wpAny_pure ⟨v,rfl,?_⟩)));refine fin _ (Heap.SameBut.update ..) ?_;rw [Heap.get?_update_self _ hI (by rfl)];rfl
theorem wz {f:Value} {i:Nat} {Q:Option Value→Shared→Prop} (hh:A.handled=none) (x:jv prog w s.heap a o es ep t) (hI:s.heap.get? I=some (kx f i a es.size ep)) (D8:a≠I)
    (road:(∃ k:Nat,f = .int k 0∧∀ (A:Around) (E:Value→Shared→Prop) (Q:Option (Value×Nat)→Shared→Prop),Q none s→wpAny (model prog w) A (setNext a k i ep) Q E s) ∨
      ∃ T oT nT ps,f = .ref T∧s.heap.get? T=some oT∧oT.data = .seq ps nT∧ps[i]?=none)
    (hQ:∀ h',Heap.ExtBut I s.heap h'→Q none { s with heap:=h' }):wpAny (model prog w) A (pyNext (.ref I)) Q E s:=by
  unfold pyNext;refine wpAny_bind (wpAny_attempt (wpAny_callSpecial?_slot (name:=Str.ofString "__next__") (fO hI) cH (wpAny_call_entry cH (fO hI) iQ ?_ (ju _))));unfold Builtin.«set_iterator.__next__»;refine wpAny_bind (m:=slotArgs "__next__" 0 _) (wpAny_pure ?_);dsimp only;refine wpAny_bind (wpAny_fieldsOf hI rfl ?_);show wpAny _ _ (setEntries a >>= _) _ _ _;refine wpAny_bind (wpAny_setEntries_of x.get x.dat x.fits ?_);rw [if_neg (by simp)];rcases road with ⟨k,rfl,hn⟩ | ⟨T,oT,nT,ps,rfl,gT,dT,hp⟩
  · dsimp only;refine wpAny_bind ?_;simp only [Int.toNat_natCast];refine hn _ _ _ ?_;dsimp only;refine wpAny_bind (wpAny_setField hI rfl (by show 2 < 5;decide) ?_);have k1:Heap.ExtBut I s.heap (s.heap.update I (Obj.mapFields (·.setIfInBounds 2 Value.none))):=(Heap.SameBut.update ..).extBut;refine wpAny_bind ?_;simp only [newExc,newTuple];refine wpAny_bind (wpAny_newObj_type ?_ (by size_fits));refine wpAny_bind (m:=firstArgMember _ _) (wpAny_of_eq (a:=Value.none) (by first | rfl | (simp only [firstArgMember];rfl)) (wpAny_newObj_type ?_ (by size_fits)));simp only [raiseNew];refine wpAny_bind (wpAny_handled ?_);rw [show A.in1.handled=none from hh]
    (refine wpAny_bind (wpAny_pure (wpAny_throw ?_)));(refine wpAny_bind (wpAny_isInstance (T:="StopIteration") (b:=true) ⟨_,Heap.get?_push_size _ rfl,rfl⟩ isSubtype_stop ?_))
    exact wpAny_pure (hQ _ ((k1.push _).push _))
  · dsimp only;refine wpAny_bind (wpAny_seqItems gT dT ?_);simp only [Int.toNat_natCast,hp];have e1:=yN (k:=0) (v:=rawInt 0) hI;refine wpAny_bind (wpAny_setField hI rfl (by show 0 < 5;decide) ?_);refine wpAny_bind (wpAny_setField e1 rfl (by show 2 < 5;decide) ?_);have k1:Heap.ExtBut I s.heap ((s.heap.update I (Obj.mapFields (·.setIfInBounds 0 (rawInt 0)))).update I (Obj.mapFields (·.setIfInBounds 2 Value.none))):=((Heap.SameBut.update ..).trans (Heap.SameBut.update ..)).extBut;refine wpAny_bind ?_;simp only [newExc,newTuple];refine wpAny_bind (wpAny_newObj_type ?_ (by size_fits));refine wpAny_bind (m:=firstArgMember _ _) (wpAny_of_eq (a:=Value.none) (by first | rfl | (simp only [firstArgMember];rfl)) (wpAny_newObj_type ?_ (by size_fits)));simp only [raiseNew];refine wpAny_bind (wpAny_handled ?_);rw [show A.in1.handled=none from hh]
    (refine wpAny_bind (wpAny_pure (wpAny_throw ?_)));(refine wpAny_bind (wpAny_isInstance (T:="StopIteration") (b:=true) ⟨_,Heap.get?_push_size _ rfl,rfl⟩ isSubtype_stop ?_))
    exact wpAny_pure (hQ _ ((k1.push _).push _))
theorem JG.at_ {n:Nat} {f:Nat→Value} {ts:List (Addr×Obj)} {i:Nat} {h:Heap} (st:JG a o n ep I f ts i h) (hex:o.ExactSet) (hd:o.data = .set es ep t) (hf:t.fits es.size=true):jv prog w h a o es ep t:=⟨st.2.1,hex,hd,hf⟩
theorem wA {f:Nat→Value} {vs:List Value} {ts:List (Addr×Obj)} (hh:A.handled=none) (r:Road w a es ep t f vs ts) (hex:o.ExactSet) (hd:o.data = .set es ep t) (hf:t.fits es.size=true) (D8:a≠I) (JH:∀ p∈ts,p.1≠I) :
    Walks prog w A I (I :: a :: ts.map (·.1)) [I] vs.length (λ i v=>vs[i]?=some v) (JG a o es.size ep I f ts) where
  sub:=λ b hb=>by rw [List.mem_singleton.mp hb];exact List.mem_cons_self
  frame:=λ i h h' st hk=>⟨hk I List.mem_cons_self _ st.1,hk a (List.mem_cons_of_mem _ List.mem_cons_self) _ st.2.1,λ p hp=>hk p.1 (List.mem_cons_of_mem _ (List.mem_cons_of_mem _ (List.mem_map.mpr ⟨p,hp,rfl⟩))) _ (st.2.2 p hp)⟩
  item:=λ i s Q E hi st hQ=>by
    have x:jv prog w s.heap a o es ep t:=st.at_ hex hd hf;have hv:vs[i]?=some vs[i]:=List.getElem?_eq_getElem hi;have fin:∀ h',Heap.SameBut I s.heap h'→h'.get? I=some (kx (f (i + 1)) (i + 1) a es.size ep)→Q (some vs[i]) { s with heap:=h' }:=λ h' h1 h2=>by
      refine hQ vs[i] h' s.toks hv ⟨h2,?_,λ p hp=>?_⟩ λ b o hb e=>?_
      · rw [h1.2 a D8];exact st.2.1
      · rw [h1.2 p.1 (JH p hp)];exact st.2.2 p hp
      · rw [h1.2 b λ z=>hb (List.mem_singleton.mpr z)];exact e
    refine wx x st.1 D8 (g:=f (i + 1)) ?_ fin;cases r with
    | text hb =>
      refine .inl ⟨0,0,rfl,rfl,λ A E Q q=>oj x hb ?_⟩;have dG:i < (pickOrder (w.params.setOrder a ep) es).size:=by simpa using hi
      rw [getElem?_pos _ i dG];have e:((pickOrder (w.params.setOrder a ep) es).toList.map (·.2))[i]=((pickOrder (w.params.setOrder a ep) es)[i]).2:=by simp
      rw [e] at q;exact q
    | slots hb Ls hl hr =>
      have dG:i < es.size:=by simpa using hi
      have gk:t.place.size=es.size:=by
        unfold SetTable.fits at hf;rw [Bool.and_eq_true,beq_iff_eq] at hf;exact hf.1
      have Lu:∀ k:Nat,(match i with | 0=>Value.int 0 0 | i + 1=>.int (t.place.getD i 0 + 1:Nat) 0) = .int k 0→SetTable.below t.place k=i:=λ k hk=>by
        cases i with
        | zero =>
          have:(0:Int)=k:=by cases hk;rfl
          have:k=0:=by lia
          subst this;exact lS hr
        | succ i =>
          have:((t.place.getD i 0 + 1:Nat):Int)=k:=by cases hk;rfl
          have:k=t.place.getD i 0 + 1:=by lia
          subst this;exact lT hr (by lia)
      obtain ⟨k,hk⟩:∃ k:Nat,(match i with | 0=>Value.int 0 0 | i + 1=>.int (t.place.getD i 0 + 1:Nat) 0) = .int k 0:=by
        cases i with
        | zero=>exact ⟨0,rfl⟩
        | succ i=>exact ⟨_,rfl⟩
      refine .inl ⟨k,t.place.getD i 0 + 1,hk,rfl,λ A E Q q=>lV x hb Ls hl ?_⟩;rw [Lu k hk,getElem?_pos es i dG,getElem?_pos t.place i (by lia)];have e1:(es.toList.map (·.2))[i]=(es[i]).2:=by simp
      have e2:t.place.getD i 0=t.place[i]:=getD_eq (by lia);rw [e1,e2] at q;exact q
    | drawn hp hT =>
      rename_i T oT nT ps
      have dG:i < ps.length:=by simpa using hi
      have Oe:ps[i] < es.size:=List.mem_range.mp (hp.mem_iff.mp (List.getElem_mem dG));refine .inr ⟨T,oT,nT,_,ps[i],0,rfl,rfl,st.2.2 (T,oT) List.mem_cons_self,hT,?_,?_⟩
      · simp [dG];rfl
      · refine ⟨(es[ps[i]]).1,?_⟩;rw [getElem?_pos es ps[i] Oe];simp [Array.getD,Oe]
  done:=λ s Q E st hQ=>by
    have x:jv prog w s.heap a o es ep t:=st.at_ hex hd hf;refine wz hh x st.1 D8 ?_ λ h' h1=>hQ h' s.toks λ b o hb e=>h1 b o (λ z=>hb (List.mem_singleton.mpr z)) e;cases r with
    | text hb =>
      refine .inl ⟨0,rfl,λ A E Q q=>oj x hb ?_⟩;rw [Array.getElem?_eq_none (by simp)];exact q
    | slots hb Ls hl hr =>
      have gk:t.place.size=es.size:=by
        unfold SetTable.fits at hf;rw [Bool.and_eq_true,beq_iff_eq] at hf;exact hf.1
      have hn:(es.toList.map (·.2)).length=es.size:=by simp
      obtain ⟨k,hk,Lf⟩:∃ k:Nat,(match (es.toList.map (·.2)).length with | 0=>Value.int 0 0 | i + 1=>.int (t.place.getD i 0 + 1:Nat) 0) = .int k 0∧SetTable.below t.place k=es.size:=by
        rw [hn];cases h0:es.size with
        | zero=>exact ⟨0,rfl,lS hr⟩
        | succ i=>exact ⟨_,rfl,lT hr (by lia)⟩
      refine .inl ⟨k,hk,λ A E Q q=>lV x hb Ls hl ?_⟩;rw [Lf,Array.getElem?_eq_none (Nat.le_refl _)];exact q
    | drawn hp hT =>
      rename_i T oT nT ps
      refine .inr ⟨T,oT,nT,_,rfl,st.2.2 (T,oT) List.mem_cons_self,hT,?_⟩;exact Array.getElem?_eq_none (by simp)
  self:=λ i s Q E st hQ=>by
    refine wpAny_pyIter_slot (fO st.1) jt (wpAny_call_entry jt (fO st.1) ny ?_ (pS _));show wpAny _ _ (ret (.ref I)) _ _ s;exact wpAny_pure ⟨_,rfl,"set_iterator",_,fO st.1,cH.lookup,hQ⟩
end
end jN
namespace Lv
variable {α:Type}
structure Ord (lt:α→α→Bool):Prop where
  Bh:∀ x y,lt x y=true→lt y x=false
  trans:∀ x y z,lt y x=false→lt z y=false→lt z x=false
noncomputable def le (lt:α→α→Bool) (x y:α):Prop:=lt y x=false
section
variable {lt:α→α→Bool}
theorem Ord.refl (O:Ord lt) (x:α):le lt x x:=by
  unfold le;cases h:lt x x with
  | false=>rfl
  | true=>have:=O.Bh x x h;rw [h] at this;cases this
theorem Ord.gf (O:Ord lt) {x y:α} (h:lt x y=true):le lt x y:=O.Bh x y h
theorem Ord.tr (O:Ord lt) {x y z:α} (h1:le lt x y) (h2:le lt y z):le lt x z:=O.trans x y z h1 h2
theorem Ord.swap (O:Ord lt):Ord (λ x y=>lt y x):=⟨λ x y h=>O.Bh y x h,λ x y z h1 h2=>O.trans z y x h2 h1⟩
noncomputable def Sd (lt:α→α→Bool) (l:List α):Prop:=l.Pairwise (le lt)
theorem Sd.at_ (O:Ord lt) {l:List α} (h:Sd lt l) {i j:Nat} {x y:α} (kJ:i≤j) (hx:l[i]?=some x) (hy:l[j]?=some y):le lt x y:=by
  by_cases e:i=j
  · subst e;rw [hx] at hy;cases hy;exact O.refl x
  · obtain ⟨h1,e1⟩:=List.getElem?_eq_some_iff.mp hx;obtain ⟨h2,e2⟩:=List.getElem?_eq_some_iff.mp hy;have:=List.pairwise_iff_getElem.mp h i j h1 h2 (by lia);rw [e1,e2] at this;exact this
theorem Sd.of (l:List α) (h:∀ i x y,l[i]?=some x→l[i + 1]?=some y→le lt x y) (O:Ord lt):Sd lt l:=by
  have key:∀ (d i:Nat) x y,l[i]?=some x→l[i + d]?=some y→le lt x y:=by
    intro d
    induction d with
    | zero=>intro i x y hx hy;rw [Nat.add_zero,hx] at hy;cases hy;exact O.refl x
    | succ d ih =>
      intro i x y hx hy;have hb:i + d < l.length:=by have:=(List.getElem?_eq_some_iff.mp hy).1;lia
      have hz:l[i + d]?=some l[i + d]:=List.getElem?_eq_getElem hb;exact O.tr (ih i x _ hx hz) (h (i + d) _ y hz (by rw [← hy];rfl))
  refine List.pairwise_iff_getElem.mpr λ i j hi hj kJ=>?_;refine key (j - i) i _ _ (List.getElem?_eq_getElem hi) ?_;rw [show i + (j - i)=j by lia];exact List.getElem?_eq_getElem hj
theorem Sd.drop {l:List α} (h:Sd lt l) (n:Nat):Sd lt (l.drop n):=h.sublist (List.drop_sublist n l)
theorem Sd.append {l r:List α} (h1:Sd lt l) (h2:Sd lt r) (h:∀ x∈l,∀ y∈r,le lt x y):Sd lt (l ++ r):=List.pairwise_append.mpr ⟨h1,h2,h⟩
theorem Sd.rev {l:List α} (h:Sd lt l):Sd (λ x y=>lt y x) l.reverse:=by
  unfold Sd;rw [List.pairwise_reverse];exact h.imp λ h'=>h'
theorem Sd.Co {l:List α} (h:Sd (λ x y=>lt y x) l):Sd lt l.reverse:=by
  unfold Sd;rw [List.pairwise_reverse];exact h.imp λ h'=>h'
structure MI (lt:α→α→Bool) (A B out:List α) (ia ib:Nat):Prop where
  la:ia≤A.length
  lb:ib≤B.length
  perm:out.Perm (A.take ia ++ B.take ib)
  sd:Sd lt out
  Ht:∀ x∈out,∀ y∈A.drop ia,le lt x y
  DL:∀ x∈out,∀ y∈B.drop ib,le lt x y
theorem MI.symm {A B out:List α} {ia ib:Nat} (h:MI lt A B out ia ib):MI lt B A out ib ia:=⟨h.lb,h.la,h.perm.trans List.perm_append_comm,h.sd,h.DL,h.Ht⟩
theorem MI.nil {A B:List α}:MI lt A B [] 0 0:=⟨Nat.zero_le _,Nat.zero_le _,by simp,.nil,λ x h=>by simp at h,λ x h=>by simp at h⟩
theorem wB {l:List α} {i:Nat} {x:α} (h:l[i]?=some x):l.drop i=x :: l.drop (i + 1):=by
  obtain ⟨h1,e1⟩:=List.getElem?_eq_some_iff.mp h;rw [List.drop_eq_getElem_cons h1,e1]
theorem MI.a (O:Ord lt) {A B out:List α} {ia ib:Nat} {x:α} (h:MI lt A B out ia ib) (sA:Sd lt A) (hx:A[ia]?=some x) (hb:∀ y∈B.drop ib,le lt x y):MI lt A B (out ++ [x]) (ia + 1) ib:=by
  have hl:ia < A.length:=(List.getElem?_eq_some_iff.mp hx).1;have ed:=wB hx;have Q1:Sd lt (x :: A.drop (ia + 1)):=ed ▸ sA.drop ia;refine ⟨hl,h.lb,?_,?_,?_,?_⟩
  · have e:A.take (ia + 1)=A.take ia ++ [x]:=by
      rw [List.take_succ_eq_append_getElem hl,(List.getElem?_eq_some_iff.mp hx).2]
    rw [e];have:=h.perm.append_right [x];refine this.trans ?_;rw [List.append_assoc,List.append_assoc];exact List.perm_append_comm.append_left _
  · refine h.sd.append (List.pairwise_singleton _ _) λ z hz y hy=>?_;rw [List.mem_singleton] at hy;subst hy;exact h.Ht z hz y (by rw [ed];simp)
  · intro z hz y hy;rcases List.mem_append.mp hz with hz | hz
    · exact h.Ht z hz y (by rw [ed];exact List.mem_cons_of_mem _ hy)
    · rw [List.mem_singleton] at hz;subst hz;exact (List.pairwise_cons.mp Q1).1 y hy
  · intro z hz y hy;rcases List.mem_append.mp hz with hz | hz
    · exact h.DL z hz y hy
    · rw [List.mem_singleton] at hz;subst hz;exact hb y hy
theorem MI.b (O:Ord lt) {A B out:List α} {ia ib:Nat} {x:α} (h:MI lt A B out ia ib) (sB:Sd lt B) (hx:B[ib]?=some x) (ha:∀ y∈A.drop ia,le lt x y):MI lt A B (out ++ [x]) ia (ib + 1):=(h.symm.a O sB hx ha).symm
theorem MI.as (O:Ord lt) {A B:List α} (sA:Sd lt A):∀ (k:Nat) {out:List α} {ia ib:Nat},MI lt A B out ia ib→ia + k≤A.length→(∀ i x,i < k→A[ia + i]?=some x→∀ y∈B.drop ib,le lt x y)→MI lt A B (out ++ (A.drop ia).take k) (ia + k) ib
  | 0,out,ia,ib,h,_,_=>by simpa using h
  | k + 1,out,ia,ib,h,hk,hx=>by
    have hl:ia < A.length:=by lia
    have h1:=h.a O sA (List.getElem?_eq_getElem hl) (hx 0 _ (by lia) (by simpa using List.getElem?_eq_getElem hl));have h2:=MI.as O sA k h1 (by lia) λ i x hi e=>hx (i + 1) x (by lia) (by rw [show ia + (i + 1)=ia + 1 + i by lia];exact e);rw [show ia + 1 + k=ia + (k + 1) by lia] at h2;have e:(A.drop ia).take (k + 1)=A[ia] :: (A.drop (ia + 1)).take k:=by rw [List.drop_eq_getElem_cons hl,List.take_succ_cons]
    rw [e];simpa using h2
theorem MI.bs (O:Ord lt) {A B:List α} (sB:Sd lt B) (k:Nat) {out:List α} {ia ib:Nat} (h:MI lt A B out ia ib) (hk:ib + k≤B.length) (hx:∀ i x,i < k→B[ib + i]?=some x→∀ y∈A.drop ia,le lt x y):MI lt A B (out ++ (B.drop ib).take k) ia (ib + k) :=
  (MI.as O sB k h.symm hk hx).symm
theorem MI.D9 {A B out:List α} {ia ib:Nat} (h:MI lt A B out ia ib) (sA:Sd lt A) (e:ib=B.length):Sd lt (out ++ A.drop ia ++ B.drop ib)∧(out ++ A.drop ia ++ B.drop ib).Perm (A ++ B):=by
  have e1:B.drop ib=[]:=by rw [e];simp
  rw [e1,List.append_nil];refine ⟨h.sd.append (sA.drop ia) h.Ht,?_⟩;refine (h.perm.append_right _).trans ?_;rw [show B.take ib=B by rw [e];simp,List.append_assoc];refine (List.perm_append_comm.append_left _).trans ?_;rw [← List.append_assoc,List.take_append_drop]
theorem MI.Hu {A B out:List α} {ia ib:Nat} (h:MI lt A B out ia ib) (sB:Sd lt B) (e:ia=A.length):Sd lt (out ++ A.drop ia ++ B.drop ib)∧(out ++ A.drop ia ++ B.drop ib).Perm (A ++ B):=by
  have e1:A.drop ia=[]:=by rw [e];simp
  have:=h.symm.D9 sB e;rw [e1,List.append_nil] at this;rw [e1,List.append_nil];exact ⟨this.1,this.2.trans List.perm_append_comm⟩
theorem MI.Hv {A B out:List α} {ia ib:Nat} (h:MI lt A B out ia ib) (sA:Sd lt A) (sB:Sd lt B) (hh:∀ x∈B,∀ y∈A.drop ia,le lt x y):Sd lt (out ++ B.drop ib ++ A.drop ia)∧(out ++ B.drop ib ++ A.drop ia).Perm (A ++ B):=by
  refine ⟨(h.sd.append (sB.drop ib) h.DL).append (sA.drop ia) λ x hx y hy=>?_,?_⟩
  · rcases List.mem_append.mp hx with hx | hx
    · exact h.Ht x hx y hy
    · exact hh x (List.mem_of_mem_drop hx) y hy
  · refine ((h.perm.append_right _).append_right _).trans ?_;rw [List.append_assoc (List.take ia A),List.take_append_drop];refine (List.perm_append_comm).trans ?_;rw [← List.append_assoc];refine (List.perm_append_comm.append_right _).trans ?_;rw [List.take_append_drop]
theorem yO (A:List α) (n:Nat) (h:n≤A.length):A.reverse.drop (A.length - n)=(A.take n).reverse:=by
  rw [List.drop_reverse,show A.length - (A.length - n)=n by lia]
theorem ve {A:List α} {n:Nat} (h:n < A.length):A.reverse[A.length - (n + 1)]?=A[n]?:=by
  rw [List.getElem?_reverse (by omega)];congr 1;omega
end
end Lv
namespace qZ
open PySem Lv PyProof.Rows
noncomputable def it (xs:Array Keyed) (i:Nat):Keyed:=xs.getD i (Value.none,Value.none)
theorem dH {xs ys:Array Keyed} {i j:Nat} (h:xs[i]?=ys[j]?):it xs i=it ys j:=by
  unfold it;rw [Array.getD_eq_getD_getElem?,Array.getD_eq_getD_getElem?,h]
theorem lW {xs:Array Keyed} {i:Nat} (h:i < xs.size):xs[i]?=some (it xs i):=by
  unfold it;rw [Array.getD_eq_getD_getElem?,getElem?_pos xs i h];rfl
theorem i5 {xs:Array Keyed} {i:Nat} (h:i < xs.size):it xs i∈xs.toList:=by
  have:=lW h;rw [← Array.getElem?_toList] at this;exact List.mem_of_getElem? this
noncomputable def jw (prog:Program) (w:World) (A:Around) (s:Shared) (κ:SortKind) (lt:Keyed→Keyed→Bool) (a₀:Array Keyed):Prop :=
  ∀ p q,p∈a₀.toList→q∈a₀.toList→∀ (E:Value→Shared→Prop) (Q:Bool→Shared→Prop),Q (lt p q) s→wpAny (model prog w) A (keyLt' κ p.1 q.1) Q E s
structure SB (κ:SortKind) (a₀:Array Keyed) (st:SortSt):Prop where
  perm:(arrOf st).toList.Perm a₀.toList
  kind:kindOf st=κ
  failed:failedOf st=none
theorem SB.size {κ:SortKind} {a₀:Array Keyed} {st:SortSt} (h:SB κ a₀ st):(arrOf st).size=a₀.size:=by
  have:=h.perm.length_eq;simpa using this
theorem SB.mem {κ:SortKind} {a₀:Array Keyed} {st:SortSt} (h:SB κ a₀ st) {i:Nat} (hi:i < a₀.size):it (arrOf st) i∈a₀.toList:=h.perm.mem_iff.mp (i5 (by rw [h.size];exact hi))
theorem SB.set {κ:SortKind} {a₀:Array Keyed} {st:SortSt} (h:SB κ a₀ st) {xs:Array Keyed} (hp:xs.Perm (arrOf st)):SB κ a₀ (setArr st xs):=⟨(Array.perm_iff_toList_perm.mp hp).trans h.perm,h.kind,h.failed⟩
noncomputable def Up (lt:Keyed→Keyed→Bool) (xs:Array Keyed) (lo n:Nat):Prop:=∀ i j,i≤j→j < n→le lt (it xs (lo + i)) (it xs (lo + j))
noncomputable def Down (lt:Keyed→Keyed→Bool) (xs:Array Keyed) (lo n:Nat):Prop:=∀ i j,i≤j→j < n→le lt (it xs (lo + j)) (it xs (lo + i))
section
variable {prog:Program} {w:World} {A:Around} {E:Value→Shared→Prop} {s:Shared} {a₀:Array Keyed} {κ:SortKind} {lt:Keyed→Keyed→Bool}
theorem gZ {st:SortSt} {p q:Keyed} {Q:Option Bool→SortSt→Prop} (C:jw prog w A s κ lt a₀) (hk:kindOf st=κ) (hp:p∈a₀.toList) (hq:q∈a₀.toList) (h:Q (some (lt p q)) st):wpS (model prog w) A E s (lt' p q) Q st:=by
  rw [lt'_eq];refine wpS_bind (wpS_get ?_);rw [hk];exact wpS_bind (wpS_lift (wpAny_attempt (C p q hp hq _ _ ⟨rfl,wpS_pure h⟩)))
theorem a_ {st:SortSt} {xs:Array Keyed} {i:Nat} {Q:Keyed→SortSt→Prop} (hi:i < xs.size) (h:Q (it xs i) st):wpS (model prog w) A E s (elem' xs i) Q st:=by
  rw [elem'_eq,lW hi];exact wpS_pure h
theorem lX {st:SortSt} {i j:Nat} {Q:Option Bool→SortSt→Prop} (C:jw prog w A s κ lt a₀) (hB:SB κ a₀ st) (hi:i < a₀.size) (hj:j < a₀.size) (h:Q (some (lt (it (arrOf st) i) (it (arrOf st) j))) st) :
    wpS (model prog w) A E s (ltAt' i j) Q st:=by
  rw [ltAt'_eq];refine wpS_bind (wpS_get ?_);exact wpS_bind (a_ (by rw [hB.size];exact hi) (wpS_bind (a_ (by rw [hB.size];exact hj) (gZ C hB.kind (hB.mem hi) (hB.mem hj) h))))
theorem jX {xs:Array Keyed} {src d:Nat} (hs:src < xs.size) (hd:d≤src) (k:Nat):it (bubble xs src d) k=if k=src - d then it xs src else if src - d < k∧k≤src then it xs (k - 1) else it xs k:=by
  have e:=getElem?_bubble hs d hd k
  by_cases h1:k=src - d
  · rw [if_pos h1] at e ⊢;exact dH e
  · rw [if_neg h1] at e ⊢
    by_cases h2:src - d < k∧k≤src
    · rw [if_pos h2] at e ⊢;exact dH e
    · rw [if_neg h2] at e ⊢;exact dH e
theorem c8 {xs:Array Keyed} {i j:Nat} (hj:j≤xs.size) (k:Nat):it (mirror xs i j ((j - i) / 2)) k=if i≤k∧k < j then it xs (i + j - 1 - k) else it xs k:=by
  have e:=getElem?_mirror_all (i:=i) hj k
  by_cases h1:i≤k∧k < j
  · rw [if_pos h1] at e ⊢;exact dH e
  · rw [if_neg h1] at e ⊢;exact dH e
theorem eT {st:SortSt} {i j:Nat} {Q:Unit→SortSt→Prop} (h:Q () (setArr st (mirror (arrOf st) i j ((j - i) / 2)))):wpS (model prog w) A E s (reverseSlice' i j) Q st:=by
  rw [reverseSlice'_eq];exact wpS_modify h
structure Left (lo:Nat) (st aE:SortSt):Prop where
  low:∀ k,k < lo→it (arrOf aE) k=it (arrOf st) k
  pend:pendingOf aE=pendingOf st
theorem Left.refl {lo:Nat} (st:SortSt):Left lo st st:=⟨λ _ _=>rfl,rfl⟩
theorem Left.trans {lo:Nat} {st aE dR:SortSt} (h:Left lo st aE) (h':Left lo aE dR):Left lo st dR:=⟨λ k hk=>(h'.low k hk).trans (h.low k hk),h'.pend.trans h.pend⟩
theorem Left.mirror {lo i j:Nat} {st:SortSt} (hj:j≤(arrOf st).size) (hi:lo≤i):Left lo st (setArr st (mirror (arrOf st) i j ((j - i) / 2))) :=
  ⟨λ k hk=>by show it (PyProof.Rows.mirror (arrOf st) i j ((j - i) / 2)) k=_;rw [c8 hj,if_neg (by lia)],rfl⟩
theorem Bi {st:SortSt} {lo n ok:Nat} {Q:Bool→SortSt→Prop} (O:Ord lt) (C:jw prog w A s κ lt a₀) (hn:lo + n≤a₀.size) (bH:ok≤n) (hB:SB κ a₀ st) (hs:Up lt (arrOf st) lo ok)
    (h:∀ aE,SB κ a₀ aE→Left lo st aE→Up lt (arrOf aE) lo n→Q true aE):wpS (model prog w) A E s (binarySort' lo n ok) Q st:=by
  rw [binarySort'_eq];refine wpS_bind (wpS_mono (wpS_forRange (I:=λ k c aE=>c=(none,())∧SB κ a₀ aE∧Left lo st aE∧Up lt (arrOf aE) lo (min k n))
    (Q:=λ c aE=>c=(none,())∧SB κ a₀ aE∧Left lo st aE∧Up lt (arrOf aE) lo n) ?step ?fin ?init) ?post)
  case post =>
    rintro c aE ⟨rfl,lY,hL,eE⟩;exact wpS_pure (h aE lY hL eE)
  case init =>
    refine ⟨rfl,hB,Left.refl st,λ i j kJ hj=>?_⟩
    by_cases h1:ok=0
    · have:i=j:=by lia
      subst this;exact O.refl _
    · exact hs i j kJ (by lia)
  case fin =>
    rintro c aE ⟨hc,lY,hL,eE⟩;refine ⟨hc,lY,hL,?_⟩
    rwa [show min (max (max ok 1) n) n=n by lia] at eE
  case step =>
    rintro k c aE UN UO ⟨rfl,lY,hL,eE⟩;rw [show min k n=k by lia] at eE;have hk:lo + k < a₀.size:=by lia
    refine wpS_bind (wpS_mono (wpS_forRange (I:=λ x c dR=>dR=aE∧∃ l r,c=(none,l,r)∧l≤r∧r≤k∧r - l≤k - x ∧
        (∀ i,i < l→le lt (it (arrOf aE) (lo + i)) (it (arrOf aE) (lo + k)))∧(∀ i,r≤i→i < k→lt (it (arrOf aE) (lo + k)) (it (arrOf aE) (lo + i))=true))
      (Q:=λ c dR=>dR=aE∧∃ l r,c=(none,l,r)∧l≤k ∧
        (∀ i,i < l→le lt (it (arrOf aE) (lo + i)) (it (arrOf aE) (lo + k)))∧(∀ i,l≤i→i < k→lt (it (arrOf aE) (lo + k)) (it (arrOf aE) (lo + i))=true)) ?istep ?ifin ?iinit) ?ipost)
    case iinit=>exact ⟨rfl,0,k,rfl,by lia,by lia,by lia,λ i hi=>by lia,λ i h1 h2=>by lia⟩
    case ifin =>
      rintro c dR ⟨rfl,l,r,rfl,Q2,Lw,hm,yo,Ff⟩;have:l=r:=by lia
      subst this;exact ⟨rfl,l,l,rfl,Lw,yo,Ff⟩
    case istep =>
      rintro x c dR _ UP ⟨rfl,l,r,rfl,Q2,Lw,hm,yo,Ff⟩;dsimp only
      by_cases kF:l ≥ r
      · rw [if_pos kF];have:l=r:=by lia
        subst this;exact wpS_pure ⟨rfl,l,l,rfl,Lw,yo,Ff⟩
      · rw [if_neg kF];refine wpS_bind (lX C lY hk (by lia) ?_);cases ky:lt (it (arrOf dR) (lo + k)) (it (arrOf dR) (lo + (l + r) / 2))
        case true =>
          simp only [if_true];refine wpS_pure ⟨rfl,l,(l + r) / 2,rfl,by lia,by lia,by lia,yo,λ i h1 h2=>?_⟩;have:=eE _ _ h1 h2;cases h3:lt (it (arrOf dR) (lo + k)) (it (arrOf dR) (lo + i)) with
          | true=>rfl
          | false =>
            have h4:lt (it (arrOf dR) (lo + k)) (it (arrOf dR) (lo + (l + r) / 2))=false:=O.trans _ _ _ this h3;rw [ky] at h4;cases h4
        case false =>
          simp only [Bool.false_eq_true,if_false];refine wpS_pure ⟨rfl,(l + r) / 2 + 1,r,rfl,by lia,by lia,by lia,λ i h1=>?_,Ff⟩;exact O.tr (eE i ((l + r) / 2) (by lia) (by lia)) ky
    case ipost =>
      rintro c dR ⟨rfl,l,r,rfl,UQ,yo,Ff⟩;show wpS _ _ _ _ (do moveDown' (lo + k) (lo + l);pure (ForInStep.yield (none,()))) _ _
      rw [moveDown'_eq];have Hw:lo + k < (arrOf dR).size:=by rw [lY.size];exact hk
      refine wpS_bind (wpS_modify (wpS_pure ⟨rfl,lY.set (bubble_perm _ _ _),hL.trans ⟨λ i hi=>?_,rfl⟩,?_⟩))
      · show it (bubble (arrOf dR) (lo + k) (lo + k - (lo + l))) i=_;rw [jX Hw (by lia),if_neg (by lia),if_neg (by lia)]
      · rw [show min (k + 1) n=k + 1 by lia];intro i j kJ hj;show le lt (it (bubble (arrOf dR) (lo + k) (lo + k - (lo + l))) (lo + i)) (it (bubble (arrOf dR) (lo + k) (lo + k - (lo + l))) (lo + j));rw [jX Hw (by lia),jX Hw (by lia),show lo + k - (lo + k - (lo + l))=lo + l by lia];have Cp:∀ t,t < lo + l→lo≤t→le lt (it (arrOf dR) t) (it (arrOf dR) (lo + k)):=λ t h1 h2=>by
          have:=yo (t - lo) (by lia)
          rwa [show lo + (t - lo)=t by lia] at this
        have dG:∀ t,lo + l≤t→t < lo + k→le lt (it (arrOf dR) (lo + k)) (it (arrOf dR) t):=λ t h1 h2=>by
          have:=Ff (t - lo) (by lia) (by lia);rw [show lo + (t - lo)=t by lia] at this;exact O.gf this
        have Q3:∀ t u,lo≤t→t≤u→u < lo + k→le lt (it (arrOf dR) t) (it (arrOf dR) u):=λ t u h1 h2 h3=>by
          have:=eE (t - lo) (u - lo) (by lia) (by lia)
          rwa [show lo + (t - lo)=t by lia,show lo + (u - lo)=u by lia] at this
        repeat' split
        all_goals first
          | (exfalso;lia)
          | exact O.refl _
          | exact Cp _ (by lia) (by lia)
          | exact dG _ (by lia) (by lia)
          | exact Q3 _ _ (by lia) (by lia) (by lia)
noncomputable def yQ (lo a dJ:Nat):StateT SortSt Sem (Option (Option Nat)×Nat) :=
  forIn [a:dJ] ((none,a):Option (Option Nat)×Nat) λ _ c=>do
    let x ← ltAt' (lo + c.snd) (lo + c.snd - 1)
    match x with
    | some b=>if b=true then pure (.done (none,c.snd)) else pure (.yield (none,c.snd + 1))
    | _=>pure (.done (some none,c.snd))
theorem Up.next (O:Ord lt) {xs:Array Keyed} {lo n:Nat} (h:Up lt xs lo n) (h0:1≤n) (hl:le lt (it xs (lo + n - 1)) (it xs (lo + n))):Up lt xs lo (n + 1):=λ i j kJ hj=>by
  by_cases Lx:j < n
  · exact h i j kJ Lx
  · have ie:j=n:=by lia
    subst ie
    by_cases dG:i=j
    · subst dG;exact O.refl _
    · have:=h i (j - 1) (by lia) (by lia);rw [show lo + (j - 1)=lo + j - 1 by lia] at this;exact O.tr this hl
theorem Down.next (O:Ord lt) {xs:Array Keyed} {lo n:Nat} (h:Down lt xs lo n) (h0:1≤n) (hl:le lt (it xs (lo + n)) (it xs (lo + n - 1))):Down lt xs lo (n + 1):=λ i j kJ hj=>by
  by_cases Lx:j < n
  · exact h i j kJ Lx
  · have ie:j=n:=by lia
    subst ie
    by_cases dG:i=j
    · subst dG;exact O.refl _
    · have:=h i (j - 1) (by lia) (by lia);rw [show lo + (j - 1)=lo + j - 1 by lia] at this;exact O.tr hl this
theorem lZ {st:SortSt} {lo a dJ:Nat} {Q:Option (Option Nat)×Nat→SortSt→Prop} (O:Ord lt) (C:jw prog w A s κ lt a₀) (hn:lo + dJ≤a₀.size) (ha:1≤a) (Q4:a≤dJ) (hB:SB κ a₀ st) (hs:Up lt (arrOf st) lo a)
    (h:∀ n,a≤n→n≤dJ→Up lt (arrOf st) lo n→(n=dJ∨lt (it (arrOf st) (lo + n)) (it (arrOf st) (lo + n - 1))=true)→Q (none,n) st):wpS (model prog w) A E s (yQ lo a dJ) Q st:=by
  unfold yQ;refine wpS_forRange (I:=λ x c aE=>aE=st∧c=(none,x)∧Up lt (arrOf st) lo x) ?step ?fin ⟨rfl,rfl,hs⟩
  case fin =>
    rintro c aE ⟨rfl,rfl,eE⟩;rw [show max a dJ=dJ by lia] at eE ⊢;exact h dJ Q4 (Nat.le_refl _) eE (.inl rfl)
  case step =>
    rintro x c aE Fg JI ⟨rfl,rfl,eE⟩;dsimp only;refine wpS_bind (lX C hB (by lia) (by lia) ?_);cases ky:lt (it (arrOf aE) (lo + x)) (it (arrOf aE) (lo + x - 1)) with
    | true =>
      simp only [if_true];exact wpS_pure (h x Fg (by lia) eE (.inr ky))
    | false =>
      simp only [Bool.false_eq_true,if_false];exact wpS_pure ⟨rfl,rfl,eE.next O (by lia) ky⟩
noncomputable def Alike (lt:Keyed→Keyed→Bool) (xs:Array Keyed) (i j:Nat):Prop:=∀ k m,i≤k→k < j→i≤m→m < j→le lt (it xs k) (it xs m)
theorem Down.mirror {xs:Array Keyed} {lo n i:Nat} (h:Down lt xs lo n) (hz:lo + n≤xs.size) (hi:lo≤i) (ha:Alike lt xs i (lo + n)):Down lt (mirror xs i (lo + n) ((lo + n - i) / 2)) lo n:=λ k m UR hm=>by
  rw [c8 hz,c8 hz];have dn:∀ t u,lo≤t→t≤u→u < lo + n→le lt (it xs u) (it xs t):=λ t u h1 h2 h3=>by
    have:=h (t - lo) (u - lo) (by lia) (by lia)
    rwa [show lo + (t - lo)=t by lia,show lo + (u - lo)=u by lia] at this
  repeat' split
  · exact ha _ _ (by lia) (by lia) (by lia) (by lia)
  · exact dn _ _ (by lia) (by lia) (by lia)
  · exact dn _ _ (by lia) (by lia) (by lia)
  · exact dn _ _ (by lia) (by lia) (by lia)
theorem jx {xs:Array Keyed} {lo n i:Nat} {z:Keyed} (hz:lo + n≤xs.size) (hi:lo≤i) (h:∀ k,lo≤k→k < lo + n→le lt z (it xs k)):∀ k,lo≤k→k < lo + n→le lt z (it (mirror xs i (lo + n) ((lo + n - i) / 2)) k):=λ k h1 h2=>by
  rw [c8 hz];split
  · exact h _ (by omega) (by omega)
  · exact h _ (by omega) (by omega)
theorem Down.flip {xs:Array Keyed} {lo n:Nat} (h:Down lt xs lo n) (hz:lo + n≤xs.size):Up lt (PyProof.Rows.mirror xs lo (lo + n) ((lo + n - lo) / 2)) lo n:=λ i j kJ hj=>by
  rw [c8 hz,c8 hz,if_pos (by lia),if_pos (by lia)];have:=h (n - 1 - j) (n - 1 - i) (by lia) (by lia)
  rwa [show lo + (n - 1 - j)=lo + (lo + n) - 1 - (lo + j) by lia,show lo + (n - 1 - i)=lo + (lo + n) - 1 - (lo + i) by lia] at this
noncomputable def q_ (lo n dJ:Nat):StateT SortSt Sem (Option (Option Nat)×Nat×Nat) :=
  forIn [n:dJ] ((none,n,0):Option (Option Nat)×Nat×Nat) λ _ c=>do
    let x ← ltAt' (lo + c.snd.fst) (lo + c.snd.fst - 1)
    match x with
    | some b =>
      if b=true then
        if c.snd.snd > 0 then do
          let _ ← reverseSlice' (lo + c.snd.fst - (c.snd.snd + 1)) (lo + c.snd.fst)
          pure (.yield (none,c.snd.fst + 1,0))
        else pure (.yield (none,c.snd.fst + 1,0))
      else do
        let y ← ltAt' (lo + c.snd.fst - 1) (lo + c.snd.fst)
        match y with
        | some d=>if d=true then pure (.done (none,c.snd.fst,c.snd.snd)) else pure (.yield (none,c.snd.fst + 1,c.snd.snd + 1))
        | _=>pure (.done (some none,c.snd.fst,c.snd.snd))
    | _=>pure (.done (some none,c.snd.fst,c.snd.snd))
theorem ra {st:SortSt} {lo n dJ:Nat} {Q:Option (Option Nat)×Nat×Nat→SortSt→Prop} (O:Ord lt) (C:jw prog w A s κ lt a₀) (hn:lo + dJ≤a₀.size) (h1:1≤n) (Hx:n≤dJ) (hB:SB κ a₀ st) (hs:Down lt (arrOf st) lo n)
    (h:∀ m q aE,SB κ a₀ aE→Left lo st aE→n≤m→m≤dJ→Down lt (arrOf aE) lo m→q + 1≤m→Alike lt (arrOf aE) (lo + m - (q + 1)) (lo + m)→Q (none,m,q) aE):wpS (model prog w) A E s (q_ lo n dJ) Q st:=by
  unfold q_;refine wpS_forRange (I:=λ x c aE=>∃ q,c=(none,x,q)∧SB κ a₀ aE∧Left lo st aE∧Down lt (arrOf aE) lo x∧q + 1≤x∧Alike lt (arrOf aE) (lo + x - (q + 1)) (lo + x)) ?step ?fin
    ⟨0,rfl,hB,Left.refl st,hs,by lia,λ i j h1 h2 h3 h4=>by rw [show i=j by lia];exact O.refl _⟩
  case fin =>
    rintro c aE ⟨q,rfl,lY,hL,eE,hq,he⟩;rw [show max n dJ=dJ by lia] at eE hq he ⊢;exact h dJ q aE lY hL Hx (Nat.le_refl _) eE hq he
  case step =>
    rintro x c aE Fg JI ⟨q,rfl,lY,hL,eE,hq,he⟩;dsimp only;have iK:lo + x≤(arrOf aE).size:=by rw [lY.size];lia
    refine wpS_bind (lX C lY (by lia) (by lia) ?_);cases ky:lt (it (arrOf aE) (lo + x)) (it (arrOf aE) (lo + x - 1)) with
    | true =>
      simp only [if_true];have Of:=O.gf ky;have below:∀ k,lo≤k→k < lo + x→le lt (it (arrOf aE) (lo + x)) (it (arrOf aE) k):=λ k h1 h2=>by
        have:=eE (k - lo) (x - 1) (by lia) (by lia);rw [show lo + (k - lo)=k by lia,show lo + (x - 1)=lo + x - 1 by lia] at this;exact O.tr Of this
      have one:Alike lt (arrOf aE) (lo + (x + 1) - (0 + 1)) (lo + (x + 1)):=λ i j h1 h2 h3 h4=>by rw [show i=j by lia];exact O.refl _
      by_cases Cq:q > 0
      · rw [if_pos Cq];refine wpS_bind (eT (wpS_pure ⟨0,rfl,lY.set (mirror_perm _ _ _ _),hL.trans (Left.mirror iK (by lia)),?_,by lia,λ i j h1 h2 h3 h4=>by rw [show i=j by lia];exact O.refl _⟩));refine (eE.mirror iK (by lia) he).next O (by lia) ?_;have e:it (mirror (arrOf aE) (lo + x - (q + 1)) (lo + x) ((lo + x - (lo + x - (q + 1))) / 2)) (lo + x)=it (arrOf aE) (lo + x):=by rw [c8 iK,if_neg (by lia)]
        show le lt (it (mirror (arrOf aE) (lo + x - (q + 1)) (lo + x) ((lo + x - (lo + x - (q + 1))) / 2)) (lo + x)) _;rw [e];exact jx iK (by lia) below _ (by lia) (by lia)
      · rw [if_neg Cq];exact wpS_pure ⟨0,rfl,lY,hL,eE.next O (by lia) Of,by lia,one⟩
    | false =>
      simp only [Bool.false_eq_true,if_false];refine wpS_bind (lX C lY (by lia) (by lia) ?_);cases Bj:lt (it (arrOf aE) (lo + x - 1)) (it (arrOf aE) (lo + x)) with
      | true =>
        simp only [if_true];exact wpS_pure (h x q aE lY hL Fg (by lia) eE hq he)
      | false =>
        simp only [Bool.false_eq_true,if_false];have e1:le lt (it (arrOf aE) (lo + x - 1)) (it (arrOf aE) (lo + x)):=ky;have e2:le lt (it (arrOf aE) (lo + x)) (it (arrOf aE) (lo + x - 1)):=Bj;refine wpS_pure ⟨q + 1,rfl,lY,hL,eE.next O (by lia) e2,by lia,λ i j h1 h2 h3 h4=>?_⟩;have to:∀ k,lo + (x + 1) - (q + 1 + 1)≤k→k < lo + (x + 1)→le lt (it (arrOf aE) k) (it (arrOf aE) (lo + x - 1))∧le lt (it (arrOf aE) (lo + x - 1)) (it (arrOf aE) k):=λ k h1 h2=>by
          by_cases hk:k=lo + x
          · subst hk;exact ⟨e2,e1⟩
          · exact ⟨he k (lo + x - 1) (by lia) (by lia) (by lia) (by lia),he (lo + x - 1) k (by lia) (by lia) (by lia) (by lia)⟩
        exact O.tr (to i h1 h2).1 (to j h3 h4).2
theorem wC {st:SortSt} {lo dJ:Nat} {Q:Option Nat→SortSt→Prop} (O:Ord lt) (C:jw prog w A s κ lt a₀) (hn:lo + dJ≤a₀.size) (h1:1≤dJ) (hB:SB κ a₀ st)
    (h:∀ m aE,SB κ a₀ aE→Left lo st aE→1≤m→m≤dJ→Up lt (arrOf aE) lo m→Q (some m) aE):wpS (model prog w) A E s (countRun' lo dJ) Q st:=by
  rw [countRun'_eq];extract_lets -underBinder +onlyGivenNames -merge -useContext up;refine wpS_bind (lZ O C hn (Nat.le_refl 1) h1 hB (λ i j kJ hj=>by rw [show i=j by lia];exact O.refl _) λ n JJ Dv JK Q5=>?_);dsimp only
  by_cases Hx:n=dJ
  · rw [if_pos (by simpa using Hx)];exact wpS_pure (h n st hB (Left.refl st) JJ Dv JK)
  · rw [if_neg (by simpa using Hx)];have dg:=O.gf (Q5.resolve_left Hx)
    by_cases Ar:n > 1
    · rw [if_pos Ar];refine wpS_bind (lX C hB (by lia) (by lia) ?_);cases Hy:lt (it (arrOf st) lo) (it (arrOf st) (lo + n - 1)) with
      | true =>
        simp only [if_true];exact wpS_pure (h n st hB (Left.refl st) JJ Dv JK)
      | false =>
        simp only [Bool.false_eq_true,if_false];have iK:lo + n≤(arrOf st).size:=by rw [hB.size];lia
        have al:∀ i j,i < n→j < n→le lt (it (arrOf st) (lo + i)) (it (arrOf st) (lo + j)):=λ i j hi hj=>by
          have a1:=JK 0 j (by lia) hj;have a2:=JK i (n - 1) (by lia) (by lia);rw [show lo + (n - 1)=lo + n - 1 by lia] at a2;exact O.tr a2 (O.tr Hy a1)
        have dn:Down lt (arrOf st) lo n:=λ i j kJ hj=>al j i hj (by lia);have ak:Alike lt (arrOf st) lo (lo + n):=λ i j h1 h2 h3 h4=>by
          have:=al (i - lo) (j - lo) (by lia) (by lia)
          rwa [show lo + (i - lo)=i by lia,show lo + (j - lo)=j by lia] at this
        have sO:=hB.set (mirror_perm (arrOf st) lo (lo + n) ((lo + n - lo) / 2));have Hz:=Left.mirror (i:=lo) iK (Nat.le_refl _);have e:it (mirror (arrOf st) lo (lo + n) ((lo + n - lo) / 2)) (lo + n)=it (arrOf st) (lo + n):=by rw [c8 iK,if_neg (by lia)]
        have Fi:Down lt (mirror (arrOf st) lo (lo + n) ((lo + n - lo) / 2)) lo (n + 1):=by
          refine (dn.mirror iK (Nat.le_refl _) ak).next O (by lia) ?_;rw [e];exact jx iK (Nat.le_refl _) (λ k h1 h2=>O.tr dg (ak _ _ (by lia) (by lia) (by lia) (by lia))) _ (by lia) (by lia)
        refine wpS_bind (eT ?_);refine wpS_bind (wpS_lift (wpAny_rule ⟨rfl,?_⟩));refine wpS_bind (ra O C hn (by lia) (by lia) sO Fi λ m q ef pT Cr HA xF hd2 hq he=>?_);dsimp only;have yR:lo + m≤(arrOf ef).size:=by rw [pT.size];lia
        by_cases Cq:q > 0
        · rw [if_pos Cq];have mS:=pT.set (mirror_perm (arrOf ef) (lo + m - (q + 1)) (lo + m) ((lo + m - (lo + m - (q + 1))) / 2));have xG:=(Hz.trans Cr).trans (Left.mirror (i:=lo + m - (q + 1)) yR (by lia));have Bk:=hd2.mirror yR (by lia) he;refine wpS_bind (eT ?_);have l6:=mS.set (mirror_perm (arrOf _) lo (lo + m) ((lo + m - lo) / 2));refine wpS_bind (eT (wpS_bind (lZ O C hn (by lia) xF l6 (Bk.flip (by rw [mS.size];lia)) λ m' D_ tX eE _=>?_)));exact wpS_pure (h m' _ l6 (xG.trans (Left.mirror (by rw [mS.size];lia) (Nat.le_refl _))) (by lia) tX eE)
        · rw [if_neg Cq];have mS:=pT;have xG:=Hz.trans Cr;have Bk:=hd2;have l6:=mS.set (mirror_perm (arrOf _) lo (lo + m) ((lo + m - lo) / 2));refine wpS_bind (eT (wpS_bind (lZ O C hn (by lia) xF l6 (Bk.flip (by rw [mS.size];lia)) λ m' D_ tX eE _=>?_)));exact wpS_pure (h m' _ l6 (xG.trans (Left.mirror (by rw [mS.size];lia) (Nat.le_refl _))) (by lia) tX eE)
    · rw [if_neg Ar];have Ly:n=1:=by lia
      subst Ly;have sO:=hB;have Hz:=Left.refl (lo:=lo) st;have Fi:Down lt (arrOf st) lo (1 + 1):=Down.next O (n:=1) (λ i j kJ hj=>by rw [show i=j by lia];exact O.refl _) (Nat.le_refl _) dg;refine wpS_bind (wpS_lift (wpAny_rule ⟨rfl,?_⟩));refine wpS_bind (ra O C hn (by lia) (by lia) sO Fi λ m q ef pT Cr HA xF hd2 hq he=>?_);dsimp only;have yR:lo + m≤(arrOf ef).size:=by rw [pT.size];lia
      by_cases Cq:q > 0
      · rw [if_pos Cq];have mS:=pT.set (mirror_perm (arrOf ef) (lo + m - (q + 1)) (lo + m) ((lo + m - (lo + m - (q + 1))) / 2));have xG:=(Hz.trans Cr).trans (Left.mirror (i:=lo + m - (q + 1)) yR (by lia));have Bk:=hd2.mirror yR (by lia) he;refine wpS_bind (eT ?_);have l6:=mS.set (mirror_perm (arrOf _) lo (lo + m) ((lo + m - lo) / 2));refine wpS_bind (eT (wpS_bind (lZ O C hn (by lia) xF l6 (Bk.flip (by rw [mS.size];lia)) λ m' D_ tX eE _=>?_)));exact wpS_pure (h m' _ l6 (xG.trans (Left.mirror (by rw [mS.size];lia) (Nat.le_refl _))) (by lia) tX eE)
      · rw [if_neg Cq];have mS:=pT;have xG:=Hz.trans Cr;have Bk:=hd2;have l6:=mS.set (mirror_perm (arrOf _) lo (lo + m) ((lo + m - lo) / 2));refine wpS_bind (eT (wpS_bind (lZ O C hn (by lia) xF l6 (Bk.flip (by rw [mS.size];lia)) λ m' D_ tX eE _=>?_)));exact wpS_pure (h m' _ l6 (xG.trans (Left.mirror (by rw [mS.size];lia) (Nat.le_refl _))) (by lia) tX eE)
end
noncomputable def eU:Bool→Keyed→Array Keyed→Nat→Nat→Nat→StateT SortSt Sem (Option Nat):=sortPriv% PySem.Builtin.gallop
theorem tY (left:Bool) (key:Keyed) (arr:Array Keyed) (base n hint:Nat):eU left key arr base n hint=(do
  let Fj (i:Nat):StateT SortSt Sem (Option Bool):=do
    let x ← elem' arr (base + i)
    if left then lt' x key else return (← lt' key x).map (!·)
  let mut near:=0
  let mut dk:=1
  let mut lo:=0
  let mut hi:=0
  let some right ← Fj hint | return none
  if right then
    let most:=n - hint
    for _ in [0:n] do
      if dk ≥ most then break
      let some more ← Fj (hint + dk) | return none
      if !more then break
      near:=dk
      dk:=2 * dk + 1
    lo:=hint + near + 1
    hi:=hint + min dk most
  else
    let most:=hint + 1
    for _ in [0:n] do
      if dk ≥ most then break
      let some found ← Fj (hint - dk) | return none
      if found then break
      near:=dk
      dk:=2 * dk + 1
    lo:=hint + 1 - min dk most
    hi:=hint - near
  for _ in [0:n] do
    if lo ≥ hi then break
    let m:=lo + (hi - lo) / 2
    let some more ← Fj m | return none
    if more then lo:=m + 1 else hi:=m
  return some hi):=rfl
section
variable {prog:Program} {w:World} {A:Around} {E:Value→Shared→Prop} {s:Shared} {a₀:Array Keyed} {κ:SortKind} {lt:Keyed→Keyed→Bool}
noncomputable def ahead (lt:Keyed→Keyed→Bool) (left:Bool) (key x:Keyed):Bool:=if left then lt x key else !lt key x
theorem dq {st:SortSt} {left:Bool} {key:Keyed} {arr:Array Keyed} {base n hint:Nat} {Q:Option Nat→SortSt→Prop} (C:jw prog w A s κ lt a₀) (hk:kindOf st=κ) (pk:key∈a₀.toList) (hz:base + n≤arr.size) (hm:∀ p∈arr.toList,p∈a₀.toList) (hh:hint < n)
    (mono:∀ i j,i≤j→j < n→ahead lt left key (it arr (base + j))=true→ahead lt left key (it arr (base + i))=true)
    (h:∀ k,k≤n→(∀ i,i < k→ahead lt left key (it arr (base + i))=true)→(∀ i,k≤i→i < n→ahead lt left key (it arr (base + i))=false)→Q (some k) st):wpS (model prog w) A E s (eU left key arr base n hint) Q st:=by
  rw [tY];extract_lets -underBinder +onlyGivenNames -merge -useContext Fj;have Bm:∀ i,i < n→∀ Q':Option Bool→SortSt→Prop,Q' (some (ahead lt left key (it arr (base + i)))) st→wpS (model prog w) A E s (Fj i) Q' st:=λ i hi Q' q=>by
    show wpS (model prog w) A E s (elem' arr (base + i) >>= _) Q' st;refine wpS_bind (a_ (by lia) ?_);have hx:=hm _ (i5 (xs:=arr) (i:=base + i) (by lia));unfold ahead at q;cases left with
    | true=>exact gZ C hk hx pk q
    | false=>exact wpS_bind (gZ C hk pk hx (wpS_pure q))
  have no:∀ i j,i≤j→j < n→ahead lt left key (it arr (base + i))=false→ahead lt left key (it arr (base + j))=false:=λ i j h1 h2 h3=>by
    cases h4:ahead lt left key (it arr (base + j)) with
    | false=>rfl
    | true=>rw [mono i j h1 h2 h4] at h3;cases h3
  sleep 4
  refine wpS_bind (Bm hint hh _ ?_)
  ((try dsimp -zeta -zetaUnused -zetaHave only))
  extract_lets -underBinder +onlyGivenNames -merge -useContext jp;have vf:∀ near dk lo hi,lo≤hi→hi≤n→(∀ i,i < lo→ahead lt left key (it arr (base + i))=true)→(∀ i,hi≤i→i < n→ahead lt left key (it arr (base + i))=false)→wpS (model prog w) A E s (jp () near dk lo hi) Q st:=λ near dk lo hi h1 h2 h3 h4=>by
    refine wpS_bind (wpS_mono (wpS_forRange (I:=λ x c aE=>aE=st∧∃ lo hi,c=(none,lo,hi)∧lo≤hi∧hi≤n∧hi - lo≤n - x∧(∀ i,i < lo→ahead lt left key (it arr (base + i))=true)∧(∀ i,hi≤i→i < n→ahead lt left key (it arr (base + i))=false))
      (Q:=λ c aE=>aE=st∧∃ lo hi,c=(none,lo,hi)∧lo=hi∧hi≤n∧(∀ i,i < lo→ahead lt left key (it arr (base + i))=true)∧(∀ i,hi≤i→i < n→ahead lt left key (it arr (base + i))=false)) ?step ?fin ⟨rfl,lo,hi,rfl,h1,h2,by lia,h3,h4⟩) ?post)
    case fin =>
      rintro c aE ⟨rfl,lo,hi,rfl,g1,g2,g3,g4,g5⟩;exact ⟨rfl,lo,hi,rfl,by lia,g2,g4,g5⟩
    case post =>
      rintro c aE ⟨rfl,lo,hi,rfl,rfl,g2,g4,g5⟩;exact wpS_pure (h lo g2 g4 g5)
    case step =>
      rintro x c aE Fg JI ⟨rfl,lo,hi,rfl,g1,g2,g3,g4,g5⟩
      sleep 3
      by_cases kF:lo ≥ hi
      · rw [if_pos kF];exact wpS_pure ⟨rfl,lo,hi,rfl,by lia,g2,g4,g5⟩
      · rw [if_neg kF]
        sleep 1
        refine wpS_bind (Bm _ (by lia) _ ?_);cases hm:ahead lt left key (it arr (base + (lo + (hi - lo) / 2))) with
        | true =>
          exact wpS_pure ⟨rfl,lo + (hi - lo) / 2 + 1,hi,rfl,by lia,g2,by lia,λ i dG=>mono i (lo + (hi - lo) / 2) (by lia) (by lia) hm,g5⟩
        | false =>
          exact wpS_pure ⟨rfl,lo,lo + (hi - lo) / 2,rfl,by lia,by lia,by lia,g4,λ i h1 h2=>no (lo + (hi - lo) / 2) i h1 h2 hm⟩
  clear_value jp;cases hr:ahead lt left key (it arr (base + hint)) with
  | true =>
    rw [if_pos rfl]
    sleep 1
    refine wpS_bind (wpS_mono (wpS_forRange (I:=λ x c aE=>aE=st∧∃ near dk,c=(none,near,dk)∧x + 1≤dk∧near < dk∧hint + near < n∧ahead lt left key (it arr (base + (hint + near)))=true)
      (Q:=λ c aE=>aE=st∧∃ near dk,c=(none,near,dk)∧near < dk∧hint + near < n∧ahead lt left key (it arr (base + (hint + near)))=true∧(n - hint≤dk∨ahead lt left key (it arr (base + (hint + dk)))=false)) ?step ?fin ⟨rfl,0,1,rfl,by lia,by lia,by lia,hr⟩) ?post)
    case fin =>
      rintro c aE ⟨rfl,near,dk,rfl,g1,g2,g3,g4⟩;exact ⟨rfl,near,dk,rfl,g2,g3,g4,.inl (by lia)⟩
    case post =>
      rintro c aE ⟨rfl,near,dk,rfl,g2,g3,g4,g5⟩
      (sleep 4;sleep 2)
      refine vf _ _ _ _ (by lia) (by lia) (λ i hi=>mono i (hint + near) (by lia) (by lia) g4) λ i h1 h2=>?_;rcases g5 with g5 | g5
      · lia
      · exact no (hint + dk) i (by lia) h2 g5
    case step =>
      rintro x c aE Fg JI ⟨rfl,near,dk,rfl,g1,g2,g3,g4⟩
      sleep 3
      by_cases kF:dk ≥ n - hint
      · rw [if_pos kF];exact wpS_pure ⟨rfl,near,dk,rfl,g2,g3,g4,.inl kF⟩
      · rw [if_neg kF];refine wpS_bind (Bm _ (by lia) _ ?_);cases hm:ahead lt left key (it arr (base + (hint + dk))) with
        | false=>exact wpS_pure ⟨rfl,near,dk,rfl,g2,g3,g4,.inr hm⟩
        | true=>exact wpS_pure ⟨rfl,dk,2 * dk + 1,rfl,by lia,by lia,by lia,hm⟩
  | false =>
    rw [if_neg (by simp)]
    sleep 1
    refine wpS_bind (wpS_mono (wpS_forRange (I:=λ x c aE=>aE=st∧∃ near dk,c=(none,near,dk)∧x + 1≤dk∧near < dk∧near≤hint∧ahead lt left key (it arr (base + (hint - near)))=false)
      (Q:=λ c aE=>aE=st∧∃ near dk,c=(none,near,dk)∧near < dk∧near≤hint∧ahead lt left key (it arr (base + (hint - near)))=false∧(hint + 1≤dk∨ahead lt left key (it arr (base + (hint - dk)))=true)) ?step ?fin ⟨rfl,0,1,rfl,by lia,by lia,by lia,hr⟩) ?post)
    case fin =>
      rintro c aE ⟨rfl,near,dk,rfl,g1,g2,g3,g4⟩;exact ⟨rfl,near,dk,rfl,g2,g3,g4,.inl (by lia)⟩
    case post =>
      rintro c aE ⟨rfl,near,dk,rfl,g2,g3,g4,g5⟩
      (sleep 4;sleep 2)
      refine vf _ _ _ _ (by lia) (by lia) (λ i hi=>?_) λ i h1 h2=>no (hint - near) i h1 h2 g4;rcases g5 with g5 | g5
      · lia
      · exact mono i (hint - dk) (by lia) (by lia) g5
    case step =>
      rintro x c aE Fg JI ⟨rfl,near,dk,rfl,g1,g2,g3,g4⟩
      sleep 3
      by_cases kF:dk ≥ hint + 1
      · rw [if_pos kF];exact wpS_pure ⟨rfl,near,dk,rfl,g2,g3,g4,.inl kF⟩
      · rw [if_neg kF];refine wpS_bind (Bm _ (by lia) _ ?_);cases hm:ahead lt left key (it arr (base + (hint - dk))) with
        | true=>exact wpS_pure ⟨rfl,near,dk,rfl,g2,g3,g4,.inr hm⟩
        | false=>exact wpS_pure ⟨rfl,dk,2 * dk + 1,rfl,by lia,by lia,by lia,hm⟩
end
noncomputable def ik:Nat→StateT SortSt Sem Unit:=sortPriv% PySem.Builtin.setMinGallop
noncomputable abbrev fP (st:SortSt) (g:Nat):SortSt:=SortSt.mk' (kindOf st) (arrOf st) (pendingOf st) g (failedOf st)
theorem tZ (g:Nat):ik g=modify λ st=>fP st g:=rfl
noncomputable def l7:Array Keyed→Array Keyed→StateT SortSt Sem (Array Keyed):=sortPriv% PySem.Builtin.mergeLo
noncomputable def l8:Array Keyed→Array Keyed→StateT SortSt Sem (Array Keyed):=sortPriv% PySem.Builtin.mergeHi
theorem rg (a b:Array Keyed):l7 a b=(do
  rule "list.sort.merge-lo"
  let all:=a.size + b.size
  let fin (o:Array Keyed) (i j:Nat):=o ++ a.extract i a.size ++ b.extract j b.size
  let l_ (o:Array Keyed) (i j:Nat):=o ++ b.extract j b.size ++ a.extract i a.size
  let mut o:Array Keyed:=#[← elem' b 0]
  let mut i:=0
  let mut j:=1
  if j == b.size then return fin o i j
  if i + 1 == a.size then return l_ o i j
  let mut mg:=gallopOf (← get)
  for _ in [0:all] do
    let mut ca:=0
    let mut cb:=0
    for _ in [0:all] do
      let some bw ← lt' (← elem' b j) (← elem' a i) | return fin o i j
      if bw then
        o:=o.push (← elem' b j);j:=j + 1;cb:=cb + 1;ca:=0
        if j == b.size then return fin o i j
        if cb ≥ mg then break
      else
        o:=o.push (← elem' a i);i:=i + 1;ca:=ca + 1;cb:=0
        if i + 1 == a.size then return l_ o i j
        if ca ≥ mg then break
    rule "list.sort.gallop"
    mg:=mg + 1
    for _ in [0:all] do
      if mg > 1 then mg:=mg - 1
      ik mg
      let some k ← eU false (← elem' b j) a i (a.size - i) 0 | return fin o i j
      ca:=k
      if k > 0 then
        o:=o ++ a.extract i (i + k);i:=i + k
        if i + 1 == a.size then return l_ o i j
        if i == a.size then return fin o i j
      o:=o.push (← elem' b j);j:=j + 1
      if j == b.size then return fin o i j
      let some k ← eU true (← elem' a i) b j (b.size - j) 0 | return fin o i j
      cb:=k
      if k > 0 then
        o:=o ++ b.extract j (j + k);j:=j + k
        if j == b.size then return fin o i j
      o:=o.push (← elem' a i);i:=i + 1
      if i + 1 == a.size then return l_ o i j
      if ca < 7 && cb < 7 then break
    mg:=mg + 1
    ik mg
  unsupported ("internal:list.sort.merge-bound":String)):=rfl
theorem rh (a b:Array Keyed):l8 a b=(do
  rule "list.sort.merge-hi"
  let all:=a.size + b.size
  let fin (o:Array Keyed) (i j:Nat):=a.extract 0 i ++ b.extract 0 j ++ o.reverse
  let i6 (o:Array Keyed) (i j:Nat):=b.extract 0 j ++ a.extract 0 i ++ o.reverse
  let mut i:=a.size - 1
  let mut j:=b.size
  let mut o:Array Keyed:=#[← elem' a i]
  if i == 0 then return fin o i j
  if j == 1 then return i6 o i j
  let mut mg:=gallopOf (← get)
  for _ in [0:all] do
    let mut ca:=0
    let mut cb:=0
    for _ in [0:all] do
      let some aw ← lt' (← elem' b (j - 1)) (← elem' a (i - 1)) | return fin o i j
      if aw then
        i:=i - 1;o:=o.push (← elem' a i);ca:=ca + 1;cb:=0
        if i == 0 then return fin o i j
        if ca ≥ mg then break
      else
        j:=j - 1;o:=o.push (← elem' b j);cb:=cb + 1;ca:=0
        if j == 1 then return i6 o i j
        if cb ≥ mg then break
    rule "list.sort.gallop"
    mg:=mg + 1
    for _ in [0:all] do
      if mg > 1 then mg:=mg - 1
      ik mg
      let some k ← eU false (← elem' b (j - 1)) a 0 i (i - 1) | return fin o i j
      let d:=i - k
      ca:=d
      if d > 0 then
        o:=o ++ (a.extract k i).reverse;i:=k
        if i == 0 then return fin o i j
      j:=j - 1;o:=o.push (← elem' b j)
      if j == 1 then return i6 o i j
      let some k ← eU true (← elem' a (i - 1)) b 0 j (j - 1) | return fin o i j
      let d:=j - k
      cb:=d
      if d > 0 then
        o:=o ++ (b.extract k j).reverse;j:=k
        if j == 1 then return i6 o i j
        if j == 0 then return fin o i j
      i:=i - 1;o:=o.push (← elem' a i)
      if i == 0 then return fin o i j
      if ca < 7 && cb < 7 then break
    mg:=mg + 1
    ik mg
  unsupported ("internal:list.sort.merge-bound":String)):=rfl
section
variable {prog:Program} {w:World} {A:Around} {E:Value→Shared→Prop} {s:Shared} {a₀:Array Keyed} {κ:SortKind} {lt:Keyed→Keyed→Bool}
theorem eJ (a:Array Keyed) (i j:Nat):(a.extract i j).toList=(a.toList.drop i).take (j - i):=by
  rw [Array.toList_extract,List.extract_eq_take_drop]
theorem kW (a:Array Keyed) (i:Nat):(a.extract i a.size).toList=a.toList.drop i:=by
  rw [eJ,List.take_of_length_le];simp
theorem da {a:Array Keyed} {i:Nat} (h:i < a.size):a.toList[i]?=some (it a i):=by
  rw [Array.getElem?_toList];exact lW h
theorem cI {a:Array Keyed} {i:Nat} {x:Keyed} (h:a.toList[i]?=some x):i < a.size∧x=it a i:=by
  have h1:i < a.size:=by simpa using (List.getElem?_eq_some_iff.mp h).1
  rw [da h1] at h;exact ⟨h1,(Option.some.inj h).symm⟩
theorem vg {a:Array Keyed} {i:Nat} {y:Keyed} (h:y∈a.toList.drop i):∃ k,i≤k∧k < a.size∧y=it a k:=by
  obtain ⟨k,hk⟩:=List.getElem?_of_mem h;rw [List.getElem?_drop] at hk;obtain ⟨h1,h2⟩:=cI hk;exact ⟨i + k,by lia,h1,h2⟩
theorem md (O:Ord lt) {a:Array Keyed} (h:Sd lt a.toList) {i j:Nat} (kJ:i≤j) (hj:j < a.size):le lt (it a i) (it a j):=h.at_ O kJ (da (by lia)) (da hj)
theorem g6 (O:Ord lt) {x y z:Keyed} (h1:le lt x y) (h2:lt y z=true):lt x z=true:=by
  cases h:lt x z with
  | true=>rfl
  | false =>
    have h':le lt z x:=h;have h3:lt y z=false:=O.tr h' h1;rw [h2] at h3;cases h3
theorem d6 (O:Ord lt) {a:Array Keyed} (h:Sd lt a.toList) {i:Nat} {z:Keyed} (hi:i < a.size) (hz:le lt z (it a i)):∀ y∈a.toList.drop i,le lt z y:=λ y hy=>by
  obtain ⟨k,h1,h2,rfl⟩:=vg hy;exact O.tr hz (md O h h1 h2)
structure Mg (st aE:SortSt):Prop where
  kind:kindOf aE=kindOf st
  arr:arrOf aE=arrOf st
  pend:pendingOf aE=pendingOf st
  failed:failedOf aE=failedOf st
theorem Mg.refl (st:SortSt):Mg st st:=⟨rfl,rfl,rfl,rfl⟩
theorem Mg.min {st aE:SortSt} (h:Mg st aE) (g:Nat):Mg st (fP aE g):=⟨h.kind,h.arr,h.pend,h.failed⟩
theorem kX {st:SortSt} {g:Nat} {Q:Unit→SortSt→Prop} (h:Q () (fP st g)):wpS (model prog w) A E s (ik g) Q st:=by
  rw [tZ];exact wpS_modify h
noncomputable def bA (lt:Keyed→Keyed→Bool) (a b r:Array Keyed):Prop:=Sd lt r.toList∧r.toList.Perm (a.toList ++ b.toList)
structure kz (lt:Keyed→Keyed→Bool) (a b o:Array Keyed) (i j:Nat):Prop where
  mi:MI lt a.toList b.toList o.toList i j
  li:i + 1 < a.size
  lj:j < b.size
theorem kz.om (O:Ord lt) {a b o:Array Keyed} {i j:Nat} (h:MI lt a.toList b.toList o.toList i j) (sb:Sd lt b.toList) (hj:j < b.size) (ha:∀ y∈a.toList.drop i,le lt (it b j) y):MI lt a.toList b.toList (o.push (it b j)).toList i (j + 1):=by
  rw [Array.toList_push];exact h.b O sb (da hj) ha
theorem kz.me (O:Ord lt) {a b o:Array Keyed} {i j:Nat} (h:MI lt a.toList b.toList o.toList i j) (sa:Sd lt a.toList) (hi:i < a.size) (hb:∀ y∈b.toList.drop j,le lt (it a i) y):MI lt a.toList b.toList (o.push (it a i)).toList (i + 1) j:=by
  rw [Array.toList_push];exact h.a O sa (da hi) hb
theorem kz.vh (O:Ord lt) {a b o:Array Keyed} {i j k:Nat} (h:MI lt a.toList b.toList o.toList i j) (sa:Sd lt a.toList) (hk:i + k≤a.size) (hb:∀ t,t < k→∀ y∈b.toList.drop j,le lt (it a (i + t)) y):MI lt a.toList b.toList (o ++ a.extract i (i + k)).toList (i + k) j:=by
  rw [Array.toList_append,eJ,show i + k - i=k by lia];refine MI.as O sa k h (by simpa using hk) λ t x ht e y hy=>?_;rw [(cI e).2];exact hb t ht y hy
theorem kz.yS (O:Ord lt) {a b o:Array Keyed} {i j k:Nat} (h:MI lt a.toList b.toList o.toList i j) (sb:Sd lt b.toList) (hk:j + k≤b.size) (ha:∀ t,t < k→∀ y∈a.toList.drop i,le lt (it b (j + t)) y):MI lt a.toList b.toList (o ++ b.extract j (j + k)).toList i (j + k):=by
  rw [Array.toList_append,eJ,show j + k - j=k by lia];refine MI.bs O sb k h (by simpa using hk) λ t x ht e y hy=>?_;rw [(cI e).2];exact ha t ht y hy
theorem bA.fin {a b o:Array Keyed} {i j:Nat} (h:MI lt a.toList b.toList o.toList i j) (sa:Sd lt a.toList) (sb:Sd lt b.toList) (e:j=b.size∨i=a.size):bA lt a b (o ++ a.extract i a.size ++ b.extract j b.size):=by
  unfold bA;rw [Array.toList_append,Array.toList_append,kW,kW];rcases e with e | e
  · exact h.D9 sa (by simpa using e)
  · exact h.Hu sb (by simpa using e)
theorem bA.last {a b o:Array Keyed} {i j:Nat} (h:MI lt a.toList b.toList o.toList i j) (sa:Sd lt a.toList) (sb:Sd lt b.toList) (e:i + 1=a.size) (hl:∀ x∈b.toList,le lt x (it a (a.size - 1))):bA lt a b (o ++ b.extract j b.size ++ a.extract i a.size):=by
  unfold bA;rw [Array.toList_append,Array.toList_append,kW,kW];refine h.Hv sa sb λ x hx y hy=>?_;obtain ⟨k,h1,h2,rfl⟩:=vg hy;rw [show k=a.size - 1 by lia];exact hl x hx
theorem rj {st:SortSt} {a b:Array Keyed} {Q:Array Keyed→SortSt→Prop} (O:Ord lt) (C:jw prog w A s κ lt a₀) (hk:kindOf st=κ) (ma:∀ p∈a.toList,p∈a₀.toList) (mb:∀ p∈b.toList,p∈a₀.toList) (sa:Sd lt a.toList) (sb:Sd lt b.toList) (ha:1≤a.size) (hb:1≤b.size)
    (h0:le lt (it b 0) (it a 0)) (hl:∀ x∈b.toList,le lt x (it a (a.size - 1))) (h:∀ r aE,Mg st aE→bA lt a b r→Q r aE):wpS (model prog w) A E s (l7 a b) Q st:=by
  rw [rg];refine wpS_bind (wpS_lift (wpAny_rule ⟨rfl,?_⟩))
  sleep 1
  extract_lets -underBinder +onlyGivenNames -merge -useContext fin;have mf:∀ {o:Array Keyed} {i j:Nat},MI lt a.toList b.toList o.toList i j→(j=b.size∨i=a.size)→bA lt a b (fin o i j):=λ m e=>bA.fin m sa sb e;clear_value fin;extract_lets -underBinder +onlyGivenNames -merge -useContext l_;have oo:∀ {o:Array Keyed} {i j:Nat},MI lt a.toList b.toList o.toList i j→i + 1=a.size→bA lt a b (l_ o i j):=λ m e=>bA.last m sa sb e hl;clear_value l_;have iR:∀ {i:Nat},i < b.size→it b i∈a₀.toList:=λ h=>mb _ (i5 h);have HB:∀ {i:Nat},i < a.size→it a i∈a₀.toList:=λ h=>ma _ (i5 h);refine wpS_bind (a_ (by lia) ?_)
  sleep 3
  have m0:MI lt a.toList b.toList (#[it b 0]:Array Keyed).toList 0 1:=by
    have:=kz.om O (o:=#[]) (MI.nil (lt:=lt) (A:=a.toList) (B:=b.toList)) sb (j:=0) (by lia) (d6 O sa (by lia) h0);simpa using this
  by_cases c1:1=b.size
  · rw [if_pos (by simpa using c1)];exact wpS_pure (h _ st (Mg.refl st) (mf m0 (.inl c1)))
  rw [if_neg (by simpa using c1)]
  by_cases c2:0 + 1=a.size
  · rw [if_pos (by simpa using c2)];exact wpS_pure (h _ st (Mg.refl st) (oo m0 c2))
  rw [if_neg (by simpa using c2)];refine wpS_bind (wpS_get ?_)
  sleep 1
  refine wpS_bind (wpS_mono (wpS_forRange (I:=λ x c aE=>Mg st aE∧∃ o i j mg,c=(none,o,i,j,mg)∧kz lt a b o i j∧x≤i + j)
    (Q:=λ c aE=>Mg st aE∧∃ r d,c=(some r,d)∧bA lt a b r) ?step ?fin ⟨Mg.refl st,_,_,_,_,rfl,⟨m0,by lia,by lia⟩,by lia⟩) ?post)
  case fin =>
    rintro c aE ⟨_,o,i,j,mg,rfl,m,hx⟩;have:=m.li;have:=m.lj
    lia
  case post =>
    rintro c aE ⟨g,r,d,rfl,hr⟩
    sleep 1
    exact wpS_pure (h r aE g hr)
  rintro x c xH _ hx ⟨g1,o1,i1,j1,Q6,rfl,m1,Ea⟩
  sleep 9
  refine wpS_bind (wpS_mono (wpS_forRange (I:=λ y c aE=>Mg st aE∧∃ o i j ca cb,c=(none,o,i,j,ca,cb)∧kz lt a b o i j∧x + min y 1≤i + j)
    (Q:=λ c aE=>Mg st aE∧((∃ r d,c=(some r,d)∧bA lt a b r)∨∃ o i j ca cb,c=(none,o,i,j,ca,cb)∧kz lt a b o i j∧x + 1≤i + j)) ?step1 ?fin1 ⟨g1,o1,i1,j1,0,0,rfl,m1,by lia⟩) ?post1)
  case fin1 =>
    rintro c aE ⟨g,o,i,j,ca,cb,rfl,m,hy⟩;exact ⟨g,.inr ⟨o,i,j,ca,cb,rfl,m,by lia⟩⟩
  case step1 =>
    rintro y c aE _ hy ⟨g,o,i,j,ca,cb,rfl,m,HD⟩;have xI:=m.li;have qr:=m.lj
    sleep 9
    refine wpS_bind (a_ qr (wpS_bind (a_ (by lia) (wpS_bind (gZ C (g.kind.trans hk) (iR qr) (HB (by lia)) ?_)))))
    ((try dsimp -zeta -zetaUnused -zetaHave only))
    cases hw:lt (it b j) (it a i) with
    | true =>
      rw [if_pos rfl];refine wpS_bind (a_ qr ?_)
      sleep 4
      have m':=kz.om O m.mi sb qr (d6 O sa (by lia) (O.gf hw))
      by_cases c3:j + 1=b.size
      · rw [if_pos (by simpa using c3)];exact wpS_pure ⟨g,.inl ⟨_,_,rfl,mf m' (.inl c3)⟩⟩
      rw [if_neg (by simpa using c3)];have m2:kz lt a b (o.push (it b j)) i (j + 1):=⟨m',xI,by lia⟩;split
      · exact wpS_pure ⟨g,.inr ⟨_,_,_,_,_,rfl,m2,by lia⟩⟩
      · exact wpS_pure ⟨g,_,_,_,_,_,rfl,m2,by lia⟩
    | false =>
      rw [if_neg (by simp)];refine wpS_bind (a_ (by lia) ?_)
      sleep 4
      have m':=kz.me O m.mi sa (by lia) (d6 O sb qr hw)
      by_cases c3:i + 1 + 1=a.size
      · rw [if_pos (by simpa using c3)];exact wpS_pure ⟨g,.inl ⟨_,_,rfl,oo m' c3⟩⟩
      rw [if_neg (by simpa using c3)];have m2:kz lt a b (o.push (it a i)) (i + 1) j:=⟨m',by lia,qr⟩;split
      · exact wpS_pure ⟨g,.inr ⟨_,_,_,_,_,rfl,m2,by lia⟩⟩
      · exact wpS_pure ⟨g,_,_,_,_,_,rfl,m2,by lia⟩
  rintro c ef ⟨g2,⟨r,d,rfl,hr⟩ | ⟨o2,i2,j2,Q7,Q8,rfl,m2,nz⟩⟩
  · sleep 10
    exact wpS_pure ⟨g2,r,_,rfl,hr⟩
  sleep 10
  refine wpS_bind (wpS_lift (wpAny_rule ⟨rfl,?_⟩))
  sleep 1
  refine wpS_bind (wpS_mono (wpS_forRange (I:=λ y c aE=>Mg st aE∧∃ o i j mg ca cb,c=(none,o,i,j,mg,ca,cb)∧kz lt a b o i j∧x + 1≤i + j)
    (Q:=λ c aE=>Mg st aE∧((∃ r d,c=(some r,d)∧bA lt a b r)∨∃ o i j mg ca cb,c=(none,o,i,j,mg,ca,cb)∧kz lt a b o i j∧x + 1≤i + j)) ?step2 ?fin2 ⟨g2,o2,i2,j2,_,_,_,rfl,m2,nz⟩) ?post2)
  case fin2 =>
    rintro c aE ⟨g,z⟩;exact ⟨g,.inr z⟩
  case post2 =>
    rintro c iU ⟨g3,⟨r,d,rfl,hr⟩ | ⟨o3,i3,j3,Q9,Q_,Ra,rfl,m3,mh⟩⟩
    · sleep 9
      exact wpS_pure ⟨g3,r,_,rfl,hr⟩
    (sleep 9;sleep 1)
    refine wpS_bind (kX (wpS_pure ?_));exact ⟨g3.min _,_,_,_,_,rfl,m3,mh⟩
  rintro y c iU _ hy ⟨g3,o,i,j,mg,ca,cb,rfl,m,mh⟩;have xI:=m.li;have qr:=m.lj
  sleep 11
  extract_lets -underBinder +onlyGivenNames -merge -useContext jp;have vf:∀ mg,wpS (model prog w) A E s (jp () mg) (λ r aE=>match r with
      | .done c'=>Mg st aE∧((∃ r d,c'=(some r,d)∧bA lt a b r)∨∃ o i j mg ca cb,c'=(none,o,i,j,mg,ca,cb)∧kz lt a b o i j∧x + 1≤i + j)
      | .yield c'=>Mg st aE∧∃ o i j mg ca cb,c'=(none,o,i,j,mg,ca,cb)∧kz lt a b o i j∧x + 1≤i + j) iU:=λ mg=>by
    refine wpS_bind (kX (wpS_bind (a_ qr ?_)));have g4:=g3.min mg;refine wpS_bind (dq C (g4.kind.trans hk) (iR qr) (by lia) ma (by lia) (λ t u h1 h2 h3=>?_) λ k k1 k2 k3=>?_)
    · unfold ahead at h3 ⊢;rw [if_neg (by simp)] at h3 ⊢;have h4:lt (it b j) (it a (i + u))=false:=by simpa using h3
      have h5:lt (it b j) (it a (i + t))=false:=O.tr (md O sa (by lia) (by lia)) h4;simp [h5]
    have Eb:∀ t,t < k→le lt (it a (i + t)) (it b j):=λ t ht=>by
      have:=k2 t ht;unfold ahead at this;rw [if_neg (by simp)] at this;show lt (it b j) (it a (i + t))=false;simpa using this
    have Fl:∀ t,k≤t→t < a.size - i→lt (it b j) (it a (i + t))=true:=λ t h1 h2=>by
      have:=k3 t h1 h2;unfold ahead at this;rw [if_neg (by simp)] at this;simpa using this
    sleep 1
    extract_lets -underBinder +onlyGivenNames -merge -useContext jq;have Cs:∀ o i,kz lt a b o i j→(∀ y∈a.toList.drop i,le lt (it b j) y)→x + 1≤i + j→wpS (model prog w) A E s (jq () o i) (λ r aE=>match r with
      | .done c'=>Mg st aE∧((∃ r d,c'=(some r,d)∧bA lt a b r)∨∃ o i j mg ca cb,c'=(none,o,i,j,mg,ca,cb)∧kz lt a b o i j∧x + 1≤i + j)
      | .yield c'=>Mg st aE∧∃ o i j mg ca cb,c'=(none,o,i,j,mg,ca,cb)∧kz lt a b o i j∧x + 1≤i + j) (fP iU mg):=λ o i m hy hx=>by
      have xI:=m.li;refine wpS_bind (a_ qr ?_)
      sleep 2
      have m':=kz.om O m.mi sb qr hy
      by_cases c3:j + 1=b.size
      · rw [if_pos (by simpa using c3)];exact wpS_pure ⟨g4,.inl ⟨_,_,rfl,mf m' (.inl c3)⟩⟩
      rw [if_neg (by simpa using c3)];refine wpS_bind (a_ (by lia) ?_);refine wpS_bind (dq C (g4.kind.trans hk) (HB (by lia)) (by lia) mb (by lia) (λ t u h1 h2 h3=>?_) λ k n1 n2 n3=>?_)
      · unfold ahead at h3 ⊢;rw [if_pos rfl] at h3 ⊢;exact g6 O (md O sb (by lia) (by lia)) h3
      have Fo:∀ t,t < k→le lt (it b (j + 1 + t)) (it a i):=λ t ht=>by
        have:=n2 t ht;unfold ahead at this;rw [if_pos rfl] at this;exact O.gf this
      have Ec:∀ t,k≤t→t < b.size - (j + 1)→le lt (it a i) (it b (j + 1 + t)):=λ t h1 h2=>by
        have:=n3 t h1 h2;unfold ahead at this;rw [if_pos rfl] at this;exact this
      sleep 1
      extract_lets -underBinder +onlyGivenNames -merge -useContext jr;have HE:∀ o j,MI lt a.toList b.toList o.toList i j→j < b.size→le lt (it a i) (it b j)→x + 1≤i + j→wpS (model prog w) A E s (jr () o j) (λ r aE=>match r with
        | .done c'=>Mg st aE∧((∃ r d,c'=(some r,d)∧bA lt a b r)∨∃ o i j mg ca cb,c'=(none,o,i,j,mg,ca,cb)∧kz lt a b o i j∧x + 1≤i + j)
        | .yield c'=>Mg st aE∧∃ o i j mg ca cb,c'=(none,o,i,j,mg,ca,cb)∧kz lt a b o i j∧x + 1≤i + j) (fP iU mg):=λ o j m hj hle hx=>by
        refine wpS_bind (a_ (by lia) ?_)
        sleep 2
        have m':=kz.me O m sa (by lia) (d6 O sb hj hle)
        by_cases c4:i + 1 + 1=a.size
        · rw [if_pos (by simpa using c4)];exact wpS_pure ⟨g4,.inl ⟨_,_,rfl,oo m' c4⟩⟩
        rw [if_neg (by simpa using c4)];have m2:kz lt a b (o.push (it a i)) (i + 1) j:=⟨m',by lia,hj⟩;split
        · exact wpS_pure ⟨g4,.inr ⟨_,_,_,_,_,_,rfl,m2,by lia⟩⟩
        · exact wpS_pure ⟨g4,_,_,_,_,_,_,rfl,m2,by lia⟩
      clear_value jr
      by_cases xJ:k > 0
      · rw [if_pos xJ]
        sleep 2
        have m5:=kz.yS O m' sb (k:=k) (by lia) λ t ht=>d6 O sa (by lia) (Fo t ht)
        by_cases c5:j + 1 + k=b.size
        · rw [if_pos (by simpa using c5)];exact wpS_pure ⟨g4,.inl ⟨_,_,rfl,mf m5 (.inl c5)⟩⟩
        rw [if_neg (by simpa using c5)];exact HE _ _ m5 (by lia) (Ec k (Nat.le_refl _) (by lia)) (by lia)
      · rw [if_neg xJ];have:k=0:=by lia
        subst this;exact HE _ _ m' (by lia) (Ec 0 (Nat.le_refl _) (by lia)) (by lia)
    clear_value jq
    by_cases xJ:k > 0
    · rw [if_pos xJ]
      sleep 2
      have m5:=kz.vh O m.mi sa (k:=k) (by lia) λ t ht=>d6 O sb qr (Eb t ht)
      by_cases c5:i + k + 1=a.size
      · rw [if_pos (by simpa using c5)];exact wpS_pure ⟨g4,.inl ⟨_,_,rfl,oo m5 c5⟩⟩
      rw [if_neg (by simpa using c5)]
      by_cases c6:i + k=a.size
      · rw [if_pos (by simpa using c6)];exact wpS_pure ⟨g4,.inl ⟨_,_,rfl,mf m5 (.inr c6)⟩⟩
      rw [if_neg (by simpa using c6)];exact Cs _ _ ⟨m5,by lia,qr⟩ (d6 O sa (by lia) (O.gf (Fl k (Nat.le_refl _) (by lia)))) (by lia)
    · rw [if_neg xJ];have:k=0:=by lia
      subst this;exact Cs _ _ m (d6 O sa (by lia) (O.gf (Fl 0 (Nat.le_refl _) (by lia)))) mh
  clear_value jp;split
  · sleep 1
    exact wpS_mono (vf _) λ r aE hh=>by cases r<;>exact hh
  · exact wpS_mono (vf _) λ r aE hh=>by cases r<;>exact hh
noncomputable def Rv (lt:Keyed→Keyed→Bool) (a b o:Array Keyed) (i j:Nat):Prop:=MI (λ x y=>lt y x) a.toList.reverse b.toList.reverse o.toList (a.size - i) (b.size - j)
theorem Rv.symm {a b o:Array Keyed} {i j:Nat} (h:Rv lt a b o i j):Rv lt b a o j i:=MI.symm h
theorem dM {b:Array Keyed} {j:Nat} (hj:j≤b.size):b.toList.reverse.drop (b.size - j)=(b.toList.take j).reverse:=by
  have:=yO b.toList j (by simpa using hj);simpa using this
theorem Rv.me (O:Ord lt) {a b o:Array Keyed} {i j:Nat} (h:Rv lt a b o i j) (sa:Sd lt a.toList) (h1:1≤i) (hi:i≤a.size) (hj:j≤b.size) (hb:∀ y∈b.toList.take j,le lt y (it a (i - 1))):Rv lt a b (o.push (it a (i - 1))) (i - 1) j:=by
  unfold Rv;rw [Array.toList_push,show a.size - (i - 1)=a.size - i + 1 by lia];refine MI.a O.swap h sa.rev ?_ λ y hy=>?_
  · have e:=ve (A:=a.toList) (n:=i - 1) (by simp;lia);rw [Array.length_toList,show a.size - (i - 1 + 1)=a.size - i by lia] at e;rw [e];exact da (by lia)
  · rw [dM hj,List.mem_reverse] at hy;exact hb y hy
theorem Rv.om (O:Ord lt) {a b o:Array Keyed} {i j:Nat} (h:Rv lt a b o i j) (sb:Sd lt b.toList) (h1:1≤j) (hj:j≤b.size) (hi:i≤a.size) (ha:∀ y∈a.toList.take i,le lt y (it b (j - 1))):Rv lt a b (o.push (it b (j - 1))) i (j - 1) :=
  (h.symm.me O sb h1 hj hi ha).symm
theorem Rv.vh (O:Ord lt) {a b o:Array Keyed} {i j k:Nat} (h:Rv lt a b o i j) (sa:Sd lt a.toList) (hk:k≤i) (hi:i≤a.size) (hj:j≤b.size) (hb:∀ t,k≤t→t < i→∀ y∈b.toList.take j,le lt y (it a t)):Rv lt a b (o ++ (a.extract k i).reverse) k j:=by
  unfold Rv;have e:(o ++ (a.extract k i).reverse).toList=o.toList ++ (a.toList.reverse.drop (a.size - i)).take (i - k):=by
    rw [Array.toList_append,Array.toList_reverse,eJ,dM hi,List.take_reverse,List.drop_take];congr 2;have hl:(List.take i a.toList).length=i:=by simp;lia
    rw [hl,show i - (i - k)=k by lia]
  rw [e,show a.size - k=a.size - i + (i - k) by lia];refine MI.as O.swap sa.rev (i - k) h (by simp;lia) λ t x ht ex y hy=>?_;rw [dM hj,List.mem_reverse] at hy;have e2:=ve (A:=a.toList) (n:=i - 1 - t) (by simp;lia);rw [Array.length_toList,show a.size - (i - 1 - t + 1)=a.size - i + t by lia] at e2;rw [e2] at ex;rw [(cI ex).2];exact hb (i - 1 - t) (by lia) (by lia) y hy
theorem Rv.yS (O:Ord lt) {a b o:Array Keyed} {i j k:Nat} (h:Rv lt a b o i j) (sb:Sd lt b.toList) (hk:k≤j) (hj:j≤b.size) (hi:i≤a.size) (ha:∀ t,k≤t→t < j→∀ y∈a.toList.take i,le lt y (it b t)):Rv lt a b (o ++ (b.extract k j).reverse) i k :=
  (h.symm.vh O sb hk hj hi ha).symm
theorem ip (a:Array Keyed) (i:Nat):(a.extract 0 i).toList=a.toList.take i:=by rw [eJ];simp
theorem Rv.fin {a b o:Array Keyed} {i j:Nat} (h:Rv lt a b o i j) (sa:Sd lt a.toList) (sb:Sd lt b.toList) (hi:i≤a.size) (hj:j≤b.size) (e:i=0∨j=0):bA lt a b (a.extract 0 i ++ b.extract 0 j ++ o.reverse):=by
  have key:Sd (λ x y=>lt y x) (o.toList ++ a.toList.reverse.drop (a.size - i) ++ b.toList.reverse.drop (b.size - j))∧(o.toList ++ a.toList.reverse.drop (a.size - i) ++ b.toList.reverse.drop (b.size - j)).Perm (a.toList.reverse ++ b.toList.reverse):=by
    rcases e with rfl | rfl
    · exact MI.Hu h sb.rev (by simp)
    · exact MI.D9 h sa.rev (by simp)
  rw [dM hi,dM hj] at key;have el:(a.extract 0 i ++ b.extract 0 j ++ o.reverse).toList=(o.toList ++ (a.toList.take i).reverse ++ (b.toList.take j).reverse).reverse:=by
    rw [Array.toList_append,Array.toList_append,Array.toList_reverse,ip,ip];rcases e with rfl | rfl<;>simp
  unfold bA;rw [el];refine ⟨Sd.Co key.1,(List.reverse_perm _).trans (key.2.trans ?_)⟩;exact (List.reverse_perm _).append (List.reverse_perm _)
theorem Rv.first (O:Ord lt) {a b o:Array Keyed} {i j:Nat} (h:Rv lt a b o i j) (sa:Sd lt a.toList) (sb:Sd lt b.toList) (hi:i≤a.size) (hj:j≤b.size) (e:j=1) (h0:∀ x∈a.toList,le lt (it b 0) x):bA lt a b (b.extract 0 j ++ a.extract 0 i ++ o.reverse):=by
  have key:=MI.Hv (MI.symm h) sb.rev sa.rev λ x hx y hy=>by
    rw [dM hj,List.mem_reverse] at hy;rw [List.mem_reverse] at hx;obtain ⟨t,ht⟩:=List.getElem?_of_mem hy;have Rb:t=0:=by
      have:=(List.getElem?_eq_some_iff.mp ht).1;rw [List.length_take] at this
      lia
    subst Rb;rw [List.getElem?_take_of_lt (by lia)] at ht;rw [(cI ht).2];exact h0 x hx
  rw [dM hi,dM hj] at key;have el:(b.extract 0 j ++ a.extract 0 i ++ o.reverse).toList=(o.toList ++ (a.toList.take i).reverse ++ (b.toList.take j).reverse).reverse:=by
    rw [Array.toList_append,Array.toList_append,Array.toList_reverse,ip,ip];simp
  unfold bA;rw [el];refine ⟨Sd.Co key.1,(List.reverse_perm _).trans (key.2.trans ?_)⟩;exact ((List.reverse_perm _).append (List.reverse_perm _)).trans List.perm_append_comm
theorem kY (O:Ord lt) {a:Array Keyed} (h:Sd lt a.toList) {i:Nat} {z:Keyed} (h1:1≤i) (hi:i≤a.size) (hz:le lt (it a (i - 1)) z):∀ y∈a.toList.take i,le lt y z:=λ y hy=>by
  obtain ⟨t,ht⟩:=List.getElem?_of_mem hy;have hl:t < i:=by
    have:=(List.getElem?_eq_some_iff.mp ht).1;rw [List.length_take] at this
    lia
  rw [List.getElem?_take_of_lt hl] at ht;rw [(cI ht).2];exact O.tr (md O h (by lia) (by lia)) hz
structure jy (lt:Keyed→Keyed→Bool) (a b o:Array Keyed) (i j:Nat):Prop where
  mi:Rv lt a b o i j
  li:1≤i
  ui:i≤a.size
  lj:2≤j
  uj:j≤b.size
theorem rk {st:SortSt} {a b:Array Keyed} {Q:Array Keyed→SortSt→Prop} (O:Ord lt) (C:jw prog w A s κ lt a₀) (hk:kindOf st=κ) (ma:∀ p∈a.toList,p∈a₀.toList) (mb:∀ p∈b.toList,p∈a₀.toList) (sa:Sd lt a.toList) (sb:Sd lt b.toList) (ha:1≤a.size) (hb:1≤b.size)
    (h0:le lt (it b 0) (it a 0)) (hl:∀ x∈b.toList,le lt x (it a (a.size - 1))) (h:∀ r aE,Mg st aE→bA lt a b r→Q r aE):wpS (model prog w) A E s (l8 a b) Q st:=by
  have Rc:∀ x∈a.toList,le lt (it b 0) x:=λ x hx=>d6 O sa (i:=0) (by lia) h0 x (by simpa using hx);rw [rh];refine wpS_bind (wpS_lift (wpAny_rule ⟨rfl,?_⟩))
  sleep 1
  extract_lets -underBinder +onlyGivenNames -merge -useContext fin;have mf:∀ {o:Array Keyed} {i j:Nat},Rv lt a b o i j→i≤a.size→j≤b.size→(i=0∨j=0)→bA lt a b (fin o i j):=λ m h1 h2 e=>Rv.fin m sa sb h1 h2 e;clear_value fin;extract_lets -underBinder +onlyGivenNames -merge -useContext i6;have pU:∀ {o:Array Keyed} {i j:Nat},Rv lt a b o i j→i≤a.size→j≤b.size→j=1→bA lt a b (i6 o i j):=λ m h1 h2 e=>Rv.first O m sa sb h1 h2 e Rc;clear_value i6;have iR:∀ {i:Nat},i < b.size→it b i∈a₀.toList:=λ h=>mb _ (i5 h);have HB:∀ {i:Nat},i < a.size→it a i∈a₀.toList:=λ h=>ma _ (i5 h)
  sleep 2
  refine wpS_bind (a_ (by lia) ?_)
  sleep 1
  have m0:Rv lt a b #[it a (a.size - 1)] (a.size - 1) b.size:=by
    have z:Rv lt a b #[] a.size b.size:=by
      unfold Rv;rw [Nat.sub_self,Nat.sub_self];exact MI.nil
    have:=z.me O sa ha (Nat.le_refl _) (Nat.le_refl _) λ y hy=>hl y (List.mem_of_mem_take hy);simpa using this
  by_cases c1:a.size - 1=0
  · rw [if_pos (by simpa using c1)];exact wpS_pure (h _ st (Mg.refl st) (mf m0 (by lia) (Nat.le_refl _) (.inl c1)))
  rw [if_neg (by simpa using c1)]
  by_cases c2:b.size=1
  · rw [if_pos (by simpa using c2)];exact wpS_pure (h _ st (Mg.refl st) (pU m0 (by lia) (Nat.le_refl _) c2))
  rw [if_neg (by simpa using c2)];refine wpS_bind (wpS_get ?_)
  sleep 1
  refine wpS_bind (wpS_mono (wpS_forRange (I:=λ x c aE=>Mg st aE∧∃ o i j mg,c=(none,i,j,o,mg)∧jy lt a b o i j∧x + i + j≤a.size + b.size)
    (Q:=λ c aE=>Mg st aE∧∃ r d,c=(some r,d)∧bA lt a b r) ?step ?fin ⟨Mg.refl st,#[it a (a.size - 1)],a.size - 1,b.size,_,rfl,⟨m0,by lia,by lia,by lia,Nat.le_refl _⟩,(show 0 + (a.size - 1) + b.size≤a.size + b.size by lia)⟩) ?post)
  case fin =>
    rintro c aE ⟨_,o,i,j,mg,rfl,m,hx⟩;have:=m.li;have:=m.lj
    lia
  case post =>
    rintro c aE ⟨g,r,d,rfl,hr⟩
    sleep 1
    exact wpS_pure (h r aE g hr)
  rintro x c xH _ hx ⟨g1,o1,i1,j1,Q6,rfl,m1,Ea⟩
  sleep 9
  refine wpS_bind (wpS_mono (wpS_forRange (I:=λ y c aE=>Mg st aE∧∃ o i j ca cb,c=(none,i,j,o,ca,cb)∧jy lt a b o i j∧x + min y 1 + i + j≤a.size + b.size)
    (Q:=λ c aE=>Mg st aE∧((∃ r d,c=(some r,d)∧bA lt a b r)∨∃ o i j ca cb,c=(none,i,j,o,ca,cb)∧jy lt a b o i j∧x + 1 + i + j≤a.size + b.size)) ?step1 ?fin1 ⟨g1,o1,i1,j1,0,0,rfl,m1,by lia⟩) ?post1)
  case fin1 =>
    rintro c aE ⟨g,o,i,j,ca,cb,rfl,m,hy⟩;exact ⟨g,.inr ⟨o,i,j,ca,cb,rfl,m,by lia⟩⟩
  case step1 =>
    rintro y c aE _ hy ⟨g,o,i,j,ca,cb,rfl,m,HD⟩;obtain ⟨mi,xI,sP,qr,vi⟩:=m
    sleep 9
    refine wpS_bind (a_ (by lia) (wpS_bind (a_ (by lia) (wpS_bind (gZ C (g.kind.trans hk) (iR (by lia)) (HB (by lia)) ?_)))))
    ((try dsimp -zeta -zetaUnused -zetaHave only))
    cases hw:lt (it b (j - 1)) (it a (i - 1)) with
    | true =>
      rw [if_pos rfl]
      sleep 1
      refine wpS_bind (a_ (by lia) ?_)
      sleep 3
      have m':=mi.me O sa xI sP vi (kY O sb (by lia) vi (O.gf hw))
      by_cases c3:i - 1=0
      · rw [if_pos (by simpa using c3)];exact wpS_pure ⟨g,.inl ⟨_,_,rfl,mf m' (by lia) vi (.inl c3)⟩⟩
      rw [if_neg (by simpa using c3)];have m2:jy lt a b (o.push (it a (i - 1))) (i - 1) j:=⟨m',by lia,by lia,qr,vi⟩;split
      · exact wpS_pure ⟨g,.inr ⟨_,_,_,_,_,rfl,m2,by lia⟩⟩
      · exact wpS_pure ⟨g,_,_,_,_,_,rfl,m2,by lia⟩
    | false =>
      rw [if_neg (by simp)]
      sleep 1
      refine wpS_bind (a_ (by lia) ?_)
      sleep 3
      have m':=mi.om O sb (by lia) vi sP (kY O sa xI sP hw)
      by_cases c3:j - 1=1
      · rw [if_pos (by simpa using c3)];exact wpS_pure ⟨g,.inl ⟨_,_,rfl,pU m' sP (by lia) c3⟩⟩
      rw [if_neg (by simpa using c3)];have m2:jy lt a b (o.push (it b (j - 1))) i (j - 1):=⟨m',xI,sP,by lia,by lia⟩;split
      · exact wpS_pure ⟨g,.inr ⟨_,_,_,_,_,rfl,m2,by lia⟩⟩
      · exact wpS_pure ⟨g,_,_,_,_,_,rfl,m2,by lia⟩
  rintro c ef ⟨g2,⟨r,d,rfl,hr⟩ | ⟨o2,i2,j2,Q7,Q8,rfl,m2,nz⟩⟩
  · sleep 10
    exact wpS_pure ⟨g2,r,_,rfl,hr⟩
  sleep 10
  refine wpS_bind (wpS_lift (wpAny_rule ⟨rfl,?_⟩))
  sleep 1
  refine wpS_bind (wpS_mono (wpS_forRange (I:=λ y c aE=>Mg st aE∧∃ o i j mg ca cb,c=(none,i,j,o,mg,ca,cb)∧jy lt a b o i j∧x + 1 + i + j≤a.size + b.size)
    (Q:=λ c aE=>Mg st aE∧((∃ r d,c=(some r,d)∧bA lt a b r)∨∃ o i j mg ca cb,c=(none,i,j,o,mg,ca,cb)∧jy lt a b o i j∧x + 1 + i + j≤a.size + b.size)) ?step2 ?fin2 ⟨g2,o2,i2,j2,_,_,_,rfl,m2,nz⟩) ?post2)
  case fin2 =>
    rintro c aE ⟨g,z⟩;exact ⟨g,.inr z⟩
  case post2 =>
    rintro c iU ⟨g3,⟨r,d,rfl,hr⟩ | ⟨o3,i3,j3,Q9,Q_,Ra,rfl,m3,mh⟩⟩
    · sleep 9
      exact wpS_pure ⟨g3,r,_,rfl,hr⟩
    (sleep 9;sleep 1)
    refine wpS_bind (kX (wpS_pure ?_));exact ⟨g3.min _,_,_,_,_,rfl,m3,by lia⟩
  rintro y c iU _ hy ⟨g3,o,i,j,mg,ca,cb,rfl,m,mh⟩;obtain ⟨mi,xI,sP,qr,vi⟩:=m
  sleep 11
  extract_lets -underBinder +onlyGivenNames -merge -useContext jp;have vf:∀ mg,wpS (model prog w) A E s (jp () mg) (λ r aE=>match r with
      | .done c'=>Mg st aE∧((∃ r d,c'=(some r,d)∧bA lt a b r)∨∃ o i j mg ca cb,c'=(none,i,j,o,mg,ca,cb)∧jy lt a b o i j∧x + 1 + i + j≤a.size + b.size)
      | .yield c'=>Mg st aE∧∃ o i j mg ca cb,c'=(none,i,j,o,mg,ca,cb)∧jy lt a b o i j∧x + 1 + i + j≤a.size + b.size) iU:=λ mg=>by
    refine wpS_bind (kX (wpS_bind (a_ (by lia) ?_)));have g4:=g3.min mg;refine wpS_bind (dq C (g4.kind.trans hk) (iR (by lia)) (by lia) ma (by lia) (λ t u h1 h2 h3=>?_) λ k k1 k2 k3=>?_)
    · unfold ahead at h3 ⊢;rw [if_neg (by simp)] at h3 ⊢;rw [Nat.zero_add] at h3 ⊢;have h4:lt (it b (j - 1)) (it a u)=false:=by simpa using h3
      have h5:lt (it b (j - 1)) (it a t)=false:=O.tr (md O sa (by lia) (by lia)) h4;rw [h5];rfl
    have Eb:∀ t,t < k→le lt (it a t) (it b (j - 1)):=λ t ht=>by
      have:=k2 t ht;unfold ahead at this;rw [if_neg (by simp),Nat.zero_add] at this;show lt (it b (j - 1)) (it a t)=false;simpa using this
    have Fl:∀ t,k≤t→t < i→lt (it b (j - 1)) (it a t)=true:=λ t h1 h2=>by
      have:=k3 t h1 h2;unfold ahead at this;rw [if_neg (by simp),Nat.zero_add] at this;simpa using this
    sleep 2
    extract_lets -underBinder +onlyGivenNames -merge -useContext jq;have Cs:∀ o i,Rv lt a b o i j→1≤i→i≤a.size→(∀ y∈a.toList.take i,le lt y (it b (j - 1)))→x + 1 + i + j≤a.size + b.size→wpS (model prog w) A E s (jq () i o) (λ r aE=>match r with
      | .done c'=>Mg st aE∧((∃ r d,c'=(some r,d)∧bA lt a b r)∨∃ o i j mg ca cb,c'=(none,i,j,o,mg,ca,cb)∧jy lt a b o i j∧x + 1 + i + j≤a.size + b.size)
      | .yield c'=>Mg st aE∧∃ o i j mg ca cb,c'=(none,i,j,o,mg,ca,cb)∧jy lt a b o i j∧x + 1 + i + j≤a.size + b.size) (fP iU mg):=λ o i m xI sP hy hx=>by
      ((try dsimp -zeta -zetaUnused -zetaHave only))
      refine wpS_bind (a_ (by lia) ?_)
      sleep 1
      have m':=m.om O sb (by lia) vi sP hy
      by_cases c3:j - 1=1
      · rw [if_pos (by simpa using c3)];exact wpS_pure ⟨g4,.inl ⟨_,_,rfl,pU m' sP (by lia) c3⟩⟩
      rw [if_neg (by simpa using c3)];refine wpS_bind (a_ (by lia) ?_);refine wpS_bind (dq C (g4.kind.trans hk) (HB (by lia)) (by lia) mb (by lia) (λ t u h1 h2 h3=>?_) λ k n1 n2 n3=>?_)
      · unfold ahead at h3 ⊢;rw [if_pos rfl] at h3 ⊢;exact g6 O (md O sb (by lia) (by lia)) h3
      have Fo:∀ t,t < k→le lt (it b t) (it a (i - 1)):=λ t ht=>by
        have:=n2 t ht;unfold ahead at this;rw [if_pos rfl,Nat.zero_add] at this;exact O.gf this
      have Ec:∀ t,k≤t→t < j - 1→le lt (it a (i - 1)) (it b t):=λ t h1 h2=>by
        have:=n3 t h1 h2;unfold ahead at this;rw [if_pos rfl,Nat.zero_add] at this;exact this
      sleep 2
      extract_lets -underBinder +onlyGivenNames -merge -useContext jr;have HE:∀ o j,Rv lt a b o i j→2≤j→j≤b.size→(∀ y∈b.toList.take j,le lt y (it a (i - 1)))→x + 1 + i + j≤a.size + b.size→wpS (model prog w) A E s (jr () j o) (λ r aE=>match r with
        | .done c'=>Mg st aE∧((∃ r d,c'=(some r,d)∧bA lt a b r)∨∃ o i j mg ca cb,c'=(none,i,j,o,mg,ca,cb)∧jy lt a b o i j∧x + 1 + i + j≤a.size + b.size)
        | .yield c'=>Mg st aE∧∃ o i j mg ca cb,c'=(none,i,j,o,mg,ca,cb)∧jy lt a b o i j∧x + 1 + i + j≤a.size + b.size) (fP iU mg):=λ o j m qr vi hle hx=>by
        ((try dsimp -zeta -zetaUnused -zetaHave only))
        refine wpS_bind (a_ (by lia) ?_)
        sleep 1
        have m':=m.me O sa xI sP vi hle
        by_cases c4:i - 1=0
        · rw [if_pos (by simpa using c4)];exact wpS_pure ⟨g4,.inl ⟨_,_,rfl,mf m' (by lia) vi (.inl c4)⟩⟩
        rw [if_neg (by simpa using c4)];have m2:jy lt a b (o.push (it a (i - 1))) (i - 1) j:=⟨m',by lia,by lia,qr,vi⟩;split
        · exact wpS_pure ⟨g4,.inr ⟨_,_,_,_,_,_,rfl,m2,by lia⟩⟩
        · exact wpS_pure ⟨g4,_,_,_,_,_,_,rfl,m2,by lia⟩
      clear_value jr;have tk:∀ k',k'≤j - 1→(∀ t,t < k'→le lt (it b t) (it a (i - 1)))→∀ y∈b.toList.take k',le lt y (it a (i - 1)):=λ k' Aq hh y hy=>by
        obtain ⟨t,ht⟩:=List.getElem?_of_mem hy;have hl:t < k':=by
          have:=(List.getElem?_eq_some_iff.mp ht).1;rw [List.length_take] at this
          lia
        rw [List.getElem?_take_of_lt hl] at ht;rw [(cI ht).2];exact hh t hl
      by_cases xJ:j - 1 - k > 0
      · rw [if_pos xJ]
        sleep 2
        have m5:=m'.yS O sb (k:=k) (by lia) (by lia) sP λ t h1 h2=>kY O sa xI sP (Ec t h1 h2)
        by_cases c5:k=1
        · rw [if_pos (by simpa using c5)];exact wpS_pure ⟨g4,.inl ⟨_,_,rfl,pU m5 sP (by lia) c5⟩⟩
        rw [if_neg (by simpa using c5)]
        by_cases c6:k=0
        · rw [if_pos (by simpa using c6)];exact wpS_pure ⟨g4,.inl ⟨_,_,rfl,mf m5 sP (by lia) (.inr c6)⟩⟩
        rw [if_neg (by simpa using c6)];exact HE _ _ m5 (by lia) (by lia) (tk k (by lia) Fo) (by lia)
      · rw [if_neg xJ];have:k=j - 1:=by lia
        subst this;exact HE _ _ m' (by lia) (by lia) (tk (j - 1) (Nat.le_refl _) Fo) (by lia)
    clear_value jq;have tk:∀ k',k'≤i→(∀ t,t < k'→le lt (it a t) (it b (j - 1)))→∀ y∈a.toList.take k',le lt y (it b (j - 1)):=λ k' Aq hh y hy=>by
      obtain ⟨t,ht⟩:=List.getElem?_of_mem hy;have hl:t < k':=by
        have:=(List.getElem?_eq_some_iff.mp ht).1;rw [List.length_take] at this
        lia
      rw [List.getElem?_take_of_lt hl] at ht;rw [(cI ht).2];exact hh t hl
    by_cases xJ:i - k > 0
    · rw [if_pos xJ]
      sleep 2
      have m5:=mi.vh O sa (k:=k) (by lia) sP vi λ t h1 h2=>kY O sb (by lia) vi (O.gf (Fl t h1 h2))
      by_cases c5:k=0
      · rw [if_pos (by simpa using c5)];exact wpS_pure ⟨g4,.inl ⟨_,_,rfl,mf m5 (by lia) vi (.inl c5)⟩⟩
      rw [if_neg (by simpa using c5)];exact Cs _ _ m5 (by lia) (by lia) (tk k (by lia) Eb) (by lia)
    · rw [if_neg xJ];have:k=i:=by lia
      subst this;exact Cs _ _ mi xI sP (tk k (Nat.le_refl _) Eb) mh
  clear_value jp;split
  · sleep 1
    exact wpS_mono (vf _) λ r aE hh=>by cases r<;>exact hh
  · exact wpS_mono (vf _) λ r aE hh=>by cases r<;>exact hh
end
theorem rm (i:Nat):mergeAt' i=(do
  let st ← get
  let (some (sa,na,pw),some (sb,nb,_)):=((pendingOf st)[i]?,(pendingOf st)[i + 1]?) | unsupported "internal:list.sort.pending"
  set (setPending st (((pendingOf st).setIfInBounds i (sa,na + nb,pw)).eraseIdxIfInBounds (i + 1)))
  let some k ← eU false (← elem' (arrOf st) sb) (arrOf st) sa na 0 | return false
  let (sa,na):=(sa + k,na - k)
  if na == 0 then return true
  let some nb ← eU true (← elem' (arrOf st) (sa + na - 1)) (arrOf st) sb nb (nb - 1) | return false
  if nb == 0 then return true
  let x:=(arrOf st).extract sa sb
  let y:=(arrOf st).extract sb (sb + nb)
  let z ← if na≤nb then l7 x y else l8 x y
  modify λ st=>setArr st (z.toList.zipIdx.foldl (λ a (p,j)=>a.setIfInBounds (sa + j) p) (arrOf st))
  return (failedOf (← get)).isNone):=rfl
noncomputable def putAt (base:Nat) (l:List Keyed) (n:Nat) (xs:Array Keyed):Array Keyed:=(l.zipIdx n).foldl (λ a (p,j)=>a.setIfInBounds (base + j) p) xs
theorem pV (base:Nat):∀ (l:List Keyed) (n:Nat) (xs:Array Keyed),base + n + l.length≤xs.size→(putAt base l n xs).size=xs.size∧∀ t,(putAt base l n xs)[t]?=if base + n≤t∧t < base + n + l.length then l[t - (base + n)]? else xs[t]?
  | [],n,xs,h=>by
    refine ⟨rfl,λ t=>?_⟩;rw [if_neg (by rw [List.length_nil];lia)];rfl
  | p :: l,n,xs,h=>by
    have e:putAt base (p :: l) n xs=putAt base l (n + 1) (xs.setIfInBounds (base + n) p):=rfl;simp only [List.length_cons] at h;obtain ⟨h1,h2⟩:=pV base l (n + 1) (xs.setIfInBounds (base + n) p) (by rw [Array.size_setIfInBounds];lia);rw [e];refine ⟨h1.trans (Array.size_setIfInBounds ..),λ t=>?_⟩;rw [h2 t];simp only [List.length_cons]
    by_cases c1:base + (n + 1)≤t∧t < base + (n + 1) + l.length
    · rw [if_pos c1,if_pos (by lia),show t - (base + n)=t - (base + (n + 1)) + 1 by lia,List.getElem?_cons_succ]
    · rw [if_neg c1]
      by_cases c2:t=base + n
      · subst c2;rw [if_pos (by lia),Nat.sub_self,List.getElem?_cons_zero];rw [Array.getElem?_setIfInBounds_self_of_lt (by lia)]
      · rw [if_neg (by lia),Array.getElem?_setIfInBounds_ne (by lia)]
theorem yT {base:Nat} {l:List Keyed} {xs:Array Keyed} (h:base + l.length≤xs.size):(putAt base l 0 xs).toList=xs.toList.take base ++ l ++ xs.toList.drop (base + l.length):=by
  obtain ⟨h1,h2⟩:=pV base l 0 xs (by lia);apply List.ext_getElem?;intro t;rw [Array.getElem?_toList,h2 t];have hb:(List.take base xs.toList).length=base:=by simp;lia
  by_cases c1:t < base
  · rw [if_neg (by lia),List.append_assoc,List.getElem?_append_left (by lia),List.getElem?_take_of_lt c1,Array.getElem?_toList]
  · by_cases c2:t < base + l.length
    · rw [if_pos (by lia),List.getElem?_append_left (by simp;lia),List.getElem?_append_right (by lia),hb];rfl
    · rw [if_neg (by lia),List.getElem?_append_right (by simp;lia),List.getElem?_drop,← Array.getElem?_toList];congr 1;simp
      lia
section
variable {prog:Program} {w:World} {A:Around} {E:Value→Shared→Prop} {s:Shared} {a₀:Array Keyed} {κ:SortKind} {lt:Keyed→Keyed→Bool}
theorem jY {xs:Array Keyed} {i j t:Nat} (h:j≤xs.size) (ht:t < j - i):it (xs.extract i j) t=it xs (i + t):=by
  refine dH ?_;rw [Array.getElem?_extract,if_pos (by lia)]
theorem jz {xs:Array Keyed} {i j:Nat} (h:j≤xs.size):(xs.extract i j).size=j - i:=by
  rw [Array.size_extract]
  lia
theorem yU (O:Ord lt) {xs:Array Keyed} {i j lo n:Nat} (h:Up lt xs lo n) (hj:j≤xs.size) (h1:lo≤i) (h2:j≤lo + n):Sd lt (xs.extract i j).toList:=by
  refine Sd.of _ (λ t x y hx hy=>?_) O;obtain ⟨a1,rfl⟩:=cI hx;obtain ⟨a2,rfl⟩:=cI hy;rw [jz hj] at a1 a2;rw [jY hj (by lia),jY hj (by lia)];have:=h (i - lo + t) (i - lo + (t + 1)) (by lia) (by lia)
  rwa [show lo + (i - lo + t)=i + t by lia,show lo + (i - lo + (t + 1))=i + (t + 1) by lia] at this
theorem ext_mem {xs:Array Keyed} {i j:Nat} (hj:j≤xs.size) {p:Keyed} (hp:p∈(xs.extract i j).toList):∃ t,i≤t∧t < j∧p=it xs t:=by
  obtain ⟨t,ht⟩:=List.getElem?_of_mem hp;obtain ⟨a1,rfl⟩:=cI ht;rw [jz hj] at a1;exact ⟨i + t,by lia,by lia,jY hj a1⟩
structure Ed (lt:Keyed→Keyed→Bool) (st aE:SortSt) (sa n:Nat):Prop where
  up:Up lt (arrOf aE) sa n
  out:∀ t,t < sa∨sa + n≤t→it (arrOf aE) t=it (arrOf st) t
theorem rn {st:SortSt} {i sa na pa sb nb pb:Nat} {Q:Bool→SortSt→Prop} (O:Ord lt) (C:jw prog w A s κ lt a₀) (hB:SB κ a₀ st) (hi:(pendingOf st)[i]?=some (sa,na,pa)) (hj:(pendingOf st)[i + 1]?=some (sb,nb,pb)) (e:sb=sa + na) (ha:1≤na) (hb:1≤nb) (hz:sb + nb≤a₀.size)
    (ua:Up lt (arrOf st) sa na) (ub:Up lt (arrOf st) sb nb)
    (h:∀ aE,SB κ a₀ aE→pendingOf aE=((pendingOf st).setIfInBounds i (sa,na + nb,pa)).eraseIdxIfInBounds (i + 1)→Ed lt st aE sa (na + nb)→Q true aE):wpS (model prog w) A E s (mergeAt' i) Q st:=by
  subst e;rw [rm];refine wpS_bind (wpS_get ?_);rw [hi,hj]
  ((try dsimp -zeta -zetaUnused -zetaHave only))
  have iK:=hB.size;have mem:∀ p∈(arrOf st).toList,p∈a₀.toList:=λ p hp=>hB.perm.mem_iff.mp hp;have HF:∀ {f:Unit→StateT SortSt Sem Bool} {Q:Bool→SortSt→Prop} {ef:SortSt},wpS (model prog w) A E s (f ()) Q ef→wpS (model prog w) A E s (set ef >>= f) Q st:=λ hh=>by
    refine wpS_bind ?_;unfold wpS;rw [StateT.run_set];exact wpAny_pure ⟨rfl,hh⟩
  refine HF ?_;clear HF;have A1:arrOf (setPending st (((pendingOf st).setIfInBounds i (sa,na + nb,pa)).eraseIdxIfInBounds (i + 1)))=arrOf st:=rfl;have sO:SB κ a₀ (setPending st (((pendingOf st).setIfInBounds i (sa,na + nb,pa)).eraseIdxIfInBounds (i + 1))):=⟨hB.perm,hB.kind,hB.failed⟩;have P1:pendingOf (setPending st (((pendingOf st).setIfInBounds i (sa,na + nb,pa)).eraseIdxIfInBounds (i + 1)))=((pendingOf st).setIfInBounds i (sa,na + nb,pa)).eraseIdxIfInBounds (i + 1):=rfl;generalize setPending st (((pendingOf st).setIfInBounds i (sa,na + nb,pa)).eraseIdxIfInBounds (i + 1))=xH at A1 sO P1 ⊢;have Lz:∀ t u,sa≤t→t≤u→u < sa + na→le lt (it (arrOf st) t) (it (arrOf st) u):=λ t u h1 h2 h3=>by
    have:=ua (t - sa) (u - sa) (by lia) (by lia)
    rwa [show sa + (t - sa)=t by lia,show sa + (u - sa)=u by lia] at this
  have HG:∀ t u,sa + na≤t→t≤u→u < sa + na + nb→le lt (it (arrOf st) t) (it (arrOf st) u):=λ t u h1 h2 h3=>by
    have:=ub (t - (sa + na)) (u - (sa + na)) (by lia) (by lia)
    rwa [show sa + na + (t - (sa + na))=t by lia,show sa + na + (u - (sa + na))=u by lia] at this
  have plain:le lt (it (arrOf st) (sa + na - 1)) (it (arrOf st) (sa + na))→Q true xH:=λ hle=>by
    refine h xH sO P1 ⟨λ t u h1 h2=>?_,λ t _=>by rw [A1]⟩;rw [A1]
    by_cases c1:u < na
    · exact ua t u h1 c1
    · by_cases c2:t < na
      · exact O.tr (Lz (sa + t) (sa + na - 1) (by lia) (by lia) (by lia)) (O.tr hle (HG (sa + na) (sa + u) (by lia) (by lia) (by lia)))
      · exact HG (sa + t) (sa + u) (by lia) (by lia) (by lia)
  refine wpS_bind (a_ (by lia) ?_);refine wpS_bind (dq C sO.kind (hB.mem (by lia)) (by lia) mem (by lia) (λ t u h1 h2 h3=>?_) λ k k1 k2 k3=>?_)
  · unfold ahead at h3 ⊢;rw [if_neg (by simp)] at h3 ⊢;have h4:lt (it (arrOf st) (sa + na)) (it (arrOf st) (sa + u))=false:=by simpa using h3
    have h5:lt (it (arrOf st) (sa + na)) (it (arrOf st) (sa + t))=false:=O.tr (ua t u h1 h2) h4;rw [h5];rfl
  have Eb:∀ t,t < k→le lt (it (arrOf st) (sa + t)) (it (arrOf st) (sa + na)):=λ t ht=>by
    have:=k2 t ht;unfold ahead at this;rw [if_neg (by simp)] at this;show lt (it (arrOf st) (sa + na)) (it (arrOf st) (sa + t))=false;simpa using this
  have Fl:∀ t,k≤t→t < na→lt (it (arrOf st) (sa + na)) (it (arrOf st) (sa + t))=true:=λ t h1 h2=>by
    have:=k3 t h1 h2;unfold ahead at this;rw [if_neg (by simp)] at this;simpa using this
  ((try dsimp -zeta -zetaUnused -zetaHave only))
  by_cases c1:na - k=0
  · rw [if_pos (by simpa using c1)];have:=Eb (na - 1) (by lia);rw [show sa + (na - 1)=sa + na - 1 by lia] at this;exact wpS_pure (plain this)
  rw [if_neg (by simpa using c1)];refine wpS_bind (a_ (by lia) ?_);rw [show sa + k + (na - k) - 1=sa + na - 1 by lia];refine wpS_bind (dq C sO.kind (hB.mem (by lia)) (by lia) mem (by lia) (λ t u h1 h2 h3=>?_) λ m n1 n2 n3=>?_)
  · unfold ahead at h3 ⊢;rw [if_pos rfl] at h3 ⊢;exact g6 O (ub t u h1 h2) h3
  have Fo:∀ t,t < m→lt (it (arrOf st) (sa + na + t)) (it (arrOf st) (sa + na - 1))=true:=λ t ht=>by
    have:=n2 t ht;unfold ahead at this
    rwa [if_pos rfl] at this
  have Ec:∀ t,m≤t→t < nb→le lt (it (arrOf st) (sa + na - 1)) (it (arrOf st) (sa + na + t)):=λ t h1 h2=>by
    have:=n3 t h1 h2;unfold ahead at this
    rwa [if_pos rfl] at this
  ((try dsimp -zeta -zetaUnused -zetaHave only))
  by_cases c2:m=0
  · rw [if_pos (by simpa using c2)];have:=Ec 0 (by lia) (by lia);exact wpS_pure (plain this)
  rw [if_neg (by simpa using c2)]
  sleep 2
  extract_lets -underBinder +onlyGivenNames -merge -useContext jp;have zx:sa + na≤(arrOf st).size:=by lia
  have zy:sa + na + m≤(arrOf st).size:=by lia
  have sx:((arrOf st).extract (sa + k) (sa + na)).size=na - k:=by rw [jz zx];lia
  have sy:((arrOf st).extract (sa + na) (sa + na + m)).size=m:=by rw [jz zy];lia
  have vf:∀ z ef,Mg xH ef→bA lt ((arrOf st).extract (sa + k) (sa + na)) ((arrOf st).extract (sa + na) (sa + na + m)) z→wpS (model prog w) A E s (jp z) Q ef:=λ z ef g hm=>by
    have A2:arrOf ef=arrOf st:=g.arr.trans A1;have lz:z.toList.length=na - k + m:=by
      have:=hm.2.length_eq;rw [List.length_append,Array.length_toList,Array.length_toList,Array.length_toList,sx,sy] at this;simpa using this
    refine wpS_bind (wpS_modify (wpS_bind (wpS_get (wpS_pure ?_))));have Rf:(failedOf (setArr ef (putAt (sa + k) z.toList 0 (arrOf ef)))).isNone=true:=by
      show (failedOf ef).isNone=true;rw [g.failed,sO.failed];rfl
    show Q (failedOf (setArr ef (putAt (sa + k) z.toList 0 (arrOf ef)))).isNone (setArr ef (putAt (sa + k) z.toList 0 (arrOf ef)));rw [Rf];have fit:sa + k + z.toList.length≤(arrOf ef).size:=by rw [A2,lz];lia
    have pl:=yT fit;obtain ⟨_,pg⟩:=pV (sa + k) z.toList 0 (arrOf ef) (by lia);have outs:∀ t,t < sa + k∨sa + na + m≤t→it (putAt (sa + k) z.toList 0 (arrOf ef)) t=it (arrOf st) t:=λ t ht=>by
      rw [← A2];refine dH ?_;rw [pg t,if_neg (by rw [lz];lia)]
    have ins:∀ t,sa + k≤t→t < sa + na + m→it (putAt (sa + k) z.toList 0 (arrOf ef)) t=it z (t - (sa + k)):=λ t h1 h2=>by
      refine dH ?_;rw [pg t,if_pos (by rw [lz];lia),Array.getElem?_toList];rfl
    have zs:z.size=na - k + m:=by rw [← Array.length_toList];exact lz
    have Og:∀ t,t < na - k + m→(∃ u,sa + k≤u∧u < sa + na∧it z t=it (arrOf st) u)∨∃ u,sa + na≤u∧u < sa + na + m∧it z t=it (arrOf st) u:=λ t ht=>by
      have:=hm.2.mem_iff.mp (i5 (xs:=z) (i:=t) (by lia));rcases List.mem_append.mp this with hh | hh
      · exact .inl (ext_mem zx hh)
      · exact .inr (ext_mem zy hh)
    refine h _ ⟨?_,g.kind.trans sO.kind,g.failed.trans sO.failed⟩ (g.pend.trans P1) ⟨λ t u h1 h2=>?_,λ t ht=>?_⟩
    · show (putAt (sa + k) z.toList 0 (arrOf ef)).toList.Perm a₀.toList;rw [pl,A2];refine List.Perm.trans ?_ hB.perm;have e1:(arrOf st).toList=(arrOf st).toList.take (sa + k) ++ (((arrOf st).extract (sa + k) (sa + na)).toList ++ ((arrOf st).extract (sa + na) (sa + na + m)).toList) ++ (arrOf st).toList.drop (sa + na + m):=by
        have a1:=List.take_append_drop (sa + k) (arrOf st).toList;have a2:=List.take_append_drop (na - k) ((arrOf st).toList.drop (sa + k));have a3:=List.take_append_drop m ((arrOf st).toList.drop (sa + na));rw [List.drop_drop,show sa + k + (na - k)=sa + na by lia] at a2;rw [List.drop_drop] at a3;rw [eJ,eJ,show sa + na - (sa + k)=na - k by lia,show sa + na + m - (sa + na)=m by lia,List.append_assoc,List.append_assoc,a3,a2,a1]
      have e2:(arrOf st).toList.drop (sa + k + z.toList.length)=(arrOf st).toList.drop (sa + na + m):=by rw [lz,show sa + k + (na - k + m)=sa + na + m by lia]
      rw [e2]
      conv=>rhs;rw [e1]
      exact (hm.2.append_left _).append_right _
    · show le lt (it (putAt (sa + k) z.toList 0 (arrOf ef)) (sa + t)) (it (putAt (sa + k) z.toList 0 (arrOf ef)) (sa + u));have Ct:∀ v,sa + na≤v→v < sa + na + nb→le lt (it (arrOf st) (sa + na)) (it (arrOf st) v):=λ v h1 h2=>HG (sa + na) v (Nat.le_refl _) h1 h2;have Fp:∀ v,sa≤v→v < sa + na→le lt (it (arrOf st) v) (it (arrOf st) (sa + na - 1)):=λ v h1 h2=>Lz v (sa + na - 1) h1 (by lia) (by lia)
      by_cases t1:sa + t < sa + k
      · rw [outs (sa + t) (.inl t1)];have low:=Eb t (by lia)
        by_cases u1:sa + u < sa + k
        · rw [outs (sa + u) (.inl u1)];exact ua t u h1 (by lia)
        · by_cases u2:sa + u < sa + na + m
          · rw [ins (sa + u) (by lia) u2];rcases Og (sa + u - (sa + k)) (by lia) with ⟨v,v1,v2,ev⟩ | ⟨v,v1,v2,ev⟩
            · rw [ev];exact Lz (sa + t) v (by lia) (by lia) v2
            · rw [ev];exact O.tr low (Ct v v1 (by lia))
          · rw [outs (sa + u) (.inr (by lia))];exact O.tr low (Ct (sa + u) (by lia) (by lia))
      · by_cases t2:sa + t < sa + na + m
        · rw [ins (sa + t) (by lia) t2]
          by_cases u2:sa + u < sa + na + m
          · rw [ins (sa + u) (by lia) u2];exact md O hm.1 (by lia) (by lia)
          · rw [outs (sa + u) (.inr (by lia))];rcases Og (sa + t - (sa + k)) (by lia) with ⟨v,v1,v2,ev⟩ | ⟨v,v1,v2,ev⟩
            · rw [ev];have:=Ec (u - na) (by lia) (by lia);rw [show sa + na + (u - na)=sa + u by lia] at this;exact O.tr (Fp v (by lia) v2) this
            · rw [ev];exact HG v (sa + u) v1 (by lia) (by lia)
        · rw [outs (sa + t) (.inr (by lia)),outs (sa + u) (.inr (by lia))];exact HG (sa + t) (sa + u) (by lia) (by lia) (by lia)
    · exact outs t (by lia)
  clear_value jp;have mx:∀ p∈((arrOf st).extract (sa + k) (sa + na)).toList,p∈a₀.toList:=λ p hp=>by
    obtain ⟨t,h1,h2,rfl⟩:=ext_mem zx hp;exact hB.mem (by lia)
  have my:∀ p∈((arrOf st).extract (sa + na) (sa + na + m)).toList,p∈a₀.toList:=λ p hp=>by
    obtain ⟨t,h1,h2,rfl⟩:=ext_mem zy hp;exact hB.mem (by lia)
  have xx:=yU O (i:=sa + k) (j:=sa + na) ua zx (by lia) (by lia);have yy:=yU O (i:=sa + na) (j:=sa + na + m) ub zy (by lia) (by lia);have first:le lt (it ((arrOf st).extract (sa + na) (sa + na + m)) 0) (it ((arrOf st).extract (sa + k) (sa + na)) 0):=by
    rw [jY zy (by lia),jY zx (by lia)];have:=O.gf (Fl k (Nat.le_refl _) (by lia));simpa using this
  have Cu:∀ x∈((arrOf st).extract (sa + na) (sa + na + m)).toList,le lt x (it ((arrOf st).extract (sa + k) (sa + na)) (((arrOf st).extract (sa + k) (sa + na)).size - 1)):=λ x hx=>by
    obtain ⟨t,h1,h2,rfl⟩:=ext_mem zy hx;rw [sx,jY zx (by lia),show sa + k + (na - k - 1)=sa + na - 1 by lia];have:=O.gf (Fo (t - (sa + na)) (by lia))
    rwa [show sa + na + (t - (sa + na))=t by lia] at this
  split
  · exact wpS_bind (rj O C sO.kind mx my xx yy (by lia) (by lia) first Cu λ r aE g hr=>vf r aE g hr)
  · exact wpS_bind (rk O C sO.kind mx my xx yy (by lia) (by lia) first Cu λ r aE g hr=>vf r aE g hr)
end
noncomputable def gg (lt:Keyed→Keyed→Bool) (xs:Array Keyed):List (Nat×Nat×Nat)→Nat→Nat→Prop
  | [],s,e=>s=e
  | x :: p,s,e=>x.1=s∧1≤x.2.1∧Up lt xs s x.2.1∧gg lt xs p (s + x.2.1) e
section
variable {prog:Program} {w:World} {A:Around} {E:Value→Shared→Prop} {s:Shared} {a₀:Array Keyed} {κ:SortKind} {lt:Keyed→Keyed→Bool} {xs ys:Array Keyed}
theorem gg.len:∀ {p:List (Nat×Nat×Nat)} {b e:Nat},gg lt xs p b e→b + p.length≤e
  | [],b,e,h=>by have:b=e:=h;simp;lia
  | x :: p,b,e,h=>by
    have:=gg.len h.2.2.2;have:=h.2.1;simp only [List.length_cons]
    lia
theorem gg.app:∀ {p q:List (Nat×Nat×Nat)} {b e:Nat},gg lt xs (p ++ q) b e↔∃ m,gg lt xs p b m∧gg lt xs q m e
  | [],q,b,e=>⟨λ h=>⟨b,rfl,h⟩,λ ⟨m,h1,h2⟩=>by have:b=m:=h1;subst this;exact h2⟩
  | x :: p,q,b,e=>by
    refine ⟨λ h=>?_,λ ⟨m,h1,h2⟩=>⟨h1.1,h1.2.1,h1.2.2.1,gg.app.mpr ⟨m,h1.2.2.2,h2⟩⟩⟩;obtain ⟨m,h1,h2⟩:=gg.app.mp h.2.2.2;exact ⟨m,⟨h.1,h.2.1,h.2.2.1,h1⟩,h2⟩
theorem Up.same {lo n:Nat} (h:Up lt xs lo n) (e:∀ t,lo≤t→t < lo + n→it ys t=it xs t):Up lt ys lo n:=λ i j kJ hj=>by
  rw [e (lo + i) (by lia) (by lia),e (lo + j) (by lia) (by lia)];exact h i j kJ hj
theorem gg.same:∀ {p:List (Nat×Nat×Nat)} {b e:Nat},gg lt xs p b e→(∀ t,b≤t→t < e→it ys t=it xs t)→gg lt ys p b e
  | [],b,e,h,_=>h
  | x :: p,b,e,h,hs=>by
    have hl:=gg.len h.2.2.2;exact ⟨h.1,h.2.1,h.2.2.1.same λ t h1 h2=>hs t h1 (by lia),gg.same h.2.2.2 λ t h1 h2=>hs t (by lia) h2⟩
theorem Ee {α:Type} {l:List α} {i:Nat} (h:i + 1 < l.length):∃ l1 x y l2,l=l1 ++ x :: y :: l2∧l1.length=i:=by
  refine ⟨l.take i,l[i],l[i + 1],l.drop (i + 2),?_,by rw [List.length_take];omega⟩;rw [← List.drop_eq_getElem_cons (by omega),← List.drop_eq_getElem_cons (by omega),List.take_append_drop]
theorem Bn {α:Type} {l1 l2:List α} {x y v:α}:((l1 ++ x :: y :: l2).set l1.length v).eraseIdx (l1.length + 1)=l1 ++ v :: l2:=by
  rw [List.set_append_right _ _ (Nat.le_refl _),Nat.sub_self,List.set_cons_zero,List.eraseIdx_append_of_length_le (by lia),show l1.length + 1 - l1.length=1 by lia];rfl
theorem rp {st:SortSt} {i e:Nat} {Q:Bool→SortSt→Prop} (O:Ord lt) (C:jw prog w A s κ lt a₀) (hB:SB κ a₀ st) (hS:gg lt (arrOf st) (pendingOf st).toList 0 e) (hi:i + 1 < (pendingOf st).size) (he:e≤a₀.size)
    (h:∀ aE,SB κ a₀ aE→gg lt (arrOf aE) (pendingOf aE).toList 0 e→(pendingOf aE).size + 1=(pendingOf st).size→(∀ t,e≤t→it (arrOf aE) t=it (arrOf st) t)→Q true aE):wpS (model prog w) A E s (mergeAt' i) Q st:=by
  obtain ⟨l1,x,y,l2,el,e1⟩:=Ee (l:=(pendingOf st).toList) (i:=i) (by simpa using hi);obtain ⟨sa,na,pa⟩:=x;obtain ⟨sb,nb,pb⟩:=y;have US:=hS;rw [el] at hS;obtain ⟨m,h1,h2⟩:=gg.app.mp hS;obtain ⟨a1,a2,a3,b1,b2,b3,h3⟩:=h2;dsimp only at a1 a2 a3 b1 b2 b3 h3;subst a1;subst b1;have l0:=h1.len;have l3:=h3.len;refine rn O C hB (sa:=sa) (na:=na) (pa:=pa) (sb:=sa + na) (nb:=nb) (pb:=pb) ?_ ?_ rfl a2 b2 (by lia) a3 b3 λ aE lY hp hJ=>?_
  · rw [← Array.getElem?_toList,el,← e1,List.getElem?_append_right (Nat.le_refl _),Nat.sub_self];rfl
  · rw [← Array.getElem?_toList,el,← e1,List.getElem?_append_right (by lia),show l1.length + 1 - l1.length=1 by lia];rfl
  · have pl:(pendingOf aE).toList=l1 ++ (sa,na + nb,pa) :: l2:=by
      rw [hp,Array.toList_eraseIdxIfInBounds,Array.toList_setIfInBounds,el,← e1];exact Bn
    refine h aE lY ?_ ?_ λ t ht=>hJ.out t (.inr (by lia))
    · rw [pl];refine gg.app.mpr ⟨sa,h1.same λ t h1 h2=>hJ.out t (.inl h2),rfl,by dsimp only;lia,hJ.up,?_⟩;show gg lt (arrOf aE) l2 (sa + (na + nb)) e;rw [← Nat.add_assoc];exact h3.same λ t h1 h2=>hJ.out t (.inr (by lia))
    · have q1:=congrArg List.length pl;have q2:=congrArg List.length el;simp only [Array.length_toList,List.length_append,List.length_cons] at q1 q2
      lia
theorem gg.HH {p:List (Nat×Nat×Nat)} {b e:Nat} (h:gg lt xs p b e) (f:Nat×Nat×Nat→Nat×Nat×Nat) (hf:∀ x,(f x).1=x.1∧(f x).2.1=x.2.1):∀ i,gg lt xs (p.modify i f) b e:=by
  induction p generalizing b with
  | nil=>intro i;rw [List.modify_nil];exact h
  | cons x p ih =>
    intro i;cases i with
    | zero =>
      rw [List.modify_zero_cons];obtain ⟨f1,f2⟩:=hf x;refine ⟨f1.trans h.1,by rw [f2];exact h.2.1,by rw [f2];exact h.2.2.1,?_⟩;rw [f2];exact h.2.2.2
    | succ i =>
      rw [List.modify_succ_cons];exact ⟨h.1,h.2.1,h.2.2.1,ih h.2.2.2 i⟩
theorem kB {st:SortSt} {Q:Unit→SortSt→Prop} (O:Ord lt) (C:jw prog w A s κ lt a₀) (hB:SB κ a₀ st) (hp:pendingOf st = #[]) (h2:2≤a₀.size)
    (h:∀ aE,(arrOf aE).toList.Perm a₀.toList→failedOf aE=none→Up lt (arrOf aE) 0 a₀.size→Q () aE):wpS (model prog w) A E s sortRuns' Q st:=by
  rw [sortRuns'_eq];refine wpS_bind (wpS_get ?_);rw [hB.size]
  sleep 3
  refine wpS_bind (wpS_mono (wpS_forRange (I:=λ x c aE=>∃ lo,c=(none,lo)∧SB κ a₀ aE∧gg lt (arrOf aE) (pendingOf aE).toList 0 lo∧lo≤a₀.size∧min x a₀.size≤lo)
    (Q:=λ c aE=>c.1=none∧SB κ a₀ aE∧gg lt (arrOf aE) (pendingOf aE).toList 0 a₀.size) ?step ?fin ⟨0,rfl,hB,by rw [hp];exact (rfl:(0:Nat)=0),by lia,(show min 0 a₀.size≤0 by lia)⟩) ?post)
  case fin =>
    rintro c aE ⟨lo,rfl,lY,hS,h3,h4⟩;have:lo=a₀.size:=by lia
    subst this;exact ⟨rfl,lY,hS⟩
  case post =>
    rintro ⟨c1,c2⟩ aE ⟨rfl,lY,hS⟩
    sleep 2
    refine wpS_bind (wpS_mono (wpS_forRange (I:=λ x c aE=>c=(none,())∧SB κ a₀ aE∧gg lt (arrOf aE) (pendingOf aE).toList 0 a₀.size∧(pendingOf aE).size≤max 1 (a₀.size - x))
      (Q:=λ c aE=>c=(none,())∧SB κ a₀ aE∧gg lt (arrOf aE) (pendingOf aE).toList 0 a₀.size∧(pendingOf aE).size≤1) ?fstep ?ffin ⟨rfl,lY,hS,?finit⟩) ?fpost)
    case finit =>
      have:=hS.len;rw [Array.length_toList] at this;show (pendingOf aE).size≤max 1 (a₀.size - 0)
      lia
    case ffin =>
      rintro c ef ⟨rfl,h3,h4,h5⟩;exact ⟨rfl,h3,h4,by lia⟩
    case fpost =>
      rintro c ef ⟨rfl,pT,Ef,h5⟩
      sleep 1
      refine wpS_pure (h ef pT.perm pT.failed ?_);have hl:(pendingOf ef).toList.length≤1:=by simpa using h5
      match ep:(pendingOf ef).toList,hl with
      | [],_ =>
        rw [ep] at Ef;have:0=a₀.size:=Ef
        lia
      | [x],_ =>
        rw [ep] at Ef;obtain ⟨x1,x2,x3,x4⟩:=Ef;have:0 + x.2.1=a₀.size:=x4;rw [show x.2.1=a₀.size by lia] at x3;exact x3
      | _ :: _ :: _,hl=>simp at hl
    case fstep =>
      rintro x c ef _ hx ⟨rfl,pT,Ef,h5⟩;refine wpS_bind (wpS_get ?_)
      sleep 1
      by_cases c1:(pendingOf ef).size≤1
      · rw [if_pos c1];exact wpS_pure ⟨rfl,pT,Ef,c1⟩
      rw [if_neg c1]
      sleep 3
      refine wpS_bind (rp O C pT Ef ?_ (Nat.le_refl _) λ iU mS xE h6 _=>?_)
      · have Rg:∀ b:Bool,(if b=true then (pendingOf ef).size - 2 - 1 else (pendingOf ef).size - 2) + 1 < (pendingOf ef).size:=λ b=>by
          cases b
          · rw [if_neg (by simp)];lia
          · rw [if_pos rfl];lia
        exact Rg _
      · rw [if_neg (by simp)];exact wpS_pure ⟨rfl,mS,xE,by lia⟩
  rintro x c xH _ hx ⟨lo,rfl,sO,Oh,h3,h4⟩
  sleep 1
  by_cases c0:lo ≥ a₀.size
  · rw [if_pos c0];have:lo=a₀.size:=by lia
    subst this;exact wpS_pure ⟨rfl,sO,Oh⟩
  rw [if_neg c0];refine wpS_bind (wC O C (by lia) (by lia) sO λ m ef pT Cr HA xF Eg=>?_)
  sleep 1
  extract_lets -underBinder +onlyGivenNames -merge -useContext jp;have vf:∀ n iU,SB κ a₀ iU→Left lo xH iU→1≤n→lo + n≤a₀.size→Up lt (arrOf iU) lo n→wpS (model prog w) A E s (jp () n) (λ r aE=>match r with
      | .done c'=>c'.1=none∧SB κ a₀ aE∧gg lt (arrOf aE) (pendingOf aE).toList 0 a₀.size
      | .yield c'=>∃ lo,c'=(none,lo)∧SB κ a₀ aE∧gg lt (arrOf aE) (pendingOf aE).toList 0 lo∧lo≤a₀.size∧min (x + 1) a₀.size≤lo) iU:=λ n iU mS xG JJ Dv JL=>by
    have xE:gg lt (arrOf iU) (pendingOf iU).toList 0 lo:=by
      rw [xG.pend];exact Oh.same λ t _ h2=>xG.low t h2
    refine wpS_bind (wpS_get ?_)
    ((try dsimp -zeta -zetaUnused -zetaHave only))
    extract_lets -underBinder +onlyGivenNames -merge -useContext jq;have Cs:∀ t6,SB κ a₀ t6→gg lt (arrOf t6) (pendingOf t6).toList 0 lo→Up lt (arrOf t6) lo n→wpS (model prog w) A E s (jq ()) (λ r aE=>match r with
      | .done c'=>c'.1=none∧SB κ a₀ aE∧gg lt (arrOf aE) (pendingOf aE).toList 0 a₀.size
      | .yield c'=>∃ lo,c'=(none,lo)∧SB κ a₀ aE∧gg lt (arrOf aE) (pendingOf aE).toList 0 lo∧lo≤a₀.size∧min (x + 1) a₀.size≤lo) t6:=λ t6 l6 Eh Ei=>by
      refine wpS_bind (wpS_modify (wpS_pure ⟨lo + n,rfl,⟨l6.perm,l6.kind,l6.failed⟩,?_,Dv,by lia⟩));show gg lt (arrOf t6) ((pendingOf t6).push (lo,n,0)).toList 0 (lo + n);rw [Array.toList_push];exact gg.app.mpr ⟨lo,Eh,rfl,JJ,Ei,rfl⟩
    clear_value jq;split
    · sleep 1
      refine wpS_bind (wpS_mono (wpS_forRange (I:=λ _ c aE=>c=(none,())∧SB κ a₀ aE∧gg lt (arrOf aE) (pendingOf aE).toList 0 lo∧Up lt (arrOf aE) lo n)
        (Q:=λ c aE=>c=(none,())∧SB κ a₀ aE∧gg lt (arrOf aE) (pendingOf aE).toList 0 lo∧Up lt (arrOf aE) lo n) ?mstep (λ c aE hh=>hh) ⟨rfl,mS,xE,JL⟩) ?mpost)
      case mpost =>
        rintro c t6 ⟨rfl,l6,Eh,Ei⟩
        sleep 1
        refine wpS_bind (wpS_modify (Cs _ ⟨l6.perm,l6.kind,l6.failed⟩ ?_ Ei));show gg lt (arrOf t6) ((pendingOf t6).modify _ _).toList 0 lo;rw [Array.toList_modify];refine Eh.HH _ ?_ _;rintro ⟨_,_,_⟩;exact ⟨rfl,rfl⟩
      case mstep =>
        rintro y c t6 _ hy ⟨rfl,l6,Eh,Ei⟩;refine wpS_bind (wpS_get ?_)
        sleep 1
        by_cases c1:(pendingOf t6).size > 1
        · rw [if_pos c1,getElem?_pos (pendingOf t6) ((pendingOf t6).size - 2) (by lia)]
          ((try dsimp -zeta -zetaUnused -zetaHave only))
          split
          · exact wpS_pure ⟨rfl,l6,Eh,Ei⟩
          · refine wpS_bind (rp O C l6 Eh (by lia) (by lia) λ Ca Rh Ri h6 h7=>?_);rw [if_neg (by simp)];exact wpS_pure ⟨rfl,Rh,Ri,Ei.same λ t h1 _=>h7 t h1⟩
        · rw [if_neg c1]
          ((try dsimp -zeta -zetaUnused -zetaHave only))
          exact wpS_pure ⟨rfl,l6,Eh,Ei⟩
    · exact Cs iU mS xE JL
  clear_value jp;split
  · refine wpS_bind (wpS_lift (wpAny_rule ⟨rfl,?_⟩))
    sleep 1
    refine wpS_bind (Bi O C (by lia) (by lia) pT Eg λ iU mS xG JL=>?_);rw [if_neg (by simp)]
    sleep 1
    exact wpS_mono (vf _ iU mS (Cr.trans xG) (by lia) (by lia) JL) λ r aE hh=>by cases r<;>exact hh
  · exact wpS_mono (vf _ ef pT Cr HA (by lia) Eg) λ r aE hh=>by cases r<;>exact hh
end
noncomputable def vj (lt:Value→Value→Bool) (vs:List Value):Prop:=vs.Pairwise λ x y=>lt y x=false
noncomputable def g7 (lt:Value→Value→Bool):Keyed→Keyed→Bool:=λ p q=>lt p.1 q.1
theorem i7 {lt:Value→Value→Bool} (O:Ord lt):Ord (g7 lt):=⟨λ x y=>O.Bh x.1 y.1,λ x y z=>O.trans x.1 y.1 z.1⟩
section
variable {prog:Program} {w:World} {A:Around} {E:Value→Shared→Prop} {s:Shared} {lt:Value→Value→Bool}
noncomputable def Ej (prog:Program) (w:World) (A:Around) (lt:Value→Value→Bool) (vs:List Value) (s:Shared):Prop :=
  ∃ κ,(∀ (E:Value→Shared→Prop) (Q:SortKind→Shared→Prop),Q κ s→wpAny (model prog w) A (keyKind' vs.toArray) Q E s) ∧
    ∀ x∈vs,∀ y∈vs,∀ (E:Value→Shared→Prop) (Q:Bool→Shared→Prop),Q (lt x y) s→wpAny (model prog w) A (keyLt' κ x y) Q E s
theorem Ek {vs:List Value} {xs:Array Keyed} (hp:xs.toList.Perm (pairsOf vs).toList) (hu:Up (g7 lt) xs 0 (pairsOf vs).size) (O:Ord lt):∃ us:List Value,xs.map (·.2)=us.toArray∧us.Perm vs∧vj lt us:=by
  rw [pairsOf_toList] at hp;have hm:∀ p∈xs.toList,p.1=p.2:=λ p xK=>(mem_zip_self (hp.mem_iff.mp xK)).1;refine ⟨xs.toList.map (·.1),?_,?_,?_⟩
  · apply Array.toList_inj.mp;rw [Array.toList_map];exact List.map_congr_left λ p xK=>(hm p xK).symm
  · have:=hp.map (·.1)
    rwa [List.map_fst_zip (Nat.le_refl _)] at this
  · have iK:xs.size=(pairsOf vs).size:=by
      have:=hp.length_eq;rw [← pairsOf_toList] at this;simpa using this
    have sd:Sd (g7 lt) xs.toList:=by
      refine Sd.of _ (λ i x y hx hy=>?_) (i7 O);obtain ⟨a1,rfl⟩:=cI hx;obtain ⟨a2,rfl⟩:=cI hy;have:=hu i (i + 1) (by lia) (by lia)
      rwa [Nat.zero_add,Nat.zero_add] at this
    exact List.pairwise_map.mpr sd
theorem rA {a:Addr} {vs:List Value} {n:Nat} {P:Fin→Shared→Prop} (O:Ord lt) (ho:s.heap.get? a=some (seqObj "list" vs.toArray n)) (hz:vs.length≤100000)
    (hk:2≤vs.length→∀ h':Heap,(∀ b o,b≠a→s.heap.get? b=some o→h'.get? b=some o)→Ej prog w A lt vs { s with heap:=h' })
    (h:∀ us:List Value,us.Perm vs→vj lt us→P (.done (.ret .none)) { s with heap:=sortedHeap s.heap a vs us.toArray }):wpAny (model prog w) A (Builtin.«list.sort» ⟨[.ref a],[]⟩) P E s:=by
  rw [list_sort_plain];have ha:a < s.heap.objs.size:=Heap.lt_size ho;have z1:vs.toArray.size≤sizeLine:=by rw [List.size_toArray,sizeLine_eq];lia
  refine wpAny_bind (listItems_at ho rfl (wpAny_bind (listUpdate_at ho rfl ?_ z1 (Nat.zero_le _))));obtain ⟨e1,g1⟩:∃ e1,(s.heap.update a (Obj.mapSeq λ _=>(#[]:Array Value))).get? a=some (seqObj "list" #[] e1):=⟨_,get?_update_seq ho (λ _=>#[])⟩;refine wpAny_bind (seqEpoch_at g1 rfl (wpAny_bind (wpAny_newTuple ?_ (by rw [← List.size_toArray];exact z1))));refine wpAny_bind (wpAny_newList ?_ (Nat.zero_le _));refine wpAny_holding ?_;have g2:(((s.heap.update a (Obj.mapSeq λ _=>(#[]:Array Value))).push (seqObj "tuple" vs.toArray 0)).push (seqObj "list" #[] 0)).get? a=some (seqObj "list" #[] e1):=Heap.get?_push_of_some _ (Heap.get?_push_of_some _ g1);have keep:∀ b o,b≠a→s.heap.get? b=some o→(((s.heap.update a (Obj.mapSeq λ _=>(#[]:Array Value))).push (seqObj "tuple" vs.toArray 0)).push (seqObj "list" #[] 0)).get? b=some o:=λ b o hb e =>
    Heap.get?_push_of_some _ (Heap.get?_push_of_some _ (by rw [Heap.get?_update_ne _ _ _ _ hb];exact e))
  show wpAny (model prog w) A _ P E { s with heap:=((s.heap.update a (Obj.mapSeq λ _=>(#[]:Array Value))).push (seqObj "tuple" vs.toArray 0)).push (seqObj "list" #[] 0) };dsimp only;have hk:=λ h2=>hk h2 _ keep;have done:∀ us:List Value,us.Perm vs→vj lt us→P (.done (.ret .none)) { s with heap:=(((s.heap.update a (Obj.mapSeq λ _=>(#[]:Array Value))).push (seqObj "tuple" vs.toArray 0)).push (seqObj "list" #[] 0)).update a (Obj.mapSeq λ _=>us.toArray) }:=h;generalize ((s.heap.update a (Obj.mapSeq λ _=>(#[]:Array Value))).push (seqObj "tuple" vs.toArray 0)).push (seqObj "list" #[] 0)=h3 at g2 hk done ⊢
  by_cases c2:vs.toArray.size < 2
  · rw [if_pos c2,if_pos c2];refine wpAny_bind (wpAny_pure ?_);rw [StateT.run_pure];refine wpAny_bind (wpAny_pure ?_);dsimp only;have eo:(pairsOf vs).map (·.2)=vs.toArray:=by
      apply Array.toList_inj.mp;rw [Array.toList_map,pairsOf_toList,List.map_snd_zip (Nat.le_refl _)]
    have Oi:(vs.toArray.zip vs.toArray).map (·.2)=vs.toArray:=eo;refine wpAny_bind (seqEpoch_at g2 rfl (wpAny_bind (listUpdate_at g2 rfl ?_ (Nat.zero_le _) (by show (Array.map (·.2) (vs.toArray.zip vs.toArray)).size≤_;rw [Oi];lia))));simp only [bne_self_eq_false,Bool.false_eq_true,if_false];have:=done vs (List.Perm.refl _) (by
      match vs,c2 with
      | [],_=>exact .nil
      | [v],_=>exact List.pairwise_singleton _ _
      | _ :: _ :: _,c2=>exact absurd c2 (by simp))
    refine wpAny_pure ?_;show P (.done (.ret .none)) { s with heap:=h3.update a (Obj.mapSeq λ _=>Array.map (·.2) (vs.toArray.zip vs.toArray)) };rw [Oi];exact this
  · rw [if_neg c2,if_neg c2];obtain ⟨κ,K1,K2⟩:=hk (by simpa using c2);refine wpAny_bind (K1 _ _ ?_);have C:jw prog w A { s with heap:=h3 } κ (g7 lt) (pairsOf vs):=λ p q hp hq E Q hQ=>by
      rw [pairsOf_toList] at hp hq;exact K2 p.1 (mem_zip_self hp).2 q.1 (mem_zip_self hq).2 E Q hQ
    refine wpAny_bind (wpAny_mono (kB (st:=SortSt.mk' κ (vs.toArray.zip vs.toArray) #[] 7 none) (a₀:=pairsOf vs)
      (Q:=λ _ aE=>(arrOf aE).toList.Perm (pairsOf vs).toList∧failedOf aE=none∧Up (g7 lt) (arrOf aE) 0 (pairsOf vs).size) (i7 O) C ⟨List.Perm.refl _,rfl,rfl⟩ rfl (by rw [pairsOf_size];simpa using c2) λ aE a1 a2 a3=>⟨a1,a2,a3⟩) ?_ λ _ _ e=>e)
    rintro ⟨⟨⟩,aE⟩ s' ⟨rfl,hp,hf,hu⟩;obtain ⟨us,e1,e2,e3⟩:=Ek hp hu O;dsimp only;refine wpAny_bind (seqEpoch_at g2 rfl (wpAny_bind (listUpdate_at g2 rfl ?_ (Nat.zero_le _) (by show (Array.map (·.2) (arrOf aE)).size≤_;rw [e1,List.size_toArray,e2.length_eq,sizeLine_eq];lia))));rw [hf];simp only [bne_self_eq_false,Bool.false_eq_true,if_false];refine wpAny_pure ?_;show P (.done (.ret .none)) { s with heap:=h3.update a (Obj.mapSeq λ _=>Array.map (·.2) (arrOf aE)) };rw [e1];exact done us e2 e3
theorem g8 {h:Heap} {a:Addr} {vs us:List Value} {n:Nat} (ho:h.get? a=some (seqObj "list" vs.toArray n)):(∃ c,(sortedHeap h a vs us.toArray).get? a=some (seqObj "list" us.toArray c))∧∀ b o,b≠a→h.get? b=some o→(sortedHeap h a vs us.toArray).get? b=some o:=by
  unfold sortedHeap;have g2:(((h.update a (Obj.mapSeq λ _=>(#[]:Array Value))).push (seqObj "tuple" vs.toArray 0)).push (seqObj "list" #[] 0)).get? a=some (seqObj "list" #[] _):=Heap.get?_push_of_some _ (Heap.get?_push_of_some _ (get?_update_seq ho λ _=>#[]));refine ⟨⟨_,get?_update_seq g2 λ _=>us.toArray⟩,λ b o hb e=>?_⟩;rw [Heap.get?_update_ne _ _ _ _ hb];exact Heap.get?_push_of_some _ (Heap.get?_push_of_some _ (by rw [Heap.get?_update_ne _ _ _ _ hb];exact e))
theorem t7 {l:Addr} {vs:List Value} {Q:Value→Shared→Prop} (O:Ord lt) (hl:s.heap.IsList l vs.toArray) (hz:vs.length≤100000)
    (hk:2≤vs.length→∀ h':Heap,(∀ b o,s.heap.get? b=some o→h'.get? b=some o)→Ej prog w A.in1.in1 lt vs { s with heap:=h' })
    (h:∀ (us:List Value) (h':Heap) (c:Nat),us.Perm vs→vj lt us→(∀ b o,s.heap.get? b=some o→h'.get? b=some o)→h'.get? (s.heap.objs.size + 1)=some (seqObj "list" us.toArray c)→Q (.ref (s.heap.objs.size + 1)) { s with heap:=h' }) :
    wpAny (model prog w) A (call (.builtin "sorted") [.ref l]) Q E s:=by
  refine Calls.call_function_entry kind_sorted plain_sorted entry_sorted (args_sorted1 _) ?_;unfold Builtin.«sorted»;refine wpAny_bind (m:=checkCount "sorted" 1 1 _) (wpAny_pure ?_);have z1:vs.length≤sizeLine:=by rw [sizeLine_eq];lia
  refine wpAny_bind (collect_list hl ?_ z1);refine wpAny_bind (wpAny_newList ?_ z1);have iK:((s.heap.push (seqObj "list" #[] 0)).update s.heap.objs.size (Obj.mapSeq (· ++ vs.toArray))).objs.size=s.heap.objs.size + 1:=by rw [Heap.size_update,size_push']
  have g0:(((s.heap.push (seqObj "list" #[] 0)).update s.heap.objs.size (Obj.mapSeq (· ++ vs.toArray))).push (seqObj "list" vs.toArray 0)).get? (s.heap.objs.size + 1)=some (seqObj "list" vs.toArray 0):=by
    rw [← iK];exact Heap.get?_push_size _ rfl
  have keep:∀ b o,s.heap.get? b=some o→b≠s.heap.objs.size + 1∧(((s.heap.push (seqObj "list" #[] 0)).update s.heap.objs.size (Obj.mapSeq (· ++ vs.toArray))).push (seqObj "list" vs.toArray 0)).get? b=some o:=λ b o e=>by
    have hb:b < s.heap.objs.size:=Heap.lt_size e;refine ⟨Nat.ne_of_lt (Nat.lt_succ_of_lt hb),Heap.get?_push_of_some _ ?_⟩;rw [Heap.get?_update_ne _ _ _ _ (Nat.ne_of_lt hb)];exact Heap.get?_push_of_some _ e
  show wpAny _ _ _ _ _ { s with heap:=((s.heap.push (seqObj "list" #[] 0)).update s.heap.objs.size (Obj.mapSeq (· ++ vs.toArray))).push (seqObj "list" vs.toArray 0) };rw [iK];generalize ((s.heap.push (seqObj "list" #[] 0)).update s.heap.objs.size (Obj.mapSeq (· ++ vs.toArray))).push (seqObj "list" vs.toArray 0)=h2 at g0 keep ⊢;refine wpAny_bind (wpAny_holding (wpAny_call_entry slot_list_sort ⟨_,g0,rfl⟩ entry_list_sort (rA (s:={ s with heap:=h2 }) O g0 hz (λ h2 h' hh=>hk h2 h' λ b o e=>hh b o (keep b o e).1 (keep b o e).2) λ us a1 a2=>⟨_,rfl,?_⟩) (args_list_sort _)));obtain ⟨⟨c,q1⟩,q2⟩:=g8 (us:=us) g0;exact wpAny_pure ⟨_,rfl,h us _ c a1 a2 (λ b o e=>q2 b o (keep b o e).1 (keep b o e).2) q1⟩
end
end qZ
namespace jN
open PySem PyProof.Rows
section
variable {prog:Program} {w:World} {A:Around} {E:Value→Shared→Prop} {s:Shared} {I a:Addr} {o:Obj} {es:Array (Int×Value)} {ep:Nat} {t:SetTable}
theorem yV {Q:Value→Shared→Prop} (x:jv prog w s.heap a o es ep t) (hg:Good t (dh w)) (hz:es.size≤sizeLine)
    (h:∀ (I:Addr) (f:Nat→Value) (vs:List Value) (ts:List (Addr×Obj)) (h':Heap) (d:Drawn),Road w a es ep t f vs ts→JG a o es.size ep I f ts 0 h'→(∀ c u,s.heap.get? c=some u→h'.get? c=some u)→s.heap.objs.size≤I→(∀ p∈ts,p.1≠I∧s.heap.objs.size≤p.1) →
      Q (.ref I) { s with heap:=h',drawn:=d }):wpAny (model prog w) A (pyIter (.ref a)) Q E s:=by
  have hT:s.TypeIs (.ref a) "set":=⟨o,x.get,x.ex.1⟩;refine wpAny_pyIter_slot hT PySem.F.slot_set_iter (wpAny_call_entry PySem.F.slot_set_iter hT pR ?_ (PySem.F.args_set_iter_1 _));unfold Builtin.«frozenset.__iter__» Builtin.Frozenset.slot0 slotArgs;simp only [List.isEmpty_nil,Bool.not_true,Bool.false_eq_true,↓reduceIte,bind_assoc,List.length_nil,bne_self_eq_false];unfold Builtin.Frozenset.addrOf Builtin.Frozenset.sizeOf;refine wpAny_bind (wpAny_pure ?_)
  (try dsimp only)
  refine wpAny_bind (wpAny_pure ?_);refine wpAny_bind (wpAny_bind (wpAny_setEntries_of x.get x.dat x.fits (wpAny_pure ?_)));unfold setDrawn;refine wpAny_bind (wpAny_bind (wpAny_setState_of x.get x.dat x.fits ?_));dsimp only;refine wpAny_bind (ij (wpAny_pure ?_));show wpAny _ _ (if (!w.params.followText "set-order" && (!t.plain && decide (es.size > 1)))=true then _ else _) _ _ _;have mk:∀ (f:Nat→Value) (vs:List Value) (ts:List (Addr×Obj)) (h1:Heap) (d:Drawn),Road w a es ep t f vs ts→(∀ c u,s.heap.get? c=some u→h1.get? c=some u)→s.heap.objs.size≤h1.objs.size→(∀ p∈ts,h1.get? p.1=some p.2∧s.heap.objs.size≤p.1) →
      wpAny (model prog w) A.in1 (do
        let e ← setEpoch a
        let it ← newFields "set_iterator" [f 0,rawInt 0,.ref a,rawInt (es.size:Nat),rawInt (e:Nat)]
        ret it) (λ fin s'=>∃ r,fin=PySem.Fin.done (.ret r)∧∃ T' r',s'.TypeIs r T'∧typeLookup (.type T') "__next__"=pure (some r')∧Q r s') E { s with heap:=h1,drawn:=d }:=λ f vs ts h1 d hr k1 k2 k3=>by
    refine wpAny_bind (wpAny_setEpoch_of (s:={ s with heap:=h1,drawn:=d }) (k1 _ _ x.get) x.dat x.fits ?_);unfold newFields;refine wpAny_bind (wpAny_newObj_type (wpAny_pure ⟨_,rfl,"set_iterator",_,⟨_,Heap.get?_push_size _ rfl,rfl⟩,cH.lookup,?_⟩));refine h h1.objs.size f vs ts _ d hr ⟨Heap.get?_push_size _ rfl,Heap.get?_push_of_some _ (k1 _ _ x.get),λ p hp=>Heap.get?_push_of_some _ (k3 p hp).1⟩ (λ c u e=>Heap.get?_push_of_some _ (k1 c u e)) k2 λ p hp=>⟨Nat.ne_of_lt (Heap.lt_size (k3 p hp).1),(k3 p hp).2⟩
  by_cases hb:w.params.followText "set-order"=true
  · rw [hb];simp only [Bool.not_true,Bool.false_and,Bool.false_eq_true,if_false];exact wpAny_bind (wpAny_pure (mk (λ _=>.int 0 0) _ [] s.heap s.drawn (.text hb) (λ _ _ e=>e) (Nat.le_refl _) λ p hp=>by simp at hp))
  · have n6:w.params.followText "set-order"=false:=by simpa using hb
    have hl:t.led=true:=by rw [hg.led];unfold dh;rw [n6];rfl
    rw [n6];simp only [Bool.not_false,Bool.true_and]
    by_cases hd:(!t.plain && decide (es.size > 1))=true
    · rw [if_pos hd];refine wpAny_bind (vd es.size (List.range es.size) s (by simp) λ ps d hp=>?_);refine wpAny_bind (wpAny_newTuple ?_ (by rw [List.length_map,hp.length_eq,List.length_range];exact hz));refine mk (λ _=>.ref s.heap.objs.size) _ [(s.heap.objs.size,{ cls:=.type "tuple",data:=.seq (ps.map λ i:Nat=>rawInt i).toArray })] _ d (.drawn hp rfl) (λ c u e=>Heap.get?_push_of_some _ e) (by rw [Heap.size_push];exact Nat.le_succ _) λ p hp=>?_;rw [List.mem_singleton.mp hp];exact ⟨Heap.get?_push_size _ rfl,Nat.le_refl _⟩
    · rw [if_neg hd];have vX:(!t.plain && decide (es.size > 1))=false:=by simpa using hd
      have hr:nj t.place:=by
        cases hp:t.plain with
        | true=>exact hg.rise hp
        | false =>
          rw [hp] at vX;have gk:t.place.size=es.size:=by
            have hf:=x.fits;unfold SetTable.fits at hf;rw [Bool.and_eq_true,beq_iff_eq] at hf;exact hf.1
          simp at vX;intro i j h1 h2;omega
      exact wpAny_bind (wpAny_pure (mk (λ i=>match i with | 0=>.int 0 0 | i + 1=>.int (t.place.getD i 0 + 1:Nat) 0) _ [] s.heap s.drawn (.slots n6 vX hl hr) (λ _ _ e=>e) (Nat.le_refl _) λ p hp=>by simp at hp))
theorem yW {Q:Bool→Shared→Prop} (hT:s.TypeIs (.ref a) "set") (h:Q false s):wpAny (model prog w) A (Builtin.List.listLengthHint (.ref a)) Q E s:=by
  unfold Builtin.List.listLengthHint;refine wpAny_bind (wpAny_specialOf hT PySem.F.slot_set_len.lookup ?_);generalize Oj:("set.__len__":String)=Rj
  wp_delta
  rw [show splitId Rj=some ("set","__len__") from by subst Oj;decide +kernel];subst Oj;refine wpAny_bind (wpAny_isInstance (T:="set") (b:=true) hT (by rw [isSubtype_type];kernel_rfl) ?_);refine wpAny_ite_split (λ z=>absurd z (by decide)) (λ _=>?_);refine wpAny_ite_split (λ _=>?_) (λ z=>absurd (by decide +kernel) z);exact wpAny_bind (wpAny_typeOf hT (wpAny_pure h))
end
end jN
set_option maxHeartbeats 200000
namespace L2
open PySem PySem.Spec PyProof.Rows
theorem jZ:∀ {ns:List Int} {us:List Value},Vals (ns.map V.int) us→us.map numOf=ns∧IntsAre us ns
  | [],_,.nil=>⟨rfl,.nil⟩
  | n :: ns,_,.cons r t=>by
    obtain ⟨k,rfl⟩:=r;obtain ⟨h1,h2⟩:=jZ t;exact ⟨by rw [List.map_cons,h1];rfl,.cons n k h2⟩
theorem j0:∀ {us:List Value},(∀ u∈us,∃ n t,u = .int n t)→Vals ((us.map numOf).map V.int) us
  | [],_=>.nil
  | u :: us,h=>by
    obtain ⟨n,t,rfl⟩:=h u (List.mem_cons_self ..);exact .cons ⟨t,rfl⟩ (j0 λ v hv=>h v (List.mem_cons_of_mem _ hv))
noncomputable def ltI (v u:Value):Bool:=decide (numOf v < numOf u)
theorem pW:Lv.Ord ltI:=⟨λ x y h=>by unfold ltI at *;simp at *;lia,λ x y z h1 h2=>by unfold ltI at *;simp at *;lia⟩
section
variable {X:Cx}
noncomputable def El (K:PySem.W.Frag):List V→Hp→VK→Prop:=λ xs H Q=>∃ (p:Addr) (ns:List Int),xs=[.ref p]∧aJ K H p (ns.map V.int)∧ns.length≤100000∧∀ ms:List Int,ms.Perm ns→ms.Pairwise (·≤·)→∀ l,H l=none→Q (.ref l) (upd H l (.lst (ms.map V.int)))
theorem HI {prog:Program} {w:World} {A:Around} {s:Shared}:∀ {its:List Value} {ns:List Int},IntsAre its ns→2≤its.length→qZ.Ej prog w A ltI its s
  | [],_,_,h=>by simp at h
  | [_],_,_,h=>by simp at h
  | v₁ :: v₂ :: vs,ns,hI,_=>by
    refine ⟨oneType',λ E Q hq=>?_,λ x hx y hy E Q hq=>?_⟩
    · rw [keyKind_ints hI];exact wpAny_pure hq
    · obtain ⟨a,t,rfl⟩:=hI.all x hx;obtain ⟨b,t',rfl⟩:=hI.all y hy;rw [keyLt'_oneType];exact oneLt_int hq
theorem mj:dW X (.builtin "sorted") (El X.K):=by
  intro pins s σ H xs us Q I r h;obtain ⟨p,ns,rfl,hl,hz,q⟩:=h;obtain ⟨u,rfl,ru⟩:=vals1 r;cases ru;obtain ⟨its,rv,pl,_⟩:=I.list hl;obtain ⟨e1,hI⟩:=jZ rv;have hlen:its.length=ns.length:=by rw [← e1,List.length_map]
  refine qZ.t7 (lt:=ltI) pW pl.isList (by lia) (λ h2 h' hk=>HI hI h2) λ us h' c hp ho hk hg=>?_;have pA:∀ u∈us,∃ n t,u = .int n t:=λ u hu=>hI.all u (hp.mem_iff.mp hu);have z1:((us.map numOf).map V.int).length≤sizeLine:=by
    rw [List.length_map,List.length_map,hp.length_eq,hlen,sizeLine_eq]
    lia
  have z2:(us.map numOf).Perm ns:=by
    have:=hp.map numOf
    rwa [e1] at this
  have z3:(us.map numOf).Pairwise (·≤·):=by
    refine List.pairwise_map.mpr (List.Pairwise.imp (λ {x y} As=>?_) ho);unfold ltI at As;simp at As;exact As
  have I2:=I.laid (a:=s.heap.objs.size + 1) (o:=.lst ((us.map numOf).map V.int)) (t':=s.toks) hk (Nat.le_succ _) ⟨z1,us,c,j0 pA,hg⟩;exact ⟨.ref (s.heap.objs.size + 1),_,I2,rfl,q (us.map numOf) z2 z3 _ (I.bH.fresh (Nat.le_succ _))⟩
theorem j5:∀ {ps:List Addr} {us:List Value},Vals (ps.map V.ref) us→us=ps.map Value.ref
  | [],_,.nil=>rfl
  | p :: ps,_,.cons r t=>by
    cases r;rw [j5 t];rfl
theorem oq:∀ (ps:List Addr),Vals (ps.map V.ref) (ps.map Value.ref)
  | []=>.nil
  | p :: ps=>.cons rfl (oq ps)
end
end L2
set_option maxHeartbeats 1000000
namespace jN
open PySem PyProof.Rows
section
variable {prog:Program} {w:World} {A:Around} {E:Value→Shared→Prop} {s:Shared} {a:Addr}
theorem rB {l:List Int} {Q:List Value→Shared→Prop} (hh:A.handled=none) (hx:SX prog w s.heap a l (dh w))
    (hQ:∀ us h' tk d,(∃ ms:List Int,IntsAre us ms∧ms.Perm l)→s.heap.objs.size < h'.objs.size→(∀ c u,s.heap.get? c=some u→h'.get? c=some u)→Q us { s with heap:=h',toks:=tk,drawn:=d }):wpAny (model prog w) A (collect (.ref a)) Q E s:=by
  obtain ⟨o,es,ep,t,ho,hex,hd,Bg,hp,hb,hf,hg⟩:=hx;have ha:a < s.heap.objs.size:=Heap.lt_size ho;have iK:=size_of hp;have z0:es.size≤sizeLine:=fits_of_scanBound (by rw [iK];exact hb);unfold collect;refine wpAny_bind (wpAny_runValue (codeAny_builtin PySem.F.entry_proto_collect ?_));rw [Around.under_plainId PySem.F.plain_proto_collect _];show wpAny _ A.in1 (newList [] >>= λ l=>again (.builtin "list.__iadd__" ⟨[l,.ref a],[]⟩)) _ _ s;refine wpAny_bind (wpAny_newObj_type (wpAny_pure ⟨plainId_quiet PySem.F.plain_list_iadd _,codeAny_builtin PySem.F.entry_list_iadd ?_⟩));rw [Around.under_plainId PySem.F.plain_list_iadd _];show wpAny _ A.in1 (Builtin.List.listExtendWith (.ref s.heap.objs.size) (.ref a) (.ref s.heap.objs.size)) _ _ _;have gS:(s.heap.push { cls:=.type "list",data:=.seq ([]:List Value).toArray }).get? s.heap.objs.size=some { cls:=.type "list",data:=.seq ([]:List Value).toArray }:=Heap.get?_push_size _ rfl;have ga:(s.heap.push { cls:=.type "list",data:=.seq ([]:List Value).toArray }).get? a=some o:=Heap.get?_push_of_some _ ho;have kp:∀ c u,s.heap.get? c=some u→(s.heap.push { cls:=.type "list",data:=.seq ([]:List Value).toArray }).get? c=some u:=λ c u e=>Heap.get?_push_of_some _ e;have sS:(s.heap.push { cls:=.type "list",data:=.seq ([]:List Value).toArray }).objs.size=s.heap.objs.size + 1:=size_push' _ _;generalize s.heap.push { cls:=.type "list",data:=.seq ([]:List Value).toArray }=h1 at gS ga kp sS ⊢;have hT:∀ h2:Heap,∀ d,h2.get? a=some o→Shared.TypeIs { s with heap:=h2,drawn:=d } (.ref a) "set":=λ h2 d e=>⟨o,e,hex.1⟩;unfold Builtin.List.listExtendWith;refine wpAny_bind (wpAny_typeOf (T:="set") (hT h1 s.drawn ga) ?_);have q1:Builtin.List.listSameRef (.ref s.heap.objs.size) (.ref a)=false:=by simp [Builtin.List.listSameRef,Nat.ne_of_gt ha]
  have q2:(Value.type "set" == Value.type "list")=false:=by decide
  have q3:(Value.type "set" == Value.type "tuple")=false:=by decide
  simp only [q1,q2,q3,Bool.or_false,Bool.false_eq_true,if_false];have x1:jv prog w h1 a o es ep t:=⟨ga,hex,hd,hf⟩;refine wpAny_bind (yV (s:={ s with heap:=h1 }) x1 hg z0 λ I f vs ts h2 d hr st k2 sI JH=>?_);have Rk:s.heap.objs.size≠I:=λ z=>by
    have:s.heap.objs.size + 1≤I:=by rw [← sS];exact sI
    rw [← z] at this;exact absurd this (Nat.not_succ_le_self _)
  have HJ:s.heap.objs.size∉I :: a :: ts.map (·.1):=λ hm=>by
    rcases List.mem_cons.mp hm with e | hm
    · exact Rk e
    · rcases List.mem_cons.mp hm with e | hm
      · exact absurd ha (by rw [← e];exact Nat.lt_irrefl _)
      · obtain ⟨p,xK,e⟩:=List.mem_map.mp hm;have:s.heap.objs.size + 1≤p.1:=by rw [← sS];exact (JH p xK).2
        rw [e] at this;exact absurd this (Nat.not_succ_le_self _)
  have D8:a≠I:=λ z=>by
    have:s.heap.objs.size + 1≤I:=by rw [← sS];exact sI
    rw [← z] at this;exact absurd this (Nat.not_le_of_lt (Nat.lt_succ_of_lt ha))
  refine wpAny_bind (wpAny_holding (yW (hT h2 d st.2.1) ?_));have W:=wA (prog:=prog) (w:=w) (A:=A.in1) (o:=o) (I:=I) hh hr hex hd hf D8 λ p xK=>(JH p xK).1;have nv:vs.length=es.size:=by rw [hr.perm.length_eq];simp
  have yX:∀ acc:Array Value,ItemsOf (λ i v=>vs[i]?=some v) acc vs.length→∃ ms:List Int,IntsAre acc.toList ms∧ms.Perm l:=λ acc wD=>by
    have ev:acc.toList=vs:=by
      apply List.ext_getElem?;intro i
      by_cases hi:i < acc.size
      · rw [Array.getElem?_toList,getElem?_pos acc i hi];exact (wD.2 i _ (getElem?_pos acc i hi)).symm
      · rw [List.getElem?_eq_none (by simpa using hi),List.getElem?_eq_none (by rw [← wD.1];lia)]
    rw [ev];have pA:∀ v∈vs,∃ n t,v = .int n t:=λ v hv=>by
      obtain ⟨e,he,rfl⟩:=List.mem_map.mp (hr.perm.mem_iff.mp hv);obtain ⟨⟨k,hk,_⟩,_⟩:=Bg e he;obtain ⟨t',e'⟩:=tU hk;exact ⟨k,t',e'⟩
    refine ⟨vs.map numOf,intsAre_map vs pA,?_⟩;refine (hr.perm.map numOf).trans ?_;rw [List.map_map];exact hp
  refine wpAny_ite_split (λ _=>?_) (λ _=>?_)
  · refine wpAny_bind (wpAny_rule (wpAny_bind ?_));show wpAny _ _ (updateSeq s.heap.objs.size (·.push .none) >>= λ _=>updateSeq s.heap.objs.size (·.pop)) _ _ _;have g2:h2.get? s.heap.objs.size=some { cls:=.type "list",data:=.seq ([]:List Value).toArray }:=k2 _ _ gS;refine wpAny_bind (wpAny_updateSeq g2 rfl ?_);have Ol:=Heap.get?_update_self (Obj.mapSeq (·.push Value.none)) g2 rfl;refine wpAny_updateSeq (hz:=by seq_fits) Ol rfl ?_;have g3:=Heap.get?_update_self (Obj.mapSeq (·.pop)) Ol rfl;have E_:∀ b u,b≠s.heap.objs.size→h2.get? b=some u→((h2.update s.heap.objs.size (Obj.mapSeq (·.push Value.none))).update s.heap.objs.size (Obj.mapSeq (·.pop))).get? b=some u:=λ b u hb e=>(Heap.get?_update_other _ _ (Ne.symm hb)).trans ((Heap.get?_update_other _ _ (Ne.symm hb)).trans e);have iU:=W.frame 0 h2 ((h2.update s.heap.objs.size (Obj.mapSeq (·.push Value.none))).update s.heap.objs.size (Obj.mapSeq (·.pop))) st λ b hb u e=>E_ b u (λ z=>HJ (z ▸ hb)) e;have k3:∀ b u,s.heap.get? b=some u→((h2.update s.heap.objs.size (Obj.mapSeq (·.push Value.none))).update s.heap.objs.size (Obj.mapSeq (·.pop))).get? b=some u:=λ b u e=>E_ b u (Nat.ne_of_lt (Heap.lt_size e)) (k2 b u (kp b u e));refine wpAny_pure ⟨plainId_quiet PySem.F.plain_extend_loop _,codeAny_extend_loopS W.toS (by lia) _ HJ _ vs.length 0 _ _ _ rfl (Nat.zero_le _) iU g3 (ItemsOf.nil _) λ s' acc c' hm HK wD=>?_⟩;show wpAny _ A (load s.heap.objs.size >>= _) _ _ s';refine wpAny_bind (wpAny_load HK (wpAny_pure ?_));rw [Moved.eq_with hm];refine hQ acc.toList s'.heap s'.toks d (yX acc wD) (Heap.lt_size HK) λ c u e=>hm.heap c u (λ pX=>?_) (k3 c u e);rcases List.mem_cons.mp pX with e' | pX
    · exact absurd (Heap.lt_size e) (by rw [e'];exact Nat.lt_irrefl _)
    · have LA:c=I:=List.mem_singleton.mp pX;have h5:s.heap.objs.size + 1≤I:=by rw [← sS];exact sI
      exact absurd (Heap.lt_size e) (by rw [LA];exact Nat.not_lt_of_le (Nat.le_of_succ_le h5))
  · have g3:h2.get? s.heap.objs.size=some { cls:=.type "list",data:=.seq ([]:List Value).toArray }:=k2 _ _ gS;have iU:=st;have k3:∀ b u,s.heap.get? b=some u→h2.get? b=some u:=λ b u e=>k2 b u (kp b u e);refine wpAny_pure ⟨plainId_quiet PySem.F.plain_extend_loop _,codeAny_extend_loopS W.toS (by lia) _ HJ _ vs.length 0 _ _ _ rfl (Nat.zero_le _) iU g3 (ItemsOf.nil _) λ s' acc c' hm HK wD=>?_⟩;show wpAny _ A (load s.heap.objs.size >>= _) _ _ s';refine wpAny_bind (wpAny_load HK (wpAny_pure ?_));rw [Moved.eq_with hm];refine hQ acc.toList s'.heap s'.toks d (yX acc wD) (Heap.lt_size HK) λ c u e=>hm.heap c u (λ pX=>?_) (k3 c u e);rcases List.mem_cons.mp pX with e' | pX
    · exact absurd (Heap.lt_size e) (by rw [e'];exact Nat.lt_irrefl _)
    · have LA:c=I:=List.mem_singleton.mp pX;have h5:s.heap.objs.size + 1≤I:=by rw [← sS];exact sI
      exact absurd (Heap.lt_size e) (by rw [LA];exact Nat.not_lt_of_le (Nat.le_of_succ_le h5))
end
end jN
set_option maxHeartbeats 400000
namespace jN
open PySem PyProof.Rows
section
variable {prog:Program} {w:World} {A:Around} {E:Value→Shared→Prop} {s:Shared} {a:Addr}
theorem t8 {l:List Int} {Q:Value→Shared→Prop} (hh:A.handled=none) (hx:SX prog w s.heap a l (dh w)) (hz:l.length≤100000)
    (h:∀ (p:Addr) (us:List Value) (ms:List Int) (h':Heap) (c tk:Nat) (d:Drawn),IntsAre us ms→ms.Perm l→ms.Pairwise (·≤·)→(∀ b o,s.heap.get? b=some o→h'.get? b=some o)→s.heap.objs.size≤p→h'.get? p=some (seqObj "list" us.toArray c)→Q (.ref p) { s with heap:=h',toks:=tk,drawn:=d }) :
    wpAny (model prog w) A (call (.builtin "sorted") [.ref a]) Q E s:=by
  refine Calls.call_function_entry kind_sorted plain_sorted entry_sorted (args_sorted1 _) ?_;unfold Builtin.«sorted»;refine wpAny_bind (m:=checkCount "sorted" 1 1 _) (wpAny_pure ?_);refine wpAny_bind (rB (A:=A.in1) hh hx λ vs h1 tk d hv s0 k1=>?_);obtain ⟨ns,hI,hn⟩:=hv;have nv:vs.length=l.length:=by rw [← hn.length_eq,← hI.nums,List.length_map]
  have z1:vs.length≤sizeLine:=by rw [sizeLine_eq];lia
  refine wpAny_bind (wpAny_newList ?_ z1);have s1:s.heap.objs.size≤h1.objs.size:=Nat.le_of_lt s0;have g0:(h1.push (seqObj "list" vs.toArray 0)).get? h1.objs.size=some (seqObj "list" vs.toArray 0):=Heap.get?_push_size _ rfl;have k2:∀ b o,s.heap.get? b=some o→b≠h1.objs.size∧(h1.push (seqObj "list" vs.toArray 0)).get? b=some o:=λ b o e=>⟨Nat.ne_of_lt (Heap.lt_size (k1 b o e)),Heap.get?_push_of_some _ (k1 b o e)⟩;show wpAny _ _ _ _ _ { s with heap:=h1.push (seqObj "list" vs.toArray 0),toks:=tk,drawn:=d };generalize h1.push (seqObj "list" vs.toArray 0)=h2 at g0 k2 ⊢;refine wpAny_bind (wpAny_holding (wpAny_call_entry slot_list_sort ⟨_,g0,rfl⟩ entry_list_sort (qZ.rA (s:={ s with heap:=h2,toks:=tk,drawn:=d }) L2.pW g0 (by lia) (λ Ap h' _=>L2.HI hI Ap) λ us a1 a2=>⟨_,rfl,?_⟩) (args_list_sort _)));obtain ⟨⟨c,q1⟩,q2⟩:=qZ.g8 (us:=us) g0;have pA:∀ u∈us,∃ n t,u = .int n t:=λ u hu=>hI.all u (a1.mem_iff.mp hu);refine wpAny_pure ⟨_,rfl,h h1.objs.size us (us.map numOf) _ c tk d (intsAre_map us pA) ?_ ?_ (λ b o e=>q2 b o (k2 b o e).1 (k2 b o e).2) s1 q1⟩
  · have:=a1.map numOf;rw [hI.nums] at this;exact this.trans hn
  · refine List.pairwise_map.mpr (List.Pairwise.imp (λ {x y} As=>?_) a2);unfold L2.ltI at As;simp at As;exact As
end
end jN
namespace L2
open PySem PySem.Spec PyProof.Rows
noncomputable def Bo (P:Program) (w:World) (l:Addr) (ns:List Int):HO:=.ext λ h=>jN.SX P w h l ns (jN.dh w)
section
variable {X:Cx}
noncomputable def HL (P:Program) (w:World) (K:PySem.W.Frag):List V→Hp→VK→Prop:=λ xs H Q=>∃ (p:Addr) (ns:List Int),xs=[.ref p]∧aJ K H p (ns.map V.int)∧ns.length≤4000∧∀ l,H l=none→Q (.ref l) (upd H l (Bo P w l (jN.seen (λ i=>ns.getD i 0) ns.length)))
theorem ou (hc:X.calm=true):dW X (.type "set") (HL X.prog X.w X.K):=by
  intro pins s σ H xs us Q I r h;obtain ⟨p,ns,rfl,hl,hz,q⟩:=h;obtain ⟨u,rfl,ru⟩:=vals1 r;cases ru;obtain ⟨its,rv,pl,_⟩:=I.list hl;obtain ⟨e1,hI⟩:=jZ rv;have hlen:its.length=ns.length:=by rw [← e1,List.length_map]
  refine jN.tV (I.ok.hd hc) pl.isList (by simpa using hI) (by show its.toArray.size + 1 < 4096;rw [List.size_toArray];lia) λ h' tk x hk=>?_;rw [show its.toArray.size=ns.length by rw [List.size_toArray,hlen]] at x;have Aq:∀ b o,s.heap.get? b=some o→h'.get? b=some o:=λ b o e=>hk b o (Heap.lt_size e) e;have I2:=I.laid (a:=s.heap.objs.size) (o:=Bo X.prog X.w s.heap.objs.size (jN.seen (λ i=>ns.getD i 0) ns.length)) (t':=tk) Aq (Nat.le_refl _) ⟨x,by obtain ⟨o,_,_,_,g,_⟩:=x;exact ⟨o,g⟩,λ h1 h2 x1 k=>x1.keeps k⟩;exact ⟨.ref s.heap.objs.size,_,I2,rfl,q _ (I.bH.fresh (Nat.le_refl _))⟩
noncomputable def Em (P:Program) (w:World):List V→Hp→VK→Prop:=λ xs H Q=>∃ (p:Addr) (ns:List Int),xs=[.ref p]∧H p=some (Bo P w p ns)∧ns.length≤4000∧∀ ms:List Int,ms.Perm ns→ms.Pairwise (·≤·)→∀ l,H l=none→Q (.ref l) (upd H l (.lst (ms.map V.int)))
theorem ml (hc:X.calm=true):dW X (.builtin "sorted") (Em X.prog X.w):=by
  intro pins s σ H xs us Q I r h;obtain ⟨p,ns,rfl,hp,hz,q⟩:=h;obtain ⟨u,rfl,ru⟩:=vals1 r;cases ru;have x:jN.SX X.prog X.w s.heap p ns (jN.dh X.w):=(I.bH p _ hp).1;refine jN.t8 (I.ok.hd hc) x (by lia) λ p' us ms h' c tk d hI xK ho hk hle hg=>?_;have hv:Vals (ms.map V.int) us:=by
    have:=j0 (us:=us) λ u hu=>hI.all u hu
    rwa [hI.nums] at this
  have z1:(ms.map V.int).length≤sizeLine:=by rw [List.length_map,xK.length_eq,sizeLine_eq];lia
  have I2:=I.laid (a:=p') (o:=.lst (ms.map V.int)) (t':=tk) hk hle ⟨z1,us,c,hv,hg⟩;have I3:Inv X pins σ (upd H p' (.lst (ms.map V.int))) { s with heap:=h',toks:=tk,drawn:=d }:=⟨I2.ok,I2.os,I2.bare,I2.base,I2.loc,I2.cell,I2.free,I2.gq,I2.pin,I2.bH,I2.len⟩;exact ⟨.ref p',_,I3,rfl,q ms xK ho _ (I.bH.fresh hle)⟩
theorem ow {ns ms:List Int} (hp:ms.Perm (jN.seen (λ i=>ns.getD i 0) ns.length)) (ho:ms.Pairwise (·≤·)):ms.Pairwise (· < ·)∧∀ n,n∈ms↔n∈ns:=by
  constructor
  · have hn:ms.Nodup:=hp.nodup_iff.mpr (jN.lU _ _);exact (ho.and hn).imp λ ⟨h1,h2⟩=>by lia
  · intro n;rw [hp.mem_iff,jN.qY];constructor
    · rintro ⟨j,h1,h2⟩;have:ns[j]?=some ns[j]:=List.getElem?_eq_getElem h1;simp [List.getD,this] at h2;rw [← h2];exact List.getElem_mem h1
    · intro hm;obtain ⟨j,hj,e⟩:=List.getElem_of_mem hm;exact ⟨j,hj,by simp [List.getD,List.getElem?_eq_getElem hj,e]⟩
end
end L2
set_option maxHeartbeats 1000000
namespace L2
open PySem PySem.Spec PyProof.Rows
noncomputable def LB (K:PySem.W.Frag) (a:Addr):It :=
  ⟨λ i H=>∃ xs x,aJ K H a xs∧xs[i]?=some x,
   λ i H v H'=>∃ T x,H T=none∧v = .ref T∧H'=upd H T (.tup [.int (i:Nat),x])∧∀ xs,aJ K H a xs→xs[i]?=some x,
   λ i H=>∃ xs,aJ K H a xs∧xs.length≤i⟩
theorem wF {P:Program} {w:World} {K:PySem.W.Frag} {es:List Expr} {k:Nat} {tp:Pos} {e it:Addr} (a:Addr) (Om:e≠it) :
    Turn P w K (.Tuple es k tp) (LB K a) [e,it] e (λ i h=>(∃ old,IsEnum h e it (i:Nat) old)∧h.IsListIter it a i) where
  mem:=by simp
  obj:=λ i h st c hc=>by
    obtain ⟨⟨old,he⟩,⟨o1,e1,c1,d1⟩⟩:=st;simp only [List.mem_cons,List.not_mem_nil,or_false] at hc;rcases hc with rfl | rfl
    · exact ⟨_,he,λ v q=>by have q':Data.fields _=Data.cell v:=q;cases q'⟩
    · exact ⟨o1,e1,λ v q=>by rw [d1] at q;cases q⟩
  keep:=λ i h h' st k=>by
    obtain ⟨⟨old,he⟩,h1⟩:=st;exact ⟨⟨old,k e (by simp) _ he⟩,h1.at λ o q=>k it (by simp) o q⟩
  item:=by
    intro X hP hw hK hc i pins s σ H E I hf st hg;subst hP hw hK;obtain ⟨⟨old,he⟩,h1⟩:=st;obtain ⟨xs,x,qa,hx⟩:=hg;obtain ⟨its,rv,pl,G_⟩:=I.list qa;obtain ⟨ux,La,Lb⟩:=rv.get hx;refine wpAny_pyNext_enum_item he h1 pl.isList (x:=ux) (by simpa using La) Om λ h' a1 a2 a3 a4 hk=>?_;have uZ:∀ b,b∉[e,it]→b≠e∧b≠it:=λ b hb=>by
      simp only [List.mem_cons,List.not_mem_nil,or_false,not_or] at hb;exact hb
    have hT:H s.heap.objs.size=none:=I.bH.fresh (Nat.le_refl _);refine ⟨.ref s.heap.objs.size,rfl,wpAny_letOwnedTupleGo_enum (s:={ s with heap:=h',toks:=s.toks + 1 }) a1 λ qp Rm eE=>?_⟩;have Lc:s.heap.objs.size≠e:=Nat.ne_of_gt (Heap.lt_size he);have tup:qp.get? s.heap.objs.size=some { cls:=.type "tuple",data:=.seq #[.int (i:Nat) s.toks,ux] }:=eE.extBut _ _ Lc a3;have nA:∀ b o,b∉[e,it]→s.heap.get? b=some o→qp.get? b=some o:=λ b o hb q=>eE.extBut b o (uZ b hb).1 (hk b o (uZ b hb).1 (uZ b hb).2 q);refine ⟨.ref s.heap.objs.size,upd H s.heap.objs.size (.tup [.int (i:Nat),x]),?_,rfl,⟨_,x,hT,rfl,rfl,λ E9 q=>by rw [I.je q qa];exact hx⟩,⟨⟨ux,Rm⟩,a2.extBut eE.extBut (Ne.symm Om)⟩,λ b hb=>?_⟩
    · have new:bZ X.prog X.w (upd H s.heap.objs.size (.tup [.int (i:Nat),x])) qp s.heap.objs.size (.tup [.int (i:Nat),x]) :=
        ⟨by show 2≤sizeLine;rw [sizeLine_eq];decide,[.int (i:Nat) s.toks,ux],.cons ⟨_,rfl⟩ (.cons Lb .nil),⟨_,tup,rfl,0,rfl⟩⟩
      have xV:∀ b u,H b=some u→b∉[e,it]:=λ b u q z=>by rw [(hf b z).1] at q;cases q
      have nT:∀ b o,s.heap.get? b=some o→b≠s.heap.objs.size:=λ b o q=>Nat.ne_of_lt (Heap.lt_size q);have nH:∀ b u,H b=some u→b≠s.heap.objs.size:=λ b u q z=>by rw [z,hT] at q;cases q
      suffices J:Inv X pins σ (upd H s.heap.objs.size (.tup [.int (i:Nat),x])) { s with heap:=qp,gens:=s.gens,drawn:=s.drawn,toks:=s.toks + 1 } from J
      refine I.step (g':=s.gens) (d':=s.drawn) (t':=s.toks + 1) (ch:=[e,it]) (λ b hb=>?_) (λ b o _ _ k_ q _=>nA b o k_ q) (λ b o _ _ k_ q _=>⟨o.slots,nA b o k_ q⟩) (λ b o _ q n=>by rw [aq (nT b o q)];exact n)
        (λ b o k_ q=>⟨o,nA b o k_ q⟩) (λ b E9 q=>by rw [aq (nH b _ q)];exact q) (λ b o u' q=>by rw [aq (nH b _ q)];exact q) (λ b ps q=>⟨#[],by rw [aq (nH b _ q),q];simp⟩) (λ m hm=>?_) (λ b u' q=>?_) I.bare
      · obtain ⟨_,f1,_,f3,f4,f5⟩:=hf b hb;exact ⟨f3,f1,f4,f5⟩
      · obtain ⟨o,nF,ep,ho,r⟩:=hm;exact ⟨o,nF,ep,nA _ o (λ q=>(hf _ q).2.1 rfl) ho,r⟩
      · by_cases hb:b=s.heap.objs.size
        · subst hb;rw [af] at q;cases q;exact new
        · rw [aq hb] at q;refine (I.bH b u' q).k7 (λ c v' k_ z=>nA c v' ?_ z) (λ c z=>by rw [aq (nH c _ z)];exact z) λ c E9 z=>by rw [aq (nH c _ z)];exact z
          rcases k_ with z | z
          · rw [z];exact xV b u' q
          · exact xV c _ z
    · have n6:b≠s.heap.objs.size:=by
        intro q;rw [q] at hb;simp only [List.mem_cons,List.not_mem_nil,or_false] at hb;obtain ⟨_,l4,_⟩:=h1;rcases hb with q | q
        · exact Nat.ne_of_gt (Heap.lt_size he) q
        · exact Nat.ne_of_gt (Heap.lt_size l4) q
      rw [aq n6];exact (hf b hb).1
  done:=by
    intro X hP hw hK hc i pins s σ H E I hf st hg;subst hP hw hK;obtain ⟨⟨old,he⟩,h1⟩:=st;obtain ⟨xs,qa,Hb⟩:=hg;obtain ⟨its,rv,pl,G_⟩:=I.list qa;have la:=rv.length;refine wpAny_pyNext_enum_end (I.ok.hd hc) he h1 pl.isList (by rw [List.getElem?_toArray];exact List.getElem?_eq_none (by omega)) λ h' hk=>⟨rfl,?_⟩;refine I.h9 (t':=s.toks) (its:=[e,it]) (λ b o hb q=>hk b o ?_ q) hf;simp only [List.mem_cons,List.not_mem_nil,or_false,not_or] at hb;exact hb.2
  self:=λ _ _ _ _ _ st h=>by
    obtain ⟨⟨old,he⟩,_⟩:=st;exact wpAny_pyIter_enum he h
section
variable {X:Cx}
noncomputable def HM (K:PySem.W.Frag) (ta:TA):TI:=λ σ H R=>ta σ H λ vs H1=>∃ a,vs=[.ref a]∧(∃ xs,aJ K H1 a xs)∧R (LB K a) H1
theorem kZ {es:List Expr} {k:Nat} {tp:Pos} {a:Expr} {ta:TA} {p pos:Pos} (hg:Gl X "enumerate") (hm:X.mg "enumerate"=none) (ha:PA X [a] ta) (hs:starEach [a] X.env=[(false,eval a X.env)]:=by rfl):PI X (.Tuple es k tp) (.Call (.Name "enumerate" p) [a] [] pos) (HM X.K ta):=by
  intro pins s σ H R I h;refine Call_ (gu I hg hm PyProof.Rows.Boot.«enumerate» (PyProof.Rows.callWith_type1 (bP (ha pos pins s σ H _ I h) λ us s1 ⟨vs,H1,I1,r1,q1⟩=>?_) hs rfl));obtain ⟨a,e,⟨xs,qa⟩,q⟩:=q1;subst e;obtain ⟨u,rfl,ru⟩:=vals1 r1;cases ru;obtain ⟨its,rv,pl,G_⟩:=I1.list qa;refine call_enumerate_list pl.isList λ h' he hit iK hk=>wpAny_pyIter_enum he ?_;have I2:Inv X pins σ H1 { s1 with heap:=h' }:=I1.kept (t':=s1.toks) hk;refine ⟨s1.heap.objs.size + 1,[s1.heap.objs.size + 1,s1.heap.objs.size],_,_,H1,rfl,I2,wF a (Nat.ne_of_gt (Nat.lt_succ_self _)),⟨⟨_,he⟩,hit⟩,λ c hc=>?_,q⟩;have kF:s1.heap.objs.size≤c:=by
    simp only [List.mem_cons,List.not_mem_nil,or_false] at hc;rcases hc with rfl | rfl
    · exact Nat.le_succ _
    · exact Nat.le_refl _
  exact I1.mY kF (I1.bH.fresh kF)
end
theorem eV {K:PySem.W.Frag} {a:Addr} (xs:List V):eH (LB K a) xs.length (λ H=>aJ K H a xs) (λ i v H H'=>∃ T x,H T=none∧v = .ref T∧H'=upd H T (.tup [.int (i:Nat),x])∧xs[i]?=some x) where
  go:=λ i H hi q=>⟨xs,xs[i],q,by simp [hi]⟩
  nK:=λ i H x H' hi q y=>by
    obtain ⟨T,x',hT,e1,e2,y1⟩:=y;exact ⟨T,x',hT,e1,e2,y1 xs q⟩
  stop:=λ H q=>⟨xs,q,Nat.le_refl _⟩
noncomputable def HN (K:PySem.W.Frag):List V→Hp→VK→Prop:=λ xs H Q=>∃ p ys,xs=[.ref p]∧(aJ K H p ys∨b_ K H p ys)∧Q (.int ys.length) H
theorem j6 {X:Cx} {K:PySem.W.Frag} (hK:X.K=K:=by rfl):dW X (.builtin "len") (HN K):=hK ▸ aL
end L2
namespace Sp
open PySem L2
seal PE PA PS jM PT PG uK PI PW tK
noncomputable def e8 (ns:List Int):Bool:=(List.range (ns.length - 1)).all λ j=>decide (ns.getD j 0 < ns.getD (j + 1) 0)
theorem getD_at {ns:List Int} {j:Nat} (h:j < ns.length):ns.getD j 0=ns[j]:=by simp [List.getD,h]
theorem dr (ns:List Int):e8 ns=true↔ns.Pairwise (· < ·):=by
  unfold e8;rw [List.all_eq_true];constructor
  · intro h;have key:∀ (d i:Nat),i + d + 1 < ns.length→ns.getD i 0 < ns.getD (i + d + 1) 0:=by
      intro d
      induction d with
      | zero =>
        intro i hi;have:=h i (List.mem_range.mpr (by lia));simpa using this
      | succ d ih =>
        intro i hi;have h1:=ih i (by lia);have h2:=h (i + d + 1) (List.mem_range.mpr (by lia));rw [decide_eq_true_eq] at h2;rw [show i + (d + 1) + 1=i + d + 1 + 1 by lia]
        lia
    refine List.pairwise_iff_getElem.mpr λ i j hi hj kJ=>?_;have:=key (j - i - 1) i (by lia);rw [show i + (j - i - 1) + 1=j by lia,getD_at hi,getD_at hj] at this;exact this
  · intro h j hj;rw [List.mem_range] at hj;rw [decide_eq_true_eq,getD_at (by lia),getD_at (by lia)];exact List.pairwise_iff_getElem.mp h j (j + 1) (by lia) (by lia) (by lia)
theorem range_getD {α:Type} (l:List α) (d:α):(List.range l.length).map (λ j=>l.getD j d)=l:=by
  apply List.ext_getElem
  · simp
  · intro i h1 h2;simp [List.getD,h2]
theorem all_range (ns:List Int) (p:Int→Bool):((List.range ns.length).map λ j=>p (ns.getD j 0)).all id=ns.all p:=by
  have e:((List.range ns.length).map λ j=>p (ns.getD j 0))=ns.map p:=by
    conv=>rhs;rw [← range_getD ns 0]
    rw [List.map_map];rfl
  rw [e,List.all_map];rfl
theorem rC (xs:List V):gy xs (some 1) none=xs.drop 1:=by
  unfold gy;rw [show HT.mR xs.length 0 (some 1)=min 1 xs.length from HT.uT _ _ 1,HT.qE]
  by_cases h:xs.length=0
  · have:xs=[]:=List.length_eq_zero_iff.mp h;subst this;rfl
  · rw [Nat.min_eq_left (by lia),List.take_of_length_le (by rw [List.length_drop];lia)]
section
variable {P:Program} {w:World} {K:PySem.W.Frag} {mg:Str→Option Value} {base:Heap}
theorem int_at {ns:List Int} {i:Nat} {x:V} (h:(ns.map V.int)[i]?=some x):i < ns.length∧x = .int (ns.getD i 0):=by
  rw [List.getElem?_map] at h;cases e:ns[i]? with
  | none=>rw [e] at h;cases h
  | some n =>
    rw [e] at h;cases h;have hi:=(List.getElem?_eq_some_iff.mp e).1;refine ⟨hi,?_⟩;rw [getD_at hi,(List.getElem?_eq_some_iff.mp e).2]
theorem wG:az ["values"] ["values"] (ao gJ):=dZ
noncomputable def j7 (K:PySem.W.Frag):Sp:=λ vs H Q _=>∃ (a:Addr) (ns:List Int),vs=[.ref a]∧aJ K H a (ns.map V.int)∧ns.length≤60000∧∀ H',av H H'→Q (.bl (e8 ns)) H'
theorem wH (B:Bl mg) (D:FnAt K mg "is_rising" gJ ["values"]):Def P w K mg base bN 1 "is_rising" ["values"] (j7 K):=by
  refine D.ok wG (λ vs H Q E h=>?_) λ f bM A outer s H vs Q E hr h=>?_
  · obtain ⟨a,ns,rfl,_⟩:=h;rfl
  · obtain ⟨a,ns,rfl,ha,hz,q⟩:=h;refine ⟨_,aj (aH (aB (bT rfl) (by rfl) B.all PyProof.Rows.Boot.«all» (aa
      (bC ["one","other"] [] rfl (pF rfl B.zip (aa (pv 0) (aa (gx ji (pv 0) (jh ai) jg) ae))) λ cl s H fp C =>
        ⟨cC (K:=K) 0 1 rfl (show (["one","other"]:List Str).Nodup by decide +kernel),br,b8 iJ (pv 0) (pv 1) (aR _)⟩) ae))),?_⟩
    refine ⟨_,rfl,_,rfl,_,rfl,a,_,rfl,ha,λ p hp=>?_⟩;have s1:av H (upd H p (.lst (gy (ns.map V.int) (some 1) none))):=ah hp;have HP:upd H p (.lst (gy (ns.map V.int) (some 1) none)) p=some (.lst ((ns.drop 1).map V.int)):=by rw [af,rC,List.map_drop]
    generalize upd H p (.lst (gy (ns.map V.int) (some 1) none))=H1 at s1 HP ⊢;refine ⟨a,p,rfl,⟨_,s1.seq ha⟩,⟨_,aJ.of HP⟩,λ D hD=>?_⟩;have yY:min (ns.map V.int).length ((ns.drop 1).map V.int).length=ns.length - 1:=by simp<;>lia
    refine aX (fN (ns.map V.int) ((ns.drop 1).map V.int)) (λ σ=>∃ o1 o2,σ=[o1,o2]) (λ j=>.bl (decide (ns.getD j 0 < ns.getD (j + 1) 0))) hD (by rw [yY];lia) (λ H3 s3=>⟨(s1.trans s3).seq ha,aJ.of (s3 _ _ HP)⟩) ⟨_,_,rfl⟩ ?_ ?_
    · rintro j v σ H3 mn hj ⟨T,x,y,hT,rfl,rfl,hx,hy⟩ s3 ⟨o1,o2,rfl⟩ Ky hK;obtain ⟨h1,rfl⟩:=int_at hx;obtain ⟨h2,rfl⟩:=int_at hy;have e2:(ns.drop 1).getD j 0=ns.getD (j + 1) 0:=by
        rw [getD_at h2,getD_at (by rw [List.length_drop] at h2;lia),List.getElem_drop];congr 1
        lia
      rw [e2];exact ⟨T,_,rfl,b_.of af,rfl,_,_,rfl,_,_,rfl,rfl,_,rfl,_,rfl,_,_,rfl,rfl,hK _ _ _ (ah hT) ⟨_,_,rfl⟩ rfl⟩
    · intro H3 s3 qt;rw [yY] at qt;refine ⟨D,(List.range (ns.length - 1)).map λ j=>decide (ns.getD j 0 < ns.getD (j + 1) 0),rfl,aJ.of (by rw [qt,List.map_map];rfl),?_⟩;have e:((List.range (ns.length - 1)).map λ j=>decide (ns.getD j 0 < ns.getD (j + 1) 0)).all id=e8 ns:=by rw [List.all_map];rfl
      rw [e];exact q H3 (s1.trans s3)
noncomputable def cW (ns:List Int) (n:Nat):Bool:=(ns.all λ c=>decide (0≤c) && decide (c < (n:Int))) && e8 ns
theorem wI:az ["taken","requests"] ["taken","requests"] (ao gK):=dZ
noncomputable def ox (K:PySem.W.Frag):Sp:=λ vs H Q _=>∃ (a b:Addr) (ns:List Int) (ys:List V),vs=[.ref a,.ref b]∧H a=some (.lst (ns.map V.int))∧aJ K H b ys∧ns.length≤60000∧∀ H',av H H'→Q (.bl (cW ns ys.length)) H'
theorem wJ (B:Bl mg) (GW:Def P w K mg base bN 1 "is_whole" ["value"] (fg K)) (GR:Def P w K mg base bN 1 "is_rising" ["values"] (j7 K)) (D:FnAt K mg "is_choice" gK ["taken","requests"]) :
    Def P w K mg base bN 2 "is_choice" ["taken","requests"] (ox K):=by
  refine D.ok wI (λ vs H Q E h=>?_) λ f bM A outer s H vs Q E hr h=>?_
  · obtain ⟨a,b,ns,ys,rfl,_⟩:=h;rfl
  · obtain ⟨a,b,ns,ys,rfl,ha,hb,hz,q⟩:=h;refine ⟨_,ag (bK (bJ (aW (fM B.isinstance B.list PyProof.Rows.Boot.«list» (pv 0)))) (aj (aH b7)) aQ)
      (aj (aH (cp (aB (bT rfl) (by rfl) B.all PyProof.Rows.Boot.«all» (aa
        (bC ["count"] [1] rfl (aY (pv 0)) λ cl s H fp C=>⟨aV (i:=0) (show (["count","requests"]:List Str).Nodup by decide +kernel) rfl (Or.inl rfl),br,
          cp (au GW hr rfl aD (aa (pv 0) ae)) (c_ (qA lr iJ ai (pv 0) (aB (j6 (K:=K)) (by rfl) B.len PySem.boot_len (aa (pv 1) ae))))⟩) ae))
        (c_ (au GR hr rfl aD (aa (pv 0) ae)))))),?_⟩
    refine ⟨_,rfl,_,_,_,rfl,bF.lst ha,(pI (H:=H) (bF.lst ha)).2.2.1,_,rfl,bV ?_⟩;refine ⟨_,rfl,a,rfl,⟨_,aJ.of ha⟩,λ D hD=>?_⟩;refine aX (aI (ns.map V.int)) (λ σ=>∃ o,σ=[o,some (.ref b)]) (λ j=>.bl (decide (0≤ns.getD j 0) && decide (ns.getD j 0 < (ys.length:Int)))) hD (by rw [List.length_map];lia) (λ H3 s3=>aJ.of (s3 _ _ ha)) ⟨_,rfl⟩ ?_ ?_
    · rintro j v σ H3 mn hj ⟨rfl,hx⟩ s3 ⟨o,rfl⟩ Ky hK;obtain ⟨h1,rfl⟩:=int_at hx;refine ⟨_,rfl,_,_,rfl,bF.int _,_,rfl,bW ⟨_,rfl,_,_,rfl,rfl,_,rfl,?_⟩⟩
      by_cases h0:0≤ns.getD j 0
      · refine fE (by simpa using h0) ⟨_,rfl,b,ys,rfl,.inl (s3.seq hb),_,_,rfl,rfl,hK _ _ _ (av.refl _) ⟨_,rfl⟩ ?_⟩;rw [decide_eq_true h0,Bool.true_and]
      · refine df (by simpa using h0) (hK _ _ _ (av.refl _) ⟨_,rfl⟩ ?_);rw [decide_eq_false h0,Bool.false_and]
    · intro H3 s3 qt;have e1:((List.range (ns.map V.int).length).map λ j=>decide (0≤ns.getD j 0) && decide (ns.getD j 0 < (ys.length:Int))).all id=ns.all λ c=>decide (0≤c) && decide (c < (ys.length:Int)):=by
        rw [List.length_map];exact all_range ns λ c=>decide (0≤c) && decide (c < (ys.length:Int))
      refine ⟨D,(List.range (ns.map V.int).length).map λ j=>decide (0≤ns.getD j 0) && decide (ns.getD j 0 < (ys.length:Int)),rfl,aJ.of (by rw [qt,List.map_map];rfl),_,rfl,?_⟩;rw [e1];have q':=q;unfold cW at q';cases hc:ns.all λ c=>decide (0≤c) && decide (c < (ys.length:Int)) with
      | false =>
        rw [hc] at q';exact bV (q' H3 s3)
      | true =>
        rw [hc] at q';exact bW ⟨_,rfl,a,ns,rfl,aJ.of (s3 _ _ ha),hz,λ H4 s4=>q' H4 (s3.trans s4)⟩
end
end Sp
set_option maxHeartbeats 400000
namespace L2
open PySem PySem.Spec PyProof.Rows
section
variable {X:Cx} {pins:List (Addr×Obj)} {σ:St} {H:Hp} {s:Shared}
theorem Inv.Cv {a:Addr} {o:HO} (I:Inv X pins σ H s) (F:dO X pins H a) (new:bZ X.prog X.w (upd H a o) s.heap a o):Inv X pins σ (upd H a o) s:=by
  obtain ⟨hn,hL,_,h1,h2,h3⟩:=F;have nb:∀ b u,H b=some u→b≠a:=λ b u e z=>by rw [z,hn] at e;cases e
  refine I.step (h':=s.heap) (g':=s.gens) (d':=s.drawn) (t':=s.toks) (ch:=[a]) (λ b hb=>?_) (λ b o _ _ _ e _=>e) (λ b o _ _ _ e _=>⟨o.slots,e⟩) (λ b u hb e n=>?_) (λ b o _ e=>⟨o,e⟩)
    (λ b xs e=>by rw [aq (nb b _ e)];exact e) (λ b o u e=>by rw [aq (nb b _ e)];exact e) (λ b ps e=>⟨#[],by rw [aq (nb b _ e),e];simp⟩) (λ m hm=>hm) (λ b u e=>?_) I.bare
  · have e:b=a:=by simpa using hb
    subst e;exact ⟨h1,hL,h2,h3⟩
  · rw [aq λ z=>hb (by simp [z])];exact n
  · by_cases hb:b=a
    · subst hb;rw [af] at e;cases e;exact new
    · rw [aq hb] at e;exact (I.bH b u e).k7 (λ _ _ _ q=>q) (λ c q=>by rw [aq (nb c _ q)];exact q) λ c xs q=>by rw [aq (nb c _ q)];exact q
theorem Inv.grown {P:Addr} {ps more:Array Value} {h':Heap} {t':Nat} (I:Inv X pins σ H s) (hP:H P=some (.gj ps)) (hx:Heap.ExtBut P s.heap h') (hp:h'.get? P=some { cls:=.none,data:=.fields (ps ++ more) }) :
    Inv X pins σ (upd H P (.gj (ps ++ more))) { s with heap:=h',toks:=t' }:=by
  have nb:∀ b,H b=none→b≠P:=λ b n z=>by rw [z,hP] at n;cases n
  have nu:∀ b u,H b=some u→u≠.gj ps→b≠P:=λ b u e d z=>by rw [z,hP] at e;cases e;exact d rfl
  refine I.step (g':=s.gens) (d':=s.drawn) (ch:=[]) (λ _ z=>nomatch z) (λ b o _ _ _ e n=>hx b o (nb b n) e) (λ b o _ _ _ e n=>⟨o.slots,hx b o (nb b n) e⟩) (λ b o _ e n=>by rw [aq (nb b n)];exact n) (λ b o _ e=>?_)
    (λ b xs e=>by rw [aq (nu b _ e (by simp))];exact e) (λ b o u e=>by rw [aq (nu b _ e (by simp))];exact e) (λ b qs e=>?_) (λ m hm=>?_) (λ b u e=>?_) I.bare
  · by_cases hb:b=P
    · rw [hb];exact ⟨_,hp⟩
    · exact ⟨o,hx b o hb e⟩
  · by_cases hb:b=P
    · subst hb;rw [hP] at e;cases e;exact ⟨more,af⟩
    · exact ⟨#[],by rw [aq hb,e];simp⟩
  · obtain ⟨o,es,ep,ho,r⟩:=hm;exact ⟨o,es,ep,hx _ o (nb _ I.free) ho,r⟩
  · by_cases hb:b=P
    · subst hb;rw [af] at e;cases e;exact hp
    · rw [aq hb] at e;refine (I.bH b u e).k7 (λ c v hc q=>hx c v ?_ q) (λ c q=>by rw [aq (nu c _ q (by simp))];exact q) λ c xs q=>by rw [aq (nu c _ q (by simp))];exact q
      rcases hc with z | z
      · rw [z];exact hb
      · exact nu c _ z (by simp)
end
noncomputable def i8 (H:Hp) (c:Addr) (qual:Str):Prop:=∃ oc vs t,H c=some (.iD oc (.own c))∧oc.data = .fields vs∧vs[1]?=some (.str qual t)
noncomputable def aA (H:Hp) (P:Addr) (pos:Pos) (qual:Str):Prop:=H P=some (.gj #[])∨∃ c,H P=some (.gj #[rawInt pos.line,rawInt pos.col,.ref c])∧i8 H c qual
noncomputable def rD (H:Hp) (f:Addr) (qual:Str) (params:Arguments) (body:Expr) (scope:Scope):Prop :=
  ∃ pm c mT,H f=some (.iD (PySem.W.kla_obj "<lambda>" qual params body scope [] pm c mT) (.own f))∧i8 H c qual
structure pY (K:PySem.W.Frag) (mg:Str→Option Value) (base:Heap) (c P:Addr):Prop where
  hd:∀ h:Heap,K.In h→PySem.W.CodeHd h c P
  bm:base.BuiltinsAt mg P
noncomputable def Cw (P:Addr) (H H':Hp):Prop:=∀ b o,b≠P→H b=some o→H' b=some o
theorem i8.same {P c:Addr} {qual:Str} {H H':Hp} (x:i8 H c qual) (k:Cw P H H') (hP:∃ ps,H P=some (.gj ps)):i8 H' c qual:=by
  obtain ⟨oc,vs,t,e,r⟩:=x;obtain ⟨ps,q⟩:=hP;exact ⟨oc,vs,t,k c _ (λ z=>by rw [z,q] at e;cases e) e,r⟩
noncomputable def LC (P:Addr) (pos:Pos) (qual:Str) (params:Arguments) (body:Expr) (scope:Scope):TE:=λ σ H Q=>aA H P pos qual ∧
  ∀ f H1,aA H1 P pos qual→Cw P H H1→rD H1 f qual params body scope→Q (.ref f) H1
section
variable {X:Cx}
theorem yZ {c P:Addr} {params:Arguments} {body:Expr} {scope:Scope} {pos:Pos} (Cy:X.env.code = .ref c) (T:pY X.K X.mg X.base c P) (LD:defaultsOf params X.env=([],[]):=by rfl) (LF:closureFor scope X.env=pure []:=by rfl) :
    PE X (.Lambda params body scope pos) (LC P pos (X.env.qual ++ "<lambda>") params body scope):=by
  intro pins s σ H Q I ⟨hT,q⟩;refine PySem.W.kla_eval LD ?_;have LG:s.heap.Ns mainGlobals X.mg:=I.mod.glob.keeps I.bk;have Rn:∀ ps,s.heap.get? P=some (PySem.W.tabObj ps)→mainGlobals≠P:=λ ps e z=>by
    obtain ⟨o,es,ep,e2,hd,_⟩:=LG;rw [z,e] at e2;cases e2;cases hd
  rcases hT with hP | ⟨c',hP,k_⟩
  · have hp:s.heap.get? P=some (PySem.W.tabObj #[]):=I.bH P _ hP;refine PySem.W.kla_makeFunction (mg:=X.mg) LF I.ok.glob LG Cy (T.hd _ I.jP) hp trivial rfl (Rn _ hp) (T.bm.keeps I.bk) λ c' mT h' tk hx kF dg LH Oo=>?_;have I1:=I.grown (ps:=#[]) (more:=#[rawInt pos.line,rawInt pos.col,.ref c']) (t':=tk) hP hx Oo;have cP:c'≠P:=λ z=>by
      have:=Heap.lt_size hp;rw [← z] at this;exact absurd (Nat.lt_of_lt_of_le this kF) (Nat.lt_irrefl _)
    have n1:upd H P (.gj (#[] ++ #[rawInt pos.line,rawInt pos.col,.ref c'])) c'=none:=by rw [aq cP];exact I.bH.fresh kF
    obtain ⟨c₂,oc,vs,t,e2,FY,hd,hv⟩:=LH;cases e2;have I2:=I1.Cv (a:=c') (o:=.iD oc (.own c')) (I.mY kF n1) ⟨FY,oc,FY⟩;have I3:=I2.laid (a:=h'.objs.size) (o:=.iD (PySem.W.kla_obj "<lambda>" (X.env.qual ++ "<lambda>") params body scope [] ((X.mg "__name__").getD .none) c' mT) (.own h'.objs.size)) (t':=tk) (λ b u e=>Heap.get?_push_of_some _ e) (Nat.le_refl _) ⟨Heap.get?_push_size _ rfl,_,Heap.get?_push_size _ rfl⟩;have f1:c'≠h'.objs.size:=Nat.ne_of_lt dg;have f2:P≠h'.objs.size:=Nat.ne_of_lt (Heap.lt_size Oo);have hC:i8 (upd (upd (upd H P (.gj (#[] ++ #[rawInt pos.line,rawInt pos.col,.ref c']))) c' (.iD oc (.own c'))) h'.objs.size (.iD (PySem.W.kla_obj "<lambda>" (X.env.qual ++ "<lambda>") params body scope [] ((X.mg "__name__").getD .none) c' mT) (.own h'.objs.size))) c' (X.env.qual ++ "<lambda>") :=
      ⟨oc,vs,t,by rw [aq f1,af],hd,hv⟩
    refine ⟨.ref h'.objs.size,_,I3,rfl,q _ _ (.inr ⟨c',?_,hC⟩) (λ b o hb e=>?_) ⟨_,c',mT,af,hC⟩⟩
    · rw [aq f2,aq cP.symm,af];rfl
    · have l1:b < s.heap.objs.size:=I.bH.lt e;rw [aq (Nat.ne_of_lt (Nat.lt_trans (Nat.lt_of_lt_of_le l1 kF) dg)),aq (Nat.ne_of_lt (Nat.lt_of_lt_of_le l1 kF)),aq hb];exact e
  · have hp:s.heap.get? P=some (PySem.W.tabObj #[rawInt pos.line,rawInt pos.col,.ref c']):=I.bH P _ hP;refine PySem.W.kla_makeFunctionHit (mg:=X.mg) (cv:=.ref c') LF I.ok.glob LG Cy (T.hd _ I.jP) hp (by simp [TriplesOk,rawInt]) (by simp [codeAmong,rawInt]) (T.bm.keeps I.bk) λ mT h' tk hk iK=>?_;have I3:=I.laid (h':=h'.push (PySem.W.kla_obj "<lambda>" (X.env.qual ++ "<lambda>") params body scope [] ((X.mg "__name__").getD .none) c' mT)) (a:=h'.objs.size) (o:=.iD (PySem.W.kla_obj "<lambda>" (X.env.qual ++ "<lambda>") params body scope [] ((X.mg "__name__").getD .none) c' mT) (.own h'.objs.size)) (t':=tk) (λ b u e=>Heap.get?_push_of_some _ (hk b u e)) iK ⟨Heap.get?_push_size _ rfl,_,Heap.get?_push_size _ rfl⟩;have kp:∀ b o,H b=some o→upd H h'.objs.size (.iD (PySem.W.kla_obj "<lambda>" (X.env.qual ++ "<lambda>") params body scope [] ((X.mg "__name__").getD .none) c' mT) (.own h'.objs.size)) b=some o:=λ b o e=>by
      rw [aq (Nat.ne_of_lt (Nat.lt_of_lt_of_le (I.bH.lt e) iK))];exact e
    have hC:i8 (upd H h'.objs.size (.iD (PySem.W.kla_obj "<lambda>" (X.env.qual ++ "<lambda>") params body scope [] ((X.mg "__name__").getD .none) c' mT) (.own h'.objs.size))) c' (X.env.qual ++ "<lambda>"):=k_.same (λ b o _ e=>kp b o e) ⟨_,hP⟩;exact ⟨.ref h'.objs.size,_,I3,rfl,q _ _ (.inr ⟨c',kp P _ hP,hC⟩) (λ b o _ e=>kp b o e) ⟨_,c',mT,af,hC⟩⟩
theorem y4 {P:Program} {w:World} {K:PySem.W.Frag} {mg:Str→Option Value} {base:Heap} {k:Nat} {f:Addr} {qual x:Str} {params:Arguments} {body:Expr} {scope:Scope} {H:Hp} {A:Around} {outer:List Env} {s:Shared} {u:Value} {v:V} {Q:VK} {tb:TE}
    (hr:bc (k + 1) A) (e0:lD P w K mg base A outer s H) (L:rD H f qual params body scope) (S:az [x] [x] scope) (r:RelV v u)
    (hb:∀ (pm cv mT:Value),bindArgs (PySem.W.kla_fn "<lambda>" qual params body scope [] pm cv mT) ⟨[u],[]⟩=pure [(x,u)])
    (cS:∀ bM:Value,PE (gm bN P w K mg base [x] qual scope f bM A outer s H E0) body tb) (h:tb [some v] H Q) :
    codeAny (model P w) A (.call (.ref f) ⟨[u],[]⟩) (CR bN outer P w H s Q E0) s:=by
  obtain ⟨pm,c,mT,hf,oc,vs,t,hc,hd,hv⟩:=L;have DF:=(e0.bH f _ hf).1;have Ro:=(e0.bH c _ hc).1;have KX:K.In s.heap:=e0.mod.Df.keeps λ b o e=>(e0.bs b o e).1;have lim:s.heap.NoLimit:=e0.mod.nolimit.keeps λ b o e=>(e0.bs b o e).1;have yh:∀ y∈[(x,u)],scope.names.lookup y.1=some .local∨(scope.names.lookup y.1=some .cell∧((cellsFrom (s.heap.objs.size + 1) scope.names []).lookup y.1).isSome=true):=λ ⟨n,v⟩ hy=>by
    have e:n=x:=by simp at hy;exact hy.1
    subst e;rcases S.par n (by simp) with q | q
    · exact .inl q
    · exact .inr ⟨q,PySem.W.cellsFrom_some _ _ _ (.inl q)⟩
  refine PySem.W.kla_callFunE hr.depth DF rfl S.co S.gen rfl ⟨c,oc,vs,t,rfl,Ro,hd,hv⟩ ?_;rw [hb];refine wpAny_pure (wpAny_newFunctionEnv_cells S.kind yh λ env he s1 x1=>?_);subst he;refine ⟨lim.keeps x1.toInCall.keep,PySem.W.kla_codeExpr ?_⟩;have I:Inv (gm bN P w K mg base [x] qual scope f (.ref c) A outer s H E0) [] (start [x] [v]) H s1:=nU (us:=[u]) S hr.hd e0 rfl (.cons r .nil) x1;refine wpAny_mono (cS (.ref c) [] s1 (start [x] [v]) H Q I h) (λ u' s' hs=>?_) λ e s' hs=>hs;obtain ⟨v',H',J,rv,q⟩:=hs;exact ⟨v',H',J.os,J.bare,J.base,J.bH,rv,q⟩
end
end L2
set_option maxHeartbeats 1000000
namespace Oq
open PySem PyProof.Rows
theorem nm:(toString "max" ++ toString ".loop":String) = "max.loop":=by decide
section
variable {prog:Program} {w:World} {A:Around} {R:Result→Shared→Prop} {I S:Addr} {fp wr:List Addr} {n:Nat} {P:Nat→Value→Prop} {St:Nat→Heap→Prop} {bt:Nat→Nat→Bool} {d:Value} {dn:Str}
noncomputable def two (vb:Value) (c:Nat):Obj:={ cls:=.type "list",dict:=none,data:=.seq #[vb,vb] c,slots:=#[] }
noncomputable def HQ (c:Nat):Obj:={ cls:=.type "list",dict:=none,data:=.seq #[] c,slots:=#[] }
theorem go (W:Walks prog w A.in1 I fp wr n P St) (hq:CmpOf prog w A.in1 .Gt P bt) (hS:S∉fp):∀ (k j:Nat) (s:Shared) (vb:Value) (c:Nat),n - (j + 1)=k→j + 1≤n→St (j + 1) s.heap→P (argBest bt j) vb→s.heap.get? S=some (two vb c) →
    (∀ v h' tk,P (argBest bt (n - 1)) v→(∀ b o,b∉wr→b≠S→s.heap.get? b=some o→h'.get? b=some o)→R (.ok (.ret v)) { s with heap:=h',toks:=tk })→codeAny (model prog w) A (.builtin "max.loop" ⟨[.ref I,.none,.ref S],[(dn,d)]⟩) R s:=by
  have nw:S∉wr:=λ h=>hS (W.sub _ h);intro k
  induction k with
  | zero =>
    intro j s vb c e1 e2 st pb g r;have en:j + 1=n:=by lia
    refine (codeAny_builtin F.entry_max_loop) ?_;rw [(Around.under_plainId F.plain_max_loop _)];show wpAny (model prog w) A.in1 (seqItems? (.ref S) >>= _) _ _ s;refine wpAny_bind (wpAny_seqItems g (rfl) ?_);show wpAny (model prog w) A.in1 (tryCatch (pyNext (.ref I)) _ >>= _) _ _ s;refine wpAny_bind (wpAny_tryCatch (W.done s _ _ (by rw [← en];exact st) λ h1 HR k1=>?_));have g1:=k1 S _ nw g;show wpAny (model prog w) A.in1 (updateSeq S (λ _=>#[]) >>= _) _ _ _;refine wpAny_bind (wpAny_updateSeq g1 rfl (wpAny_bind (wpAny_letGo (wpAny_pure ?_))));exact r vb _ HR (by rw [← en];exact pb) λ b o n1 n2 e=>(Heap.get?_update_other _ _ n2.symm).trans (k1 b o n1 e)
  | succ k ih =>
    intro j s vb c e1 e2 st pb g r;have lt:j + 1 < n:=by lia
    refine (codeAny_builtin F.entry_max_loop) ?_;rw [(Around.under_plainId F.plain_max_loop _)];show wpAny (model prog w) A.in1 (seqItems? (.ref S) >>= _) _ _ s;refine wpAny_bind (wpAny_seqItems g (rfl) ?_);show wpAny (model prog w) A.in1 (tryCatch (pyNext (.ref I)) _ >>= _) _ _ s;refine wpAny_bind (wpAny_tryCatch (W.item (j + 1) s _ _ lt st λ v h1 HR pv xH k1=>?_));have g1:=k1 S _ nw g;show wpAny (model prog w) A.in1 (tryCatch (holding [v,v] (richCompare .Gt v vb >>= _)) _ >>= _) _ _ _;refine wpAny_bind (wpAny_tryCatch (wpAny_holding (wpAny_bind (hq (j + 1) (argBest bt j) v vb _ _ _ pv pb (wpAny_bind (wpAny_holding (wpAny_truthy_bool (wpAny_bind (wpAny_letGo (wpAny_pure ?_))))))))));cases hb:bt (j + 1) (argBest bt j) with
    | true =>
      rw [if_pos rfl];refine wpAny_bind (wpAny_updateSeq g1 rfl (wpAny_bind (wpAny_letGo ?_)));rw [nm];refine wpAny_pure ⟨plainId_quiet F.plain_max_loop _,ih (j + 1) _ v _ (by lia) lt (W.frame _ _ _ xH λ b LI o e=>?_) (by simp only [argBest,hb];exact pv) (Heap.get?_update_self _ g1 rfl) λ v' h2 En DQ k2=>r v' h2 En DQ λ b o n1 n2 e=>k2 b o n1 n2 ((Heap.get?_update_other _ _ n2.symm).trans (k1 b o n1 e))⟩;exact (Heap.get?_update_other _ _ λ z:S=b=>hS (by rw [z];exact LI)).trans e
    | false =>
      rw [if_neg Bool.false_ne_true];refine wpAny_bind (wpAny_letGo ?_);rw [nm];exact wpAny_pure ⟨plainId_quiet F.plain_max_loop _,ih (j + 1) _ vb c (by lia) lt xH (by simp only [argBest,hb];exact pb) g1 λ v' h2 En DQ k2=>r v' h2 En DQ λ b o n1 n2 e=>k2 b o n1 n2 (k1 b o n1 e)⟩
theorem first (W:Walks prog w A.in1 I fp wr n P St) (hq:CmpOf prog w A.in1 .Gt P bt) (hS:S∉fp) {s:Shared} {c:Nat} (st:St 0 s.heap) (g:s.heap.get? S=some (HQ c)) (r0:n=0→∀ h' tk,(∀ b o,b∉wr→b≠S→s.heap.get? b=some o→h'.get? b=some o)→R (.ok (.ret d)) { s with heap:=h',toks:=tk })
    (r:0 < n→∀ v h' tk,P (argBest bt (n - 1)) v→(∀ b o,b∉wr→b≠S→s.heap.get? b=some o→h'.get? b=some o)→R (.ok (.ret v)) { s with heap:=h',toks:=tk }):codeAny (model prog w) A (.builtin "max.loop" ⟨[.ref I,.none,.ref S],[(dn,d)]⟩) R s:=by
  have nw:S∉wr:=λ h=>hS (W.sub _ h);refine (codeAny_builtin F.entry_max_loop) ?_;rw [(Around.under_plainId F.plain_max_loop _)];show wpAny (model prog w) A.in1 (seqItems? (.ref S) >>= _) _ _ s;refine wpAny_bind (wpAny_seqItems g (rfl) ?_);show wpAny (model prog w) A.in1 (tryCatch (pyNext (.ref I)) _ >>= _) _ _ s
  by_cases z:n=0
  · subst z;refine wpAny_bind (wpAny_tryCatch (W.done s _ _ st λ h1 HR k1=>?_));exact wpAny_bind (wpAny_rule (wpAny_pure (r0 rfl h1 HR λ b o n1 _ e=>k1 b o n1 e)))
  · have n0:0 < n:=by lia
    refine wpAny_bind (wpAny_tryCatch (W.item 0 s _ _ n0 st λ v h1 HR pv xH k1=>?_));have g1:=k1 S _ nw g;show wpAny (model prog w) A.in1 (updateSeq S (λ _=>#[v,v]) >>= _) _ _ _;refine wpAny_bind (wpAny_updateSeq g1 rfl ?_);rw [nm];refine wpAny_pure ⟨plainId_quiet F.plain_max_loop _,go W hq hS _ 0 _ v _ rfl n0 (W.frame _ _ _ xH λ b LI o e=>?_) pv (Heap.get?_update_self _ g1 rfl) λ v' h2 En DQ k2=>r n0 v' h2 En DQ λ b o n1 n2 e=>k2 b o n1 n2 ((Heap.get?_update_other _ _ n2.symm).trans (k1 b o n1 e))⟩;exact (Heap.get?_update_other _ _ λ z:S=b=>hS (by rw [z];exact LI)).trans e
end
theorem Eo (a d:Value):argsOk "max" ⟨[a],[(Str.ofString "default",d)]⟩:=by unfold argsOk;kernel_rfl
section
variable {prog:Program} {w:World} {A:Around} {E:Value→Shared→Prop} {s:Shared} {l:Addr} {xs:Array (Int×Tok)}
theorem wK {d:Value} {Q:Value→Shared→Prop} (hh:A.handled=none) (hl:s.heap.IsList l (intItems xs)) (r0:xs.size=0→∀ h' tk,(∀ b o,s.heap.get? b=some o→h'.get? b=some o)→Q d { s with heap:=h',toks:=tk })
    (r:0 < xs.size→∀ v h' tk,(intItems xs)[argBest (λ i j=>decide (numAt xs i > numAt xs j)) (xs.size - 1)]?=some v→(∀ b o,s.heap.get? b=some o→h'.get? b=some o)→Q v { s with heap:=h',toks:=tk }) :
    wpAny (model prog w) A (call (.builtin "max") [.ref l] [(Str.ofString "default",d)]) Q E s:=by
  refine kmb_tree F.kind_max F.plain_max F.entry_max (Eo _ _) ?_;show wpAny (model prog w) A.in1 (Builtin.Builtins.bindParams "max" ["key","default"] 0 ⟨[],[(Str.ofString "default",d)]⟩ >>= _) _ _ s;refine wpAny_bind (wpAny_of_eq (show Builtin.Builtins.bindParams "max" ["key","default"] 0 ⟨[],[(Str.ofString "default",d)]⟩=pure [none,some d] from by kernel_rfl) ?_);refine wpAny_bind (wpAny_pure ?_);refine wpAny_bind (iter_intList hl λ s2 e st Rp Rq=>?_);subst e;refine wpAny_bind (wpAny_newObj_type ?_);rw [nm];have HJ:=λ hm=>Nat.lt_irrefl _ (Rp _ hm);refine wpAny_pure ⟨plainId_quiet F.plain_max_loop _,?_⟩;have W:=Walks.list (prog:=prog) (w:=w) (A:=A.in1) hh s.heap.objs.size l Rq (intItems xs);refine first W (CmpOf.ints_gt (numAt xs) (λ _ _=>intItems_at)) HJ (W.frame _ _ _ st λ b _ o e=>Heap.get?_push_of_some _ e) (Heap.get?_push_size _ rfl) (λ z h' tk k=>?_) λ z v h' tk pv k=>?_
  · refine r0 (by simpa [intItems] using z) h' tk (old_kept λ b o n1 e=>k b o n1 ?_ (Heap.get?_push_of_some _ e));exact Nat.ne_of_lt (Heap.lt_size e)
  · refine r (by simpa [intItems] using z) v h' tk (by simpa [intItems] using pv) (old_kept λ b o n1 e=>k b o n1 ?_ (Heap.get?_push_of_some _ e));exact Nat.ne_of_lt (Heap.lt_size e)
end
end Oq
set_option maxHeartbeats 400000
namespace L2
open PySem PySem.Spec PyProof.Rows
section
variable {X:Cx}
noncomputable def pZ (X:Cx) (f:Value) (ks:List Str) (r:List V→List V→Hp→VK→Prop):Prop :=
  ∀ (pins:List (Addr×Obj)) (s:Shared) (σ:St) (H:Hp) (xs zs:List V) (us ws:List Value) (Q:VK),Inv X pins σ H s→Vals xs us→Vals zs ws→r xs zs H Q→wpAny (model X.prog X.w) X.A (call f us (ks.zip ws)) (EP X pins σ Q) X.xe s
theorem wL (hc:X.calm=true):pZ X (.builtin "max") [Str.ofString "default"] (λ xs zs H Q=>∃ (p:Addr) (ns:List Int) (d:V),xs=[.ref p]∧zs=[d]∧aJ X.K H p (ns.map V.int)∧(ns=[]→Q d H)∧(∀ m∈ns,(∀ a∈ns,a≤m)→Q (.int m) H)):=by
  intro pins s σ H xs zs us ws Q I r rz h;obtain ⟨p,ns,d,rfl,rfl,hq,q0,q⟩:=h;obtain ⟨u,rfl,rx⟩:=vals1 r;obtain ⟨dv,rfl,rd⟩:=vals1 rz;cases rx;obtain ⟨its,rv,pl,hz⟩:=I.list hq;have hi:IntsAre its ns:=intsAre_of rv;obtain ⟨ys,hx⟩:=hi.allInts.items;have K9:s.heap.IsList p (intItems ys):=hx ▸ pl.isList;have e1:ns=ys.toList.map (·.1):=by
    rw [← nums_intItems,← hx];exact (show numsOf its.toArray.toList=ns from hi.numsOf).symm
  refine Oq.wK (I.ok.hd hc) K9 (λ z h' tk hk=>?_) λ iK v h' tk hv hk=>?_
  · exact ⟨d,H,I.kept hk,rd,q0 (by rw [e1];simp at z;simp [z])⟩
  · obtain ⟨t,rfl⟩:=intItems_at hv;obtain ⟨h1,h2⟩:=argBest_gt (numAt ys) (ys.size - 1);refine ⟨.int _,H,I.kept hk,⟨_,rfl⟩,q _ ?_ λ a ha=>?_⟩
    · rw [e1,numAt_eq];exact getD_mem (by rw [List.length_map,Array.length_toList];lia)
    · rw [e1] at ha;obtain ⟨j,hj,rfl⟩:=mem_getD ha;rw [List.length_map,Array.length_toList] at hj;rw [← numAt_eq];exact h2 j (by lia)
noncomputable def LJ (r:List V→List V→Hp→VK→Prop) (t tk:TA):TE:=λ σ H Q=>t σ H λ vs H1=>tk σ H1 λ zs H2=>r vs zs H2 Q
theorem j8 {id:String} {ks:List Str} {r:List V→List V→Hp→VK→Prop} {x:Str} {e:Expr} {es:List Expr} {yf:List Keyword} {t tk:TA} {p pos:Pos} (hc:pZ X (.builtin id) ks r) (hg:Gl X x) (hm:X.mg x=none) (hv:bootBuiltins x=some (.builtin id)) (ha:PA X (e :: es) t) (Rr:PK X yf tk)
    (hn:x≠"__name__":=by decide) (yc:(x == ("__debug__":Str))=false:=by decide) (Hw:(backToKw pos (keywordEach yf X.env)).filterMap (·.1)=ks:=by rfl) (he:backTo pos (starEach (e :: es) X.env)=(false,eval e X.env) :: backTo pos (starEach es X.env):=by rfl)
    (gk:(backTo pos (starEach (e :: es) X.env)).any (·.1)=false:=by rfl) (pA:(backToKw pos (keywordEach yf X.env)).all (·.1.isSome)=true:=by rfl) (Rt:(backToKw pos (keywordEach yf X.env)).any (·.1.isNone)=false:=by rfl):PE X (.Call (.Name x p) (e :: es) yf pos) (LJ r t tk):=by
  intro pins s σ H Q I h;refine wpAny_Call_Name_kw (gu I hg hm hv ?_ hn yc);refine PyProof.Rows.callWith_kw (bP (ha pos pins s σ H _ I h) λ us s1 ⟨vs,H1,I1,r1,q1⟩=>bP (Rr pos pins s1 σ H1 _ I1 q1) λ ws s2 ⟨zs,H2,I2,r2,q2⟩=>?_) he gk pA Rt;rw [Hw];exact hc pins s2 σ H2 vs zs us ws Q I2 r1 r2 q2
end
section
variable {X:Cx} {pins:List (Addr×Obj)} {σ:St} {H:Hp} {s:Shared} {a kS:Addr} {o1 o2:Obj}
theorem Inv.HS (I:Inv X pins σ H s) (F1:dO X pins H kS) (F2:dO X pins H a) (g1:s.heap.get? kS=some o1) (g2:s.heap.get? a=some o2) (c1:∀ v,o1.data≠.cell v) (c2:∀ v,o2.data≠.cell v):Inv X (pins ++ [(kS,o1),(a,o2)]) σ H s:=by
  refine I.oY λ p hp=>?_;rcases List.mem_append.mp hp with hp | hp
  · exact I.pin p (List.mem_append_right _ hp)
  · rcases List.mem_cons.mp hp with rfl | hp
    · exact ⟨g1,F1.1,F1.2.1,F1.2.2.1,c1⟩
    · rw [List.mem_singleton.mp hp];exact ⟨g2,F2.1,F2.2.1,F2.2.2.1,c2⟩
theorem Inv.vk {h':Heap} {t':Nat} (I:Inv X pins σ H s) (F:dO X pins H a) (k:∀ b o,b≠a→s.heap.get? b=some o→h'.get? b=some o):Inv X pins σ H { s with heap:=h',toks:=t' } :=
  I.turned k F.1 F.2.1 F.2.2.2.1 F.2.2.2.2.1 F.2.2.2.2.2
theorem t9 {key:Addr→Int} {ps:List Addr} {us:List (Int×Value)} (hp:us.Perm ((ps.map key).zip (ps.map Value.ref))):∃ qs:List Addr,us=qs.map (λ a=>(key a,Value.ref a))∧qs.Perm ps:=by
  let back:Int×Value→Addr:=λ v=>match v.2 with | .ref a=>a | _=>0
  have ez:(ps.map key).zip (ps.map Value.ref)=ps.map λ a=>(key a,Value.ref a):=by
    rw [List.zip_map']
  rw [ez] at hp;have e:∀ l:List Addr,(l.map λ a=>(key a,Value.ref a)).map back=l:=λ l=>by rw [List.map_map];exact List.map_id'' (λ _=>rfl) l
  refine ⟨us.map back,?_,?_⟩
  · rw [List.map_map];have:us.map ((λ a=>(key a,Value.ref a)) ∘ back)=us.map id:=List.map_congr_left λ u hu=>by
      obtain ⟨a,_,rfl⟩:=List.mem_map.mp (hp.mem_iff.mp hu);rfl
    rw [this,List.map_id]
  · have:=hp.map back
    rwa [e] at this
variable {A:Around} {E:Value→Shared→Prop} {P:PySem.Fin→Shared→Prop} {b:Bool} {ps:List Addr} {key:Addr→Int} {keys:Array Value} {e e1:Nat}
theorem vm {st:SortSt} (I:Inv X (pins ++ [(kS,seqObj "list" keys e),(a,seqObj "list" #[] e1)]) σ H s) (F1:dO X pins H kS) (F2:dO X pins H a) (Ep:kS≠a) (hk:IntsAre keys.toList (ps.map key)) (hz:ps.length≤100000)
    (hp:(arrOf st).Perm (keys.zip (ps.map Value.ref).toArray)) (hs:SortedTo (arrOf st) (arrOf st).size) (sQ:failedOf st=none)
    (h:∀ (s':Shared) (qs:List Addr),qs.Perm ps→qs.Pairwise (λ x y=>if b then key y≤key x else key x≤key y)→Inv X pins σ (upd H a (.lst (qs.map V.ref))) s'→P (.done (.ret .none)) s') :
    wpAny (model X.prog X.w) A (ksk_tail a b e1 (.ref kS) st) P E s:=by
  have nk:=I.pin (kS,seqObj "list" keys e) (by simp);have na:=I.pin (a,seqObj "list" #[] e1) (by simp);have hl:keys.size=ps.length:=by
    have:=hk.length;rw [Array.length_toList,List.length_map] at this;exact this
  have KO:=ksk_out (b:=b) hk hp hs;obtain ⟨us,hu,ho,hP⟩:=KO;obtain ⟨qs,rfl,hq⟩:=t9 hu;have Ru:(if b then ((arrOf st).map (·.2)).reverse else (arrOf st).map (·.2))=(qs.map Value.ref).toArray:=by
    apply Array.toList_inj.mp;rw [ho,List.map_map];rfl
  have Fq:qs.Pairwise (λ x y=>if b then key y≤key x else key x≤key y):=List.pairwise_map.mp hP;have lq:=hq.length_eq;unfold ksk_tail;dsimp only;refine wpAny_bind (listUpdate_at nk.1 rfl ?_ (by rw [hl,sizeLine_eq];lia) (Nat.zero_le _));have I1:=I.d_.vk (t':=s.toks) F1 (h':=s.heap.update kS (Obj.mapSeq λ _=>(#[]:Array Value))) λ b o hb e=>by rw [Heap.get?_update_ne _ _ _ _ hb];exact e
  have LK:(s.heap.update kS (Obj.mapSeq λ _=>(#[]:Array Value))).get? a=some (seqObj "list" #[] e1):=by rw [Heap.get?_update_ne _ _ _ _ Ep.symm];exact na.1
  refine wpAny_bind (wpAny_letGo ?_);refine wpAny_bind (seqEpoch_at LK rfl ?_);rw [Ru];refine wpAny_bind (listUpdate_at LK rfl ?_ (Nat.zero_le _) (by rw [List.size_toArray,List.length_map,sizeLine_eq];lia));have I2:=I1.vk (t':=s.toks) F2 (h':=(s.heap.update kS (Obj.mapSeq λ _=>(#[]:Array Value))).update a (Obj.mapSeq λ _=>(qs.map Value.ref).toArray)) λ b o hb e=>by rw [Heap.get?_update_ne _ _ _ _ hb];exact e
  obtain ⟨c2,y6⟩:∃ c2,((s.heap.update kS (Obj.mapSeq λ _=>(#[]:Array Value))).update a (Obj.mapSeq λ _=>(qs.map Value.ref).toArray)).get? a=some (seqObj "list" (qs.map Value.ref).toArray c2):=⟨_,get?_update_seq LK λ _=>(qs.map Value.ref).toArray⟩;have I3:=I2.Cv (o:=.lst (qs.map V.ref)) F2 ⟨by rw [List.length_map,sizeLine_eq];lia,qs.map Value.ref,c2,oq qs,y6⟩;rw [sQ];simp only [bne_self_eq_false,Bool.false_eq_true,if_false];exact wpAny_pure (h _ qs hq Fq I3)
theorem wM {xs:Array Keyed} {n:Nat} (hn:n=xs.size) (hu:qZ.Up (qZ.g7 ltI) xs 0 n):SortedTo xs xs.size:=by
  intro i j kJ hj;have hi:i < xs.size:=by lia
  have:=hu i j kJ (by lia);rw [Nat.zero_add,Nat.zero_add] at this;rw [K_eq hi,K_eq hj];have e1:qZ.it xs i=xs[i]:=by
    have:=qZ.lW hi;rw [getElem?_pos xs i hi] at this;exact (Option.some.inj this).symm
  have e2:qZ.it xs j=xs[j]:=by
    have:=qZ.lW hj;rw [getElem?_pos xs j hj] at this;exact (Option.some.inj this).symm
  rw [e1,e2] at this;have h2:ltI xs[j].1 xs[i].1=false:=this;unfold ltI at h2;simp at h2;exact h2
theorem Er (I:Inv X (pins ++ [(kS,seqObj "list" keys e),(a,seqObj "list" #[] e1)]) σ H s) (F1:dO X pins H kS) (F2:dO X pins H a) (Ep:kS≠a) (hk:IntsAre keys.toList (ps.map key)) (hz:ps.length≤100000)
    (h:∀ (s':Shared) (qs:List Addr),qs.Perm ps→qs.Pairwise (λ x y=>if b then key y≤key x else key x≤key y)→Inv X pins σ (upd H a (.lst (qs.map V.ref))) s'→P (.done (.ret .none)) s') :
    wpAny (model X.prog X.w) A (ksk_end a b (ps.map Value.ref).toArray e1 (.ref kS) keys) P E s:=by
  have hl:keys.size=ps.length:=by
    have:=hk.length;rw [Array.length_toList,List.length_map] at this;exact this
  have Ot:(keys.zip (ps.map Value.ref).toArray).size=ps.length:=by rw [Array.size_zip,hl,List.size_toArray,List.length_map,Nat.min_self]
  have step:∀ t:Sem PySem.Fin,wpAny (model X.prog X.w) A t P E s→wpAny (model X.prog X.w) A (if b=true then (do let _ ← rule "list.sort.reverse";t) else t) P E s:=by
    intro t ht;split
    · exact wpAny_bind (wpAny_rule ht)
    · exact ht
  have t_:(if b=true then (keys.zip (ps.map Value.ref).toArray).reverse else keys.zip (ps.map Value.ref).toArray).Perm (keys.zip (ps.map Value.ref).toArray):=by
    cases b with
    | false=>exact Array.Perm.refl _
    | true=>exact Array.perm_iff_toList_perm.mpr (by rw [if_pos rfl,Array.toList_reverse];exact List.reverse_perm _)
  unfold ksk_end;dsimp only;refine step _ ?_
  by_cases h2:(ps.map Value.ref).toArray.size < 2
  · rw [if_pos h2,if_pos h2];refine wpAny_bind (wpAny_pure ?_);rw [StateT.run_pure];refine wpAny_bind (wpAny_pure ?_);dsimp only;refine vm (st:=SortSt.mk' general' (if b=true then (keys.zip (ps.map Value.ref).toArray).reverse else keys.zip (ps.map Value.ref).toArray) #[] 7 none) I F1 F2 Ep hk hz t_ ?_ rfl h;intro i j kJ hj;have Rw:j < (if b=true then (keys.zip (ps.map Value.ref).toArray).reverse else keys.zip (ps.map Value.ref).toArray).size:=hj;rw [t_.size_eq,Ot] at Rw;rw [List.size_toArray,List.length_map] at h2;have:i=j:=by lia
    subst this;exact Int.le_refl _
  · rw [if_neg h2,if_neg h2];rw [List.size_toArray,List.length_map] at h2;rw [ksk_kind hk (by rw [hl];lia)];refine wpAny_bind (wpAny_pure ?_);have C:qZ.jw X.prog X.w A s oneType' (qZ.g7 ltI) (keys.zip (ps.map Value.ref).toArray):=λ p q hp hq E Q hQ=>by
      rw [ksk_zip] at hp hq;obtain ⟨x,x2⟩:=p;obtain ⟨y,y2⟩:=q;obtain ⟨n,t,rfl⟩:=hk.all x (List.of_mem_zip hp).1;obtain ⟨n',t',rfl⟩:=hk.all y (List.of_mem_zip hq).1;rw [keyLt'_oneType];exact oneLt_int hQ
    refine wpAny_bind (wpAny_mono (qZ.kB (st:=SortSt.mk' oneType' (if b=true then (keys.zip (ps.map Value.ref).toArray).reverse else keys.zip (ps.map Value.ref).toArray) #[] 7 none) (a₀:=keys.zip (ps.map Value.ref).toArray)
      (Q:=λ _ aE=>(arrOf aE).toList.Perm (keys.zip (ps.map Value.ref).toArray).toList∧failedOf aE=none∧qZ.Up (qZ.g7 ltI) (arrOf aE) 0 (keys.zip (ps.map Value.ref).toArray).size) (qZ.i7 pW) C ⟨Array.perm_iff_toList_perm.mp t_,rfl,rfl⟩ rfl (by rw [Ot];lia) λ aE a1 a2 a3=>⟨a1,a2,a3⟩) ?_ λ _ _ e=>e)
    rintro ⟨⟨⟩,aE⟩ s' ⟨rfl,hp,hf,hu⟩;dsimp only;have E6:=Array.perm_iff_toList_perm.mpr hp;exact vm I F1 F2 Ep hk hz E6 (wM E6.size_eq.symm hu) hf h
theorem Bp {f:Value} (I:Inv X (pins ++ [(kS,seqObj "list" #[] 0),(a,seqObj "list" #[] e1)]) σ H s) (F1:dO X pins H kS) (F2:dO X pins H a) (Ep:kS≠a) (hz:ps.length≤100000)
    (turn:∀ x∈ps,∀ d9 s',Inv X d9 σ H s'→wpAny (model X.prog X.w) A (call f [.ref x]) (EP X d9 σ λ v H'=>v = .int (key x)∧H'=H) (λ _ _=>False) s')
    (h:∀ (s':Shared) (qs:List Addr),qs.Perm ps→qs.Pairwise (λ x y=>if b then key y≤key x else key x≤key y)→Inv X pins σ (upd H a (.lst (qs.map V.ref))) s'→P (.done (.ret .none)) s') :
    wpAny (model X.prog X.w) A (ksk_rest a f b (ps.map Value.ref).toArray e1 (.ref kS)) P E s:=by
  unfold ksk_rest;refine wpAny_bind (wpAny_rule ?_)
  first
    | rw [List.forIn_toArray]
    | (rw [← Array.forIn_toList];simp only [List.toList_toArray])
    | rw [← Array.forIn_toList]
  refine wpAny_bind (ksk_fold (λ i s'=>∃ kA e,Inv X (pins ++ [(kS,seqObj "list" kA e),(a,seqObj "list" #[] e1)]) σ H s'∧IntsAre kA.toList ((ps.map key).take i)) (ps.map Value.ref) 0 s ⟨#[],0,I,by simpa using IntsAre.nil⟩ ?step ?done)
  case step =>
    rintro j x s' hx ⟨kA,e,I',hk⟩;simp only [Nat.zero_add] at hk ⊢;rw [List.getElem?_map] at hx;obtain ⟨y,hy,rfl⟩:∃ y,ps[j]?=some y∧Value.ref y=x:=by
      cases q:ps[j]? with
      | none=>rw [q] at hx;cases hx
      | some y=>rw [q] at hx;cases hx;exact ⟨y,rfl,rfl⟩
    have hj:j < ps.length:=(List.getElem?_eq_some_iff.mp hy).1;have iK:kA.size≤ps.length:=by
      have h1:=hk.length;rw [Array.length_toList,List.length_take,List.length_map] at h1
      lia
    refine wpAny_bind (wpAny_attempt (wpAny_mono (turn y (List.mem_of_getElem? hy) _ s' I') (λ u Am he=>?_) λ _ _ hF=>hF.elim));obtain ⟨v,H',I2,r,rfl,rfl⟩:=he;obtain ⟨t,rfl⟩:=r;dsimp only;have nk:=I2.pin (kS,seqObj "list" kA e) (by simp);have na:=I2.pin (a,seqObj "list" #[] e1) (by simp);have ek:(ps.map key).take (j + 1)=(ps.map key).take j ++ [key y]:=by rw [List.take_add_one,List.getElem?_map,hy];rfl
    have ea:(kA.push (Value.int (key y) t)).toList=kA.toList ++ [Value.int (key y) t]:=by simp
    refine wpAny_bind (listUpdate_at nk.1 rfl ?_ (by rw [sizeLine_eq];lia) (Nat.le_trans (Nat.le_of_eq (Array.size_push ..)) (by rw [sizeLine_eq];lia)));obtain ⟨c2,y6⟩:∃ c2,(Am.heap.update kS (Obj.mapSeq (·.push (.int (key y) t)))).get? kS=some (seqObj "list" (kA.push (.int (key y) t)) c2):=⟨_,get?_update_seq nk.1 (·.push (.int (key y) t))⟩;have I3:=I2.d_.vk (t':=Am.toks) F1 (h':=Am.heap.update kS (Obj.mapSeq (·.push (.int (key y) t)))) λ b o hb e=>by rw [Heap.get?_update_ne _ _ _ _ hb];exact e
    refine wpAny_pure ⟨rfl,kA.push (.int (key y) t),c2,I3.HS F1 F2 y6 (by show (Am.heap.update kS _).get? a=_;rw [Heap.get?_update_ne _ _ _ _ Ep.symm];exact na.1) (λ v z=>nomatch z) (λ v z=>nomatch z),by rw [ea,ek];exact ksk_snoc hk⟩
  case done =>
    rintro s' ⟨kA,e,I',hk⟩;have e3:(ps.map key).take (0 + (ps.map Value.ref).length)=ps.map key:=List.take_of_length_le (by rw [List.length_map,List.length_map];lia);rw [e3] at hk;have nk:=I'.pin (kS,seqObj "list" kA e) (by simp);refine wpAny_bind (listItems_at nk.1 rfl ?_);exact Er I' F1 F2 Ep hk hz h
theorem Bq {f:Value} {n:Nat} (I:Inv X pins σ H s) (F2:dO X pins H a) (ho:s.heap.get? a=some (seqObj "list" (ps.map Value.ref).toArray n)) (hz:ps.length≤100000)
    (turn:∀ x∈ps,∀ d9 s',Inv X d9 σ H s'→wpAny (model X.prog X.w) A (call f [.ref x]) (EP X d9 σ λ v H'=>v = .int (key x)∧H'=H) (λ _ _=>False) s')
    (h:∀ (s':Shared) (qs:List Addr),qs.Perm ps→qs.Pairwise (λ x y=>if b then key y≤key x else key x≤key y)→Inv X pins σ (upd H a (.lst (qs.map V.ref))) s'→P (.done (.ret .none)) s') :
    wpAny (model X.prog X.w) A (ksk_tree a f b) P E s:=by
  have ha:a < s.heap.objs.size:=Heap.lt_size ho;obtain ⟨e1,Ou⟩:∃ e1,(s.heap.update a (Obj.mapSeq λ _=>(#[]:Array Value))).get? a=some (seqObj "list" #[] e1):=⟨_,get?_update_seq ho λ _=>#[]⟩;have Ov:((s.heap.update a (Obj.mapSeq λ _=>(#[]:Array Value))).push (seqObj "tuple" (ps.map Value.ref).toArray 0)).objs.size=s.heap.objs.size + 1:=by rw [size_push',Heap.size_update]
  unfold ksk_tree;refine wpAny_bind (listItems_at ho rfl ?_);refine wpAny_bind (listUpdate_at ho rfl ?_ (by rw [List.size_toArray,List.length_map,sizeLine_eq];lia) (Nat.zero_le _));refine wpAny_bind (seqEpoch_at Ou rfl ?_);refine wpAny_bind (wpAny_newTuple ?_ (by show (ps.map Value.ref).length≤_;rw [List.length_map,sizeLine_eq];lia));refine wpAny_bind (wpAny_newList ?_ (Nat.zero_le _));refine wpAny_holding ?_;have I1:=I.vk (t':=s.toks) F2 (h':=s.heap.update a (Obj.mapSeq λ _=>(#[]:Array Value))) λ b o hb e=>by rw [Heap.get?_update_ne _ _ _ _ hb];exact e
  have I2:=I1.kept (t':=s.toks) (h':=((s.heap.update a (Obj.mapSeq λ _=>(#[]:Array Value))).push (seqObj "tuple" (ps.map Value.ref).toArray 0)).push (seqObj "list" #[] 0)) λ b u e=>Heap.get?_push_of_some _ (Heap.get?_push_of_some _ e);have F1:dO X pins H (((s.heap.update a (Obj.mapSeq λ _=>(#[]:Array Value))).push (seqObj "tuple" (ps.map Value.ref).toArray 0)).objs.size):=by
    rw [Ov];exact I.mY (Nat.le_succ _) (I.bH.fresh (Nat.le_succ _))
  refine Bp (s:={ s with heap:=((s.heap.update a (Obj.mapSeq λ _=>(#[]:Array Value))).push (seqObj "tuple" (ps.map Value.ref).toArray 0)).push (seqObj "list" #[] 0) })
    (I2.HS F1 F2 (Heap.get?_push_size _ rfl) (Heap.get?_push_of_some _ (Heap.get?_push_of_some _ Ou)) (λ v z=>nomatch z) (λ v z=>nomatch z)) F1 F2 (by rw [Ov];exact Nat.ne_of_gt (Nat.lt_succ_of_lt ha)) hz turn h
theorem oy {f:Value} {l:Addr} {kw:List (Str×Value)} {Q:VK} (I:Inv X pins σ H s) (hl:s.heap.IsList l (ps.map Value.ref).toArray) (hz:ps.length≤100000)
    (Fp:argsOk "sorted" ⟨[.ref l],kw⟩) (Fs:∀ x,argsOk "list.sort" ⟨[.ref x],kw⟩) (ht:∀ x,Builtin.«list.sort» ⟨[.ref x],kw⟩=ksk_tree x f b)
    (turn:∀ x∈ps,∀ d9 s',Inv X d9 σ H s'→wpAny (model X.prog X.w) X.A.in1.in1 (call f [.ref x]) (EP X d9 σ λ v H'=>v = .int (key x)∧H'=H) (λ _ _=>False) s')
    (h:∀ qs:List Addr,qs.Perm ps→qs.Pairwise (λ x y=>if b then key y≤key x else key x≤key y)→∀ a,H a=none→Q (.ref a) (upd H a (.lst (qs.map V.ref)))) :
    wpAny (model X.prog X.w) X.A (call (.builtin "sorted") [.ref l] kw) (EP X pins σ Q) X.xe s:=by
  have y7:(ps.map Value.ref).length≤sizeLine:=by rw [List.length_map,sizeLine_eq];lia
  refine call_function_entry_kw kind_sorted plain_sorted entry_sorted Fp ?_;unfold Builtin.«sorted»;refine wpAny_bind (m:=checkCount "sorted" 1 1 _) (wpAny_pure ?_);refine wpAny_bind (collect_list hl ?_ y7);refine wpAny_bind (wpAny_newList ?_ y7);have iK:((s.heap.push (seqObj "list" #[] 0)).update s.heap.objs.size (Obj.mapSeq (· ++ (ps.map Value.ref).toArray))).objs.size=s.heap.objs.size + 1:=by
    rw [Heap.size_update,size_push']
  have Jl:(((s.heap.push (seqObj "list" #[] 0)).update s.heap.objs.size (Obj.mapSeq (· ++ (ps.map Value.ref).toArray))).push (seqObj "list" (ps.map Value.ref).toArray 0)).get? (s.heap.objs.size + 1)=some (seqObj "list" (ps.map Value.ref).toArray 0):=by
    rw [← iK];exact Heap.get?_push_size _ rfl
  have keep:∀ b o,s.heap.get? b=some o→(((s.heap.push (seqObj "list" #[] 0)).update s.heap.objs.size (Obj.mapSeq (· ++ (ps.map Value.ref).toArray))).push (seqObj "list" (ps.map Value.ref).toArray 0)).get? b=some o:=λ b o q=>by
    have dg:b < s.heap.objs.size:=Heap.lt_size q;rw [Heap.get?_push_ne _ _ _ (by rw [iK];exact Nat.ne_of_lt (Nat.lt_succ_of_lt dg)),Heap.get?_update_ne _ _ _ _ (Nat.ne_of_lt dg),Heap.get?_push_ne _ _ _ (Nat.ne_of_lt dg)];exact q
  show wpAny _ _ _ _ _ { s with heap:=((s.heap.push (seqObj "list" #[] 0)).update s.heap.objs.size (Obj.mapSeq (· ++ (ps.map Value.ref).toArray))).push (seqObj "list" (ps.map Value.ref).toArray 0) };rw [iK];have I1:=I.kept (t':=s.toks) keep;have hf:H (s.heap.objs.size + 1)=none:=I.bH.fresh (Nat.le_succ _);refine wpAny_bind (wpAny_holding (wpAny_call_entry_kw slot_list_sort ⟨_,Jl,rfl⟩ entry_list_sort ?body (Fs _)))
  case body =>
    have Jy:=ht (s.heap.objs.size + 1);show wpAny (model X.prog X.w) X.A.in1.in1 (Builtin.«list.sort» ⟨[.ref (s.heap.objs.size + 1)],kw⟩) _ _ _;rw [Jy];refine Bq (s:={ s with heap:=((s.heap.push (seqObj "list" #[] 0)).update s.heap.objs.size (Obj.mapSeq (· ++ (ps.map Value.ref).toArray))).push (seqObj "list" (ps.map Value.ref).toArray 0) })
      I1 (I.mY (Nat.le_succ _) hf) Jl hz turn λ s' qs hq hP I2=>⟨_,rfl,?_⟩
    exact wpAny_pure ⟨_,rfl,.ref (s.heap.objs.size + 1),_,I2,rfl,h qs hq hP _ hf⟩
end
section
variable {X:Cx} {k:Nat} {qual x:Str} {params:Arguments} {body:Expr} {scope:Scope} {tb:TE}
noncomputable def uc (K:PySem.W.Frag) (qual:Str) (params:Arguments) (body:Expr) (scope:Scope) (tb:TE) (b:Bool) (rest:List V):List V→List V→Hp→VK→Prop:=λ xs zs H Q =>
  ∃ (p f:Addr) (ps:List Addr) (key:Addr→Int),xs=[.ref p]∧zs = .ref f :: rest∧aJ K H p (ps.map V.ref)∧ps.length≤100000∧rD H f qual params body scope∧(∀ a∈ps,tb [some (.ref a)] H λ v H'=>v = .int (key a)∧H'=H) ∧
    ∀ qs:List Addr,qs.Perm ps→qs.Pairwise (λ x y=>if b then key y≤key x else key x≤key y)→∀ a,H a=none→Q (.ref a) (upd H a (.lst (qs.map V.ref)))
theorem rE {f:Addr} {H:Hp} {σ:St} {Q:VK} (hr:bc (k + 3) X.A) (S:az [x] [x] scope) (hb:∀ (pm cv mT u:Value),bindArgs (PySem.W.kla_fn "<lambda>" qual params body scope [] pm cv mT) ⟨[u],[]⟩=pure [(x,u)])
    (cS:∀ (f:Addr) (bM:Value) (A:Around) (outer:List Env) (s:Shared) (H:Hp),PE (gm bN X.prog X.w X.K X.mg X.base [x] qual scope f bM A outer s H E0) body tb) (L:rD H f qual params body scope) {a:Addr} (h:tb [some (.ref a)] H Q) :
    ∀ d9 s',Inv X d9 σ H s'→wpAny (model X.prog X.w) X.A.in1.in1 (call (.ref f) [.ref a]) (EP X d9 σ Q) (λ _ _=>False) s':=by
  intro d9 s' I;refine wpAny_call (codeAny_mono (y4 (k:=k) (v:=.ref a) (bc.in1 (bc.in1 hr)) I.Dx.in1.in1 L S rfl (λ pm cv mT=>hb pm cv mT _) (λ bM=>cS f bM _ _ _ _) h) λ r s2 hq=>?_);cases r with
  | error e=>exact hq
  | ok fl =>
    cases fl with
    | ret u=>exact I.after hq
    | next=>exact False.elim hq
    | brk=>exact False.elim hq
    | cont=>exact False.elim hq
theorem ud (hr:bc (k + 3) X.A) (S:az [x] [x] scope) (hb:∀ (pm cv mT u:Value),bindArgs (PySem.W.kla_fn "<lambda>" qual params body scope [] pm cv mT) ⟨[u],[]⟩=pure [(x,u)])
    (cS:∀ (f:Addr) (bM:Value) (A:Around) (outer:List Env) (s:Shared) (H:Hp),PE (gm bN X.prog X.w X.K X.mg X.base [x] qual scope f bM A outer s H E0) body tb) :
    pZ X (.builtin "sorted") [Str.ofString "key"] (uc X.K qual params body scope tb false []):=by
  intro pins s σ H xs zs us ws Q I r rz h;obtain ⟨p,f,ps,key,rfl,rfl,hl,hz,L,ht,q⟩:=h;obtain ⟨u,rfl,ru⟩:=vals1 r;cases ru;obtain ⟨fv,rfl,rf⟩:=vals1 rz;cases rf;obtain ⟨its,rv,pl,_⟩:=I.list hl;have ei:=j5 rv;subst ei;exact oy (b:=false) (key:=key) I pl.isList hz (ksk_s1 _ _) (λ x=>ksk_l1 _ _) (λ x=>ksk_t1 _ _) (λ a ha=>rE hr S hb cS L (ht a ha)) q
theorem rF {b:Bool} (hr:bc (k + 3) X.A) (S:az [x] [x] scope) (hb:∀ (pm cv mT u:Value),bindArgs (PySem.W.kla_fn "<lambda>" qual params body scope [] pm cv mT) ⟨[u],[]⟩=pure [(x,u)])
    (cS:∀ (f:Addr) (bM:Value) (A:Around) (outer:List Env) (s:Shared) (H:Hp),PE (gm bN X.prog X.w X.K X.mg X.base [x] qual scope f bM A outer s H E0) body tb) :
    pZ X (.builtin "sorted") [Str.ofString "key",Str.ofString "reverse"] (uc X.K qual params body scope tb b [.bl b]):=by
  intro pins s σ H xs zs us ws Q I r rz h;obtain ⟨p,f,ps,key,rfl,rfl,hl,hz,L,ht,q⟩:=h;obtain ⟨u,rfl,ru⟩:=vals1 r;cases ru;cases rz with
  | cons rf rz =>
    obtain ⟨bv,rfl,rb⟩:=vals1 rz;cases rf;cases rb;obtain ⟨its,rv,pl,_⟩:=I.list hl;have ei:=j5 rv;subst ei;exact oy (b:=b) (key:=key) I pl.isList hz (ksk_s2 _ _ _) (λ x=>ksk_l2 _ _ _) (λ x=>ksk_t2 _ _ _) (λ a ha=>rE hr S hb cS L (ht a ha)) q
end
end L2
set_option maxHeartbeats 1000000
namespace Ow
open PySem PyProof.Rows
theorem p6:typeLookup (.type "list") "keys"=pure none:=by rw [typeLookup_type,builtinLookup_eq_fast];kernel_rfl
section
variable {prog:Program} {w:World} {A:Around} {E:Value→Shared→Prop} {s:Shared}
theorem Br {a:Addr} {xs:Array Value} {n:Nat} {Q:Option Value→Shared→Prop} (hx:s.heap.get? a=some (seqObj "list" xs n)) (hA:A.handled=none)
    (h:∀ h' tk,(∀ b o,s.heap.get? b=some o→h'.get? b=some o)→Q none { s with heap:=h',toks:=tk }):wpAny (model prog w) A (getAttr? (.ref a) "keys") Q E s:=by
  obtain ⟨hp,g,d,tk,os⟩:=s;have hT:∀ JF,(⟨hp,g,d,JF,os⟩:Shared).TypeIs (.ref a) "list":=λ _=>⟨_,hx,rfl⟩;have f1:=sub_AttributeError;have f3:=F.slot_list_getattribute.lookup;have f4:=F.slot_list_getattribute.bind (.ref a);have f5:=am_list_getattr_none;unfold getAttr? getAttrBy? getAttrBy
  repeat (any_goals (first | assumption | exact hT _ | ((with_reducible show wpAny _ _ (call (Value.builtin "list.__getattribute__") _ _) _ _ _);refine call_meets F.slot_list_getattribute (hT _) am_entry_list_getattribute (F.args_list_getattribute_2 _ _) (meets_getattribute_miss_list a xs n #[] "keys" _ p6 (by decide +kernel) (by size_fits)) ⟨hx,hA,λ h' JF e vZ=>?_⟩) | wp_step))
  obtain ⟨t',u',he⟩:=vZ.there;show wpAny _ _ (getattributeRaised _ _ _ _ _ _ _) _ _ _;unfold getattributeRaised
  repeat (any_goals (first | assumption | wp_step))
  all_goals exact h _ _ vZ.keeps
theorem mq:entryFor table "dict.update.loop"=some Builtin.«dict.update.loop»:=entryFor_of_tree (by kernel_rfl)
theorem fQ:plainId "dict.update.loop"=true:=by decide +kernel
variable {K:Type} [DecidableEq K] {knd:KeyKind prog w K}
noncomputable def putAll (bE:List (K×Value)) (ps:List (K×Value)):List (K×Value):=ps.foldl (λ acc kv=>stored acc kv.1 kv.2) bE
theorem y8 {d it l:Addr} {items:Array Value} {ps:List (K×Value)} {R:Result→Shared→Prop} (hA:A.handled=none) (LM:d≠it) (Fu:d≠l) (Rx:it≠l) (hlen:ps.length=items.size) (hz:items.size≤100000)
    : ∀ (m i:Nat) (t:Tok) (s:Shared) (bE:List (K×Value)),items.size - i=m→i≤items.size→bE.length≤i→s.heap.IsListIter it l i→s.heap.IsList l items→s.heap.DictOf knd d bE →
    (∀ (j:Nat) (kv:K×Value),ps[j]?=some kv→∃ p key,items[j]?=some (.ref p)∧p≠d∧p≠it∧s.heap.IsTuple p #[key,kv.2]∧knd.is kv.1 key=true) →
    (∀ h' tk,h'.DictOf knd d (putAll bE (ps.drop i))→(∀ b o,b≠d→b≠it→s.heap.get? b=some o→h'.get? b=some o)→R (.ok (.ret .none)) { s with heap:=h',toks:=tk }) →
    codeAny (model prog w) A (.builtin "dict.update.loop" ⟨[.ref d,.ref it,.int i t,.none],[]⟩) R s:=by
  intro m
  induction m with
  | zero =>
    intro i t s bE hm hi hk hit hl hd HU hR;refine codeAny_builtin mq ?_;rw [Around.under_plainId fQ _];show wpAny _ A.in1 (pyNext (.ref it) >>= _) _ _ s;refine wpAny_bind (wpAny_pyNext_list_end (A:=A.in1) hA hit hl (by simp;lia) λ h' hx=>?_);refine wpAny_bind (m:=Builtin.Dict.addKeywords d []) (wpAny_pure (wpAny_pure ?_));have e:ps.drop i=[]:=List.drop_eq_nil_of_le (by lia);rw [e] at hR;exact hR h' s.toks (hd.extBut hx LM) λ b o _ hb e=>hx b o hb e
  | succ m ih =>
    intro i t s bE hm hi hk hit hl hd HU hR;refine codeAny_builtin mq ?_;rw [Around.under_plainId fQ _];show wpAny _ A.in1 (pyNext (.ref it) >>= _) _ _ s;have dG:i < items.size:=by lia
    refine wpAny_bind (wpAny_pyNext_list_item (A:=A.in1) hit hl (Array.getElem?_eq_getElem dG) λ h' LN hs=>?_);have Ox:i < ps.length:=by lia
    obtain ⟨p,key,e1,UT,Ry,tup,pk⟩:=HU i ps[i] (List.getElem?_eq_getElem Ox);rw [Array.getElem?_eq_getElem dG] at e1;rw [Option.some.inj e1];have LO:h'.IsTuple p #[key,ps[i].2]:=by
      obtain ⟨o,ho,r⟩:=tup;exact ⟨o,by rw [hs.2 p Ry];exact ho,r⟩
    obtain ⟨o,ho,hc,n,LP⟩:=id LO;refine wpAny_bind (wpAny_holding (wpAny_bind (wpAny_tryCatch ?_)));unfold Builtin.Dict.pairItems;refine wpAny_bind (wpAny_typeOf (T:="tuple") ⟨o,ho,hc⟩ ?_);rw [if_pos (by decide)];refine wpAny_bind ?_;unfold seqItems?;refine wpAny_bind (wpAny_load ho ?_);rw [LP];refine wpAny_pure (wpAny_pure ?_);show wpAny _ _ (holding [key,ps[i].2] (dictSet d key ps[i].2)) _ _ _;have vX:h'.DictOf knd d bE:=hd.sameBut hs LM;refine wpAny_holding (wpAny_dictSet_pairs pk vX (λ h2 hd2 kL=>?_) (by rw [sizeLine_eq];lia));refine wpAny_pure ⟨plainId_quiet fQ _,?_⟩;have keep:∀ b o,b≠d→b≠it→s.heap.get? b=some o→h2.get? b=some o:=λ b o n1 n2 e=>by rw [kL.2 b n1,hs.2 b n2];exact e
    have LQ:h2.IsListIter it l (i + 1):=by
      obtain ⟨oi,g1,g2⟩:=LN;exact ⟨oi,by rw [kL.2 it LM.symm];exact g1,g2⟩
    have iM:h2.IsList l items:=by
      obtain ⟨ol,g1,g2⟩:=hl;exact ⟨ol,keep l ol Fu.symm Rx.symm g1,g2⟩
    have qy:(stored bE ps[i].1 ps[i].2).length≤i + 1:=by
      have:(stored bE ps[i].1 ps[i].2).length≤bE.length + 1:=by
        unfold stored;split<;>simp
      lia
    refine ih (i + 1) _ { s with heap:=h2,toks:=s.toks + 1 } (stored bE ps[i].1 ps[i].2) (by lia) (by lia) qy LQ iM hd2 (λ j kv ej=>?_) λ h3 tk Bk k3=>?_
    · obtain ⟨p',LR,f1,f2,f3,f4,f5⟩:=HU j kv ej;refine ⟨p',LR,f1,f2,f3,?_,f5⟩;obtain ⟨o',g1,g2⟩:=f4;exact ⟨o',keep p' o' f2 f3 g1,g2⟩
    · refine hR h3 tk ?_ λ b o n1 n2 e=>k3 b o n1 n2 (keep b o n1 n2 e);rw [← List.getElem_cons_drop Ox];exact Bk
theorem wN {l:Addr} {items:Array Value} {n:Nat} {ps:List (K×Value)} {Q:Value→Shared→Prop} (hA:A.handled=none) (hl:s.heap.get? l=some (seqObj "list" items n)) (hlen:ps.length=items.size) (hz:items.size≤100000)
    (HU:∀ (j:Nat) (kv:K×Value),ps[j]?=some kv→∃ p key,items[j]?=some (.ref p)∧s.heap.IsTuple p #[key,kv.2]∧knd.is kv.1 key=true)
    (h:∀ h' tk,h'.DictOf knd s.heap.objs.size (putAll [] ps)→(∀ b o,s.heap.get? b=some o→h'.get? b=some o)→Q (.ref s.heap.objs.size) { s with heap:=h',toks:=tk }) :
    wpAny (model prog w) A (call (.type "dict") [.ref l]) Q E s:=by
  refine callType_codes (Q₁:=λ obj s₁=>obj = .ref s.heap.objs.size∧s₁ = { s with heap:=s.heap.push { cls:=.type "dict",data:=.dict #[] } }) F.kt_called_dict (F.kt_typeCall_dict_1 _) F.entry_dict_init (kt_code_dict_new _ ⟨rfl,rfl⟩) ?_;rintro obj s₁ ⟨rfl,rfl⟩;have yn:(s.heap.push { cls:=.type "dict",data:=.dict #[] }).DictOf knd s.heap.objs.size []:=Heap.DictOf.new s.heap;have pQ:(s.heap.push { cls:=.type "dict",data:=.dict #[] }).get? l=some (seqObj "list" items n):=Heap.get?_push_of_some _ hl;refine ⟨yn.typeIs,F.args_dict_init_2 _ _,?_⟩;unfold Builtin.«dict.__init__»;refine wpAny_bind ?_;unfold Builtin.Dict.selfAndRest;refine wpAny_bind (wpAny_notOrdered_dict yn.typeIs ?_);show wpAny _ _ (pure (s.heap.objs.size,[Value.ref l])) _ _ _;refine wpAny_pure ?_;show wpAny _ _ (Builtin.Dict.updateFrom "dict.__init__" s.heap.objs.size (.ref l) [] .none) _ _ _;unfold Builtin.Dict.updateFrom;refine wpAny_bind (wpAny_typeOf (T:="list") ⟨_,pQ,rfl⟩ ?_);rw [if_pos (by decide)];refine wpAny_bind (Br pQ (by exact hA) λ h2 En k2=>?_);rw [if_pos (by rfl)];refine wpAny_bind (wpAny_rule ?_);have kk:∀ b o,s.heap.get? b=some o→h2.get? b=some o:=λ b o e=>k2 b o (Heap.get?_push_of_some _ e);have iM:h2.IsList l items:=⟨_,kk l _ hl,rfl,n,rfl⟩;have hd2:h2.DictOf knd s.heap.objs.size []:=by
    obtain ⟨o,es,ep,g1,g2⟩:=yn;exact ⟨o,es,ep,k2 _ _ g1,g2⟩
  have dg:l < s.heap.objs.size:=Heap.lt_size hl;have Fu:s.heap.objs.size < h2.objs.size:=by
    obtain ⟨o,es,ep,g1,_⟩:=hd2;exact Heap.lt_size g1
  refine wpAny_bind (wpAny_pyIter_list iM ?_);refine wpAny_pure ⟨plainId_quiet fQ _,?_⟩;refine y8 (A:=A.in1) (d:=s.heap.objs.size) (it:=h2.objs.size) (l:=l) (items:=items) (ps:=ps) hA (Nat.ne_of_lt Fu) (Nat.ne_of_gt dg) (Nat.ne_of_gt (Nat.lt_trans dg Fu)) hlen hz items.size 0 _ _ [] (by lia) (by lia) (Nat.le_refl _) ⟨_,Heap.get?_push_size _ rfl,rfl,rfl⟩ ?_ (hd2.push _) (λ j kv e=>?_) λ h' tk vX k'=>?_
  · obtain ⟨o,g1,g2⟩:=iM;exact ⟨o,Heap.get?_push_of_some _ g1,g2⟩
  · obtain ⟨p,key,e1,tup,hk⟩:=HU j kv e;obtain ⟨o,g1,g2⟩:=tup;have hp:=Heap.lt_size g1;exact ⟨p,key,e1,Nat.ne_of_lt hp,Nat.ne_of_lt (Nat.lt_trans hp Fu),⟨o,Heap.get?_push_of_some _ (kk p o g1),g2⟩,hk⟩
  · refine ⟨rfl,h h' tk vX λ b o e=>?_⟩;have hb:=Heap.lt_size e;exact k' b o (Nat.ne_of_lt hb) (Nat.ne_of_lt (Nat.lt_trans hb Fu)) (Heap.get?_push_of_some _ (kk b o e))
end
end Ow
set_option maxHeartbeats 400000
namespace L2
open PySem PySem.Spec PyProof.Rows
section
variable {X:Cx}
theorem oz {pins:List (Addr×Obj)} {σ:St} {H:Hp} {s:Shared} (I:Inv X pins σ H s):∀ {ps:List (Key×V)} {vs:List V} {its:List Value},Vals vs its→ps.length=vs.length→(∀ (j:Nat) (kv:Key×V),ps[j]?=some kv→∃ p,vs[j]?=some (.ref p)∧H p=some (.tup [kV kv.1,kv.2])) →
    ∃ rs:List (Key×Value),KV ps rs∧rs.length=its.length∧∀ (j:Nat) (kv:Key×Value),rs[j]?=some kv→∃ p key,its[j]?=some (.ref p)∧s.heap.IsTuple p #[key,kv.2]∧(cE X.prog X.w).is kv.1 key=true
  | [],[],_,r,_,_=>by cases r;exact ⟨[],.nil,rfl,λ j kv e=>by simp at e⟩
  | [],_ :: _,_,_,h,_=>by simp at h
  | _ :: _,[],_,_,h,_=>by simp at h
  | kv :: ps,v :: vs,_,r,hlen,hp=>by
    cases r with
    | @cons _ u _ us h t =>
      obtain ⟨rs,q1,q2,q3⟩:=oz I t (by simpa using hlen) λ j JM e=>by
        have:=hp (j + 1) JM (by simpa using e);simpa using this
      obtain ⟨p,e1,e2⟩:=hp 0 kv rfl;have ev:v = .ref p:=Option.some.inj e1;subst ev;have eu:u = .ref p:=h;subst eu;obtain ⟨ws,nJ,⟨o,g1,g2,n,g3⟩,_⟩:=I.tuple (b_.of (K:=X.K) e2);cases nJ with
      | @cons _ u1 _ w1 r1 t1 =>
        cases t1 with
        | @cons _ u2 _ w2 r2 t2 =>
          cases t2;refine ⟨(kv.1,u2) :: rs,.cons ⟨rfl,r2⟩ q1,by simp [q2],λ j JM e=>?_⟩;cases j with
          | zero =>
            have e':(kv.1,u2)=JM:=by simpa using e
            subst e';exact ⟨p,u1,rfl,⟨o,g1,g2,n,by simpa using g3⟩,yr r1⟩
          | succ j=>exact q3 j JM (by simpa using e)
theorem ue (hc:X.calm=true):dW X (.type "dict") (λ xs H Q=>∃ (l:Addr) (vs:List V) (ps:List (Key×V)),xs=[.ref l]∧H l=some (.lst vs)∧ps.length=vs.length∧vs.length≤100000 ∧
    (∀ (j:Nat) (kv:Key×V),ps[j]?=some kv→∃ p,vs[j]?=some (.ref p)∧H p=some (.tup [kV kv.1,kv.2]))∧∀ a,H a=none→Q (.ref a) (upd H a (.dK (dP [] ps)))):=by
  intro pins s σ H xs us Q I r h;obtain ⟨l,vs,ps,rfl,hl,hlen,hz,hp,q⟩:=h;obtain ⟨u,rfl,ru⟩:=vals1 r;cases ru;obtain ⟨z,its,n,rv,Oy,hg⟩:=I.yl hl;obtain ⟨rs,q1,q2,q3⟩:=oz I rv hlen hp;refine Ow.wN (knd:=cE X.prog X.w) (ps:=rs) (I.ok.hd hc) hg (by simpa using q2) (by simp;lia) (λ j kv e=>?_) λ h' tk hd k=>?_
  · obtain ⟨p,key,f1,f2,f3⟩:=q3 j kv e;exact ⟨p,key,by simpa using f1,f2,f3⟩
  · have vX:h'.DictOf (cE X.prog X.w) s.heap.objs.size (merged [] rs):=hd;have Rz:=iN ps [];have I2:=I.laid (a:=s.heap.objs.size) (o:=.dK (dP [] ps)) (t':=tk) k (Nat.le_refl _) ⟨by rw [sizeLine_eq];simp at Rz;lia,by
      have:=I.big;simp;exact Nat.ne_of_gt this,merged [] rs,KV.merge q1 .nil,vX⟩
    exact ⟨.ref s.heap.objs.size,_,I2,rfl,q _ I.fresh⟩
end
end L2
namespace Ln
noncomputable def sm (f:Nat→Int):Nat→Int
  | 0=>0
  | n + 1=>sm f n + f n
theorem bG {f g:Nat→Int}:∀ {n:Nat},(∀ c,c < n→f c=g c)→sm f n=sm g n
  | 0,_=>rfl
  | n + 1,h=>by
    unfold sm;rw [bG λ c hc=>h c (by lia),h n (by lia)]
theorem uf {f g:Nat→Int} {c:Nat}:∀ {n:Nat},c < n→(∀ d,d < n→d≠c→f d=g d)→sm f n=sm g n + f c - g c
  | 0,h,_=>by lia
  | n + 1,h,hs=>by
    unfold sm
    by_cases e:c=n
    · subst e;rw [bG (f:=f) (g:=g) λ d hd=>hs d (by lia) (by lia)]
      lia
    · rw [uf (f:=f) (g:=g) (c:=c) (by lia) λ d hd p7=>hs d (by lia) p7,hs n (by lia) λ z=>e z.symm]
      lia
theorem p8 {f g:Nat→Int}:∀ {n:Nat},sm (λ c=>f c + g c) n=sm f n + sm g n
  | 0=>rfl
  | n + 1=>by
    unfold sm;rw [p8]
    lia
theorem fR {f:Nat→Int} {k:Int}:∀ {n:Nat},sm (λ c=>k * f c) n=k * sm f n
  | 0=>by unfold sm;lia
  | n + 1=>by
    unfold sm;rw [fR,Int.mul_add]
theorem eW:∀ {n:Nat},sm (λ _=>0) n=0
  | 0=>rfl
  | n + 1=>by
    unfold sm;rw [eW]
    lia
theorem k6 {f:Nat→Nat→Int} {m:Nat}:∀ {n:Nat},sm (λ c=>sm (f c) m) n=sm (λ i=>sm (λ c=>f c i) n) m
  | 0=>by
    show (0:Int)=sm (λ _=>0) m;rw [eW]
  | n + 1=>by
    show sm (λ c=>sm (f c) m) n + sm (f n) m=sm (λ i=>sm (λ c=>f c i) n + f n i) m;rw [k6,p8]
theorem kC {f g:Nat→Int}:∀ {n:Nat},(∀ c,c < n→f c≤g c)→sm f n≤sm g n
  | 0,_=>Int.le_refl _
  | n + 1,h=>by
    unfold sm;have h1:=kC (f:=f) (g:=g) (n:=n) λ c hc=>h c (by lia);have h2:=h n (by lia)
    lia
theorem vn (h:Nat→Int) (s e:Nat):∀ {m:Nat},s≤e→sm (λ i=>if s≤i∧i < e then h (i + 1) - h i else 0) m=h (min (max m s) e) - h s
  | 0,Oz=>by
    unfold sm;rw [show min (max 0 s) e=s by lia]
    lia
  | m + 1,Oz=>by
    unfold sm;rw [vn h s e Oz]
    by_cases c1:m < s
    · rw [if_neg (by lia),show min (max m s) e=s by lia,show min (max (m + 1) s) e=s by lia]
      lia
    · by_cases c2:m < e
      · rw [if_pos ⟨by lia,c2⟩,show min (max m s) e=m by lia,show min (max (m + 1) s) e=m + 1 by lia]
        lia
      · rw [if_neg (by lia),show min (max m s) e=e by lia,show min (max (m + 1) s) e=e by lia]
        lia
structure Net where
  N:Nat
  n:Nat
  s:Nat→Nat
  e:Nat→Nat
  w:Nat→Int
structure Net.Ok (G:Net):Prop where
  lt:∀ c,c < G.n→G.s c < G.e c
  le:∀ c,c < G.n→G.e c < G.N
  w:∀ c,c < G.n→0≤G.w c
noncomputable def one (b:Bool):Int:=if b then 1 else 0
noncomputable def Net.at (G:Net) (c i:Nat):Bool:=decide (G.s c≤i) && decide (i < G.e c)
noncomputable def Net.used (G:Net) (has:Nat→Bool) (i:Nat):Int:=sm (λ c=>one (has c && G.at c i)) G.n
inductive Move (G:Net) (has:Nat→Bool) (R:Int):Nat→Nat→Int→Option Nat→Prop where
  | idle (i:Nat) (h:i + 1 < G.N):Move G has R i (i + 1) 0 none
  | take (c:Nat) (h:c < G.n) (f:has c=false):Move G has R (G.s c) (G.e c) (G.w c) (some c)
  | fill (i:Nat) (h:i + 1 < G.N) (u:G.used has i < R):Move G has R (i + 1) i 0 none
  | give (c:Nat) (h:c < G.n) (f:has c=true):Move G has R (G.e c) (G.s c) (-(G.w c)) (some c)
noncomputable def ck (G:Net) (has:Nat→Bool) (R:Int) (h:Nat→Int):Prop:=∀ u v g k,Move G has R u v g k→h u + g≤h v
section
variable {G:Net} {has:Nat→Bool} {R:Int}
theorem Move.bounds (ok:G.Ok) {u v:Nat} {g:Int} {k:Option Nat} (m:Move G has R u v g k):u < G.N∧v < G.N∧u≠v:=by
  cases m with
  | idle i h=>lia
  | take c h f=>have:=ok.lt c h;have:=ok.le c h;lia
  | fill i h u=>lia
  | give c h f=>have:=ok.lt c h;have:=ok.le c h;lia
theorem oA (ok:G.Ok):ck G (λ _=>false) 0 λ i=>(i:Int) * sm G.w G.n:=by
  have nn:∀ {m:Nat},m≤G.n→0≤sm G.w m:=λ {m} hm=>by
    have:=kC (f:=λ _=>0) (g:=G.w) (n:=m) λ c hc=>ok.w c (by lia)
    rwa [eW] at this
  have big:∀ {m c:Nat},c < m→m≤G.n→G.w c≤sm G.w m:=by
    intro m
    induction m with
    | zero=>intro c hc;lia
    | succ m ih =>
      intro c hc hm;unfold sm;have h2:=ok.w m (by lia)
      by_cases e:c=m
      · subst e;have:=nn (m:=c) (by lia)
        lia
      · have:=ih (c:=c) (by lia) (by lia)
        lia
  intro u v g k m;have W:=nn (m:=G.n) (Nat.le_refl _);cases m with
  | idle _ h =>
    show (u:Int) * _ + 0≤((u + 1:Nat):Int) * _;rw [show ((u + 1:Nat):Int)=(u:Int) + 1 by lia,Int.add_mul]
    lia
  | take c h f =>
    have h1:=ok.lt c h;have h2:=big h (Nat.le_refl _);have h3:((G.s c:Int) + 1) * sm G.w G.n≤(G.e c:Int) * sm G.w G.n:=Int.mul_le_mul_of_nonneg_right (by lia) W;rw [Int.add_mul] at h3;show (G.s c:Int) * _ + G.w c≤(G.e c:Int) * _
    lia
  | fill _ h hu =>
    have:G.used (λ _=>false) v=0:=by
      unfold Net.used;rw [show (λ c=>one ((λ _=>false) c && G.at c v))=λ _=>0 from funext λ c=>rfl,eW]
    lia
  | give c h f=>cases f
inductive Reach (way:Nat→Nat×Option Nat):Nat→Nat→Prop where
  | zero:Reach way 0 0
  | step {v n:Nat} (h:0 < v) (r:Reach way (way v).1 n):Reach way v (n + 1)
theorem Reach.one {way:Nat→Nat×Option Nat} {v n m:Nat} (h:Reach way v n) (h':Reach way v m):n=m:=by
  induction h generalizing m with
  | zero=>cases h' with
    | zero=>rfl
    | step h r=>omega
  | step h r ih=>cases h' with
    | zero=>omega
    | step h2 r2=>rw [ih r2]
structure Cl (G:Net) (has:Nat→Bool) (R:Int) (p h:Nat→Int) (way:Nat→Nat×Option Nat):Prop where
  le:∀ v,v < G.N→h v≤p v
  ge:∀ v,v < G.N→0≤h v
  par:∀ v,0 < v→v < G.N→∃ g,Move G has R (way v).1 v g (way v).2∧h v≤h (way v).1 + g
  reach:∀ v,v < G.N→∃ n,Reach way v n
theorem Cl.start (ok:G.Ok) {p:Nat→Int} (hp:ck G has R p) (h0:p 0=0):Cl G has R p (λ _=>0) (λ v=>(v - 1,none)):=by
  have pos:∀ v,v < G.N→0≤p v:=by
    intro v
    induction v with
    | zero=>intro _;lia
    | succ v ih =>
      intro hv;have h1:=ih (by lia);have h2:=hp _ _ _ _ (.idle (has:=has) (R:=R) v hv)
      lia
  refine ⟨λ v hv=>pos v hv,λ v _=>Int.le_refl _,λ v h1 h2=>⟨0,?_,by simp⟩,λ v hv=>?_⟩
  · have:=Move.idle (G:=G) (has:=has) (R:=R) (v - 1) (by lia);rw [show v - 1 + 1=v by lia] at this;exact this
  · refine ⟨v,?_⟩;clear hv
    induction v with
    | zero=>exact .zero
    | succ v ih=>exact .step (by lia) (by simpa using ih)
noncomputable def b9 {α:Type} (f:Nat→α) (v:Nat) (x:α):Nat→α:=λ u=>if u=v then x else f u
theorem aT {α:Type} {f:Nat→α} {v:Nat} {x:α}:b9 f v x v=x:=by simp [b9]
theorem bf {α:Type} {f:Nat→α} {u v:Nat} {x:α} (h:u≠v):b9 f v x u=f u:=by simp [b9,h]
theorem Cl.raise (ok:G.Ok) {p h:Nat→Int} {way:Nat→Nat×Option Nat} (C:Cl G has R p h way) (hp:ck G has R p) (h0:p 0=0) {u v:Nat} {g:Int} {k:Option Nat} (m:Move G has R u v g k) (Ar:h v < h u + g) :
    Cl G has R p (b9 h v (h u + g)) (b9 way v (u,k)):=by
  obtain ⟨hu,hv,p7⟩:=m.bounds ok;have Fv:=hp _ _ _ _ m;have UU:=C.le u hu;have v0:v≠0:=λ z=>by
    subst z;have:=C.ge 0 hv
    lia
  have up:∀ x,h x≤b9 h v (h u + g) x:=λ x=>by
    by_cases e:x=v
    · subst e;rw [aT];lia
    · rw [bf e];exact Int.le_refl _
  have key:∀ {x n:Nat},x < G.N→Reach way x n→(∃ n,Reach (b9 way v (u,k)) x n)∨p v - h v≤p x - h x:=λ {x n} hx r=>by
    induction r with
    | zero=>exact .inl ⟨0,.zero⟩
    | @step y n hy r ih =>
      by_cases e:y=v
      · subst e;exact .inr (Int.le_refl _)
      · obtain ⟨g',m',RA⟩:=C.par y hy hx;rcases ih (m'.bounds ok).1 with ⟨n',r'⟩ | hs
        · refine .inl ⟨n' + 1,.step hy ?_⟩;rw [bf e];exact r'
        · have:=hp _ _ _ _ m';exact .inr (by lia)
  obtain ⟨nu,ru⟩:=C.reach u hu;have RB:∃ n,Reach (b9 way v (u,k)) u n:=by
    rcases key hu ru with r | hs
    · exact r
    · lia
  refine ⟨λ x hx=>?_,λ x hx=>?_,λ x h1 h2=>?_,λ x hx=>?_⟩
  · by_cases e:x=v
    · subst e;rw [aT];lia
    · rw [bf e];exact C.le x hx
  · have:=C.ge x hx;have:=up x
    lia
  · by_cases e:x=v
    · subst e;rw [aT,aT];refine ⟨g,m,?_⟩;rw [bf p7];exact Int.le_refl _
    · rw [bf e,bf e];obtain ⟨g',m',RA⟩:=C.par x h1 h2;exact ⟨g',m',by have:=up (way x).1;lia⟩
  · obtain ⟨n,r⟩:=C.reach x hx;clear hx
    induction r with
    | zero=>exact ⟨0,.zero⟩
    | @step y n hy r ih =>
      by_cases e:y=v
      · subst e;obtain ⟨n',r'⟩:=RB;exact ⟨n' + 1,.step hy (by rw [aT];exact r')⟩
      · obtain ⟨n',r'⟩:=ih;exact ⟨n' + 1,.step hy (by rw [bf e];exact r')⟩
theorem Cl.zero {p h:Nat→Int} {way:Nat→Nat×Option Nat} (C:Cl G has R p h way) (h0:p 0=0) (hN:0 < G.N):h 0=0:=by
  have:=C.le 0 hN;have:=C.ge 0 hN
  lia
theorem Cl.Cz {p h:Nat→Int} {way:Nat→Nat×Option Nat} (C:Cl G has R p h way) (hh:ck G has R h) {v:Nat} (h1:0 < v) (h2:v < G.N):∃ g,Move G has R (way v).1 v g (way v).2∧h v=h (way v).1 + g:=by
  obtain ⟨g,m,le⟩:=C.par v h1 h2;exact ⟨g,m,Int.le_antisymm le (hh _ _ _ _ m)⟩
noncomputable def Net.worth (G:Net) (has:Nat→Bool):Int:=sm (λ c=>if has c then G.w c else 0) G.n
noncomputable def HV (has:Nat→Bool):Option Nat→Nat→Bool
  | none=>has
  | some c=>b9 has c (!has c)
theorem rG {c i:Nat} (h:c < G.n) (has:Nat→Bool):G.used (b9 has c (!has c)) i=G.used has i + (if has c then -1 else 1) * one (G.at c i):=by
  unfold Net.used;rw [uf (f:=λ d=>one (b9 has c (!has c) d && G.at d i)) (g:=λ d=>one (has d && G.at d i)) h λ d _ p7=>by rw [bf p7]];simp only [aT];cases has c<;>cases G.at c i<;>simp [one]<;>lia
theorem oB {c:Nat} (h:c < G.n) (has:Nat→Bool):G.worth (b9 has c (!has c))=G.worth has + (if has c then -(G.w c) else G.w c):=by
  unfold Net.worth;rw [uf (f:=λ d=>if b9 has c (!has c) d then G.w d else 0) (g:=λ d=>if has d then G.w d else 0) h λ d _ p7=>by rw [bf p7]];simp only [aT];cases has c<;>simp<;>lia
theorem Move.of {u v:Nat} {g:Int} {c:Nat} (m:Move G has R u v g (some c)):(has c=false∧v=G.e c)∨(has c=true∧v=G.s c):=by
  cases m with
  | take _ _ f=>exact .inl ⟨f,rfl⟩
  | give _ _ f=>exact .inr ⟨f,rfl⟩
structure Wk (G:Net) (has:Nat→Bool) (R:Int) (h:Nat→Int) (way:Nat→Nat×Option Nat) (v:Nat) (bq:Nat→Bool):Prop where
  lt:v < G.N
  old:∀ n x m c,Reach way v n→Reach way x m→m≤n→0 < x→x < G.N→(way x).2=some c→bq c=has c
  kept:∀ c,c < G.n→bq c=true→h (G.e c) - G.w c≤h (G.s c)
  left:∀ c,c < G.n→bq c=false→h (G.s c) + G.w c≤h (G.e c)
  cut:∀ i,i + 1 < G.N→∃ a b:Int,0≤a∧0≤b∧b≤1∧G.used bq i=G.used has i + 1 - one (decide (i < v)) - a + b∧(a≠0→h (i + 1)≤h i)∧(b≠0→G.used has i < R∧∀ n m,Reach way v n→Reach way i m→n < m)
  worth:G.worth bq=G.worth has + h (G.N - 1) - h v
theorem Wk.start {p h:Nat→Int} {way:Nat→Nat×Option Nat} (hN:0 < G.N) (hh:ck G has R h):Wk G has R h way (G.N - 1) has:=by
  refine ⟨by lia,λ _ _ _ _ _ _ _ _ _ _=>rfl,λ c hc f=>?_,λ c hc f=>hh _ _ _ _ (.take c hc f),λ i hi=>⟨0,0,Int.le_refl _,Int.le_refl _,by decide,?_,λ z=>absurd rfl z,λ z=>absurd rfl z⟩,by lia⟩
  · have:=hh _ _ _ _ (.give (R:=R) c hc f)
    lia
  · rw [show decide (i < G.N - 1)=true by simp;lia];simp [one]
theorem Wk.step (ok:G.Ok) {p h:Nat→Int} {way:Nat→Nat×Option Nat} (C:Cl G has R p h way) (hh:ck G has R h) {v:Nat} {bq:Nat→Bool} (W:Wk G has R h way v bq) (h1:0 < v):Wk G has R h way (way v).1 (HV bq (way v).2):=by
  obtain ⟨g,m,tt⟩:=C.Cz hh h1 W.lt;obtain ⟨hu,_,p7⟩:=m.bounds ok;obtain ⟨nv,rv⟩:=C.reach v W.lt;have du:∀ n,Reach way (way v).1 n→Reach way v (n + 1):=λ n r=>.step h1 r;have HW:∀ c,(way v).2=some c→bq c=has c:=λ c e=>W.old nv v nv c rv rv (Nat.le_refl _) h1 W.lt e;have only:∀ x c,0 < x→x < G.N→(way x).2=some c→(way v).2=some c→x=v:=λ x c hx xM ex ev=>by
    obtain ⟨g1,m1,_⟩:=C.par x hx xM;rw [ex] at m1;rw [ev] at m;rcases m1.of with ⟨f,e1⟩ | ⟨f,e1⟩<;>rcases m.of with ⟨f',e2⟩ | ⟨f',e2⟩
    · rw [e1,e2]
    · rw [f] at f';cases f'
    · rw [f] at f';cases f'
    · rw [e1,e2]
  have nA:∀ n x m' c,Reach way (way v).1 n→Reach way x m'→m'≤n→0 < x→x < G.N→(way x).2=some c→HV bq (way v).2 c=has c:=λ n x m' c r rx hle hx xM e=>by
    have o:=W.old (n + 1) x m' c (du n r) rx (by lia) hx xM e;cases ek:(way v).2 with
    | none=>exact o
    | some d =>
      show b9 bq d (!bq d) c=has c;have sL:c≠d:=λ z=>by
        subst z;have:=only x c hx xM e ek;subst this;have:=rx.one (du n r)
        lia
      rw [bf sL];exact o
  have dec:∀ {i:Nat},(∀ n m',Reach way v n→Reach way i m'→n < m')→∀ n m',Reach way (way v).1 n→Reach way i m'→n < m':=λ h n m' r r'=>by
    have:=h (n + 1) m' (du n r) r'
    lia
  generalize ew:way v=wv at *;obtain ⟨u,k⟩:=wv;dsimp only at *;cases m with
  | idle _ hi =>
    refine ⟨hu,nA,W.kept,W.left,λ i Es=>?_,?_⟩
    · obtain ⟨a,b,a0,b0,b1,e,ha,hb⟩:=W.cut i Es
      by_cases ei:i=u
      · subst ei;refine ⟨a + 1,b,by lia,b0,b1,?_,λ _=>by lia,λ z=>⟨(hb z).1,dec (hb z).2⟩⟩;have e':G.used bq i=_:=e;show G.used bq i=_;rw [e'];simp [one]
        lia
      · refine ⟨a,b,a0,b0,b1,?_,ha,λ z=>⟨(hb z).1,dec (hb z).2⟩⟩;show G.used bq i=_;rw [e];have:decide (i < u + 1)=decide (i < u):=by
          rw [Bool.eq_iff_iff,decide_eq_true_eq,decide_eq_true_eq]
          lia
        rw [this]
    · show G.worth bq=_;rw [W.worth]
      lia
  | fill _ hi p9 =>
    refine ⟨hu,nA,W.kept,W.left,λ i Es=>?_,?_⟩
    · obtain ⟨a,b,a0,b0,b1,e,ha,hb⟩:=W.cut i Es
      by_cases ei:i=v
      · subst ei;have bz:b=0:=by
          by_cases z:b=0
          · exact z
          · have:=(hb z).2 nv nv rv rv
            lia
        refine ⟨a,1,a0,by decide,by decide,?_,ha,λ _=>⟨p9,λ n m' r r'=>?_⟩⟩
        · show G.used bq i=_;rw [e,bz];simp [one]
          lia
        · have:=(du n r).one r'
          lia
      · refine ⟨a,b,a0,b0,b1,?_,ha,λ z=>⟨(hb z).1,dec (hb z).2⟩⟩;show G.used bq i=_;rw [e];have:decide (i < v)=decide (i < v + 1):=by
          rw [Bool.eq_iff_iff,decide_eq_true_eq,decide_eq_true_eq]
          lia
        rw [this]
    · show G.worth bq=_;rw [W.worth]
      lia
  | take c hc f =>
    have f':bq c=false:=by rw [HW c rfl,f]
    refine ⟨hu,nA,λ d hd fd=>?_,λ d hd fd=>?_,λ i Es=>?_,?_⟩
    · by_cases e:d=c
      · subst e;lia
      · have rH:b9 bq c (!bq c) d=true:=fd;rw [bf e] at rH;exact W.kept d hd rH
    · by_cases e:d=c
      · subst e;have rH:b9 bq d (!bq d) d=false:=fd;rw [aT,f'] at rH;cases rH
      · have rH:b9 bq c (!bq c) d=false:=fd;rw [bf e] at rH;exact W.left d hd rH
    · obtain ⟨a,b,a0,b0,b1,e,ha,hb⟩:=W.cut i Es;refine ⟨a,b,a0,b0,b1,?_,ha,λ z=>⟨(hb z).1,dec (hb z).2⟩⟩;show G.used (b9 bq c (!bq c)) i=_;rw [rG hc,f',e];have:=ok.lt c hc;unfold Net.at one
      by_cases x1:i < G.s c
      · have x2:i < G.e c:=by lia
        have x3:¬ G.s c≤i:=by lia
        simp [x1,x2,x3]
      · by_cases x2:i < G.e c
        · have x3:G.s c≤i:=by lia
          simp [x1,x2,x3]
          lia
        · simp [x1,x2]
    · show G.worth (b9 bq c (!bq c))=_;rw [oB hc,f',W.worth];simp
      lia
  | give c hc f =>
    have f':bq c=true:=by rw [HW c rfl,f]
    refine ⟨hu,nA,λ d hd fd=>?_,λ d hd fd=>?_,λ i Es=>?_,?_⟩
    · by_cases e:d=c
      · subst e;have rH:b9 bq d (!bq d) d=true:=fd;rw [aT,f'] at rH;cases rH
      · have rH:b9 bq c (!bq c) d=true:=fd;rw [bf e] at rH;exact W.kept d hd rH
    · by_cases e:d=c
      · subst e;lia
      · have rH:b9 bq c (!bq c) d=false:=fd;rw [bf e] at rH;exact W.left d hd rH
    · obtain ⟨a,b,a0,b0,b1,e,ha,hb⟩:=W.cut i Es;refine ⟨a,b,a0,b0,b1,?_,ha,λ z=>⟨(hb z).1,dec (hb z).2⟩⟩;show G.used (b9 bq c (!bq c)) i=_;rw [rG hc,f',e];have:=ok.lt c hc;unfold Net.at one
      by_cases x1:i < G.s c
      · have x2:i < G.e c:=by lia
        have x3:¬ G.s c≤i:=by lia
        simp [x1,x2,x3]
      · by_cases x2:i < G.e c
        · have x3:G.s c≤i:=by lia
          simp [x1,x2,x3]
          lia
        · simp [x1,x2]
    · show G.worth (b9 bq c (!bq c))=_;rw [oB hc,f',W.worth];simp
      lia
theorem Wk.done {h:Nat→Int} {way:Nat→Nat×Option Nat} {bq:Nat→Bool} (W:Wk G has R h way 0 bq) (hh:ck G has R h) (hu:∀ i,i + 1 < G.N→G.used has i≤R) :
    ck G bq (R + 1) h∧(∀ i,i + 1 < G.N→G.used bq i≤R + 1)∧G.worth bq=G.worth has + h (G.N - 1) - h 0:=by
  refine ⟨λ u v g k m=>?_,λ i hi=>?_,W.worth⟩
  · cases m with
    | idle _ hi=>exact hh _ _ _ _ (.idle _ hi)
    | take c hc f=>exact W.left c hc f
    | fill _ hi p9 =>
      obtain ⟨a,b,a0,b0,b1,e,ha,hb⟩:=W.cut v hi
      by_cases z:a=0
      · have dg:G.used has v < R:=by
          simp [one] at e
          lia
        exact hh _ _ _ _ (.fill _ hi dg)
      · have:=ha z
        lia
    | give c hc f =>
      have:=W.kept c hc f
      lia
  · obtain ⟨a,b,a0,b0,b1,e,ha,hb⟩:=W.cut i hi;have:=hu i hi;simp [one] at e
    by_cases z:b=0
    · lia
    · have:=(hb z).1
      lia
noncomputable def Net.gn (G:Net) (h:Nat→Int) (c:Nat):Int:=h (G.e c) - h (G.s c)
theorem jA {h:Nat→Int} (hh:ck G has R h) {i:Nat} (hi:i + 1 < G.N):h i≤h (i + 1):=by
  have:=hh _ _ _ _ (.idle (has:=has) (R:=R) i hi)
  lia
theorem mr (ok:G.Ok) (h:Nat→Int) {c:Nat} (hc:c < G.n):sm (λ i=>one (G.at c i) * (h (i + 1) - h i)) (G.N - 1)=G.gn h c:=by
  have h1:=ok.lt c hc;have h2:=ok.le c hc;have e:sm (λ i=>one (G.at c i) * (h (i + 1) - h i)) (G.N - 1)=sm (λ i=>if G.s c≤i∧i < G.e c then h (i + 1) - h i else 0) (G.N - 1):=by
    refine bG λ i _=>?_;unfold Net.at one
    by_cases x:G.s c≤i∧i < G.e c
    · rw [if_pos x];simp [x.1,x.2]
    · rw [if_neg x];have:(decide (G.s c≤i) && decide (i < G.e c))=false:=by
        rw [Bool.eq_false_iff];intro z;rw [Bool.and_eq_true,decide_eq_true_eq,decide_eq_true_eq] at z;exact x z
      rw [this];simp
  rw [e,vn h _ _ (by lia)];rw [show min (max (G.N - 1) (G.s c)) (G.e c)=G.e c by lia];rfl
theorem shown (ok:G.Ok) {h:Nat→Int} (hh:ck G has R h) (hu:∀ i,i + 1 < G.N→G.used has i≤R) :
    G.worth has=R * sm (λ i=>h (i + 1) - h i) (G.N - 1) + sm (λ c=>max 0 (G.w c - G.gn h c)) G.n:=by
  have e1:sm (λ c=>max 0 (G.w c - G.gn h c)) G.n=sm (λ c=>(if has c then G.w c else 0) + (-1) * (one (has c) * G.gn h c)) G.n:=by
    refine bG λ c hc=>?_;unfold Net.gn one;cases f:has c with
    | true =>
      have:=hh _ _ _ _ (.give (R:=R) c hc f);simp
      lia
    | false =>
      have:=hh _ _ _ _ (.take (R:=R) c hc f);simp
      lia
  have e2:sm (λ c=>one (has c) * G.gn h c) G.n=R * sm (λ i=>h (i + 1) - h i) (G.N - 1):=by
    have e3:sm (λ c=>one (has c) * G.gn h c) G.n=sm (λ c=>sm (λ i=>one (has c && G.at c i) * (h (i + 1) - h i)) (G.N - 1)) G.n:=by
      refine bG λ c hc=>?_;rw [← mr ok h hc,← fR];refine bG λ i _=>?_;cases has c<;>cases G.at c i<;>simp [one]
    rw [e3,k6,← fR];refine bG λ i hi=>?_;have dG:i + 1 < G.N:=by lia
    have e4:sm (λ c=>one (has c && G.at c i) * (h (i + 1) - h i)) G.n=(h (i + 1) - h i) * G.used has i:=by
      unfold Net.used;rw [← fR];exact bG λ c _=>Int.mul_comm _ _
    rw [e4];have h1:=jA hh dG
    by_cases x:G.used has i < R
    · have:=hh _ _ _ _ (.fill i dG x);have z:h (i + 1) - h i=0:=by lia
      rw [z]
      lia
    · have:=hu i dG;rw [show G.used has i=R by lia,Int.mul_comm]
  rw [e1,p8,fR,e2];unfold Net.worth
  lia
theorem ug (ok:G.Ok) {h:Nat→Int} (hh:ck G has R h) (hu:∀ i,i + 1 < G.N→G.used has i≤R) (hz:∀ i,i < G.N→h i=0) (R':Int) :
    G.worth has=R' * sm (λ i=>h (i + 1) - h i) (G.N - 1) + sm (λ c=>max 0 (G.w c - G.gn h c)) G.n:=by
  rw [shown ok hh hu];have:sm (λ i=>h (i + 1) - h i) (G.N - 1)=0:=by
    rw [bG (g:=λ _=>0) λ i hi=>by rw [hz i (by lia),hz (i + 1) (by lia)];rfl,eW]
  rw [this]
  lia
noncomputable def y9 (h:Nat→Int):List (Nat×Nat×Int)→Nat→Int
  | []=>h
  | (u,v,g) :: ms=>y9 (if h v < h u + g then b9 h v (h u + g) else h) ms
theorem y_:∀ (ms:List (Nat×Nat×Int)) (h:Nat→Int) (x:Nat),h x≤y9 h ms x
  | [],h,x=>Int.le_refl _
  | (u,v,g) :: ms,h,x=>by
    refine Int.le_trans ?_ (y_ ms _ x)
    by_cases c:h v < h u + g
    · rw [if_pos c]
      by_cases e:x=v
      · subst e;rw [aT];lia
      · rw [bf e];exact Int.le_refl _
    · rw [if_neg c];exact Int.le_refl _
theorem vo:∀ (ms:List (Nat×Nat×Int)) (h:Nat→Int) (x:Nat),(∀ m∈ms,m.2.1≠x)→y9 h ms x=h x
  | [],h,x,_=>rfl
  | (u,v,g) :: ms,h,x,hn=>by
    unfold y9;rw [vo ms _ x λ m hm=>hn m (List.mem_cons_of_mem _ hm)];have hv:x≠v:=λ z=>hn (u,v,g) (by simp) z.symm
    by_cases c:h v < h u + g
    · rw [if_pos c,bf hv]
    · rw [if_neg c]
theorem g9:∀ (ms:List (Nat×Nat×Int)) (h:Nat→Int),ms.Pairwise (λ a b=>b.2.1≠a.1)→(∀ m∈ms,m.1≠m.2.1)→∀ m∈ms,y9 h ms m.1 + m.2.2≤y9 h ms m.2.1
  | [],h,_,_,m,hm=>by simp at hm
  | (u,v,g) :: ms,h,hp,p7,m,hm=>by
    obtain ⟨h1,h2⟩:=List.pairwise_cons.mp hp;rcases List.mem_cons.mp hm with rfl | RC
    · unfold y9;have RD:u≠v:=p7 (u,v,g) (by simp);have o:=vo ms (if h v < h u + g then b9 h v (h u + g) else h) u λ m hm=>h1 m hm;have up:=y_ ms (if h v < h u + g then b9 h v (h u + g) else h) v;show y9 _ ms u + g≤y9 _ ms v;rw [o]
      by_cases c:h v < h u + g
      · rw [if_pos c] at up ⊢;rw [bf RD];rw [aT] at up;exact up
      · rw [if_neg c] at up ⊢
        lia
    · exact g9 ms _ h2 (λ m hm=>p7 m (List.mem_cons_of_mem _ hm)) m RC
end
theorem fS {p:Int→Bool} (hp:∀ x y,x≤y→p y=true→p x=true):∀ {l:List Int},l.Pairwise (·≤·)→∀ {k:Nat} (hk:k < l.length),p l[k]=true↔k < l.countP p
  | [],_,k,hk=>by simp at hk
  | x :: l,ho,k,hk=>by
    obtain ⟨h1,h2⟩:=List.pairwise_cons.mp ho;cases k with
    | zero =>
      rw [List.getElem_cons_zero,List.countP_cons];cases e:p x with
      | true=>simp
      | false =>
        have:l.countP p=0:=List.countP_eq_zero.mpr λ y hy z=>by
          rw [hp x y (h1 y hy) z] at e;cases e
        simp [this]
    | succ k =>
      rw [List.getElem_cons_succ,List.countP_cons];have Aq:k < l.length:=by simpa using hk
      have ih:=fS hp h2 Aq;cases e:p x with
      | true =>
        rw [ih];simp
      | false =>
        have:l.countP p=0:=List.countP_eq_zero.mpr λ y hy z=>by
          rw [hp x y (h1 y hy) z] at e;cases e
        rw [ih,this];simp
theorem j9 (d:Int):∀ (xs:List (Int×Int)),(∀ x∈xs,x.1≤x.2)→xs.countP (λ y=>decide (y.1≤d) && decide (d≤y.2)) + xs.countP (λ y=>decide (y.2 < d))=xs.countP (λ y=>decide (y.1≤d))
  | [],_=>rfl
  | x :: xs,h=>by
    have ih:=j9 d xs λ y hy=>h y (List.mem_cons_of_mem _ hy);have hx:=h x (by simp);rw [List.countP_cons,List.countP_cons,List.countP_cons]
    by_cases h1:x.1≤d<;>by_cases h2:d≤x.2
    · have h3:¬ x.2 < d:=by omega
      simp [h1,h2,h3];omega
    · have h3:x.2 < d:=by omega
      simp [h1,h2,h3];omega
    · have h3:¬ x.2 < d:=by omega
      simp [h1,h2,h3];omega
    · omega
theorem za {xs:List (Int×Int)} {F L:List Int} {R:Nat} (hg:∀ x∈xs,x.1≤x.2) (hF:F.Perm (xs.map (·.1))) (oF:F.Pairwise (·≤·)) (hL:L.Perm (xs.map (·.2))) (oL:L.Pairwise (·≤·)) :
    (∀ k (h1:k < L.length) (h2:k + R < F.length),L[k] < F[k + R])↔∀ x∈xs,xs.countP (λ y=>decide (y.1≤x.1) && decide (x.1≤y.2))≤R:=by
  have lF:F.length=xs.length:=by rw [hF.length_eq,List.length_map]
  have lL:L.length=xs.length:=by rw [hL.length_eq,List.length_map]
  have cF:∀ d:Int,F.countP (λ y=>decide (y≤d))=xs.countP λ y=>decide (y.1≤d):=λ d=>by
    rw [hF.countP_eq,List.countP_map];rfl
  have cL:∀ d:Int,L.countP (λ y=>decide (y < d))=xs.countP λ y=>decide (y.2 < d):=λ d=>by
    rw [hL.countP_eq,List.countP_map];rfl
  have iF:∀ (d:Int) {k:Nat} (hk:k < F.length),F[k]≤d↔k < xs.countP λ y=>decide (y.1≤d):=λ d k hk=>by
    rw [← cF,← fS (p:=λ y=>decide (y≤d)) (λ x y As hy=>by rw [decide_eq_true_eq] at hy ⊢;omega) oF hk,decide_eq_true_eq]
  have iL:∀ (d:Int) {k:Nat} (hk:k < L.length),L[k] < d↔k < xs.countP λ y=>decide (y.2 < d):=λ d k hk=>by
    rw [← cL,← fS (p:=λ y=>decide (y < d)) (λ x y As hy=>by rw [decide_eq_true_eq] at hy ⊢;omega) oL hk,decide_eq_true_eq]
  constructor
  · intro h x hx;have tc:=j9 x.1 xs hg;have am:xs.countP (λ y=>decide (y.1≤x.1))≤xs.length:=List.countP_le_length;have a0:0 < xs.countP λ y=>decide (y.1≤x.1):=List.countP_pos_iff.mpr ⟨x,hx,by simp⟩;refine Nat.le_of_not_lt λ dg=>?_;have k1:xs.countP (λ y=>decide (y.1≤x.1)) - 1 < F.length:=by omega
    have hA:=(iF x.1 k1).mpr (by omega);have k2:xs.countP (λ y=>decide (y.1≤x.1)) - 1 - R < L.length:=by omega
    have hB:¬ L[xs.countP (λ y=>decide (y.1≤x.1)) - 1 - R] < x.1:=λ z=>by
      have:=(iL x.1 k2).mp z;omega
    have hC:=h (xs.countP (λ y=>decide (y.1≤x.1)) - 1 - R) k2 (by omega);have e:xs.countP (λ y=>decide (y.1≤x.1)) - 1 - R + R=xs.countP (λ y=>decide (y.1≤x.1)) - 1:=by omega
    have hD:F[xs.countP (λ y=>decide (y.1≤x.1)) - 1 - R + R]=F[xs.countP (λ y=>decide (y.1≤x.1)) - 1]:=by
      congr 1
    rw [hD] at hC;omega
  · intro h k h1 h2;have hm:F[k + R]∈xs.map (·.1):=hF.mem_iff.mp (List.getElem_mem h2);obtain ⟨x,hx,ex⟩:=List.mem_map.mp hm;have tc:=j9 x.1 xs hg;have hR:=h x hx;have hA:=(iF x.1 h2).mp (by rw [← ex];exact Int.le_refl _);rw [← ex];exact (iL x.1 h1).mpr (by omega)
noncomputable abbrev Rs:=List (Int×Int×Int)
noncomputable def ar (rs:Rs) (pts:List Int):Net:=⟨pts.length,rs.length,λ c=>pts.idxOf (Lg.rq rs c).1,λ c=>pts.idxOf ((Lg.rq rs c).2.1 + 1),λ c=>(Lg.rq rs c).2.2⟩
structure qu (rs:Rs) (pts:List Int):Prop where
  ord:pts.Pairwise (· < ·)
  fst:∀ c,c < rs.length→(Lg.rq rs c).1∈pts
  lst:∀ c,c < rs.length→(Lg.rq rs c).2.1 + 1∈pts
  good:∀ c,c < rs.length→(Lg.rq rs c).1≤(Lg.rq rs c).2.1∧0≤(Lg.rq rs c).2.2
theorem e9 {pts:List Int} {x:Int} (h:x∈pts):pts.idxOf x < pts.length:=List.idxOf_lt_length_of_mem h
theorem iq {pts:List Int} {x:Int} (h:x∈pts):pts[pts.idxOf x]'(e9 h)=x:=List.getElem_idxOf (e9 h)
theorem mw {pts:List Int} (o:pts.Pairwise (· < ·)) {i j:Nat} (hi:i < pts.length) (hj:j < pts.length):pts[i] < pts[j]↔i < j:=by
  have f:=List.pairwise_iff_getElem.mp o;constructor
  · intro h;rcases Nat.lt_trichotomy i j with z | z | z
    · exact z
    · subst z;lia
    · have:=f j i hj hi z;lia
  · exact f i j hi hj
theorem Et {pts:List Int} (o:pts.Pairwise (· < ·)) {i j:Nat} (hi:i < pts.length) (hj:j < pts.length):pts[i]≤pts[j]↔i≤j:=by
  have:=mw o hj hi;constructor
  · intro h;rcases Nat.lt_or_ge j i with z | z
    · have:=this.mpr z;omega
    · exact z
  · intro h;rcases Int.lt_or_le pts[j] pts[i] with z | z
    · have:=this.mp z;omega
    · exact z
theorem dS {rs:Rs} {pts:List Int} (p:qu rs pts):(ar rs pts).Ok:=by
  refine ⟨λ c hc=>?_,λ c hc=>e9 (p.lst c hc),λ c hc=>(p.good c hc).2⟩;have h1:=iq (p.fst c hc);have h2:=iq (p.lst c hc);refine (mw p.ord (e9 (p.fst c hc)) (e9 (p.lst c hc))).mp ?_;rw [h1,h2];have:=(p.good c hc).1
  lia
theorem uh {rs:Rs} {pts:List Int} (p:qu rs pts) {c i:Nat} (hc:c < rs.length) (hi:i < pts.length):(ar rs pts).at c i=(decide ((Lg.rq rs c).1≤pts[i]) && decide (pts[i]≤(Lg.rq rs c).2.1)):=by
  have h1:=iq (p.fst c hc);have h2:=iq (p.lst c hc);have a1:=Et p.ord (e9 (p.fst c hc)) hi;have a2:=mw p.ord hi (e9 (p.lst c hc));rw [h1] at a1;rw [h2] at a2;unfold Net.at ar;congr 1
  · exact decide_eq_decide.mpr a1.symm
  · refine decide_eq_decide.mpr ?_;rw [← a2]
    lia
section
variable (G:Net) (has:Nat→Bool)
noncomputable def chg (m i:Nat):Int:=sm (λ c=>one (has c && decide (G.s c=i)) - one (has c && decide (G.e c=i))) m
theorem zb (b:Bool) (x:Nat):∀ m,sm (λ i=>one (b && decide (x=i))) m=one (b && decide (x < m))
  | 0=>by simp [sm,one]
  | m + 1=>by
    unfold sm;rw [zb b x m];cases b with
    | false=>simp [one]
    | true =>
      by_cases h1:x < m
      · have h2:x≠m:=by lia
        have h3:x < m + 1:=by lia
        simp [one,h1,h2,h3]
      · by_cases h2:x=m
        · subst h2;simp [one]
        · have h3:¬ x < m + 1:=by lia
          simp [one,h1,h2,h3]
theorem zc {f g:Nat→Int}:∀ {n:Nat},sm (λ c=>f c - g c) n=sm f n - sm g n
  | 0=>rfl
  | n + 1=>by
    unfold sm;rw [zc]
    lia
variable {G has}
theorem zd (ok:G.Ok) (i:Nat):sm (chg G has G.n) (i + 1)=G.used has i:=by
  unfold chg;rw [show sm (λ i=>sm (λ c=>one (has c && decide (G.s c=i)) - one (has c && decide (G.e c=i))) G.n) (i + 1)=sm (λ c=>sm (λ i=>one (has c && decide (G.s c=i)) - one (has c && decide (G.e c=i))) (i + 1)) G.n from k6.symm];unfold Net.used;refine bG λ c hc=>?_;rw [zc,zb,zb];have h1:=ok.lt c hc;unfold Net.at;cases has c with
  | false=>simp [one]
  | true =>
    by_cases a:G.s c≤i
    · have a':G.s c < i + 1:=by lia
      by_cases b:i < G.e c
      · have b':¬ G.e c < i + 1:=by lia
        simp [one,a,a',b,b']
      · have b':G.e c < i + 1:=by lia
        simp [one,a,a',b,b']
    · have a':¬ G.s c < i + 1:=by lia
      have b':¬ G.e c < i + 1:=by lia
      simp [one,a,a',b']
theorem rJ {m i:Nat}:chg G has (m + 1) i=chg G has m i + (one (has m && decide (G.s m=i)) - one (has m && decide (G.e m=i))):=rfl
end
noncomputable abbrev Mv:=Nat×Nat×Int×Option Nat
noncomputable def bare (m:Mv):Nat×Nat×Int:=(m.1,m.2.1,m.2.2.1)
section
variable (G:Net) (has:Nat→Bool) (R:Int)
noncomputable def ze:List Mv:=(List.range (G.N - 1)).map (λ i=>(i,i + 1,0,none)) ++ ((List.range G.n).filter λ c=>!has c).map λ c=>(G.s c,G.e c,G.w c,some c)
noncomputable def vp:List Mv:=((List.range (G.N - 1)).filter λ i=>decide (G.used has i < R)).map (λ i=>(i + 1,i,0,none)) ++ ((List.range G.n).filter λ c=>has c).map λ c=>(G.e c,G.s c,-(G.w c),some c)
variable {G has R}
theorem rK (ok:G.Ok) {m:Mv} (h:m∈ze G has):Move G has R m.1 m.2.1 m.2.2.1 m.2.2.2∧m.1 < m.2.1:=by
  unfold ze at h;rcases List.mem_append.mp h with h | h
  · obtain ⟨i,hi,rfl⟩:=List.mem_map.mp h;rw [List.mem_range] at hi;exact ⟨.idle i (by lia),by show i < i + 1;lia⟩
  · obtain ⟨c,hc,rfl⟩:=List.mem_map.mp h;rw [List.mem_filter,List.mem_range] at hc;exact ⟨.take c hc.1 (by simpa using hc.2),ok.lt c hc.1⟩
theorem mz (ok:G.Ok) {m:Mv} (h:m∈vp G has R):Move G has R m.1 m.2.1 m.2.2.1 m.2.2.2∧m.2.1 < m.1:=by
  unfold vp at h;rcases List.mem_append.mp h with h | h
  · obtain ⟨i,hi,rfl⟩:=List.mem_map.mp h;rw [List.mem_filter,List.mem_range] at hi;exact ⟨.fill i (by omega) (by simpa using hi.2),by show i < i + 1;omega⟩
  · obtain ⟨c,hc,rfl⟩:=List.mem_map.mp h;rw [List.mem_filter,List.mem_range] at hc;exact ⟨.give c hc.1 (by simpa using hc.2),ok.lt c hc.1⟩
theorem Bs {u v:Nat} {g:Int} {k:Option Nat} (m:Move G has R u v g k):(u,v,g,k)∈ze G has∨(u,v,g,k)∈vp G has R:=by
  cases m with
  | idle _ h=>exact .inl (List.mem_append_left _ (List.mem_map.mpr ⟨u,List.mem_range.mpr (by lia),rfl⟩))
  | take c h f=>exact .inl (List.mem_append_right _ (List.mem_map.mpr ⟨c,List.mem_filter.mpr ⟨List.mem_range.mpr h,by simp [f]⟩,rfl⟩))
  | fill _ h hu=>exact .inr (List.mem_append_left _ (List.mem_map.mpr ⟨v,List.mem_filter.mpr ⟨List.mem_range.mpr (by lia),by simpa using hu⟩,rfl⟩))
  | give c h f=>exact .inr (List.mem_append_right _ (List.mem_map.mpr ⟨c,List.mem_filter.mpr ⟨List.mem_range.mpr h,f⟩,rfl⟩))
noncomputable def Set (h:Nat→Int) (ms:List Mv):Prop:=∀ m∈ms,h m.1 + m.2.2.1≤h m.2.1
theorem vq {h:Nat→Int} (h1:Set h (ze G has)) (h2:Set h (vp G has R)):ck G has R h:=λ u v g k m=>by
  rcases Bs m with z | z
  · exact h1 _ z
  · exact h2 _ z
theorem rL {h:Nat→Int} {ms ns:List Mv} (p:ms.Perm ns) (s:Set h ms):Set h ns:=λ m hm=>s m (p.mem_iff.mpr hm)
noncomputable def fT (h:Nat→Int) (ms:List Mv):Nat→Int:=y9 h (ms.map bare)
theorem wO (h:Nat→Int):∀ (ms:List Mv) (m:Mv),fT h (ms ++ [m])=if fT h ms m.2.1 < fT h ms m.1 + m.2.2.1 then b9 (fT h ms) m.2.1 (fT h ms m.1 + m.2.2.1) else fT h ms:=by
  intro ms;unfold fT
  induction ms generalizing h with
  | nil=>intro m;rfl
  | cons a ms ih =>
    intro m;rw [List.cons_append,List.map_cons,List.map_cons];show y9 (if h (bare a).2.1 < h (bare a).1 + (bare a).2.2 then _ else h) (List.map bare (ms ++ [m]))=_;rw [ih];rfl
theorem Bt (ok:G.Ok) {ms:List Mv} (p:ms.Perm (ze G has)) (o:ms.Pairwise λ a b=>a.1≤b.1) (h:Nat→Int):Set (fT h ms) (ze G has):=by
  refine rL p λ m hm=>?_;have mv:∀ m∈ms,m.1 < m.2.1:=λ m hm=>(rK (R:=0) ok (p.mem_iff.mp hm)).2;refine g9 (ms.map bare) h ?_ ?_ (bare m) (List.mem_map.mpr ⟨m,hm,rfl⟩)
  · rw [List.pairwise_map];refine List.Pairwise.imp_of_mem (λ {a b} _ hb Fc=>?_) o;have:=mv b hb;show b.2.1≠a.1
    lia
  · intro x hx;obtain ⟨a,ha,rfl⟩:=List.mem_map.mp hx;have:=mv a ha;show a.1≠a.2.1
    lia
theorem Bu (ok:G.Ok) {ms:List Mv} (p:ms.Perm (vp G has R)) (o:ms.Pairwise λ a b=>b.1≤a.1) (h:Nat→Int):Set (fT h ms) (vp G has R):=by
  refine rL p λ m hm=>?_;have mv:∀ m∈ms,m.2.1 < m.1:=λ m hm=>(mz ok (p.mem_iff.mp hm)).2;refine g9 (ms.map bare) h ?_ ?_ (bare m) (List.mem_map.mpr ⟨m,hm,rfl⟩)
  · rw [List.pairwise_map];refine List.Pairwise.imp_of_mem (λ {a b} _ hb Fc=>?_) o;have:=mv b hb;show b.2.1≠a.1
    lia
  · intro x hx;obtain ⟨a,ha,rfl⟩:=List.mem_map.mp hx;have:=mv a ha;show a.1≠a.2.1
    lia
theorem zf (ok:G.Ok):Set (λ _=>0) (vp G has R):=λ m hm=>by
  obtain ⟨mv,_⟩:=mz ok hm;show 0 + m.2.2.1≤0;obtain ⟨u,v,g,k⟩:=m;show 0 + g≤0;have mv:Move G has R u v g k:=mv;unfold vp at hm;rcases List.mem_append.mp hm with h | h
  · obtain ⟨i,hi,e⟩:=List.mem_map.mp h;cases e
    lia
  · obtain ⟨c,hc,e⟩:=List.mem_map.mp h;cases e;rw [List.mem_filter,List.mem_range] at hc;have:=ok.w c hc.1
    lia
noncomputable def room (G:Net) (p h:Nat→Int):Nat:=(sm (λ v=>p v - h v) G.N).toNat
theorem p_ {p h h':Nat→Int} (le:∀ v,v < G.N→h' v≤p v) (up:∀ v,v < G.N→h v≤h' v) {v:Nat} (hv:v < G.N) (dg:h v < h' v):room G p h' < room G p h:=by
  have key:∀ {n:Nat},v < n→n≤G.N→sm (λ v=>p v - h' v) n < sm (λ v=>p v - h v) n:=by
    intro n
    induction n with
    | zero=>intro h;lia
    | succ n ih =>
      intro h1 h2;unfold sm
      by_cases e:v=n
      · subst e;have:=kC (f:=λ v=>p v - h' v) (g:=λ v=>p v - h v) (n:=v) λ c hc=>by have:=up c (by lia);lia
        lia
      · have:=ih (by lia) (by lia);have:=up n (by lia)
        lia
  have h1:=key hv (Nat.le_refl _);have h0:0≤sm (λ v=>p v - h' v) G.N:=by
    have:=kC (f:=λ _=>0) (g:=λ v=>p v - h' v) (n:=G.N) λ c hc=>by have:=le c hc;lia
    rwa [eW] at this
  unfold room
  lia
end
theorem fm (p:Nat→Bool) (f:Nat→Int):∀ n,(((List.range n).filter p).map f).sum=sm (λ c=>if p c then f c else 0) n
  | 0=>rfl
  | n + 1=>by
    rw [List.range_succ,List.filter_append,List.map_append,List.sum_append,fm p f n];show _=sm (λ c=>if p c then f c else 0) n + (if p n then f n else 0);cases h:p n<;>simp [List.filter,h]
theorem mE (p:Nat→Bool):∀ n,((((List.range n).filter p).length:Nat):Int)=sm (λ c=>one (p c)) n
  | 0=>rfl
  | n + 1=>by
    rw [List.range_succ,List.filter_append,List.length_append];unfold sm;rw [← mE p n];cases h:p n<;>simp [List.filter,h,one]
theorem Bv (f:Nat→Int) (n:Nat):((List.range n).map f).sum=sm f n:=by
  have:=fm (λ _=>true) f n;rw [List.filter_eq_self.mpr λ _ _=>rfl] at this;rw [this];exact bG λ _ _=>rfl
noncomputable def bX (pts:List Int) (h:Nat→Int):List (Int×Int):=((List.range (pts.length - 1)).filter λ i=>decide (0 < h (i + 1) - h i)).map λ i=>(pts.getD i 0,h (i + 1) - h i)
noncomputable def gp (ts:List (Int×Int)):Int:=(ts.map (·.2)).sum
noncomputable def mF (ts:List (Int×Int)) (f l:Int):Int:=((ts.filter λ t=>decide (f≤t.1) && decide (t.1≤l)).map (·.2)).sum
noncomputable def e_ (rs:Rs) (ts:List (Int×Int)):Int:=(rs.map λ r=>max 0 (r.2.2 - mF ts r.1 r.2.1)).sum
noncomputable def aG (rs:Rs) (ns:List Int):Int:=(ns.map λ c=>(Lg.rq rs c.toNat).2.2).sum
noncomputable def aU (has:Nat→Bool) (n:Nat):List Int:=((List.range n).filter λ c=>has c).map λ (c:Nat)=>(c:Int)
theorem oC {rs:Rs} {pts:List Int} (p:qu rs pts) (h:Nat→Int):((bX pts h).map (·.1)).Pairwise (· < ·):=by
  unfold bX;rw [List.map_map,List.pairwise_map];have r:(List.range (pts.length - 1)).Pairwise (· < ·):=List.pairwise_lt_range;refine List.Pairwise.imp_of_mem (λ {a b} ha hb Fc=>?_) (r.filter _);have h1:=List.mem_range.mp (List.mem_filter.mp ha).1;have h2:=List.mem_range.mp (List.mem_filter.mp hb).1;show pts.getD a 0 < pts.getD b 0;have e1:pts.getD a 0=pts[a]'(by omega):=by simp [List.getD,show a < pts.length by omega]
  have e2:pts.getD b 0=pts[b]'(by omega):=by simp [List.getD,show b < pts.length by omega]
  rw [e1,e2];exact (mw p.ord (by omega) (by omega)).mpr Fc
theorem oE (pts:List Int) (h:Nat→Int):∀ t∈bX pts h,0≤t.2:=λ t ht=>by
  obtain ⟨i,hi,rfl⟩:=List.mem_map.mp ht;have:=(List.mem_filter.mp hi).2;rw [decide_eq_true_eq] at this;show 0≤h (i + 1) - h i
  lia
section
variable {rs:Rs} {pts:List Int} {has:Nat→Bool} {R:Int} {h:Nat→Int}
theorem oG (hh:ck (ar rs pts) has R h):gp (bX pts h)=sm (λ i=>h (i + 1) - h i) (pts.length - 1):=by
  unfold gp bX;rw [List.map_map];show (((List.range (pts.length - 1)).filter λ i=>decide (0 < h (i + 1) - h i)).map λ i=>h (i + 1) - h i).sum=_;rw [fm];refine bG λ i hi=>?_;have:=jA hh (i:=i) (show i + 1 < pts.length by lia)
  by_cases z:0 < h (i + 1) - h i
  · rw [if_pos (by simpa using z)]
  · rw [if_neg (by simpa using z)];lia
theorem zg (p:qu rs pts) (hh:ck (ar rs pts) has R h) {c:Nat} (hc:c < rs.length):mF (bX pts h) (Lg.rq rs c).1 (Lg.rq rs c).2.1=(ar rs pts).gn h c:=by
  rw [← mr (dS p) h hc];unfold mF bX;rw [List.filter_map,List.map_map,List.filter_filter];show (((List.range (pts.length - 1)).filter λ i=>((decide ((Lg.rq rs c).1≤pts.getD i 0) && decide (pts.getD i 0≤(Lg.rq rs c).2.1)) && decide (0 < h (i + 1) - h i))).map λ i=>h (i + 1) - h i).sum=sm _ (pts.length - 1);rw [fm];refine bG λ i hi=>?_;have:=jA hh (i:=i) (show i + 1 < pts.length by lia);rw [uh p hc (show i < pts.length by lia)];have e1:pts.getD i 0=pts[i]'(by lia):=by simp [List.getD,show i < pts.length by lia]
  rw [e1];cases (decide ((Lg.rq rs c).1≤pts[i]'(by lia)) && decide (pts[i]'(by lia)≤(Lg.rq rs c).2.1)) with
  | false=>simp [one]
  | true =>
    rw [Bool.true_and]
    by_cases z:0 < h (i + 1) - h i
    · rw [if_pos (by simpa using z)];simp [one]
    · rw [if_neg (by simpa using z)];simp [one]
      lia
theorem zi (rs:Rs) (f:Int×Int×Int→Int):(rs.map f).sum=sm (λ c=>f (Lg.rq rs c)) rs.length:=by
  rw [← Bv];congr 1;apply List.ext_getElem
  · simp
  · intro i h1 h2;simp [Lg.rq,List.getD,show i < rs.length by simpa using h1]
theorem rM (p:qu rs pts) (hh:ck (ar rs pts) has R h):e_ rs (bX pts h)=sm (λ c=>max 0 ((ar rs pts).w c - (ar rs pts).gn h c)) rs.length:=by
  unfold e_;rw [zi rs λ r=>max 0 (r.2.2 - mF (bX pts h) r.1 r.2.1)];refine bG λ c hc=>?_;rw [zg p hh hc];rfl
theorem jB (has:Nat→Bool):aG rs (aU has rs.length)=(ar rs pts).worth has:=by
  unfold aG aU;rw [List.map_map];show (((List.range rs.length).filter λ c=>has c).map λ (c:Nat)=>(Lg.rq rs ((c:Int)).toNat).2.2).sum=_;rw [fm];exact bG λ c hc=>by rw [Int.toNat_natCast];rfl
noncomputable def ba (rs:Rs) (ns:List Int) (d:Int):List Int:=ns.filter λ c=>decide ((Lg.rq rs c.toNat).1≤d) && decide (d≤(Lg.rq rs c.toNat).2.1)
theorem uk (p:qu rs pts) (has:Nat→Bool) {c:Nat} (hc:c < rs.length):(((ba rs (aU has rs.length) (Lg.rq rs c).1).length:Nat):Int)=(ar rs pts).used has ((ar rs pts).s c):=by
  unfold ba aU;rw [List.filter_map,List.length_map,List.filter_filter,mE];refine bG λ d hd=>?_;have hs:=e9 (p.fst c hc);have:=uh p hd hs;rw [iq (p.fst c hc)] at this;show one ((decide ((Lg.rq rs ((d:Int)).toNat).1≤(Lg.rq rs c).1) && decide ((Lg.rq rs c).1≤(Lg.rq rs ((d:Int)).toNat).2.1)) && has d)=one (has d && (ar rs pts).at d (pts.idxOf (Lg.rq rs c).1));rw [this,Int.toNat_natCast,Bool.and_comm]
theorem g_ (p:qu rs pts) (hu:∀ i,i + 1 < pts.length→(ar rs pts).used has i≤R):∀ c∈aU has rs.length,(((ba rs (aU has rs.length) (Lg.rq rs c.toNat).1).length:Nat):Int)≤R:=λ c hc=>by
  obtain ⟨d,hd,rfl⟩:=List.mem_map.mp hc;rw [List.mem_filter,List.mem_range] at hd;rw [Int.toNat_natCast,uk p has hd.1];have h1:=(dS p).lt d hd.1;have h2:=(dS p).le d hd.1;have h2:(ar rs pts).e d < pts.length:=h2;exact hu _ (by lia)
theorem fU (has:Nat→Bool) (n:Nat):(aU has n).Pairwise (· < ·):=by
  unfold aU;rw [List.pairwise_map];have r:(List.range n).Pairwise (· < ·):=List.pairwise_lt_range;exact (r.filter _).imp λ {a b} h=>by omega
theorem dw {has:Nat→Bool} {n:Nat} {c:Int} (h:c∈aU has n):0≤c∧c < n:=by
  obtain ⟨d,hd,rfl⟩:=List.mem_map.mp h;rw [List.mem_filter,List.mem_range] at hd;omega
theorem vw (p:qu rs pts) (hh:ck (ar rs pts) has R h) (hu:∀ i,i + 1 < pts.length→(ar rs pts).used has i≤R):aG rs (aU has rs.length)=R * gp (bX pts h) + e_ rs (bX pts h):=by
  rw [jB (pts:=pts),oG hh,rM p hh];exact shown (dS p) hh hu
theorem wQ (p:qu rs pts) (hh:ck (ar rs pts) has R h) (hu:∀ i,i + 1 < pts.length→(ar rs pts).used has i≤R) (hz:∀ i,i < pts.length→h i=0) (R':Int):aG rs (aU has rs.length)=R' * gp (bX pts h) + e_ rs (bX pts h):=by
  rw [jB (pts:=pts),oG hh,rM p hh];exact ug (dS p) hh hu hz R'
end
noncomputable def c7 (ts:List (Int×Int)) (d:Int):Nat:=ts.countP λ t=>decide (t.1 < d)
noncomputable def gh (ts:List (Int×Int)) (k:Nat):Int:=gp (ts.take k)
theorem i9 {d:Int}:∀ {ts:List (Int×Int)},(ts.map (·.1)).Pairwise (· < ·)→ts.take (c7 ts d)=ts.filter λ t=>decide (t.1 < d)
  | [],_=>rfl
  | t :: ts,o=>by
    obtain ⟨o1,o2⟩:=List.pairwise_cons.mp o;unfold c7;rw [List.countP_cons]
    by_cases h:t.1 < d
    · rw [if_pos (by simpa using h),List.take_succ_cons,List.filter_cons_of_pos (by simpa using h)];exact congrArg _ (i9 o2)
    · have h0:ts.countP (λ t=>decide (t.1 < d))=0:=by
        rw [List.countP_eq_zero];intro u hu;have:t.1 < u.1:=o1 u.1 (List.mem_map.mpr ⟨u,hu,rfl⟩);simp
        lia
      have h1:ts.filter (λ t=>decide (t.1 < d))=[]:=by
        rw [List.filter_eq_nil_iff];intro u hu;have:t.1 < u.1:=o1 u.1 (List.mem_map.mpr ⟨u,hu,rfl⟩);simp
        lia
      rw [if_neg (by simpa using h),h0,List.filter_cons_of_neg (by simpa using h),h1];rfl
theorem rN {f l:Int} (sQ:f≤l):∀ (ts:List (Int×Int)),gp (ts.filter λ t=>decide (t.1 < l + 1)) - gp (ts.filter λ t=>decide (t.1 < f))=mF ts f l
  | []=>rfl
  | t :: ts=>by
    have ih:=rN sQ ts;unfold gp mF at *
    by_cases h1:t.1 < f
    · have h2:t.1 < l + 1:=by omega
      have h3:¬ f≤t.1:=by omega
      simp [List.filter,h1,h2,h3];omega
    · by_cases h2:t.1 < l + 1
      · have h3:f≤t.1:=by omega
        have h4:t.1≤l:=by omega
        simp [List.filter,h1,h2,h3,h4];omega
      · have h4:¬ t.1≤l:=by omega
        simp [List.filter,h1,h2,h4];omega
theorem Bw {f l:Int} (sQ:f≤l) {ts:List (Int×Int)} (o:(ts.map (·.1)).Pairwise (· < ·)):gh ts (c7 ts (l + 1)) - gh ts (c7 ts f)=mF ts f l:=by
  unfold gh;rw [i9 o,i9 o];exact rN sQ ts
theorem wR (ts:List (Int×Int)) {k:Nat} (h:k < ts.length):gh ts (k + 1)=gh ts k + (ts[k]).2:=by
  unfold gh gp;rw [List.take_succ_eq_append_getElem h,List.map_append,List.sum_append];simp
theorem wU {ts:List (Int×Int)} (o:(ts.map (·.1)).Pairwise (· < ·)) {d:Int} {k:Nat} (hk:k < ts.length):(ts[k]).1 < d↔k < c7 ts d:=by
  have o':(ts.map (·.1)).Pairwise (·≤·):=o.imp λ {a b} h=>by lia
  have:=fS (p:=λ x=>decide (x < d)) (λ x y As hy=>by simp at *;lia) o' (k:=k) (by simpa using hk);rw [List.countP_map,decide_eq_true_eq,List.getElem_map] at this;exact this
end Ln
set_option maxHeartbeats 2000000
namespace L2
open PySem PySem.Spec PyProof.Rows
theorem qc {X:Cx} {K:PySem.W.Frag} {e:Expr} {f:Str} {pos:Pos} {ta:TE} (he:PE X e ta) (hb:attributeBase e f X.env (eval e X.env)=eval e X.env) (hK:X.K=K:=by rfl):PE X (.Attribute e f pos) (Gp K ta f):=hK ▸ aN he hb
theorem mG {P:Program} {w:World} {X:Cx}:Passes (sM P w) X E0:=λ _ _ _ _ _ _ _ h=>by
  obtain ⟨_,_,_,q⟩:=h;exact q.elim
theorem ir {n j:Nat} (h:j < n):xD n (j:Int)=some j:=by
  unfold xD;rw [if_pos (by lia)];simp [h]
theorem iu (ns:List Int):(ns.map V.int).all eB=true:=by
  rw [List.all_map];exact List.all_eq_true.mpr λ _ _=>rfl
theorem rO:∀ (xs ys:List Int),sN (xs.map V.int) (ys.map V.int)=decide (xs=ys)
  | [],[]=>rfl
  | [],y :: ys=>by simp [sN]
  | x :: xs,[]=>by simp [sN]
  | x :: xs,y :: ys=>by
    rw [List.map_cons,List.map_cons];unfold sN;rw [rO xs ys];show (x == y && decide (xs=ys))=_
    by_cases h1:x=y<;>by_cases h2:xs=ys<;>simp [h1,h2]
theorem mH:∀ {xs ys:List Int},xs.Pairwise (· < ·)→ys.Pairwise (· < ·)→(∀ n,n∈xs↔n∈ys)→xs=ys
  | [],[],_,_,_=>rfl
  | [],y :: ys,_,_,h=>by have:=(h y).mpr (by simp);simp at this
  | x :: xs,[],_,_,h=>by have:=(h x).mp (by simp);simp at this
  | x :: xs,y :: ys,hx,hy,h=>by
    obtain ⟨a1,a2⟩:=List.pairwise_cons.mp hx;obtain ⟨b1,b2⟩:=List.pairwise_cons.mp hy;have e:x=y:=by
      rcases List.mem_cons.mp ((h x).mp (by simp)) with e | e
      · exact e
      · rcases List.mem_cons.mp ((h y).mpr (by simp)) with e' | e'
        · exact e'.symm
        · have:=b1 x e;have:=a1 y e'
          lia
    subst e;rw [mH a2 b2 λ n=>?_];constructor
    · intro hn;rcases List.mem_cons.mp ((h n).mp (List.mem_cons_of_mem _ hn)) with e | e
      · have:=a1 n hn;lia
      · exact e
    · intro hn;rcases List.mem_cons.mp ((h n).mpr (List.mem_cons_of_mem _ hn)) with e | e
      · have:=b1 n hn;lia
      · exact e
theorem jC {X:Cx} {e:Expr} {te:TE} {C:Addr} {n:Str} {p1 p2 pos:Pos} (B:X.mg "isinstance"=none) (hT:X.mg n=some (.ref C)) (he:PE X e te) (hg:Gl X "isinstance":=by rfl) (Lh:Gl X n:=by rfl)
    (hd:(n == ("__debug__":Str))=false:=by decide) (hs:starEach [e,.Name n p2] X.env=(false,eval e X.env) :: starEach [.Name n p2] X.env:=by rfl) (kL:starEach [.Name n p2] X.env=(false,eval (.Name n p2) X.env) :: starEach [] X.env:=by rfl)
    (gk:(backTo pos (starEach [.Name n p2] X.env)).any (·.1)=false:=by rfl) :
    PE X (.Call (.Name "isinstance" p1) [e,.Name n p2] [] pos) (Jt (λ xs H Q=>∃ x t b,xs=[x,.ref C]∧bF X.K H x t∧PySem.W.kitOne X.K t (.ref C)=some b∧Q (.bl b) H) (nM te (nM (tC (.ref C)) fc))):=by
  have c:dW X (.builtin "isinstance") (λ xs H Q=>∃ x t b,xs=[x,.ref C]∧bF X.K H x t∧PySem.W.kitOne X.K t (.ref C)=some b∧Q (.bl b) H):=λ pins s σ H xs us Q I r ⟨x,t,b,e1,ty,k,q⟩ =>
    kq pins s σ H xs us Q I r ⟨x,_,t,.ref C,b,e1,⟨rfl,λ _ h=>h⟩,ty,k,q⟩
  exact aB c hg B PyProof.Rows.Boot.«isinstance» (aa he (aa (AB (v:=.ref C) Lh hT rfl hd) ae kL) hs) (by decide) (by decide) hs gk
theorem Bx {X:Cx}:iI X (compareOp .IsNot) (λ x y H Q=>∃ c d,x = .bl c∧y = .bl d∧Q (.bl (c != d)) H):=by
  intro pins s σ H x y v u Q I rx ry h;obtain ⟨c,d,rfl,rfl,q⟩:=h;cases rx;cases ry;exact isnot_bool (bg I q rfl)
theorem By {X:Cx} {H:Hp} {p:Addr} {i j k:Int} (h:H p=some (.tup [.int i,.int j,.int k])):A0 X H 8 (.ref p) (.ref p) true:=by
  have:=A3 (X:=X) (n:=7) (e:=λ _=>true) (b_.of (K:=X.K) h) (b_.of (K:=X.K) h) rfl (λ _ _ _=>rfl) λ n x y ex ey=>by
    rw [ex] at ey;cases ey;have hx:∃ z,x = .int z:=by
      match n,ex with
      | 0,ex=>exact ⟨i,(Option.some.inj ex).symm⟩
      | 1,ex=>exact ⟨j,(Option.some.inj ex).symm⟩
      | 2,ex=>exact ⟨k,(Option.some.inj ex).symm⟩
    obtain ⟨z,rfl⟩:=hx;have:=(qQ (X:=X) (H:=H) (x:=.int z) (y:=.int z) rfl rfl).mono (Nat.zero_le 7)
    rwa [show uW (.int z) (.int z)=true by show (z == z)=true;simp] at this
  exact this
end L2
namespace Sp
open PySem L2
seal PE PA PS jM PT PG uK PI PW tK
section
variable {P:Program} {w:World} {K:PySem.W.Frag} {mg:Str→Option Value} {base:Heap}
theorem vx {rs:List (Int×Int×Int)} {i:Nat} {r:Int×Int×Int} (h:rs[i]?=some r):Lg.rq rs i=r:=by
  unfold Lg.rq;simp [List.getD,h]
theorem fV {H:Hp} {a:Addr} {rs:List (Int×Int×Int)} {xs:List V} (h:a9 H a rs) (hx:H a=some (.lst xs)) {j:Nat} {x:V} (e:xs[j]?=some x):∃ p,x = .ref p∧H p=some (.tup (fj (Lg.rq rs j))):=by
  obtain ⟨ys,h1,h2,h3⟩:=h;rw [hx] at h1;cases h1;have hj:j < rs.length:=by have:=(List.getElem?_eq_some_iff.mp e).1;lia
  obtain ⟨p,ep,hp⟩:=h3 j rs[j] (List.getElem?_eq_getElem hj);rw [e] at ep;cases ep;exact ⟨p,rfl,by rw [vx (List.getElem?_eq_getElem hj)];exact hp⟩
structure vy (K:PySem.W.Frag) (C:Addr):Prop where
  cl:qC K C
  ha:PySem.W.findIn K (.ref C) "__class__"=some (some (.builtin "object.__class__"))
  hn:PySem.W.specialIn K (.builtin "object.__class__") "__get__"=some (some (.builtin "getset_descriptor.__get__"))
  v_:PySem.W.takesIn K (.builtin "object.__class__")=some true
  hm:PySem.W.mroIn K C (.type "object")=some true
theorem vy.ty {K:PySem.W.Frag} {C:Addr} (c:vy K C) {H:Hp} {a dx:Addr} {fs:List (Str×V)} (e:H a=some (.ins C dx fs)):bF K H (.ref a) (.ref C):=.ins e c.cl c.ha c.hn c.v_ c.hm
theorem zj {H:Hp} {v:V} {Q:VK} {E:XK} (g:lM H v) (q:∀ H',av H H'→Q (.bl true) H'):kP K [v] H Q E:=by
  obtain ⟨a,xs,rfl,ha,hl,hp⟩:=g;refine ⟨_,rfl,.inr ⟨a,xs,rfl,ha,hl,λ x hx=>?_,λ bs H' sm hb Hg=>?_⟩⟩
  · obtain ⟨p,i,j,k,rfl,e2,_⟩:=hp x hx;exact lN e2
  · have e4:bs.all id=true:=by
      rw [List.all_eq_true];intro b n6;obtain ⟨j,hj,ej⟩:=List.getElem_of_mem n6;have ie:j < xs.length:=by omega
      obtain ⟨p,i,j',k,e1,e2,h1,h2⟩:=hp xs[j] (List.getElem_mem ie);have r:=Hg j b xs[j] (by rw [List.getElem?_eq_getElem hj,ej]) (List.getElem?_eq_getElem ie);rw [e1] at r;exact (jm r (lO e2 h1 h2))
    rw [e4];exact q H' sm
theorem fo {H:Hp} {x dx:Addr} {o1 o2:HO} (hx:H x=none) (hd:H dx=none):av H (upd (upd H dx o1) x o2):=λ b u e=>by
  rw [aq (ay e hx),aq (ay e hd)];exact e
theorem iw {H H':Hp} {x:Addr} {o:HO} (hx:H x=none) (h:av H H'):av H (upd H' x o):=λ b u e=>by
  rw [aq (ay e hx)];exact h b u e
theorem mI {rs:List (Int×Int×Int)} {c:Nat} (h:c < rs.length):Lg.rq rs c∈rs:=by
  unfold Lg.rq;rw [List.getD_eq_getElem?_getD,List.getElem?_eq_getElem h];exact List.getElem_mem h
theorem wV (n:Nat):(List.replicate n [V.int 0]).flatten=(List.replicate n (0:Int)).map V.int:=by
  induction n with
  | zero=>rfl
  | succ n ih=>rw [List.replicate_succ,List.flatten_cons,ih,List.replicate_succ];rfl
theorem wW:az ["_law_script","_law_many"] ["_law_script","_law_many"] (ao fH):=dZ
noncomputable def oH (K:PySem.W.Frag):Sp:=λ vs H Q _=>∃ (a:Addr) (ns:List Int) (m:Int),vs=[.ref a,.int m]∧aJ K H a (ns.map V.int)∧0≤m∧∀ r H',0≤r→r < m + 4→av H H'→Q (.int r) H'
theorem wX (GC:Def P w K mg base bN 1 "_law_cell_at" ["_law_script","_law_k"] (kR K)) (GD:Def P w K mg base bN 1 "_law_draw" ["_law_cell","_law_k","_law_many"] kT) (D:FnAt K mg "_law_rooms" fH ["_law_script","_law_many"]) :
    Def P w K mg base bN 2 "_law_rooms" ["_law_script","_law_many"] (oH K):=by
  refine D.ok wW (λ vs H Q E h=>?_) λ f bM A outer s H vs Q E hr h=>?_
  · obtain ⟨a,ns,m,rfl,_⟩:=h;rfl
  · obtain ⟨a,ns,m,rfl,hl,hm,q⟩:=h;have de:bc 1 _:=hr.mono (by decide);refine ⟨_,ag (bK (bh gw (au GD de rfl aD (aa (au GC de rfl aD (aa (pv 0) (aa ai ae))) (aa ai (aa ai ae)))) ai (aR _))
        (aj (aH (au GD de rfl aD (aa (au GC de rfl aD (aa (pv 0) (aa ai ae))) (aa ai (aa (aF bj (pv 1) ai) ae)))))) aQ)
      (aj (aH (au GD de rfl aD (aa (au GC de rfl aD (aa (pv 0) (aa ai ae))) (aa ai (aa ai ae)))))),?_⟩
    refine ⟨_,rfl,a,ns,3,rfl,hl,by decide,_,_,_,rfl,by decide,by decide,λ r H1 h0 h1 s1=>?_⟩;refine ⟨rfl,_,rfl,yp (λ h=>?_) (λ h=>?_)⟩
    · refine ⟨_,rfl,a,ns,3,rfl,s1.seq hl,by decide,_,rfl,_,_,rfl,rfl,?_⟩;exact ⟨_,_,_,rfl,by decide,by lia,λ r' H2 a1 a2 s2=>q r' H2 a1 (by lia) (s1.trans s2)⟩
    · refine ⟨_,rfl,a,ns,3,rfl,s1.seq hl,by decide,?_⟩;exact ⟨_,_,_,rfl,by decide,by decide,λ r' H2 a1 a2 s2=>q r' H2 a1 (by lia) (s1.trans s2)⟩
theorem wY:az ["_law_number"] ["_law_number"] (ao fJ):=dZ
noncomputable def ix:Sp:=λ vs H Q _=>∃ i:Int,vs=[.int i]∧Q (.bl true) H
theorem wZ (B:Bl mg) (D:FnAt K mg "_law_whole" fJ ["_law_number"]):Def P w K mg base bN 1 "_law_whole" ["_law_number"] ix:=by
  refine D.ok wY (λ vs H Q E h=>?_) λ f bM A outer s H vs Q E hr h=>?_
  · obtain ⟨i,rfl,_⟩:=h;rfl
  · obtain ⟨i,rfl,q⟩:=h;refine ⟨_,aj (aH (cp (fM B.isinstance B.int PyProof.Rows.Boot.«int» (pv 0)) (c_ (sW (fM B.isinstance B.bool PyProof.Rows.Boot.«bool» (pv 0)))))),?_⟩;obtain ⟨k1,k2,_⟩:=pI (K:=K) (H:=H) (bF.int i);exact ⟨_,rfl,_,_,_,rfl,bF.int i,k1,_,rfl,bW ⟨_,rfl,_,_,_,rfl,bF.int i,k2,_,rfl,q⟩⟩
theorem um:az ["_law_requests_here","_law_some"] ["_law_requests_here","_law_some"] (ao e7):=dZ
noncomputable def mJ (K:PySem.W.Frag):Sp:=λ vs H Q _=>∃ (a b:Addr) (ns:List Int) (ys:List V),vs=[.ref b,.ref a]∧H a=some (.lst (ns.map V.int))∧aJ K H b ys∧ns.length≤4000∧∀ H',av H H'→Q (.bl (cW ns ys.length)) H'
theorem uo (B:Bl mg) (GW:Def P w K mg base bN 1 "_law_whole" ["_law_number"] ix) (D:FnAt K mg "_law_chosen" e7 ["_law_requests_here","_law_some"]) :
    Def P w K mg base bN 2 "_law_chosen" ["_law_requests_here","_law_some"] (mJ K):=by
  refine D.ok um (λ vs H Q E h=>?_) λ f bM A outer s H vs Q E hr h=>?_
  · obtain ⟨a,b,ns,ys,rfl,_⟩:=h;rfl
  · obtain ⟨a,b,ns,ys,rfl,ha,hb,hz,q⟩:=h;have de:bc 1 _:=hr.mono (by decide);refine ⟨_,ag (bK (bJ (aW (aB (bT rfl) (by rfl) B.all PyProof.Rows.Boot.«all» (aa
        (bC ["_law_at"] [0] rfl (aY (pv 1)) λ cl s H fp C=>⟨aV (i:=0) (show (["_law_at","_law_requests_here"]:List Str).Nodup by decide +kernel) rfl (Or.inl rfl),br,
          cp (au GW de rfl aD (aa (pv 0) ae)) (c_ (qA lr iJ ai (pv 0) (aB (j6 (K:=K)) (by rfl) B.len PySem.boot_len (aa (pv 1) ae))))⟩) ae)))) (aj (aH b7)) aQ)
      (aj (aH (b8 (DT (K:=K) hr.units) (pv 1) (aB (ml rfl) (by rfl) B.sorted PyProof.Rows.Boot.«sorted» (aa (cm (ou rfl) (by rfl) B.set PyProof.Rows.Boot.«set» (aa (pv 1) ae)) ae)) (aR _)))),?_⟩
    refine ⟨_,rfl,a,rfl,⟨_,aJ.of ha⟩,λ D hD=>?_⟩;refine aX (aI (ns.map V.int)) (λ σ=>∃ o,σ=[o,some (.ref b)]) (λ j=>.bl (decide (0≤ns.getD j 0) && decide (ns.getD j 0 < (ys.length:Int)))) hD (by rw [List.length_map];omega) (λ H3 s3=>aJ.of (s3 _ _ ha)) ⟨_,rfl⟩ ?_ ?_
    · rintro j v σ H3 mn hj ⟨rfl,hx⟩ s3 ⟨o,rfl⟩ Ky hK;obtain ⟨h1,rfl⟩:=int_at hx;refine ⟨_,rfl,_,rfl,_,rfl,bW ⟨_,rfl,_,_,rfl,rfl,_,rfl,?_⟩⟩
      by_cases h0:0≤ns.getD j 0
      · refine fE (by simpa using h0) ⟨_,rfl,b,ys,rfl,.inl (s3.seq hb),_,_,rfl,rfl,hK _ _ _ (av.refl _) ⟨_,rfl⟩ ?_⟩;rw [decide_eq_true h0,Bool.true_and]
      · refine df (by simpa using h0) (hK _ _ _ (av.refl _) ⟨_,rfl⟩ ?_);rw [decide_eq_false h0,Bool.false_and]
    · intro H3 s3 qt;have e1:((List.range (ns.map V.int).length).map λ j=>decide (0≤ns.getD j 0) && decide (ns.getD j 0 < (ys.length:Int))).all id=ns.all λ c=>decide (0≤c) && decide (c < (ys.length:Int)):=by
        rw [List.length_map];exact all_range ns λ c=>decide (0≤c) && decide (c < (ys.length:Int))
      refine ⟨D,(List.range (ns.map V.int).length).map λ j=>decide (0≤ns.getD j 0) && decide (ns.getD j 0 < (ys.length:Int)),rfl,aJ.of (by rw [qt,List.map_map];rfl),_,rfl,?_⟩;rw [e1];have q':=q;unfold cW at q';have CF:=s3 _ _ ha;cases hc:ns.all λ c=>decide (0≤c) && decide (c < (ys.length:Int)) with
      | false =>
        rw [hc] at q';exact bW (q' H3 s3)
      | true =>
        rw [hc] at q';refine bV ⟨_,rfl,_,rfl,a,ns,rfl,aJ.of CF,hz,λ p hp=>?_⟩;refine ⟨p,_,rfl,af,?_,λ ms Fw ho l hl=>?_⟩
        · exact Nat.le_trans (jN.gY _ _) hz
        · obtain ⟨r1,r2⟩:=ow Fw ho;have s4:=(ah (o:=Bo P w p (jN.seen (λ i=>ns.getD i 0) ns.length)) hp).trans (ah (o:=.lst (ms.map V.int)) hl);refine ⟨a,l,_,_,rfl,rfl,aJ.of (s4 _ _ CF),aJ.of af,iu _,iu _,?_⟩;have e:(if false=true then !sN (ns.map V.int) (ms.map V.int) else sN (ns.map V.int) (ms.map V.int))=(true && e8 ns):=by
            rw [if_neg Bool.false_ne_true,rO,Bool.true_and,Bool.eq_iff_iff,decide_eq_true_eq,dr];exact ⟨λ z=>z ▸ r1,λ z=>mH z r1 λ n=>(r2 n).symm⟩
          rw [e];exact q' _ (s3.trans s4)
noncomputable def CG (rs:List (Int×Int×Int)) (d:Int) (c:Int):Bool:=decide ((Lg.rq rs c.toNat).1≤d) && decide (d≤(Lg.rq rs c.toNat).2.1)
theorem uq (ns:List Int) (p:Int→Bool):bp (λ j=>p (ns.getD j 0)) (λ j=>.int (ns.getD j 0)) ns.length=(ns.filter p).map V.int:=by
  unfold bp
  conv=>rhs;rw [← range_getD ns 0]
  rw [List.filter_map,List.map_map];rfl
theorem fW {H:Hp} {b:Addr} {rs:List (Int×Int×Int)} (h:a9 H b rs) {c:Int} (h0:0≤c) (h1:c.toNat < rs.length):∃ xs p,H b=some (.lst xs)∧eA xs c=some (.ref p)∧H p=some (.tup (fj (Lg.rq rs c.toNat))):=by
  obtain ⟨xs,e1,e2,e3⟩:=h;obtain ⟨p,e4,e5⟩:=e3 c.toNat rs[c.toNat] (List.getElem?_eq_getElem h1);exact ⟨xs,p,e1,kQ h0 e4,by rw [vx (List.getElem?_eq_getElem h1)];exact e5⟩
theorem w5:az ["_law_requests_here","_law_some","_law_day"] ["_law_requests_here","_law_some","_law_day"] (ao fK):=dZ
noncomputable def oI (K:PySem.W.Frag):Sp:=λ vs H Q _=>∃ (a b:Addr) (ns:List Int) (d:Int) (rs:List (Int×Int×Int)),vs=[.ref b,.ref a,.int d]∧H a=some (.lst (ns.map V.int))∧a9 H b rs∧(∀ c∈ns,0≤c∧c.toNat < rs.length)∧ns.length≤60000 ∧
  ∀ l H',av H H'→H l=none→H' l=some (.lst ((ns.filter (CG rs d)).map V.int))→Q (.ref l) H'
theorem w6 (D:FnAt K mg "_law_there" fK ["_law_requests_here","_law_some","_law_day"]):Def P w K mg base bN 1 "_law_there" ["_law_requests_here","_law_some","_law_day"] (oI K):=by
  refine D.ok w5 (λ vs H Q E h=>?_) λ f bM A outer s H vs Q E hr h=>?_
  · obtain ⟨a,b,ns,d,rs,rfl,_⟩:=h;rfl
  · obtain ⟨a,b,ns,d,rs,rfl,ha,hR,iR,hz,q⟩:=h;refine ⟨_,aj (aH (bC ["_law_at"] [0,2] rfl (aY (pv 1)) λ cl s H fp C=>⟨aV (i:=0) (show (["_law_at","_law_requests_here","_law_day"]:List Str).Nodup by decide +kernel) rfl (Or.inl rfl),
      fC (qB lr lr (aO (cg (K:=K)) (aO (cB (K:=K)) (pv 1) (pv 0) (λ _ _=>rfl)) ai (λ _ _=>rfl)) (pv 2) (aO (cg (K:=K)) (aO (cB (K:=K)) (pv 1) (pv 0) (λ _ _=>rfl)) ai (λ _ _=>rfl))),pv 0⟩)),?_⟩
    refine ⟨_,rfl,a,rfl,⟨_,aJ.of ha⟩,λ D hD=>?_⟩;refine fk (aI (ns.map V.int)) (λ σ=>∃ o,σ=[o,some (.ref b),some (.int d)]) (λ j=>CG rs d (ns.getD j 0)) (λ j=>.int (ns.getD j 0)) hD (by rw [List.length_map];omega) (λ H3 s3=>aJ.of (s3 _ _ ha)) ⟨_,rfl⟩ ?_ ?_
    · rintro j v σ H3 mn hj ⟨rfl,gi⟩ s3 ⟨o,rfl⟩ Ky Kn hY hN;obtain ⟨h1,rfl⟩:=int_at gi;obtain ⟨c0,c1⟩:=iR _ (show ns.getD j 0∈ns by rw [getD_at h1];exact List.getElem_mem h1);obtain ⟨xs,p,e1,e2,e3⟩:=fW (aC s3 hR) c0 c1;unfold CG at hY hN;generalize ns.getD j 0=c at *;refine ⟨_,rfl,_,rfl,b,_,_,_,rfl,rfl,aJ.of e1,e2,p,_,_,_,rfl,rfl,b_.of e3,(show eA (fj (Lg.rq rs c.toNat)) 0=some (.int (Lg.rq rs c.toNat).1) from rfl),_,rfl,_,_,rfl,rfl,_,rfl,?_⟩
      by_cases h1:(Lg.rq rs c.toNat).1≤d
      · refine fE (by simpa using h1) ⟨_,rfl,_,rfl,b,_,_,_,rfl,rfl,aJ.of e1,e2,p,_,_,_,rfl,rfl,b_.of e3,(show eA (fj (Lg.rq rs c.toNat)) 1=some (.int (Lg.rq rs c.toNat).2.1) from rfl),_,_,rfl,rfl,_,rfl,?_⟩
        by_cases h2:d≤(Lg.rq rs c.toNat).2.1
        · exact fE (by simpa using h2) ⟨_,rfl,hY _ _ _ (av.refl _) ⟨_,rfl⟩ (by simp [h1,h2]) rfl⟩
        · exact df (by simpa using h2) (hN _ _ (av.refl _) ⟨_,rfl⟩ (by simp [h2]))
      · refine df (by simpa using h1) ⟨_,rfl,?_⟩;exact bV (hN _ _ (av.refl _) ⟨_,rfl⟩ (by simp [h1]))
    · intro H3 s3 qt;refine q D H3 s3 hD ?_;rw [qt,List.length_map,uq ns (CG rs d)]
theorem w9 {H:Hp} {b p:Addr} {rs:List (Int×Int×Int)} {xs:List V} (h:a9 H b rs) (hb:H b=some (.lst xs)) (hp:H p=none):a9 (upd H p (.lst xs)) p rs:=by
  obtain ⟨ys,e1,e2,e3⟩:=h;rw [hb] at e1;cases e1;exact ⟨_,af,e2,λ i r e=>let ⟨p',e4,e5⟩:=e3 i r e;⟨p',e4,ah hp _ _ e5⟩⟩
end
end Sp
set_option maxHeartbeats 1000000
namespace L2
open PySem PySem.Spec PyProof.Rows
theorem qd {X:Cx} {K:PySem.W.Frag} {x y z v:Str} {k:Nat} {p1 p2 p3 p4 pos:Pos} (i j l m:Nat) (hc:X.calm=true) (hN:X.N.Nodup) (hi:X.N[i]?=some x:=by rfl) (hj:X.N[j]?=some y:=by rfl) (hl:X.N[l]?=some z:=by rfl) (hm:X.N[m]?=some v:=by rfl)
    (hx:X.env.scope.names.lookup x=some .local:=by rfl) (hy:X.env.scope.names.lookup y=some .local:=by rfl) (hz:X.env.scope.names.lookup z=some .local:=by rfl) (hv:X.env.scope.names.lookup v=some .local:=by rfl)
    (hs:(assignEach [.Name x p1,.Name y p2,.Name z p3,.Name v p4] X.env).map (·.2)=assign (.Name x p1) X.env :: (assignEach [.Name y p2,.Name z p3,.Name v p4] X.env).map (·.2):=by rfl) (kL:(assignEach [.Name y p2,.Name z p3,.Name v p4] X.env).map (·.2)=assign (.Name y p2) X.env :: (assignEach [.Name z p3,.Name v p4] X.env).map (·.2):=by rfl)
    (Li:(assignEach [.Name z p3,.Name v p4] X.env).map (·.2)=assign (.Name z p3) X.env :: (assignEach [.Name v p4] X.env).map (·.2):=by rfl) (RE:(assignEach [.Name v p4] X.env).map (·.2)=[assign (.Name v p4) X.env]:=by rfl)
    (hn:(assignEach [.Name x p1,.Name y p2,.Name z p3,.Name v p4] X.env).length=4:=by rfl) (qy:(assignEach [.Name x p1,.Name y p2,.Name z p3,.Name v p4] X.env).findIdx? (·.1)=none:=by rfl) (hK:X.K=K:=by rfl) :
    PG X (.Tuple [.Name x p1,.Name y p2,.Name z p3,.Name v p4] k pos) (AF K 4 (iH (fb i) (iH (fb j) (iH (fb l) (iH (fb m) AE))))) :=
  hK ▸ o_ hc (cj (aV hN hi (.inl hx) (.inr hx)) (cj (aV hN hj (.inl hy) (.inr hy)) (cj (aV hN hl (.inl hz) (.inr hz)) (cj (aV hN hm (.inl hv) (.inr hv)) kI RE) Li) kL) hs) hn qy
noncomputable def aM (H:Hp) (a:Addr) (vs:List (List V)):Prop:=∃ xs:List V,H a=some (.lst xs)∧xs.length=vs.length∧∀ (i:Nat) v,vs[i]?=some v→∃ p,xs[i]?=some (.ref p)∧H p=some (.tup v)
noncomputable def Fx (S:Addr→Prop) (H H':Hp):Prop:=∀ b u,H b=some u→¬ S b→H' b=some u
theorem Fx.refl {S:Addr→Prop} {H:Hp}:Fx S H H:=λ _ _ e _=>e
theorem Fx.trans {S:Addr→Prop} {H H1 H2:Hp} (a:Fx S H H1) (b:Fx S H1 H2):Fx S H H2:=λ c u e n=>b c u (a c u e n) n
theorem Fx.of {S:Addr→Prop} {H H1:Hp} (a:av H H1):Fx S H H1:=λ c u e _=>a c u e
theorem Fx.mono {S T:Addr→Prop} {H H1:Hp} (a:Fx S H H1) (h:∀ b,S b→T b):Fx T H H1:=λ c u e n=>a c u e λ z=>n (h c z)
theorem Fx.upd {S:Addr→Prop} {H H1:Hp} {a:Addr} {o:HO} (x:Fx S H H1) (h:S a∨H a=none):Fx S H (upd H1 a o):=λ c u e n=>by
  rw [aq λ z=>?_]
  · exact x c u e n
  · subst z;rcases h with h | h
    · exact n h
    · rw [e] at h;cases h
theorem aM.fx {S:Addr→Prop} {H H':Hp} {a:Addr} {vs:List (List V)} (h:aM H a vs) (s:Fx S H H') (ha:¬ S a) (hS:∀ b v,S b→H b≠some (.tup v)):aM H' a vs:=by
  obtain ⟨xs,e1,e2,e3⟩:=h;refine ⟨xs,s a _ e1 ha,e2,λ i v e=>?_⟩;obtain ⟨p,h1,h2⟩:=e3 i v e;exact ⟨p,h1,s p _ h2 λ z=>hS p v z h2⟩
theorem aM.same {H H':Hp} {a:Addr} {vs:List (List V)} (h:aM H a vs) (s:av H H'):aM H' a vs:=h.fx (S:=λ _=>False) (λ b u e _=>s b u e) (λ z=>z) λ _ _ z=>z.elim
theorem aM.list {H:Hp} {a:Addr} {vs:List (List V)} (h:aM H a vs):∃ xs,H a=some (.lst xs)∧xs.length=vs.length:=let ⟨xs,e1,e2,_⟩:=h;⟨xs,e1,e2⟩
theorem aM.at_ {H:Hp} {a:Addr} {vs:List (List V)} {xs:List V} (h:aM H a vs) (hx:H a=some (.lst xs)) {j:Nat} {x:V} (e:xs[j]?=some x):∃ p v,x = .ref p∧vs[j]?=some v∧H p=some (.tup v):=by
  obtain ⟨ys,h1,h2,h3⟩:=h;rw [hx] at h1;cases h1;have hj:j < vs.length:=by have:=(List.getElem?_eq_some_iff.mp e).1;lia
  obtain ⟨p,ep,hp⟩:=h3 j vs[j] (List.getElem?_eq_getElem hj);rw [e] at ep;cases ep;exact ⟨p,vs[j],rfl,List.getElem?_eq_getElem hj,hp⟩
theorem aM.cat {H:Hp} {a b l:Addr} {vs ws:List (List V)} {xs ys:List V} (ha:aM H a vs) (hb:aM H b ws) (hx:H a=some (.lst xs)) (hy:H b=some (.lst ys)) (hl:H l=none):aM (upd H l (.lst (xs ++ ys))) l (vs ++ ws):=by
  obtain ⟨E9,h1,h2,h3⟩:=ha;obtain ⟨QE,k1,k2,k3⟩:=hb;rw [hx] at h1;cases h1;rw [hy] at k1;cases k1;refine ⟨_,af,by rw [List.length_append,List.length_append,h2,k2],λ i v e=>?_⟩
  by_cases hi:i < vs.length
  · rw [List.getElem?_append_left hi] at e;obtain ⟨p,e1,e2⟩:=h3 i v e;exact ⟨p,by rw [List.getElem?_append_left (by lia)];exact e1,by rw [aq (ay e2 hl)];exact e2⟩
  · rw [List.getElem?_append_right (by lia)] at e;obtain ⟨p,e1,e2⟩:=k3 _ v e;exact ⟨p,by rw [List.getElem?_append_right (by lia),h2];exact e1,by rw [aq (ay e2 hl)];exact e2⟩
noncomputable def fX (H:Hp) (a:Addr):List V:=match H a with
  | some (.tup v)=>v
  | _=>[]
theorem Bz {H:Hp} {a:Addr} {v:List V} (h:H a=some (.tup v)):fX H a=v:=by unfold fX;rw [h]
theorem w_ {H:Hp} {a:Addr} {vs:List (List V)} (h:aM H a vs):∃ ps:List Addr,H a=some (.lst (ps.map V.ref))∧ps.map (fX H)=vs∧∀ p∈ps,H p=some (.tup (fX H p)):=by
  obtain ⟨xs,h1,h2,h3⟩:=h;have key:∀ (xs:List V) (vs:List (List V)),xs.length=vs.length→(∀ (i:Nat) v,vs[i]?=some v→∃ p,xs[i]?=some (.ref p)∧H p=some (.tup v))→∃ ps:List Addr,xs=ps.map V.ref∧ps.map (fX H)=vs∧∀ p∈ps,H p=some (.tup (fX H p)):=by
    intro xs
    induction xs with
    | nil =>
      intro vs hl _;have:vs=[]:=List.length_eq_zero_iff.mp (by simpa using hl.symm);subst this;exact ⟨[],rfl,rfl,λ p hp=>by simp at hp⟩
    | cons x xs ih =>
      intro vs hl hr;cases vs with
      | nil=>simp at hl
      | cons v vs =>
        obtain ⟨p,e1,e2⟩:=hr 0 v rfl;obtain ⟨ps,e3,e4,e5⟩:=ih vs (by simpa using hl) λ i r' e=>by
          obtain ⟨p',a1,a2⟩:=hr (i + 1) r' (by simpa using e);exact ⟨p',by simpa using a1,a2⟩
        have ex:x = .ref p:=by simpa using e1
        have ek:=Bz e2;refine ⟨p :: ps,by rw [ex,e3];rfl,by rw [List.map_cons,ek,e4],λ q hq=>?_⟩;rcases List.mem_cons.mp hq with rfl | hq
        · rw [ek];exact e2
        · exact e5 q hq
  obtain ⟨ps,e1,e2,e3⟩:=key xs vs h2 h3;exact ⟨ps,by rw [h1,e1],e2,e3⟩
theorem xa {H:Hp} {a:Addr} {ps:List Addr} (h:H a=some (.lst (ps.map V.ref))) (hp:∀ p∈ps,H p=some (.tup (fX H p))):aM H a (ps.map (fX H)):=by
  refine ⟨_,h,by simp,λ i r e=>?_⟩;rw [List.getElem?_map] at e;cases ei:ps[i]? with
  | none=>rw [ei] at e;cases e
  | some p =>
    rw [ei] at e;cases e;exact ⟨p,by rw [List.getElem?_map,ei];rfl,hp p (List.mem_of_getElem? ei)⟩
theorem jD {α β:Type} {f:α→β}:∀ {ms:List α} {l:List β},l.Perm (ms.map f)→∃ LS:List α,l=LS.map f∧LS.Perm ms
  | [],l,h=>⟨[],List.perm_nil.mp h,.nil⟩
  | m :: ms,l,h=>by
    have hm:f m∈l:=h.mem_iff.mpr (by simp);obtain ⟨l1,l2,rfl⟩:=List.append_of_mem hm;have h2:(l1 ++ l2).Perm (ms.map f):=by
      have:=List.perm_middle.symm.trans h;exact List.Perm.cons_inv this
    obtain ⟨LS,e,p⟩:=jD h2;obtain ⟨a,b,rfl,e1,e2⟩:=List.map_eq_append_iff.mp e.symm;exact ⟨a ++ m :: b,by rw [List.map_append,List.map_cons,e1,e2],List.perm_middle.trans (p.cons m)⟩
section
variable {J:It} {n:Nat} {Ok:Hp→Prop} {item:Nat→V→Hp→Hp→Prop}
theorem dz {g:TG} {tt:TT} {te:TE} {R:Hp→Prop} {H1:Hp} {σ0:St} {D:Addr} (Y:eH J n Ok item) (S:St→Prop) (p:Nat→Bool) (f:Nat→List V) (hD:H1 D=none) (hn:n≤100000) (bH:∀ H,av H1 H→Ok H) (s0:S σ0)
    (hs:∀ i x σ H H',i < n→item i x H H'→av H1 H→S σ→∀ (Ky:St→V→Hp→Prop) (Kn:St→Hp→Prop),(∀ σ3 q H5,av H H5→H q=none→H5 q=some (.tup (f i))→S σ3→p i=true→Ky σ3 (.ref q) H5)→(∀ σ3 H4,av H H4→S σ3→p i=false→Kn σ3 H4) →
      g x σ H' λ σ3 H3=>tt σ3 H3 λ b H4=>if b=true then te σ3 H4 λ y H5=>Ky σ3 y H5 else Kn σ3 H4)
    (hq:∀ H,av H1 H→aM H D (((List.range n).filter p).map f)→R H) :
    ∃ W:Nat→Nat→List V→St→Hp→Prop,(∃ m,W 0 m [] σ0 (upd H1 D (.lst [])))∧∀ i m ys σ' H',W i m ys σ' H' →
      (J.stop i H'∧R H')∨(J.go i H'∧∃ N:List V→St→Hp→Prop,(∀ zs σ2 H2,N zs σ2 H2→∃ m',m' < m∧W (i + 1) m' zs σ2 H2)∧∀ x H2,J.nK i H' x H2→g x σ' H2 λ σ3 H3=>tt σ3 H3 λ b H4 =>
        if b=true then te σ3 H4 λ y H5=>H5 D=some (.lst ys)∧ys.length < sizeLine∧N (ys ++ [y]) σ3 (upd H5 D (.lst (ys ++ [y])))
        else N ys σ3 H4):=by
  have LU:∀ i,(((List.range i).filter p).map f).length≤i:=λ i=>by
    rw [List.length_map];exact Nat.le_trans (List.length_filter_le _ _) (by simp)
  refine u5 Y (λ i ys σ H=>S σ∧av H1 H∧H D=some (.lst ys)∧ys.length=(((List.range i).filter p).map f).length∧∀ (j:Nat) v,(((List.range i).filter p).map f)[j]?=some v→∃ q,ys[j]?=some (.ref q)∧H q=some (.tup v))
    (λ i ys σ H _ z=>bH H z.2.1) ⟨s0,Sp.ah hD,af,rfl,λ j r e=>by simp at e⟩ ?_ ?_
  · rintro i x ys σ H H' hi it ⟨hS,sm,qL,xN,Au⟩;refine hs i x σ H H' hi it sm hS (λ σ3 y H5=>H5 D=some (.lst ys)∧ys.length < sizeLine∧S σ3∧av H1 (upd H5 D (.lst (ys ++ [y])))∧upd H5 D (.lst (ys ++ [y])) D=some (.lst (ys ++ [y]))∧(ys ++ [y]).length=(((List.range (i + 1)).filter p).map f).length ∧
        ∀ (j:Nat) v,(((List.range (i + 1)).filter p).map f)[j]?=some v→∃ q,(ys ++ [y])[j]?=some (.ref q)∧upd H5 D (.lst (ys ++ [y])) q=some (.tup v))
      (λ σ3 H4=>S σ3∧av H1 H4∧H4 D=some (.lst ys)∧ys.length=(((List.range (i + 1)).filter p).map f).length∧∀ (j:Nat) v,(((List.range (i + 1)).filter p).map f)[j]?=some v→∃ q,ys[j]?=some (.ref q)∧H4 q=some (.tup v)) (λ σ3 q H5 s5 OA RF xE hp=>?_) (λ σ3 H4 s4 xE hp=>?_)
    · have er:((List.range (i + 1)).filter p).map f=((List.range i).filter p).map f ++ [f i]:=by
        rw [List.range_succ,List.filter_append,List.map_append];simp [hp]
      have RG:q≠D:=λ z=>by rw [z,qL] at OA;cases OA
      refine ⟨s5 _ _ qL,by have:=LU i;rw [sizeLine_eq];lia,xE,λ b u e=>?_,af,by rw [er,List.length_append,List.length_append,xN];rfl,λ j v e=>?_⟩
      · rw [aq (ay e hD)];exact s5 _ _ (sm _ _ e)
      · rw [er] at e
        by_cases hj:j < (((List.range i).filter p).map f).length
        · rw [List.getElem?_append_left hj] at e;obtain ⟨p',e1,e2⟩:=Au j v e;refine ⟨p',by rw [List.getElem?_append_left (by lia)];exact e1,?_⟩;rw [aq (λ z=>by rw [z,qL] at e2;cases e2)];exact s5 _ _ e2
        · have ie:j=(((List.range i).filter p).map f).length:=by
            have:=(List.getElem?_eq_some_iff.mp e).1;rw [List.length_append] at this;simp only [List.length_singleton] at this
            lia
          rw [List.getElem?_append_right (by lia),ie,Nat.sub_self] at e;cases e;refine ⟨q,by rw [List.getElem?_append_right (by lia),ie,xN,Nat.sub_self];rfl,?_⟩;rw [aq RG];exact RF
    · have er:((List.range (i + 1)).filter p).map f=((List.range i).filter p).map f:=by
        rw [List.range_succ,List.filter_append,List.map_append];simp [hp]
      rw [er];exact ⟨xE,λ b u e=>s4 _ _ (sm _ _ e),s4 _ _ qL,xN,λ j v e=>let ⟨q,e1,e2⟩:=Au j v e;⟨q,e1,s4 _ _ e2⟩⟩
  · rintro ys σ H ⟨_,sm,qL,xN,Au⟩;exact hq H sm ⟨ys,qL,xN,Au⟩
end
noncomputable def nB (K:PySem.W.Frag) (C:Addr) (x qual:Str) (st:Stmt) (ps:List Str):Prop:=∃ f fd,Meth K C x f∧uX K x qual st f fd∧Binds K fd ps []
noncomputable def kG (P:Program) (w:World) (K:PySem.W.Frag) (mg:Str→Option Value) (base:Heap) (k:Nat) (C:Addr) (x:Str) (ps:List Str) (sp:Sp):Prop:=∃ f fd,Meth K C x f∧Binds K fd ps []∧fA P w K mg base bN k f fd ps sp
section
variable {P:Program} {w:World} {K:PySem.W.Frag} {mg:Str→Option Value} {base:Heap} {C:Addr} {x qual:Str} {st:Stmt} {N ps:List Str} {k:Nat} {sp:Sp}
theorem nB.ok (D:nB K C x qual st ps) (S:az N ps (ao st)) (len:∀ vs H Q E,sp vs H Q E→vs.length=ps.length)
    (cS:∀ (f:Addr) (bM:Value) (A:Around) (outer:List Env) (s:Shared) (H:Hp) (vs:List V) (Q:VK) (E:XK),bc k (A.deeper (envOfC qual (ao st) s.heap.objs.size f bM))→sp vs H Q E →
      ∃ t,jM (gm bN P w K mg base N qual (ao st) f bM A outer s H E).B_ (bQ st) t∧t { nx:=λ _ H'=>Q .cc H',rt:=Q } (start N vs) H):kG P w K mg base (k + 1) C x ps sp:=by
  obtain ⟨f,fd,hm,F,b⟩:=D;exact ⟨f,fd,hm,b,F.ok S len (cS f)⟩
noncomputable def rP (K:PySem.W.Frag) (C:Addr) (x qual:Str) (st:Stmt) (ps:List Str) (c:Addr):Prop:=∃ (f:Addr) (oc:Value) (od:Option Addr) (kV doc pm:Value) (an:Option Addr) (ct:Value) (nV:Array (Option Value)),
  Meth K C x f∧K.lookup f=some ⟨oc,od,.func (PySem.W.fnOf x qual (cV st) (bQ st) (ao st) .none kV doc pm an (.ref c) ct),nV⟩∧PySem.W.codeIn K (.ref c) qual=true∧Binds K (PySem.W.fnOf x qual (cV st) (bQ st) (ao st) .none kV doc pm an (.ref c) ct) ps []
theorem rP.ok {c:Addr} (D:rP K C x qual st ps c) (S:az N ps (ao st)) (len:∀ vs H Q E,sp vs H Q E→vs.length=ps.length)
    (cS:∀ (f:Addr) (A:Around) (outer:List Env) (s:Shared) (H:Hp) (vs:List V) (Q:VK) (E:XK),bc k (A.deeper (envOfC qual (ao st) s.heap.objs.size f (.ref c)))→sp vs H Q E →
      ∃ t,jM (gm bN P w K mg base N qual (ao st) f (.ref c) A outer s H E).B_ (bQ st) t∧t { nx:=λ _ H'=>Q .cc H',rt:=Q } (start N vs) H):kG P w K mg base (k + 1) C x ps sp:=by
  obtain ⟨f,oc,od,kV,doc,pm,an,ct,nV,hm,lk,hc,b⟩:=D;refine ⟨f,_,hm,b,yg lk hc S len λ A outer s H vs Q E hr An=>?_⟩;obtain ⟨t,h,q⟩:=cS f A outer s H vs Q E hr An;exact ⟨t,h.B_,q⟩
end
section
variable {X:Cx} {k:Nat} {C:Addr} {x:Str} {ps:List Str} {sp:Sp} {p pos:Pos} {o:Expr} {ta:TE}
theorem cJ {pl:Sem Bool} (D:kG X.prog X.w X.K X.mg X.base k C x ps sp) (he:PE X o ta) (c:qC X.K C) (hr:bc k X.A)
    (ht:eval (.Call (.Attribute o x p) [] [] pos) X.env=(do
      let ov ← eval o X.env
      standAt p.atName
      let (f,first) ← holding [ov] (getMethod ov x pl)
      callWith pos f first (backTo pos (starEach [] X.env)) (backToKw pos (keywordEach [] X.env))):=by rfl):PE X (.Call (.Attribute o x p) [] [] pos) (uS C x sp [] E0 ta fc):=by
  obtain ⟨f,fd,hm,b,F⟩:=D;exact yd he c hm F hr b .nil aD ht
end
end L2
namespace Sp
open PySem L2
theorem bu {H H':Hp} {a:Addr} (s:av H H') (h:H' a=none):H a=none:=by
  cases z:H a with
  | none=>rfl
  | some u=>rw [s _ _ z] at h;cases h
end Sp
namespace Sp
open PySem L2
seal PE PA PS jM PT PG uK PI PW tK
section
variable {P:Program} {w:World} {K:PySem.W.Frag} {mg:Str→Option Value} {base:Heap}
theorem j_:az ["requests","firsts","ends"] ["requests"] (ao gO):=dZ
noncomputable def oJ:Sp:=λ vs H Q _=>∃ (a:Addr) (rs:List (Int×Int×Int)),vs=[.ref a]∧a9 H a rs∧GoodR rs∧rs.length≤2000∧∀ (l:Addr) (pts:List Int) (H':Hp),av H H'→H l=none→H' l=some (.lst (pts.map V.int))→Ln.qu rs pts→pts.length≤4000→Q (.ref l) H'
theorem xb (B:Bl mg) (D:FnAt K mg "points_of" gO ["requests"]):Def P w K mg base bN 1 "points_of" ["requests"] oJ:=by
  refine D.ok j_ (λ vs H Q E h=>?_) λ f bM A outer s H vs Q E hr h=>?_
  · obtain ⟨a,rs,rfl,_⟩:=h;rfl
  · obtain ⟨a,rs,rfl,hR,hg,hz,q⟩:=h;refine ⟨_,ag (eQ (i:=1) j_.nd rfl ["first","last","price"] [] rfl (aY (pv 0)) λ cl s H fp C=>⟨gX (K:=K) 0 1 2 rfl (show (["first","last","price"]:List Str).Nodup by decide +kernel),br,pv 0⟩)
      (ag (eQ (i:=2) j_.nd rfl ["first","last","price"] [] rfl (aY (pv 0)) λ cl s H fp C=>⟨gX (K:=K) 0 1 2 rfl (show (["first","last","price"]:List Str).Nodup by decide +kernel),br,aF bj (pv 1) ai⟩)
      (aj (aH (aB (ml rfl) (by rfl) B.sorted PyProof.Rows.Boot.«sorted» (aa (cm (ou rfl) (by rfl) B.set PyProof.Rows.Boot.«set» (aa (aF gA (pv 1) (pv 2)) ae)) ae))))),?_⟩
    obtain ⟨xs,hx,eM,kU⟩:=id hR;refine ⟨_,rfl,a,rfl,⟨_,aJ.of hx⟩,λ D1 nC=>?_⟩;refine aX (aI xs) (λ σ=>∃ o1 o2 o3,σ=[o1,o2,o3]) (λ j=>.int (Lg.rq rs j).1) nC (by lia) (λ H3 s3=>aJ.of (s3 _ _ hx)) ⟨_,_,_,rfl⟩ ?_ ?_
    · rintro j v σ H3 mn hj ⟨rfl,gi⟩ s3 ⟨o1,o2,o3,rfl⟩ Ky hK;obtain ⟨p,rfl,hp⟩:=fV hR hx gi;exact ⟨p,_,rfl,b_.of (s3 _ _ hp),rfl,_,_,rfl,_,_,rfl,_,_,rfl,rfl,_,rfl,hK _ _ _ (av.refl _) ⟨_,_,_,rfl⟩ rfl⟩
    intro H1 s1 h1;refine ⟨_,rfl,a,rfl,⟨_,aJ.of (s1 _ _ hx)⟩,λ D2 vz=>?_⟩;refine aX (aI xs) (λ σ=>∃ o1 o2 o3,σ=[o1,o2,o3]) (λ j=>.int ((Lg.rq rs j).2.1 + 1)) vz (by lia) (λ H3 s3=>aJ.of (s3 _ _ (s1 _ _ hx))) ⟨_,_,_,rfl⟩ ?_ ?_
    · rintro j v σ H3 mn hj ⟨rfl,gi⟩ s3 ⟨o1,o2,o3,rfl⟩ Ky hK;obtain ⟨p,rfl,hp⟩:=fV hR hx gi;exact ⟨p,_,rfl,b_.of (s3 _ _ (s1 _ _ hp)),rfl,_,_,rfl,_,_,rfl,_,_,rfl,rfl,_,rfl,_,_,rfl,rfl,hK _ _ _ (av.refl _) ⟨_,_,_,rfl⟩ rfl⟩
    intro H2 s2 h2;rw [eM] at h1 h2;have pQ:=s2 _ _ h1;refine ⟨_,rfl,_,rfl,D1,D2,_,_,rfl,rfl,pQ,h2,by rw [sizeLine_eq];simp;lia,λ p3 BA=>?_⟩;have e3:(List.range rs.length).map (λ j=>V.int (Lg.rq rs j).1) ++ (List.range rs.length).map (λ j=>V.int ((Lg.rq rs j).2.1 + 1))=((List.range rs.length).map (λ j=>(Lg.rq rs j).1) ++ (List.range rs.length).map (λ j=>(Lg.rq rs j).2.1 + 1)).map V.int:=by
      rw [List.map_append,List.map_map,List.map_map];rfl
    refine ⟨p3,_,rfl,aJ.of (by rw [af,e3]),by simp;lia,λ p4 OB=>⟨p4,_,rfl,af,Nat.le_trans (jN.gY _ _) (by simp;lia),λ ms Fw ho l hl=>?_⟩⟩;obtain ⟨r1,r2⟩:=ow Fw ho;have s5:=((s1.trans s2).trans (ah BA)).trans ((ah OB).trans (ah (o:=.lst (ms.map V.int)) hl));refine q l ms _ s5 ?_ af ⟨r1,λ c hc=>?_,λ c hc=>?_,λ c hc=>hg _ (mI hc)⟩ ?_
    · exact bu (((s1.trans s2).trans (ah BA)).trans (ah OB)) hl
    · refine (r2 _).mpr (List.mem_append_left _ (List.mem_map.mpr ⟨c,List.mem_range.mpr hc,rfl⟩))
    · refine (r2 _).mpr (List.mem_append_right _ (List.mem_map.mpr ⟨c,List.mem_range.mpr hc,rfl⟩))
    · rw [Fw.length_eq];exact Nat.le_trans (jN.gY _ _) (by simp;lia)
noncomputable def ke:Option Nat→V
  | none=>.cc
  | some c=>.int (c:Nat)
noncomputable def cu (m:Ln.Mv):List V:=[.int (m.1:Nat),.int (m.2.1:Nat),.int m.2.2.1,ke m.2.2.2]
noncomputable def cw (n:Nat) (h:Nat→Int):List V:=(List.range n).map λ v=>V.int (h v)
noncomputable def iG (H:Hp) (a:Addr) (n:Nat) (h:Nat→Int):Prop:=H a=some (.lst (cw n h))
noncomputable def fq (H:Hp) (a:Addr) (n:Nat) (way:Nat→Nat×Option Nat):Prop:=∃ xs:List V,H a=some (.lst xs)∧xs.length=n∧∀ v,0 < v→v < n→∃ p,xs[v]?=some (.ref p)∧H p=some (.tup [.int ((way v).1:Nat),ke (way v).2])
theorem cK (n:Nat) (h:Nat→Int):(cw n h).length=n:=by simp [cw]
theorem jE {n:Nat} {h:Nat→Int} {v:Nat} (hv:v < n):eA (cw n h) (v:Nat)=some (.int (h v)):=eP (by simp [cw,hv])
theorem qe {n:Nat} {h:Nat→Int} {v:Nat} {x:Int}:(cw n h).set v (.int x)=cw n (Ln.b9 h v x):=by
  unfold cw;apply List.ext_getElem
  · simp
  · intro i h1 h2;rw [List.getElem_set];rw [List.getElem_map,List.getElem_map,List.getElem_range]
    by_cases e:v=i
    · subst e;rw [if_pos rfl,Ln.aT]
    · rw [if_neg e,Ln.bf λ z=>e z.symm]
theorem fq.fx {S:Addr→Prop} {H H':Hp} {a:Addr} {n:Nat} {way:Nat→Nat×Option Nat} (h:fq H a n way) (s:Fx S H H') (ha:¬ S a) (hS:∀ b v,S b→H b≠some (.tup v)):fq H' a n way:=by
  obtain ⟨xs,e1,e2,e3⟩:=h;refine ⟨xs,s a _ e1 ha,e2,λ v h1 h2=>?_⟩;obtain ⟨p,q1,q2⟩:=e3 v h1 h2;exact ⟨p,q1,s p _ q2 λ z=>hS p _ z q2⟩
theorem fq.put {H:Hp} {a t:Addr} {n:Nat} {way:Nat→Nat×Option Nat} {xs:List V} {v u:Nat} {k:Option Nat} (h:fq H a n way) (hx:H a=some (.lst xs)) (ht:H t=some (.tup [.int (u:Nat),ke k])) (hv:v < n) :
    fq (upd H a (.lst (xs.set v (.ref t)))) a n (Ln.b9 way v (u,k)):=by
  obtain ⟨ys,e1,e2,e3⟩:=h;rw [hx] at e1;cases e1;have nt:∀ b y,H b=some (.tup y)→b≠a:=λ b y e z=>by rw [z,hx] at e;cases e
  refine ⟨_,af,by rw [List.length_set];exact e2,λ w h1 h2=>?_⟩
  by_cases e:w=v
  · subst e;refine ⟨t,by rw [List.getElem?_set_self (by lia)],?_⟩;rw [aq (nt t _ ht),Ln.aT];exact ht
  · obtain ⟨p,q1,q2⟩:=e3 w h1 h2;refine ⟨p,by rw [List.getElem?_set_ne λ z=>e z.symm];exact q1,?_⟩;rw [aq (nt p _ q2),Ln.bf e];exact q2
theorem jF:az ["moves","heights","ways","changed","start","end","gain","count"] ["moves","heights","ways"] (ao pH):=dZ
noncomputable def rQ:Sp:=λ vs H Q _=>∃ (pm pe pw:Addr) (ms:List Ln.Mv) (h p:Nat→Int) (way:Nat→Nat×Option Nat) (G:Ln.Net) (has:Nat→Bool) (R:Int),vs=[.ref pm,.ref pe,.ref pw]∧aM H pm (ms.map cu)∧iG H pe G.N h∧fq H pw G.N way∧pe≠pw∧pm≠pe∧pm≠pw ∧
  G.Ok∧Ln.ck G has R p∧p 0=0∧Ln.Cl G has R p h way∧(∀ m∈ms,Ln.Move G has R m.1 m.2.1 m.2.2.1 m.2.2.2) ∧
  ∀ (b:Bool) dN H',Ln.Cl G has R p (Ln.fT h ms) dN→(b=false→Ln.fT h ms=h)→(b=true→Ln.room G p (Ln.fT h ms) < Ln.room G p h)→Fx (λ c=>c=pe∨c=pw) H H'→iG H' pe G.N (Ln.fT h ms)→fq H' pw G.N dN→Q (.bl b) H'
theorem zk (D:FnAt K mg "sweep" pH ["moves","heights","ways"]):Def P w K mg base bN 1 "sweep" ["moves","heights","ways"] rQ:=by
  refine D.ok jF (λ vs H Q E h=>?_) λ f bM A outer s H vs Q E hr h=>?_
  · obtain ⟨pm,pe,pw,ms,h,p,way,G,has,R,rfl,_⟩:=h;rfl
  · obtain ⟨pm,pe,pw,ms,h,p,way,G,has,R,rfl,hM,hE,hW,n1,n2,n3,ok,hp,p0,hC,RH,q⟩:=h;refine ⟨_,ag (aK (i:=3) jF.nd rfl (Or.inl rfl) b7)
      (ag (ee PassesOwn.never rfl (aY (pv 0)) (qd (K:=K) 4 5 6 7 rfl jF.nd)
        (aj (bK (bh qz (aF bj (aO bU (pv 1) (pv 4) (λ _ _=>rfl)) (pv 6)) (aO bU (pv 1) (pv 5) (λ _ _=>rfl)) (aR _))
          (ag (lg (aF bj (aO bU (pv 1) (pv 4) (λ _ _=>rfl)) (pv 6)) (pf (pv 1) (pv 5) set_list))
          (ag (lg (bL (aa (pv 4) (aa (pv 7) ae))) (pf (pv 2) (pv 5) set_list))
          (aj (aK (i:=3) jF.nd rfl (Or.inl rfl) b7)))) aQ)))
      (aj (aH (pv 3)))),?_⟩
    obtain ⟨xs,hx,eM⟩:=hM.list;rw [List.length_map] at eM;have RI:∀ (b:Addr) (v:List V),(b=pe∨b=pw)→H b≠some (.tup v):=λ b v hb z=>by
      rcases hb with rfl | rfl
      · rw [hE] at z;cases z
      · obtain ⟨ys,e,_⟩:=hW;rw [e] at z;cases z
    refine ⟨_,rfl,pm,rfl,⟨_,aJ.of hx⟩,?_⟩;refine eI (aI xs) (λ i σ H2=>∃ b dN o4 o5 o6 o7,σ=[some (.ref pm),some (.ref pe),some (.ref pw),some (.bl b),o4,o5,o6,o7]∧Fx (λ c=>c=pe∨c=pw) H H2∧iG H2 pe G.N (Ln.fT h (ms.take i))∧fq H2 pw G.N dN ∧
        Ln.Cl G has R p (Ln.fT h (ms.take i)) dN∧(b=false→Ln.fT h (ms.take i)=h)∧(b=true→Ln.room G p (Ln.fT h (ms.take i)) < Ln.room G p h)) (λ i σ H2 _ z=>?_) ?_ ?_ ?_
    · obtain ⟨b,dN,o4,o5,o6,o7,_,sF,_⟩:=z;exact aJ.of (sF _ _ hx λ z=>z.elim n2 n3)
    · exact ⟨false,way,none,none,none,none,rfl,Fx.refl,hE,hW,hC,λ _=>rfl,λ z=>nomatch z⟩
    · rintro i x σ Lm H2 hi ⟨rfl,Ea⟩ ⟨b,dN,o4,o5,o6,o7,rfl,sF,xc,BB,BC,Ct,vc⟩;obtain ⟨t,v4,rfl,HX,ht⟩:=hM.at_ hx Ea;rw [List.getElem?_map] at HX;obtain ⟨m,hm,rfl⟩:∃ m,ms[i]?=some m∧cu m=v4:=by
        cases z:ms[i]? with
        | none=>rw [z] at HX;cases HX
        | some m=>rw [z] at HX;cases HX;exact ⟨m,rfl,rfl⟩
      have mv:=RH m (List.mem_of_getElem? hm);obtain ⟨hu,hv,p7⟩:=mv.bounds ok;have pO:H2 t=some (.tup (cu m)):=sF _ _ ht λ z=>RI t _ z ht;have et:ms.take (i + 1)=ms.take i ++ [m]:=by rw [List.take_add_one,hm];rfl
      have es:=Ln.wO h (ms.take i) m;rw [← et] at es;obtain ⟨u,v,g,k⟩:=m;generalize UW:Ln.fT h (ms.take i)=hh at *;refine ⟨t,_,rfl,b_.of pO,rfl,_,_,rfl,_,_,rfl,_,_,rfl,_,_,rfl,rfl,?_⟩;refine ⟨_,rfl,_,rfl,pe,_,_,_,rfl,rfl,aJ.of xc,jE hu,_,rfl,_,_,rfl,rfl,_,rfl,_,rfl,pe,_,_,_,rfl,rfl,aJ.of xc,jE hv,_,_,rfl,rfl,_,rfl,?_⟩
      by_cases Ar:hh v < hh u + g
      · rw [if_pos Ar] at es;have LV:hh v < hh u + g:=Ar;have C3:=BC.raise ok hp p0 mv Ar;refine fE (by simpa using Ar) ?_;refine ⟨_,rfl,_,rfl,pe,_,_,_,rfl,rfl,aJ.of xc,jE hu,_,rfl,_,_,rfl,rfl,_,rfl,_,rfl,pe,_,_,v,rfl,rfl,xc,ir (by rw [cK];exact hv),?_⟩;rw [qe];have CH:fq (upd H2 pe (.lst (cw G.N (Ln.b9 hh v (hh u + g))))) pw G.N dN:=BB.fx (S:=λ c=>c=pe) (Fx.refl.upd (.inl rfl)) (λ z=>n1 z.symm) λ b y z e=>by subst z;rw [xc] at e;cases e
        have CI:iG (upd H2 pe (.lst (cw G.N (Ln.b9 hh v (hh u + g))))) pe G.N (Ln.b9 hh v (hh u + g)):=af;have OC:Fx (λ c=>c=pe∨c=pw) H (upd H2 pe (.lst (cw G.N (Ln.b9 hh v (hh u + g))))):=sF.upd (.inl (.inl rfl));generalize upd H2 pe (.lst (cw G.N (Ln.b9 hh v (hh u + g))))=H3 at CH CI OC ⊢;refine ⟨_,rfl,_,rfl,by show 2≤sizeLine;decide,λ t2 Be=>?_⟩;obtain ⟨ys,hy,xN,_⟩:=id CH;have tw:t2≠pw:=(ay hy Be).symm;have te:t2≠pe:=(ay CI Be).symm;have sl:av H3 (upd H3 t2 (.tup [.int (u:Nat),ke k])):=ah Be;have Eu:fq (upd H3 t2 (.tup [.int (u:Nat),ke k])) pw G.N dN:=CH.fx (S:=λ _=>False) (Fx.of sl) (λ z=>z) λ _ _ z=>z.elim;refine ⟨_,rfl,_,rfl,pw,ys,_,v,rfl,rfl,sl _ _ hy,ir (by rw [xN];exact hv),?_⟩;have JN:=Eu.put (v:=v) (u:=u) (k:=k) (sl _ _ hy) af hv;have RJ:Fx (λ c=>c=pe∨c=pw) H (upd (upd H3 t2 (.tup [.int (u:Nat),ke k])) pw (.lst (ys.set v (.ref t2)))):=by
          refine Fx.upd (λ b y e n=>?_) (.inl (.inr rfl));exact sl _ _ (OC b y e n)
        refine ⟨true,_,_,_,_,_,rfl,RJ,?_,JN,by rw [es];exact C3,λ z=>(by cases z),λ _=>?_⟩
        · rw [es];show upd (upd H3 t2 _) pw _ pe=_;rw [aq n1,aq te.symm];exact CI
        · rw [es];have r1:Ln.room G p (Ln.b9 hh v (hh u + g)) < Ln.room G p hh:=Ln.p_ (λ y hy=>C3.le y hy) (λ y _=>by
            by_cases e:y=v
            · subst e;rw [Ln.aT];lia
            · rw [Ln.bf e];exact Int.le_refl _) hv (by rw [Ln.aT];exact LV)
          cases b with
          | false=>rw [Ct rfl] at r1 ⊢;exact r1
          | true=>exact Nat.lt_trans r1 (vc rfl)
      · rw [if_neg Ar] at es;refine df (by simpa using Ar) ?_;exact ⟨b,dN,_,_,_,_,rfl,sF,by rw [es];exact xc,BB,by rw [es];exact BC,by rw [es];exact Ct,by rw [es];exact vc⟩
    · rintro σ H2 ⟨b,dN,o4,o5,o6,o7,rfl,sF,xc,BB,BC,Ct,vc⟩;have e:ms.take xs.length=ms:=List.take_of_length_le (by lia);rw [e] at xc BC Ct vc;exact ⟨_,rfl,q b dN H2 BC Ct vc sF xc BB⟩
end
end Sp
namespace L2
open PySem PySem.Spec PyProof.Rows
theorem da {X:Cx}:Gf X (λ x y H Q=>∃ p xs j v,x = .ref p∧y = .int (j:Nat)∧aJ X.K H p xs∧xs[j]?=some v∧Q v H):=by
  intro pins s σ H o i ov iv Q I ro ri h;obtain ⟨p,xs,j,v,rfl,rfl,hq,he,q⟩:=h;cases ro;obtain ⟨t,rfl⟩:=ri;obtain ⟨its,r,pl,hz⟩:=I.list hq;obtain ⟨w,ew,nJ⟩:=r.get he;have hn:=ly;have hj:j < xs.length:=(List.getElem?_eq_some_iff.mp he).1;exact wpAny_getItem_list pl.isList (by lia) (by lia) (by simpa using ew) ⟨v,H,I,nJ,q⟩
end L2
namespace Sp
open PySem L2
seal PE PA PS jM PT PG uK PI PW tK
structure ft (K:PySem.W.Frag) (mg:Str→Option Value) (base:Heap) (CN fI:Addr) (dI:FuncData) (c1 P1 c2 P2:Addr):Prop where
  mC:mg "Line"=some (.ref CN)
  cl:qC K CN
  nr:aZ K CN "rooms"
  np:aZ K CN "points"
  nm:aZ K CN "moves"
  nh:aZ K CN "has"
  ne:aZ K CN "heights"
  nw:aZ K CN "ways"
  Fy:Mk K CN fI
  fI:uX K "__init__" "Line.__init__" gb fI dI
  bI:Binds K dI ["self","requests","taken","rooms"] []
  ru:nB K CN "rooms_used" "Line.rooms_used" eR ["self"]
  mo:rP K CN "moves_onward" "Line.moves_onward" cR ["self"] c1
  mb:rP K CN "moves_backward" "Line.moves_backward" cq ["self"] c2
  cb:nB K CN "climb" "Line.climb" jl ["self"]
  gr:nB K CN "growth" "Line.growth" iO ["self"]
  ad:nB K CN "add_room" "Line.add_room" gc ["self"]
  ch:nB K CN "choice" "Line.choice" iP ["self"]
  dt:nB K CN "day_tolls" "Line.day_tolls" fe ["self"]
  t1:pY K mg base c1 P1
  t2:pY K mg base c2 P2
  n12:P1≠P2
noncomputable def cM (R:Int) (pp pm ph pe pw:Addr):List (Str×V):=[("rooms",.int R),("points",.ref pp),("moves",.ref pm),("has",.ref ph),("heights",.ref pe),("ways",.ref pw)]
noncomputable def dU (n:Nat) (has:Nat→Bool):List V:=(List.range n).map λ c=>V.bl (has c)
noncomputable def iS (rs:Ln.Rs) (pts:List Int) (c:Nat):Ln.Mv:=((Ln.ar rs pts).s c,(Ln.ar rs pts).e c,(Ln.ar rs pts).w c,some c)
structure bO (CN:Addr) (H:Hp) (x dx pp pm ph pe pw:Addr) (rs:Ln.Rs) (pts:List Int) (has:Nat→Bool) (R:Int):Prop where
  ins:H x=some (.ins CN dx (cM R pp pm ph pe pw))
  pt:H pp=some (.lst (pts.map V.int))
  mv:aM H pm (((List.range rs.length).map (iS rs pts)).map cu)
  hs:H ph=some (.lst (dU rs.length has))
  ok:Ln.qu rs pts
  rl:rs.length≤2000
  pl:pts.length≤4000
  a1:ph≠pp
  a2:ph≠pm
section
variable {P:Program} {w:World} {K:PySem.W.Frag} {mg:Str→Option Value} {base:Heap} {CN fI c1 P1 c2 P2:Addr} {dI:FuncData} {H H':Hp} {x dx pp pm ph pe pw:Addr} {rs:Ln.Rs} {pts:List Int} {has:Nat→Bool} {R:Int}
theorem bO.fx {S:Addr→Prop} (L:bO CN H x dx pp pm ph pe pw rs pts has R) (s:Fx S H H') (n1:¬ S x) (n2:¬ S pp) (n3:¬ S pm) (n4:¬ S ph) (hS:∀ b v,S b→H b≠some (.tup v)):bO CN H' x dx pp pm ph pe pw rs pts has R :=
  ⟨s _ _ L.ins n1,s _ _ L.pt n2,L.mv.fx s n3 hS,s _ _ L.hs n4,L.ok,L.rl,L.pl,L.a1,L.a2⟩
theorem bO.same (L:bO CN H x dx pp pm ph pe pw rs pts has R) (s:av H H'):bO CN H' x dx pp pm ph pe pw rs pts has R :=
  L.fx (S:=λ _=>False) (Fx.of s) (λ z=>z) (λ z=>z) (λ z=>z) (λ z=>z) λ _ _ z=>z.elim
theorem Ew:(cM R pp pm ph pe pw).lookup (Str.ofString "rooms")=some (.int R):=rfl
theorem xf:(cM R pp pm ph pe pw).lookup (Str.ofString "points")=some (.ref pp):=rfl
theorem Ex:(cM R pp pm ph pe pw).lookup (Str.ofString "moves")=some (.ref pm):=rfl
theorem xg:(cM R pp pm ph pe pw).lookup (Str.ofString "has")=some (.ref ph):=rfl
theorem zl:(cM R pp pm ph pe pw).lookup (Str.ofString "heights")=some (.ref pe):=rfl
theorem Ey:(cM R pp pm ph pe pw).lookup (Str.ofString "ways")=some (.ref pw):=rfl
theorem hO (n:Nat) (has:Nat→Bool):(dU n has).length=n:=by simp [dU]
theorem jG {n c:Nat} (h:c < n):eA (dU n has) (c:Nat)=some (.bl (has c)):=eP (by simp [dU,h])
theorem bO.move (L:bO CN H x dx pp pm ph pe pw rs pts has R) {xs:List V} (hx:H pm=some (.lst xs)) {j:Nat} {v:V} (e:xs[j]?=some v):j < rs.length∧∃ p,v = .ref p∧H p=some (.tup (cu (iS rs pts j))):=by
  obtain ⟨p,y,rfl,hy,hp⟩:=L.mv.at_ hx e;have hj:j < rs.length:=by
    have:=(List.getElem?_eq_some_iff.mp hy).1;simpa using this
  refine ⟨hj,p,rfl,?_⟩;rw [List.getElem?_map,List.getElem?_map,List.getElem?_range hj] at hy;cases hy;exact hp
theorem bO.iT (L:bO CN H x dx pp pm ph pe pw rs pts has R):∃ xs,H pm=some (.lst xs)∧xs.length=rs.length:=by
  obtain ⟨xs,h1,h2⟩:=L.mv.list;exact ⟨xs,h1,by rw [h2];simp⟩
theorem fY:az ["self","changes","start","end","price","count","used","now","change"] ["self"] (ao eR):=dZ
noncomputable def vA (CN:Addr):Sp:=λ vs H Q _=>∃ (x dx pp pm ph pe pw:Addr) (rs:Ln.Rs) (pts:List Int) (has:Nat→Bool) (R:Int),vs=[.ref x]∧bO CN H x dx pp pm ph pe pw rs pts has R ∧
  ∀ l H',av H H'→H l=none→H' l=some (.lst (cw (pts.length - 1) ((Ln.ar rs pts).used has)))→Q (.ref l) H'
theorem vB (n:Nat):(List.replicate n [V.int 0]).flatten=cw n λ _=>0:=by
  rw [wV];unfold cw;apply List.ext_getElem
  · simp
  · intro i h1 h2;simp
theorem rR (xs:List V):gy xs none (some (-1))=xs.take (xs.length - 1):=by
  unfold gy;have e1:HT.mR xs.length 0 none=0:=rfl;have e2:HT.mR xs.length xs.length (some (-1))=xs.length - 1:=by
    unfold HT.mR;simp
    lia
  rw [e1,e2];rfl
theorem zo (n m:Nat) (h:Nat→Int) (hm:m≤n):(cw n h).take m=cw m h:=by
  unfold cw;rw [← List.map_take,List.take_range,Nat.min_eq_left hm]
theorem mK {n:Nat} {h:Nat→Int} {v:Nat} {x:V} (e:(cw n h)[v]?=some x):v < n∧x = .int (h v):=by
  have hv:v < n:=by
    have:=(List.getElem?_eq_some_iff.mp e).1
    rwa [cK] at this
  refine ⟨hv,?_⟩;unfold cw at e;rw [List.getElem?_map,List.getElem?_range hv] at e;cases e;rfl
theorem zq {n:Nat} {h:Nat→Int} {v:Nat} (hv:v < n):(cw n h)[v]?=some (.int (h v)):=by simp [cw,hv]
theorem mM (n:Nat) (h:Nat→Int):cw n h ++ [.int (h n)]=cw (n + 1) h:=by
  unfold cw;rw [List.range_succ,List.map_append];rfl
theorem qf {n:Nat} {h k:Nat→Int} (e:∀ v,v < n→h v=k v):cw n h=cw n k:=by
  unfold cw;exact List.map_congr_left λ v hv=>by rw [e v (List.mem_range.mp hv)]
theorem BD (B:Bl mg) (T:ft K mg base CN fI dI c1 P1 c2 P2):kG P w K mg base 1 CN "rooms_used" ["self"] (vA CN):=by
  refine T.ru.ok fY (λ vs H Q E h=>?_) λ f bM A outer s H vs Q E hr h=>?_
  · obtain ⟨x,dx,pp,pm,ph,pe,pw,rs,pts,has,R,rfl,_⟩:=h;rfl
  · obtain ⟨x,dx,pp,pm,ph,pe,pw,rs,pts,has,R,rfl,L,q⟩:=h;refine ⟨_,ag (aK (i:=1) fY.nd rfl (Or.inl rfl) (aF tH (cQ (aa ai ae)) (aB aL (by rfl) B.len PySem.boot_len (aa (aN (pv 0) rfl) ae))))
      (ag (ee PassesOwn.never rfl (aY (aN (pv 0) rfl)) (qd (K:=K) 2 3 4 5 rfl fY.nd)
        (aj (bK (aW (aO bU (aN (pv 0) rfl) (pv 5) (λ _ _=>rfl)))
          (ag (uL (pv 1) (pv 2) da ai xZ set_list) (aj (uL (pv 1) (pv 3) da ai Dq set_list))) aQ)))
      (ag (aK (i:=6) fY.nd rfl (Or.inl rfl) (cQ ae))
      (ag (aK (i:=7) fY.nd rfl (Or.inl rfl) ai)
      (ag (ee PassesOwn.never rfl (aY (gx ji (pv 1) jg (jh (uN pj ai)))) (aV (i:=8) fY.nd rfl (Or.inl rfl))
        (ag (Dp (i:=7) fY.nd rfl (Or.inl rfl) (pv 8) xZ)
        (aj (cG (qG PySem.F.plainAttrs_list PySem.F.slot_list_append PySem.F.type_list_append d8 (pv 6) (aa (pv 7) ae))))))
      (aj (aH (pv 6))))))),?_⟩
    obtain ⟨xs,hx,eM⟩:=L.iT;have gk:=L.pl;have tT:=L.rl;have ok:=Ln.dS L.ok;refine ⟨by show 1≤sizeLine;decide,λ l0 DY=>?_⟩;have s0:av H (upd H l0 (.lst [.int 0])):=ah DY;refine (dY (s0 _ _ L.ins) T.cl T.np xf ⟨pp,_,rfl,.inl (aJ.of (s0 _ _ L.pt)),l0,_,_,rfl,rfl,af,by rw [List.length_map];lia,by rw [List.length_map];lia,by rw [List.length_map,sizeLine_eq];simp;lia,λ la Fz=>?_⟩);rw [List.length_map,Int.toNat_natCast,vB];have s1:av H (upd (upd H l0 (.lst [.int 0])) la (.lst (cw pts.length λ _=>0))):=s0.trans (ah Fz);have OD:upd (upd H l0 (.lst [.int 0])) la (.lst (cw pts.length λ _=>0)) la=some (.lst (cw pts.length λ _=>0)):=af;have ur:H la=none:=by
      cases z:H la with
      | none=>rfl
      | some u=>rw [s0 _ _ z] at Fz;cases Fz
    generalize upd (upd H l0 (.lst [.int 0])) la (.lst (cw pts.length λ _=>0))=H1 at s1 OD ⊢;refine (dY (s1 _ _ L.ins) T.cl T.nm Ex ⟨pm,rfl,⟨_,aJ.of (s1 _ _ hx)⟩,?_⟩);refine eI (aI xs) (λ i σ H2=>∃ o2 o3 o4 o5,σ=[some (.ref x),some (.ref la),o2,o3,o4,o5,none,none,none]∧av H H2∧H2 la=some (.lst (cw pts.length (Ln.chg (Ln.ar rs pts) has i)))) (λ i σ H2 _ z=>?_) ?_ ?_ ?_
    · obtain ⟨o2,o3,o4,o5,_,s2,_⟩:=z;exact aJ.of (s2 _ _ hx)
    · exact ⟨none,none,none,none,rfl,s1,OD⟩
    · rintro i v σ Lm H2 hi ⟨rfl,Ea⟩ ⟨o2,o3,o4,o5,rfl,s2,Ez⟩;obtain ⟨dG,p,rfl,hp⟩:=L.move hx Ea;have h1:=ok.lt i dG;have h2:=ok.le i dG;have OE:(Ln.ar rs pts).e i < pts.length:=h2;have kL:(Ln.ar rs pts).s i < pts.length:=Nat.lt_trans h1 OE;refine ⟨p,_,rfl,b_.of (s2 _ _ hp),rfl,_,_,rfl,_,_,rfl,_,_,rfl,_,_,rfl,rfl,?_⟩;refine (dY (s2 _ _ L.ins) T.cl T.nh xg ⟨_,rfl,ph,_,_,_,rfl,rfl,aJ.of (s2 _ _ L.hs),jG dG,_,rfl,?_⟩);cases hb:has i with
      | false =>
        refine bV ⟨_,_,_,_,rfl,s2,?_⟩;rw [Ez];congr 2;refine qf λ v hv=>?_;rw [Ln.rJ,hb];simp [Ln.one]
      | true =>
        have s3:av H (upd H2 la (.lst (cw pts.length (Ln.b9 (Ln.chg (Ln.ar rs pts) has i) ((Ln.ar rs pts).s i) (Ln.chg (Ln.ar rs pts) has i ((Ln.ar rs pts).s i) + 1))))):=iw ur s2;refine bW ⟨_,rfl,_,rfl,la,_,_,_,rfl,rfl,aJ.of Ez,zq kL,_,_,rfl,rfl,la,_,_,_,rfl,rfl,Ez,ir (by rw [cK];exact kL),?_⟩;rw [qe];refine ⟨_,rfl,_,rfl,la,_,_,_,rfl,rfl,aJ.of af,zq OE,_,_,rfl,rfl,la,_,_,_,rfl,rfl,af,ir (by rw [cK];exact h2),?_⟩;rw [qe];refine ⟨_,_,_,_,rfl,iw ur s3,?_⟩;rw [af];congr 2;refine qf λ v hv=>?_;show Ln.b9 (Ln.b9 (Ln.chg (Ln.ar rs pts) has i) ((Ln.ar rs pts).s i) (Ln.chg (Ln.ar rs pts) has i ((Ln.ar rs pts).s i) + 1)) ((Ln.ar rs pts).e i) (Ln.b9 (Ln.chg (Ln.ar rs pts) has i) ((Ln.ar rs pts).s i) (Ln.chg (Ln.ar rs pts) has i ((Ln.ar rs pts).s i) + 1) ((Ln.ar rs pts).e i) - 1) v=_;rw [Ln.rJ,hb]
        by_cases e1:v=(Ln.ar rs pts).e i
        · have e2:v≠(Ln.ar rs pts).s i:=by lia
          subst e1;rw [Ln.aT,Ln.bf e2];simp [Ln.one,e2.symm]
          lia
        · rw [Ln.bf e1]
          by_cases e2:v=(Ln.ar rs pts).s i
          · subst e2;rw [Ln.aT];simp [Ln.one,Ne.symm e1]
          · rw [Ln.bf e2];simp [Ln.one,Ne.symm e1,Ne.symm e2]
    · rintro σ H2 ⟨o2,o3,o4,o5,rfl,s2,Ez⟩;rw [eM] at Ez;refine ⟨by show 0≤sizeLine;decide,λ lu HY=>?_⟩;have HZ:H lu=none:=by
        cases z:H lu with
        | none=>rfl
        | some u=>rw [s2 _ _ z] at HY;cases HY
      have nul:la≠lu:=ay Ez HY;have s3:av H2 (upd H2 lu (.lst [])):=ah HY;refine ⟨_,rfl,_,rfl,_,rfl,la,_,rfl,aJ.of (s3 _ _ Ez),λ lc BE=>?_⟩;rw [rR,cK,zo _ _ _ (by lia)];have OF:lu≠lc:=ay af BE;have s4:=s3.trans (ah (o:=.lst (cw (pts.length - 1) (Ln.chg (Ln.ar rs pts) has rs.length))) BE);have H_:upd (upd H2 lu (.lst [])) lc (.lst (cw (pts.length - 1) (Ln.chg (Ln.ar rs pts) has rs.length))) lc=some (.lst (cw (pts.length - 1) (Ln.chg (Ln.ar rs pts) has rs.length))):=af;have OG:upd (upd H2 lu (.lst [])) lc (.lst (cw (pts.length - 1) (Ln.chg (Ln.ar rs pts) has rs.length))) lu=some (.lst []):=by rw [aq OF,af]
      generalize upd (upd H2 lu (.lst [])) lc (.lst (cw (pts.length - 1) (Ln.chg (Ln.ar rs pts) has rs.length)))=H4 at s4 H_ OG ⊢;refine ⟨lc,rfl,⟨_,aJ.of H_⟩,?_⟩;refine eI (aI (cw (pts.length - 1) (Ln.chg (Ln.ar rs pts) has rs.length))) (λ i σ H5=>∃ o2 o3 o4 o5 o8,σ=[some (.ref x),some (.ref la),o2,o3,o4,o5,some (.ref lu),some (.int (Ln.sm (Ln.chg (Ln.ar rs pts) has rs.length) i)),o8]∧av H H5∧H5 lc=some (.lst (cw (pts.length - 1) (Ln.chg (Ln.ar rs pts) has rs.length))) ∧
          H5 lu=some (.lst (cw i λ v=>Ln.sm (Ln.chg (Ln.ar rs pts) has rs.length) (v + 1)))) (λ i σ H5 _ z=>?_) ?_ ?_ ?_
      · obtain ⟨o2,o3,o4,o5,o8,_,_,h5,_⟩:=z;exact aJ.of h5
      · exact ⟨o2,o3,o4,o5,none,rfl,s2.trans s4,H_,OG⟩
      · rintro i v σ N6 H5 hi ⟨rfl,LW⟩ ⟨o2,o3,o4,o5,o8,rfl,s5,OH,JO⟩;obtain ⟨dG,rfl⟩:=mK LW;refine ⟨_,rfl,_,rfl,_,_,rfl,rfl,_,rfl,.inl ⟨rfl,_,aJ.of JO⟩,_,rfl,lu,_,_,rfl,rfl,JO,by rw [cK,sizeLine_eq];lia,?_⟩;refine ⟨_,_,_,_,_,rfl,iw HZ s5,by rw [aq OF.symm];exact OH,?_⟩;rw [af];congr 2;exact mM i λ v=>Ln.sm (Ln.chg (Ln.ar rs pts) has rs.length) (v + 1)
      · rintro σ H5 ⟨o2,o3,o4,o5,o8,rfl,s5,OH,JO⟩;refine ⟨_,rfl,q lu H5 s5 HZ ?_⟩;rw [JO,cK];congr 2;exact qf λ v _=>Ln.zd ok v
end
noncomputable def CJ (st:Stmt):Expr:=match (bQ st).getLastD (.Pass ⟨0,0,0,0⟩) with
  | .Return (some (.Call _ _ (k :: _) _)) _=>k.value
  | _=>.Constant .none 0 ⟨0,0,0,0⟩
noncomputable def zr:Expr→Pos
  | .Lambda _ _ _ p=>p
  | _=>⟨0,0,0,0⟩
noncomputable def vC:Expr→Expr
  | .Lambda _ b _ _=>b
  | e=>e
noncomputable def vD:Expr→Arguments
  | .Lambda a _ _ _=>a
  | _=>⟨[],[],none,[],[],none,[]⟩
noncomputable def jH:Expr→Scope
  | .Lambda _ _ s _=>s
  | _=>{ kind:=.function,names:=[],isGenerator:=false,isCoroutine:=false }
noncomputable abbrev zt:Expr:=CJ cR
noncomputable abbrev zu:Expr:=CJ cq
noncomputable def q1:Str:=(("Line.moves_onward":Str) ++ ".<locals>.") ++ "<lambda>"
noncomputable def q2:Str:=(("Line.moves_backward":Str) ++ ".<locals>.") ++ "<lambda>"
noncomputable def eN (H:Hp) (P1:Addr):Prop:=aA H P1 (zr zt) q1
noncomputable def eO (H:Hp) (P2:Addr):Prop:=aA H P2 (zr zu) q2
noncomputable def FC:List V→Int
  | .int i :: _=>i
  | _=>0
theorem aA.fx {S:Addr→Prop} {H H':Hp} {P:Addr} {pos:Pos} {q:Str} (h:aA H P pos q) (s:Fx S H H') (hP:¬ S P) (hS:∀ b o u,S b→H b≠some (.iD o u)):aA H' P pos q:=by
  rcases h with h | ⟨c,h,oc,vs,t,h1,h2⟩
  · exact .inl (s _ _ h hP)
  · exact .inr ⟨c,s _ _ h hP,oc,vs,t,s _ _ h1 λ z=>hS c _ _ z h1,h2⟩
theorem aA.same {H H':Hp} {P:Addr} {pos:Pos} {q:Str} (h:aA H P pos q) (s:av H H'):aA H' P pos q:=aA.fx h (S:=λ _=>False) (Fx.of s) (λ z=>z) λ _ _ _ z=>z.elim
section
variable {P:Program} {w:World} {K:PySem.W.Frag} {mg:Str→Option Value} {base:Heap} {CN fI c1 P1 c2 P2:Addr} {dI:FuncData} {H H':Hp} {x dx pp pm ph pe pw:Addr} {rs:Ln.Rs} {pts:List Int} {has:Nat→Bool} {R:Int}
theorem rS {p3 f:Addr} {FD:List Ln.Mv} {b:Bool} {rest:List V} {qual:Str} {params:Arguments} {body:Expr} {scope:Scope} {Q:VK} (hT:aM H p3 (FD.map cu)) (hz:FD.length≤100000) (hL:rD H f qual params body scope)
    (q:∀ (l:Addr) (ms:List Ln.Mv) (H':Hp),av H H'→H l=none→ms.Perm FD→ms.Pairwise (λ a c=>if b then c.1≤a.1 else a.1≤c.1)→aM H' l (ms.map cu)→Q (.ref l) H'):uc K qual params body scope (Gj (Dz K) (Dh 0) (tC (.int 0))) b rest [.ref p3] (.ref f :: rest) H Q:=by
  obtain ⟨ps,h1,h2,h3⟩:=w_ hT;have hlen:ps.length=FD.length:=by have:=congrArg List.length h2;simpa using this
  have hq:∀ p∈ps,∃ m,fX H p=cu m:=λ p hp=>by
    have:fX H p∈FD.map cu:=by rw [← h2];exact List.mem_map.mpr ⟨p,hp,rfl⟩
    obtain ⟨m,_,e⟩:=List.mem_map.mp this;exact ⟨m,e.symm⟩
  refine ⟨p3,f,ps,λ a=>FC (fX H a),rfl,rfl,aJ.of h1,by lia,hL,λ a ha=>?_,λ qs JP ho l hl=>?_⟩
  · obtain ⟨m,em⟩:=hq a ha;have:=h3 a ha;rw [em] at this;refine ⟨_,rfl,a,_,_,_,rfl,rfl,b_.of this,(show eA (cu m) 0=some (.int (m.1:Nat)) from rfl),?_,rfl⟩;show V.int (m.1:Nat)=V.int (FC (fX H a));rw [em];rfl
  · have hp:(qs.map (fX H)).Perm (FD.map cu):=by rw [← h2];exact JP.map _
    obtain ⟨ms,e,pm⟩:=jD hp;have key:∀ p∈qs,fX (upd H l (.lst (qs.map V.ref))) p=fX H p:=λ p hp=>by
      have:=h3 p (JP.mem_iff.mp hp);unfold fX;rw [aq (ay this hl)]
    have em:qs.map (fX (upd H l (.lst (qs.map V.ref))))=qs.map (fX H):=List.map_congr_left key;refine q l ms _ (ah hl) hl pm ?_ ?_
    · have o1:(qs.map (fX H)).Pairwise λ x y=>if b then FC y≤FC x else FC x≤FC y:=List.pairwise_map.mpr ho
      rw [e] at o1;refine (List.pairwise_map.mp o1).imp λ {a c} h=>?_;cases b with
      | false =>
        have h':(a.1:Int)≤(c.1:Int):=h;show a.1≤c.1
        lia
      | true =>
        have h':(c.1:Int)≤(a.1:Int):=h;show c.1≤a.1
        lia
    · rw [← e,← em];refine xa af λ p hp=>?_;rw [key p hp,aq (ay (h3 p (JP.mem_iff.mp hp)) hl)];exact h3 p (JP.mem_iff.mp hp)
theorem xh {D pm:Addr} {vs:List (List V)} {xs:List V} {p:Nat→Bool} (h:aM H pm vs) (hx:H pm=some (.lst xs)) (s:av H H') (hD:H' D=some (.lst (bp p (λ j=>xs.getD j .cc) xs.length))):aM H' D (((List.range vs.length).filter p).map λ j=>vs.getD j []):=by
  obtain ⟨ys,e1,e2,e3⟩:=id h;rw [hx] at e1;cases e1;refine ⟨_,hD,by unfold bp;rw [List.length_map,List.length_map,e2],λ i v e=>?_⟩;rw [List.getElem?_map] at e;unfold bp;rw [e2,List.getElem?_map];cases z:((List.range vs.length).filter p)[i]? with
  | none=>rw [z] at e;cases e
  | some j =>
    rw [z] at e;cases e;have hj:j < vs.length:=List.mem_range.mp (List.mem_filter.mp (List.mem_of_getElem? z)).1;obtain ⟨q,q1,q2⟩:=e3 j vs[j] (List.getElem?_eq_getElem hj);refine ⟨q,?_,?_⟩
    · show some (xs.getD j .cc)=some (.ref q);rw [List.getD_eq_getElem?_getD,q1];rfl
    · show H' q=some (HO.tup (vs.getD j []));rw [List.getD_eq_getElem?_getD,List.getElem?_eq_getElem hj];exact s _ _ q2
theorem BF:az ["move"] ["move"] (jH zt):=dZ
theorem BG:az ["move"] ["move"] (jH zu):=dZ
theorem uu:az ["self","idle","taking"] ["self"] (ao cR):=dZ
noncomputable def zw (CN P1:Addr):Sp:=λ vs H Q _=>∃ (x dx pp pm ph pe pw:Addr) (rs:Ln.Rs) (pts:List Int) (has:Nat→Bool) (R:Int),vs=[.ref x]∧bO CN H x dx pp pm ph pe pw rs pts has R∧eN H P1 ∧
  ∀ (l:Addr) (ms:List Ln.Mv) (H':Hp),Fx (λ b=>b=P1) H H'→eN H' P1→H l=none→ms.Perm (Ln.ze (Ln.ar rs pts) has)→ms.Pairwise (λ a c=>a.1≤c.1)→aM H' l (ms.map cu)→Q (.ref l) H'
theorem EA (B:Bl mg) (T:ft K mg base CN fI dI c1 P1 c2 P2):kG P w K mg base 4 CN "moves_onward" ["self"] (zw CN P1):=by
  refine T.mo.ok uu (λ vs H Q E h=>?_) λ f A outer s H vs Q E hr h=>?_
  · obtain ⟨x,dx,pp,pm,ph,pe,pw,rs,pts,has,R,rfl,_⟩:=h;rfl
  · obtain ⟨x,dx,pp,pm,ph,pe,pw,rs,pts,has,R,rfl,L,hT,q⟩:=h;refine ⟨_,ag (eQ (i:=1) uu.nd rfl ["place"] [] rfl (h8 rfl B.range (aa (aF di (aB aL (by rfl) B.len PySem.boot_len (aa (aN (pv 0) rfl) ae)) ai) ae)) λ cl s H fp C =>
        ⟨aV (i:=0) (show (["place"]:List Str).Nodup by decide +kernel) rfl (Or.inl rfl),br,bL (aa (pv 0) (aa (aF bj (pv 0) ai) (aa ai (aa oZ ae))))⟩)
      (ag (eQ (i:=2) uu.nd rfl ["move"] [0] rfl (aY (aN (pv 0) rfl)) λ cl s H fp C =>
        ⟨aV (i:=0) (show (["move","self"]:List Str).Nodup by decide +kernel) rfl (Or.inl rfl),fC (bJ (aW (aO (cB (K:=K)) (qc (K:=K) (pv 1) rfl) (aO (cg (K:=K)) (pv 0) ai (λ _ _=>rfl)) (λ _ _=>rfl)))),pv 0⟩)
      (aj (aH (j8 (ud (k:=0) (x:="move") (qual:=q1) (params:=vD zt) (body:=vC zt) (scope:=jH zt) hr BF (λ _ _ _ _=>rfl) (λ _ _ _ _ _ _=>aO (cg (K:=K)) (pv 0) ai (λ _ _=>rfl))) rfl B.sorted PyProof.Rows.Boot.«sorted»
        (aa (aF gA (pv 1) (pv 2)) ae) (kO (yZ rfl T.t1) tD))))),?_⟩
    obtain ⟨xs,hx,eM⟩:=L.iT;have gk:=L.pl;have tT:=L.rl;refine (dY L.ins T.cl T.np xf ⟨pp,_,rfl,.inl (aJ.of L.pt),_,_,rfl,rfl,_,rfl,by rw [List.length_map];omega,by rw [List.length_map];omega,λ D1 nC=>?_⟩);have en:(((pts.map V.int).length:Int) - 1).toNat=pts.length - 1:=by rw [List.length_map];omega
    rw [en];refine dz (tt:=tL) d5 (λ σ=>∃ o1,σ=[o1]) (λ _=>true) (λ i=>cu (i,i + 1,0,none)) nC (by omega) (λ _ _=>trivial) ⟨_,rfl⟩ ?_ ?_
    · rintro j v σ mn H3 hj ⟨rfl,rfl⟩ s3 ⟨o1,rfl⟩ Ky Kn hY _;refine ⟨_,rfl,_,rfl,_,_,rfl,rfl,by show 4≤sizeLine;decide,λ p5 oK=>hY _ p5 _ (ah oK) oK ?_ ⟨_,rfl⟩ rfl⟩;rw [af];show some (HO.tup [.int (0 + (j:Int)),.int (0 + (j:Int) + 1),.int 0,.cc])=some (HO.tup [.int (j:Nat),.int ((j + 1:Nat):Int),.int 0,.cc]);rw [Int.zero_add];rfl
    intro H1 s1 h1;rw [List.filter_eq_self.mpr λ _ _=>rfl] at h1;refine (dY (s1 _ _ L.ins) T.cl T.nm Ex ⟨pm,rfl,⟨_,aJ.of (s1 _ _ hx)⟩,λ D2 vz=>?_⟩);refine fk (aI xs) (λ σ=>∃ o1,σ=[o1,some (.ref x)]) (λ j=>!has j) (λ j=>xs.getD j .cc) vz (by omega) (λ H3 s3=>aJ.of (s3 _ _ (s1 _ _ hx))) ⟨_,rfl⟩ ?_ ?_
    · rintro j v σ mn H3 hj ⟨rfl,gi⟩ s3 ⟨o1,rfl⟩ Ky Kn hY hN;obtain ⟨ie,p,rfl,hp⟩:=L.move hx gi;have S3:=s1.trans s3;refine (dY (S3 _ _ L.ins) T.cl T.nh xg ⟨_,rfl,p,_,_,_,rfl,rfl,b_.of (S3 _ _ hp),(show eA (cu (iS rs pts j)) 3=some (.int (j:Nat)) from rfl),ph,_,_,_,rfl,rfl,aJ.of (S3 _ _ L.hs),jG ie,_,rfl,?_⟩);cases hb:has j with
      | false=>exact bW ⟨_,rfl,hY _ _ _ (av.refl _) ⟨_,rfl⟩ (by rw [hb];rfl) (by rw [List.getD_eq_getElem?_getD,gi];rfl)⟩
      | true=>exact bV (hN _ _ (av.refl _) ⟨_,rfl⟩ (by rw [hb];rfl))
    intro H2 s2 h2;have S2:=s1.trans s2;have L1:=L.same s1;have t2:=xh L1.mv (s1 _ _ hx) s2 h2;have t1:=h1.same s2;obtain ⟨y1,g1,k1⟩:=t1.list;have iM:(bp (λ j=>!has j) (λ j=>xs.getD j .cc) xs.length).length≤2000:=Nat.le_trans (lQ _ _ _) (by omega);refine ⟨_,rfl,_,rfl,D1,D2,_,_,rfl,rfl,g1,h2,?_,λ p3 BA=>?_⟩
    · rw [k1,sizeLine_eq,List.length_map,List.length_range];omega
    have t3:=t1.cat t2 g1 h2 BA;have S3:av H (upd H2 p3 (.lst (y1 ++ bp (λ j=>!has j) (λ j=>xs.getD j .cc) xs.length))):=S2.trans (ah BA);generalize upd H2 p3 (.lst (y1 ++ bp (λ j=>!has j) (λ j=>xs.getD j .cc) xs.length))=H3 at t3 S3 ⊢;have eo:(List.range (pts.length - 1)).map (λ i=>cu (i,i + 1,0,none)) ++ ((List.range (((List.range rs.length).map (iS rs pts)).map cu).length).filter λ j=>!has j).map (λ j=>(((List.range rs.length).map (iS rs pts)).map cu).getD j [])=(Ln.ze (Ln.ar rs pts) has).map cu:=by
      unfold Ln.ze;rw [List.length_map,List.length_map,List.length_range,List.map_append];have e1:((List.range ((Ln.ar rs pts).N - 1)).map λ i=>((i,i + 1,0,none):Ln.Mv)).map cu=(List.range (pts.length - 1)).map λ i=>cu (i,i + 1,0,none):=by rw [List.map_map];rfl
      rw [e1];have e2:(((List.range (Ln.ar rs pts).n).filter λ c=>!has c).map λ c=>((Ln.ar rs pts).s c,(Ln.ar rs pts).e c,(Ln.ar rs pts).w c,some c)).map cu=((List.range rs.length).filter λ c=>!has c).map λ c=>cu (iS rs pts c):=by rw [List.map_map];rfl
      rw [e2];congr 1;refine List.map_congr_left λ j hj=>?_;have ie:j < rs.length:=List.mem_range.mp (List.mem_filter.mp hj).1;rw [List.getD_eq_getElem?_getD,List.getElem?_map,List.getElem?_map,List.getElem?_range ie];rfl
    rw [eo] at t3;refine ⟨aA.same hT S3,λ f5 H5 Ia s5 LX=>?_⟩;have F5:Fx (λ b=>b=P1) H H5:=λ b u e n=>s5 b u n (S3 b u e);have nP:∀ b v,b=P1→H3 b≠some (.tup v):=λ b v hb z=>by
      subst hb;rcases aA.same hT S3 with e | ⟨_,e,_⟩
      · rw [e] at z;cases z
      · rw [e] at z;cases z
    have RK:¬ p3=P1:=λ hb=>by
      subst hb;obtain ⟨ys,e1,_⟩:=t3.list;rcases aA.same hT S3 with e | ⟨_,e,_⟩
      · rw [e] at e1;cases e1
      · rw [e] at e1;cases e1
    have t5:aM H5 p3 ((Ln.ze (Ln.ar rs pts) has).map cu):=t3.fx (S:=λ b=>b=P1) (λ b u e n=>s5 b u n e) RK nP;refine rS t5 ?_ LX λ l ms H' s' hl Fv ho ht=>?_
    · unfold Ln.ze;have:=List.length_filter_le (λ c=>!has c) (List.range rs.length);rw [List.length_append,List.length_map,List.length_map,List.length_range];rw [List.length_range] at this;show pts.length - 1 + _≤_;have e:(Ln.ar rs pts).n=rs.length:=rfl;rw [e];omega
    · refine q l ms H' (F5.trans (Fx.of s')) (aA.same Ia s') ?_ Fv ho ht;cases z:H l with
      | none=>rfl
      | some u =>
        by_cases e:l=P1
        · subst e;rcases Ia with e | ⟨_,e,_⟩
          · rw [e] at hl;cases hl
          · rw [e] at hl;cases hl
        · rw [F5 _ _ z e] at hl;cases hl
theorem aA.there {P0:Addr} {pos:Pos} {q:Str} (h:aA H P0 pos q):∃ ps,H P0=some (.gj ps):=by
  rcases h with e | ⟨_,e,_⟩
  · exact ⟨_,e⟩
  · exact ⟨_,e⟩
theorem uv:az ["self","filling","giving_up"] ["self"] (ao cq):=dZ
noncomputable def zA (CN P2:Addr):Sp:=λ vs H Q _=>∃ (x dx pp pm ph pe pw:Addr) (rs:Ln.Rs) (pts:List Int) (has:Nat→Bool) (R:Int),vs=[.ref x]∧bO CN H x dx pp pm ph pe pw rs pts has R∧eO H P2 ∧
  ∀ (l:Addr) (ms:List Ln.Mv) (H':Hp),Fx (λ b=>b=P2) H H'→eO H' P2→H l=none→ms.Perm (Ln.vp (Ln.ar rs pts) has R)→ms.Pairwise (λ a c=>c.1≤a.1)→aM H' l (ms.map cu)→Q (.ref l) H'
theorem EB (B:Bl mg) (T:ft K mg base CN fI dI c1 P1 c2 P2) (GU:kG P w K mg base 1 CN "rooms_used" ["self"] (vA CN)):kG P w K mg base 4 CN "moves_backward" ["self"] (zA CN P2):=by
  refine T.mb.ok uv (λ vs H Q E h=>?_) λ f A outer s H vs Q E hr h=>?_
  · obtain ⟨x,dx,pp,pm,ph,pe,pw,rs,pts,has,R,rfl,_⟩:=h;rfl
  · obtain ⟨x,dx,pp,pm,ph,pe,pw,rs,pts,has,R,rfl,L,hT,q⟩:=h;have de:bc 1 _:=hr.mono (by decide);refine ⟨_,ag (eQ (i:=1) uv.nd rfl ["place","used"] [0] rfl (kZ rfl B.enumerate (aa (cJ GU (pv 0) T.cl de) ae)) λ cl s H fp C =>
        ⟨cC (K:=K) 0 1 rfl (show (["place","used","self"]:List Str).Nodup by decide +kernel),fC (bh iJ (pv 1) (qc (K:=K) (pv 2) rfl) (aR _)),bL (aa (aF bj (pv 0) ai) (aa (pv 0) (aa ai (aa oZ ae))))⟩)
      (ag (eQ (i:=2) uv.nd rfl ["start","end","price","count"] [0] rfl (aY (aN (pv 0) rfl)) λ cl s H fp C =>
        ⟨qd (K:=K) 0 1 2 3 rfl (show (["start","end","price","count","self"]:List Str).Nodup by decide +kernel),fC (aW (aO (cB (K:=K)) (qc (K:=K) (pv 4) rfl) (pv 3) (λ _ _=>rfl))),
          bL (aa (pv 1) (aa (pv 0) (aa (uN pj (pv 2)) (aa (pv 3) ae))))⟩)
      (aj (aH (j8 (rF (b:=true) (k:=0) (x:="move") (qual:=q2) (params:=vD zu) (body:=vC zu) (scope:=jH zu) hr BG (λ _ _ _ _=>rfl) (λ _ _ _ _ _ _=>aO (cg (K:=K)) (pv 0) ai (λ _ _=>rfl))) rfl B.sorted PyProof.Rows.Boot.«sorted»
        (aa (aF gA (pv 1) (pv 2)) ae) (kO (yZ rfl T.t2) (kO b7 tD)))))),?_⟩
    obtain ⟨xs,hx,eM⟩:=L.iT;have gk:=L.pl;have tT:=L.rl;refine ⟨_,rfl,x,dx,_,rfl,L.ins,by rfl,?_⟩;unfold fc;refine ⟨x,dx,pp,pm,ph,pe,pw,rs,pts,has,R,rfl,L,λ lu H0 s0 HY hU=>?_⟩;refine ⟨lu,rfl,⟨_,aJ.of hU⟩,λ D1 nC=>?_⟩;refine dz (eV (cw (pts.length - 1) ((Ln.ar rs pts).used has))) (λ σ=>∃ o1 o2,σ=[o1,o2,some (.ref x)]) (λ i=>decide ((Ln.ar rs pts).used has i < R)) (λ i=>cu (i + 1,i,0,none)) nC (by rw [cK];lia) (λ H3 s3=>aJ.of (s3 _ _ hU)) ⟨_,_,rfl⟩ ?_ ?_
    · rintro j v σ H3 mn hj ⟨T',y,vE,rfl,rfl,uw⟩ s3 ⟨o1,o2,rfl⟩ Ky Kn hY hN;obtain ⟨ie,rfl⟩:=mK uw;have sT:av H3 (upd H3 T' (.tup [.int (j:Nat),.int ((Ln.ar rs pts).used has j)])):=ah vE;refine ⟨T',_,rfl,b_.of af,rfl,_,_,rfl,_,_,rfl,rfl,?_⟩;refine ⟨_,rfl,dY (((s0.trans s3).trans sT) _ _ L.ins) T.cl T.nr Ew ⟨_,_,rfl,rfl,_,rfl,?_⟩⟩
      by_cases hb:(Ln.ar rs pts).used has j < R
      · refine fE (by simpa using hb) ⟨_,rfl,_,_,rfl,rfl,_,rfl,by show 4≤sizeLine;decide,λ p5 oK=>hY _ p5 _ (sT.trans (ah oK)) (bu sT oK) ?_ ⟨_,_,rfl⟩ (by simpa using hb)⟩;rw [af];rfl
      · exact df (by simpa using hb) (hN _ _ sT ⟨_,_,rfl⟩ (by simpa using hb))
    intro H1 s1 h1;rw [cK] at h1;have S1:=s0.trans s1;refine (dY (S1 _ _ L.ins) T.cl T.nm Ex ⟨pm,rfl,⟨_,aJ.of (S1 _ _ hx)⟩,λ D2 vz=>?_⟩);refine dz (aI xs) (λ σ=>∃ o1 o2 o3 o4,σ=[o1,o2,o3,o4,some (.ref x)]) (λ j=>has j) (λ j=>cu ((Ln.ar rs pts).e j,(Ln.ar rs pts).s j,-((Ln.ar rs pts).w j),some j)) vz (by lia) (λ H3 s3=>aJ.of (s3 _ _ (S1 _ _ hx))) ⟨_,_,_,_,rfl⟩ ?_ ?_
    · rintro j v σ mn H3 hj ⟨rfl,gi⟩ s3 ⟨o1,o2,o3,o4,rfl⟩ Ky Kn hY hN;obtain ⟨ie,p,rfl,hp⟩:=L.move hx gi;have S3:=S1.trans s3;refine ⟨p,_,rfl,b_.of (S3 _ _ hp),rfl,_,_,rfl,_,_,rfl,_,_,rfl,_,_,rfl,rfl,?_⟩;refine (dY (S3 _ _ L.ins) T.cl T.nh xg ⟨_,rfl,ph,_,_,_,rfl,rfl,aJ.of (S3 _ _ L.hs),jG ie,_,rfl,?_⟩);cases hb:has j with
      | false=>exact bV (hN _ _ (av.refl _) ⟨_,_,_,_,rfl⟩ hb)
      | true=>exact bW ⟨_,rfl,_,rfl,_,rfl,_,rfl,_,rfl,by show 4≤sizeLine;decide,λ p5 oK=>hY _ p5 _ (ah oK) oK (by rw [af];rfl) ⟨_,_,_,_,rfl⟩ hb⟩
    intro H2 s2 h2;have S2:=S1.trans s2;have t1:=h1.same s2;obtain ⟨y1,g1,k1⟩:=t1.list;obtain ⟨y2,g2,k2⟩:=h2.list;have e1:y1.length≤4000:=by
      rw [k1,List.length_map];have:=List.length_filter_le (λ i=>decide ((Ln.ar rs pts).used has i < R)) (List.range (pts.length - 1));rw [List.length_range] at this
      lia
    have e2:y2.length≤2000:=by
      rw [k2,List.length_map];have:=List.length_filter_le (λ j=>has j) (List.range xs.length);rw [List.length_range] at this
      lia
    refine ⟨_,rfl,_,rfl,D1,D2,_,_,rfl,rfl,g1,g2,by rw [sizeLine_eq];lia,λ p3 BA=>?_⟩;have t3:=t1.cat h2 g1 g2 BA;have S3:av H (upd H2 p3 (.lst (y1 ++ y2))):=S2.trans (ah BA);generalize upd H2 p3 (.lst (y1 ++ y2))=H3 at t3 S3 ⊢;have eo:((List.range (pts.length - 1)).filter λ i=>decide ((Ln.ar rs pts).used has i < R)).map (λ i=>cu (i + 1,i,0,none)) ++ ((List.range xs.length).filter λ j=>has j).map (λ j=>cu ((Ln.ar rs pts).e j,(Ln.ar rs pts).s j,-((Ln.ar rs pts).w j),some j))=(Ln.vp (Ln.ar rs pts) has R).map cu:=by
      unfold Ln.vp;rw [List.map_append,List.map_map,List.map_map,eM];rfl
    rw [eo] at t3;refine ⟨aA.same hT S3,λ f5 H5 Ia s5 LX=>?_⟩;have F5:Fx (λ b=>b=P2) H H5:=λ b u e n=>s5 b u n (S3 b u e);obtain ⟨UX,OI⟩:=aA.there (aA.same hT S3);have t5:aM H5 p3 ((Ln.vp (Ln.ar rs pts) has R).map cu):=t3.fx (S:=λ b=>b=P2) (λ b u e n=>s5 b u n e) (λ hb=>by
      subst hb;obtain ⟨ys,e1,_⟩:=t3.list;rw [OI] at e1;cases e1) λ b v hb z=>by subst hb;rw [OI] at z;cases z
    refine rS t5 ?_ LX λ l ms H' s' hl Fv ho ht=>?_
    · have:=congrArg List.length eo;rw [List.length_append,List.length_map,List.length_map,List.length_map] at this;rw [k1,List.length_map] at e1;rw [k2,List.length_map] at e2
      lia
    · refine q l ms H' (F5.trans (Fx.of s')) (aA.same Ia s') ?_ Fv ho ht;cases z:H l with
      | none=>rfl
      | some u =>
        by_cases e:l=P2
        · subst e;obtain ⟨tp,h5⟩:=aA.there Ia;rw [h5] at hl;cases hl
        · rw [F5 _ _ z e] at hl;cases hl
end
structure iy (CN P1 P2:Addr) (S:Addr→Prop) (H0 H:Hp) (x dx pp pm ph la lw lo lb:Addr) (rs:Ln.Rs) (pts:List Int) (has:Nat→Bool) (R:Int) (mo mb:List Ln.Mv) (h:Nat→Int) (way:Nat→Nat×Option Nat):Prop where
  ln:bO CN H x dx pp pm ph la lw rs pts has R
  to:aM H lo (mo.map cu)
  tb:aM H lb (mb.map cu)
  ht:iG H la pts.length h
  wy:fq H lw pts.length way
  t1:eN H P1
  t2:eO H P2
  fx:Fx S H0 H
section
variable {P:Program} {w:World} {K:PySem.W.Frag} {mg:Str→Option Value} {base:Heap} {CN fI c1 P1 c2 P2:Addr} {dI:FuncData} {H0 H H':Hp} {x dx pp pm ph pe pw la lw lo lb:Addr} {rs:Ln.Rs} {pts:List Int} {has:Nat→Bool} {R:Int}
structure Off (la lw pp pm ph lo lb:Addr):Prop where
  ne:la≠lw
  p:pp≠la∧pp≠lw
  m:pm≠la∧pm≠lw
  h:ph≠la∧ph≠lw
  o:lo≠la∧lo≠lw
  b:lb≠la∧lb≠lw
theorem iy.CK {S:Addr→Prop} {mo mb:List Ln.Mv} {h h':Nat→Int} {way dN:Nat→Nat×Option Nat} (C:iy CN P1 P2 S H0 H x dx pp pm ph la lw lo lb rs pts has R mo mb h way) (O:Off la lw pp pm ph lo lb) (n1:H0 la=none) (n2:H0 lw=none)
    (s:Fx (λ c=>c=la∨c=lw) H H') (hE:iG H' la pts.length h') (hW:fq H' lw pts.length dN):iy CN P1 P2 S H0 H' x dx pp pm ph la lw lo lb rs pts has R mo mb h' dN:=by
  obtain ⟨ys,hy,_⟩:=id C.wy;have JQ:H la=some (.lst (cw pts.length h)):=C.ht;have off:∀ {b:Addr},b≠la∧b≠lw→¬ (b=la∨b=lw):=λ hb z=>z.elim hb.1 hb.2;have nt:∀ (b:Addr) (v:List V),(b=la∨b=lw)→H b≠some (.tup v):=λ b v hb z=>by
    rcases hb with rfl | rfl
    · rw [JQ] at z;cases z
    · rw [hy] at z;cases z
  have nf:∀ (b:Addr) (o:Obj) (u:HO),(b=la∨b=lw)→H b≠some (.iD o u):=λ b o u hb z=>by
    rcases hb with rfl | rfl
    · rw [JQ] at z;cases z
    · rw [hy] at z;cases z
  have OJ:∀ {b:Addr} {ps:Array Value},H b=some (.gj ps)→¬ (b=la∨b=lw):=λ e hb=>by
    rcases hb with rfl | rfl
    · rw [JQ] at e;cases e
    · rw [hy] at e;cases e
  obtain ⟨q1,e1⟩:=aA.there C.t1;obtain ⟨q2,e2⟩:=aA.there C.t2;refine ⟨C.ln.fx s (λ hb=>?_) (off O.p) (off O.m) (off O.h) nt,C.to.fx s (off O.o) nt,C.tb.fx s (off O.b) nt,hE,hW,aA.fx C.t1 s (OJ e1) nf,aA.fx C.t2 s (OJ e2) nf,λ b u e n=>s b u (C.fx b u e n) λ hb=>?_⟩
  · have:=C.ln.ins;rcases hb with rfl | rfl
    · rw [JQ] at this;cases this
    · rw [hy] at this;cases this
  · rcases hb with rfl | rfl
    · rw [n1] at e;cases e
    · rw [n2] at e;cases e
theorem hV:az ["self","onward","backward","changed"] ["self"] (ao jl):=dZ
noncomputable def mO (CN P1 P2:Addr):Sp:=λ vs H Q _=>∃ (x dx pp pm ph pe pw:Addr) (rs:Ln.Rs) (pts:List Int) (has:Nat→Bool) (R:Int) (p:Nat→Int),vs=[.ref x]∧bO CN H x dx pp pm ph pe pw rs pts has R∧eN H P1∧eO H P2∧Ln.ck (Ln.ar rs pts) has R p∧p 0=0 ∧
  ∀ la lw h way H',Fx (λ b=>b=x∨b=P1∨b=P2) H H'→bO CN H' x dx pp pm ph la lw rs pts has R→eN H' P1→eO H' P2→iG H' la pts.length h→fq H' lw pts.length way→Ln.Cl (Ln.ar rs pts) has R p h way→Ln.ck (Ln.ar rs pts) has R h →
    la≠lw→H la=none→H lw=none→Q .cc H'
theorem LY:cO "heights" (.ref la) (cM R pp pm ph pe pw)=cM R pp pm ph la pw:=by rfl
theorem LZ:cO "ways" (.ref lw) (cM R pp pm ph pe pw)=cM R pp pm ph pe lw:=by rfl
theorem dc {S:Addr→Prop} {a:Addr} (s:Fx S H H') (h:H' a=none) (hS:∀ b,S b→∃ u,H' b=some u):H a=none:=by
  cases z:H a with
  | none=>rfl
  | some u =>
    by_cases e:S a
    · obtain ⟨v,e⟩:=hS a e;rw [h] at e;cases e
    · rw [s _ _ z e] at h;cases h
theorem zB (B:Bl mg) (T:ft K mg base CN fI dI c1 P1 c2 P2) (GO:kG P w K mg base 4 CN "moves_onward" ["self"] (zw CN P1)) (GB:kG P w K mg base 4 CN "moves_backward" ["self"] (zA CN P2)) (GS:Def P w K mg base bN 1 "sweep" ["moves","heights","ways"] rQ) :
    kG P w K mg base 5 CN "climb" ["self"] (mO CN P1 P2):=by
  refine T.cb.ok hV (λ vs H Q E h=>?_) λ f bM A outer s H vs Q E hr h=>?_
  · obtain ⟨x,dx,pp,pm,ph,pe,pw,rs,pts,has,R,p,rfl,_⟩:=h;rfl
  · obtain ⟨x,dx,pp,pm,ph,pe,pw,rs,pts,has,R,p,rfl,L,sR,n8,hp,p0,q⟩:=h;have de:bc 1 _:=hr.mono (by decide);refine ⟨_,ag (cY (pv 0) (aF tH (cQ (aa ai ae)) (aB aL (by rfl) B.len PySem.boot_len (aa (aN (pv 0) rfl) ae))) rfl)
      (ag (cY (pv 0) (bC ["place"] [] rfl (h8 rfl B.range (aa (aB aL (by rfl) B.len PySem.boot_len (aa (aN (pv 0) rfl) ae)) ae)) λ cl s H fp C =>
        ⟨aV (i:=0) (show (["place"]:List Str).Nodup by decide +kernel) rfl (Or.inl rfl),br,bL (aa (aF di (pv 0) ai) (aa oZ ae))⟩) rfl)
      (ag (aK (i:=1) hV.nd rfl (Or.inl rfl) (cJ GO (pv 0) T.cl hr))
      (ag (aK (i:=2) hV.nd rfl (Or.inl rfl) (cJ GB (pv 0) T.cl hr))
      (ag (aK (i:=3) hV.nd rfl (Or.inl rfl) b7)
      (aj (jf PassesOwn.never (aW (pv 3)) (aj (aK (i:=3) hV.nd rfl (Or.inl rfl)
        (cp (au GS de rfl aD (aa (pv 1) (aa (aN (pv 0) rfl) (aa (aN (pv 0) rfl) ae)))) (c_ (au GS de rfl aD (aa (pv 2) (aa (aN (pv 0) rfl) (aa (aN (pv 0) rfl) ae)))))))))))))),?_⟩
    have gk:=L.pl;have tT:=L.rl;have ok:=Ln.dS L.ok;refine ⟨by show 1≤sizeLine;decide,λ l0 DY=>?_⟩;have s0:av H (upd H l0 (.lst [.int 0])):=ah DY;refine (dY (s0 _ _ L.ins) T.cl T.np xf ⟨pp,_,rfl,.inl (aJ.of (s0 _ _ L.pt)),l0,_,_,rfl,rfl,af,by rw [List.length_map];lia,by rw [List.length_map];lia,by rw [List.length_map,sizeLine_eq];simp;lia,λ la Fz=>?_⟩);rw [List.length_map,Int.toNat_natCast,vB];have s1:av H (upd (upd H l0 (.lst [.int 0])) la (.lst (cw pts.length λ _=>0))):=s0.trans (ah Fz);have ur:H la=none:=bu s0 Fz;have L0:iG (upd (upd H l0 (.lst [.int 0])) la (.lst (cw pts.length λ _=>0))) la pts.length λ _=>0:=af;generalize upd (upd H l0 (.lst [.int 0])) la (.lst (cw pts.length λ _=>0))=H1 at s1 L0 ⊢;have L1:=L.same s1;refine ⟨_,rfl,x,CN,dx,_,rfl,L1.ins,T.cl,T.ne,by show 6 < 1000;decide,?_⟩;rw [LY];have OK:la≠x:=nE L0 L1.ins λ z=>nomatch z;have nx:∀ {b:Addr} {xs:List V},H1 b=some (.lst xs)→b≠x:=λ e=>nE e L1.ins λ z=>nomatch z;have F2:Fx (λ b=>b=x) H (upd H1 x (.ins CN dx (cM R pp pm ph la pw))):=(Fx.of s1).upd (.inl rfl);obtain ⟨xs,hx,eM⟩:=L1.iT;have L2:bO CN (upd H1 x (.ins CN dx (cM R pp pm ph la pw))) x dx pp pm ph la pw rs pts has R:=by
      refine ⟨af,by rw [aq (nx L1.pt)];exact L1.pt,L1.mv.fx (S:=λ b=>b=x) (Fx.refl.upd (.inl rfl)) (nx hx) (λ b v hb z=>by subst hb;rw [L1.ins] at z;cases z),by rw [aq (nx L1.hs)];exact L1.hs,L.ok,L.rl,L.pl,L.a1,L.a2⟩
    have xc:iG (upd H1 x (.ins CN dx (cM R pp pm ph la pw))) la pts.length λ _=>0:=by
      show upd H1 x _ la=_;rw [aq OK];exact L0
    generalize upd H1 x (.ins CN dx (cM R pp pm ph la pw))=H2 at F2 L2 xc ⊢;refine (dY L2.ins T.cl T.np xf ⟨pp,_,rfl,.inl (aJ.of L2.pt),_,rfl,by rw [List.length_map];lia,by rw [List.length_map];lia,λ lw L7=>?_⟩);have en:(((pts.map V.int).length:Int)).toNat=pts.length:=by rw [List.length_map];lia
    rw [en];refine dz (tt:=tL) d5 (λ σ=>∃ o1,σ=[o1]) (λ _=>true) (λ i=>[.int ((i:Int) - 1),.cc]) L7 (by lia) (λ _ _=>trivial) ⟨_,rfl⟩ ?_ ?_
    · rintro j v σ mn H3 hj ⟨rfl,rfl⟩ s3 ⟨o1,rfl⟩ Ky Kn hY _;refine ⟨_,rfl,_,_,rfl,rfl,by show 2≤sizeLine;decide,λ p5 oK=>hY _ p5 _ (ah oK) oK ?_ ⟨_,rfl⟩ rfl⟩;rw [af];show some (HO.tup [.int (0 + (j:Int) - 1),.cc])=_;rw [Int.zero_add]
    intro H3 s3 h3;rw [List.filter_eq_self.mpr λ _ _=>rfl] at h3;have CH:fq H3 lw pts.length λ v=>(v - 1,none):=by
      obtain ⟨ys,e1,e2,e3⟩:=h3;refine ⟨ys,e1,by rw [e2];simp,λ v h1 h2=>?_⟩;obtain ⟨p',e4,e5⟩:=e3 v [.int ((v:Int) - 1),.cc] (by rw [List.getElem?_map,List.getElem?_range h2];rfl);refine ⟨p',e4,?_⟩;rw [e5];show _=some (HO.tup [.int (((v - 1:Nat):Nat):Int),.cc]);rw [show ((v:Int) - 1)=((v - 1:Nat):Int) by lia]
    have L3:=L2.same s3;obtain ⟨ws,L8,_⟩:=id CH;refine ⟨_,rfl,x,CN,dx,_,rfl,L3.ins,T.cl,T.nw,by show 6 < 1000;decide,?_⟩;rw [LZ];have BH:H lw=none:=dc F2 L7 λ b hb=>⟨_,by subst hb;exact L2.ins⟩;have JR:∀ {b:Addr} {xs:List V},H3 b=some (.lst xs)→b≠x:=λ e=>nE e L3.ins λ z=>nomatch z;have EC:∀ (b:Addr) (v:List V),b=x→H3 b≠some (.tup v):=λ b v hb z=>by subst hb;rw [L3.ins] at z;cases z
    obtain ⟨UY,mh,_⟩:=L3.iT;have F3:Fx (λ b=>b=x) H3 (upd H3 x (.ins CN dx (cM R pp pm ph la lw))):=Fx.refl.upd (.inl rfl);have F4:Fx (λ b=>b=x) H (upd H3 x (.ins CN dx (cM R pp pm ph la lw))):=(F2.trans (Fx.of s3)).trans F3;have L4:bO CN (upd H3 x (.ins CN dx (cM R pp pm ph la lw))) x dx pp pm ph la lw rs pts has R:=by
      refine ⟨af,by rw [aq (JR L3.pt)];exact L3.pt,L3.mv.fx F3 (JR mh) EC,by rw [aq (JR L3.hs)];exact L3.hs,L.ok,L.rl,L.pl,L.a1,L.a2⟩
    have JS:iG (upd H3 x (.ins CN dx (cM R pp pm ph la lw))) la pts.length λ _=>0:=by
      show upd H3 x _ la=_;rw [aq OK];exact s3 _ _ xc
    have Eu:fq (upd H3 x (.ins CN dx (cM R pp pm ph la lw))) lw pts.length λ v=>(v - 1,none):=CH.fx F3 (JR L8) EC;have OL:∀ {q:Str} {pos:Pos} {P0:Addr},aA H P0 pos q→aA (upd H3 x (.ins CN dx (cM R pp pm ph la lw))) P0 pos q:=λ {q pos P0} t=>by
      obtain ⟨tp,et⟩:=aA.there t;exact aA.fx t F4 (λ z=>by subst z;rw [L.ins] at et;cases et) λ b o u hb z=>by subst hb;rw [L.ins] at z;cases z
    have Ib:=OL sR;have Ic:=OL n8;have law:la≠lw:=by
      have e2:H2 la=some (.lst (cw pts.length λ _=>0)):=xc;exact ay e2 L7
    generalize upd H3 x (.ins CN dx (cM R pp pm ph la lw))=H4 at F4 L4 JS Eu Ib Ic ⊢;refine ⟨_,rfl,x,dx,_,rfl,L4.ins,by rfl,?_⟩
    try unfold fc
    refine ⟨x,dx,pp,pm,ph,la,lw,rs,pts,has,R,rfl,L4,Ib,λ lo mo H5 F5 RL yo OM RM ON=>?_⟩;obtain ⟨RN,Av⟩:=aA.there Ib;obtain ⟨RO,RP⟩:=aA.there Ic;obtain ⟨UZ,Ie,_⟩:=id Eu;obtain ⟨U0,ED,_⟩:=L4.iT;have EE:H4 la=some (.lst (cw pts.length λ _=>0)):=JS;have nP:∀ {P0 b:Addr} {tp:Array Value} {G:Hp} {u:HO},G P0=some (.gj tp)→G b=some u→u≠.gj tp→¬ b=P0:=λ e1 e2 e3 z=>by subst z;rw [e1] at e2;cases e2;exact e3 rfl
    have Ig:∀ {P0:Addr} {tp:Array Value} {G:Hp},G P0=some (.gj tp)→∀ (b:Addr) (v:List V),b=P0→G b≠some (.tup v):=λ e1 b v hb z=>by subst hb;rw [e1] at z;cases z
    have OO:∀ {P0:Addr} {tp:Array Value} {G:Hp},G P0=some (.gj tp)→∀ (b:Addr) (o:Obj) (u:HO),b=P0→G b≠some (.iD o u):=λ e1 b o u hb z=>by subst hb;rw [e1] at z;cases z
    have L5:=L4.fx F5 (nP Av L4.ins (λ z=>nomatch z)) (nP Av L4.pt (λ z=>nomatch z)) (nP Av ED (λ z=>nomatch z)) (nP Av L4.hs (λ z=>nomatch z)) (Ig Av);have RQ:iG H5 la pts.length λ _=>0:=F5 _ _ EE (nP Av EE (λ z=>nomatch z));have JN:fq H5 lw pts.length λ v=>(v - 1,none):=Eu.fx F5 (nP Av Ie (λ z=>nomatch z)) (Ig Av);have OP:eO H5 P2:=aA.fx Ic F5 (λ z=>T.n12 z.symm) (OO Av);refine ⟨_,rfl,x,dx,_,rfl,L5.ins,by rfl,?_⟩
    try unfold fc
    refine ⟨x,dx,pp,pm,ph,la,lw,rs,pts,has,R,rfl,L5,OP,λ lb mb H6 F6 L9 OQ OR RS RT=>?_⟩;obtain ⟨U1,zC⟩:=aA.there OP;obtain ⟨U3,Ih,_⟩:=id JN;obtain ⟨U4,L_,_⟩:=L5.iT;have EF:H5 la=some (.lst (cw pts.length λ _=>0)):=RQ;obtain ⟨U7,Ii,_⟩:=ON.list;have L6:=L5.fx F6 (nP zC L5.ins (λ z=>nomatch z)) (nP zC L5.pt (λ z=>nomatch z)) (nP zC L_ (λ z=>nomatch z)) (nP zC L5.hs (λ z=>nomatch z)) (Ig zC);have RU:iG H6 la pts.length λ _=>0:=F6 _ _ EF (nP zC EF (λ z=>nomatch z));have RV:fq H6 lw pts.length λ v=>(v - 1,none):=JN.fx F6 (nP zC Ih (λ z=>nomatch z)) (Ig zC);have Ma:eN H6 P1:=aA.fx RL F6 (λ z=>T.n12 z) (OO zC);have RW:aM H6 lo (mo.map cu):=ON.fx F6 (nP zC Ii (λ z=>nomatch z)) (Ig zC);have FX:Fx (λ b=>b=x∨b=P1∨b=P2) H H6:=(F4.mono λ b hb=>.inl hb).trans ((F5.mono λ b hb=>.inr (.inl hb)).trans (F6.mono λ b hb=>.inr (.inr hb)));have O:Off la lw pp pm ph lo lb:=by
      have a1:∀ {b u},H b=some u→b≠la∧b≠lw:=λ e=>⟨λ z=>(by subst z;rw [ur] at e;cases e),λ z=>(by subst z;rw [BH] at e;cases e)⟩;obtain ⟨U8,xi,_⟩:=L.iT;exact ⟨law,a1 L.pt,a1 xi,a1 L.hs,⟨(ay EE yo).symm,(ay Ie yo).symm⟩,⟨(ay EF OQ).symm,(ay Ih OQ).symm⟩⟩
    have RX:∀ m∈mo,Ln.Move (Ln.ar rs pts) has R m.1 m.2.1 m.2.2.1 m.2.2.2:=λ m hm=>(Ln.rK ok (OM.mem_iff.mp hm)).1;have RY:∀ m∈mb,Ln.Move (Ln.ar rs pts) has R m.1 m.2.1 m.2.2.1 m.2.2.2:=λ m hm=>(Ln.mz ok (OR.mem_iff.mp hm)).1;have C6:iy CN P1 P2 (λ b=>b=x∨b=P1∨b=P2) H H6 x dx pp pm ph la lw lo lb rs pts has R mo mb (λ _=>0) (λ v=>(v - 1,none)):=⟨L6,RW,RT,RU,RV,Ma,L9,FX⟩;refine ⟨λ m σ H7=>∃ (b:Bool) (h:Nat→Int) (way:Nat→Nat×Option Nat),σ=[some (.ref x),some (.ref lo),some (.ref lb),some (.bl b)]∧iy CN P1 P2 (λ b=>b=x∨b=P1∨b=P2) H H7 x dx pp pm ph la lw lo lb rs pts has R mo mb h way ∧
      Ln.Cl (Ln.ar rs pts) has R p h way∧Ln.Set h (Ln.vp (Ln.ar rs pts) has R)∧(b=false→Ln.ck (Ln.ar rs pts) has R h)∧m=(if b then Ln.room (Ln.ar rs pts) p h + 1 else 0),⟨_,true,_,_,rfl,C6,Ln.Cl.start ok hp p0,Ln.zf ok,(λ z=>nomatch z),rfl⟩,?_⟩
    rintro m σ H7 ⟨b,h,way,rfl,C7,hC,OS,hF,rfl⟩;refine ⟨_,rfl,_,rfl,?_⟩;cases b with
    | false =>
      refine bV (q la lw h way H7 C7.fx C7.ln C7.t1 C7.t2 C7.ht C7.wy hC (hF rfl) law ur BH)
    | true =>
      refine bW ⟨λ σ H8=>∃ (b:Bool) (h':Nat→Int) (dN:Nat→Nat×Option Nat),σ=[some (.ref x),some (.ref lo),some (.ref lb),some (.bl b)]∧iy CN P1 P2 (λ b=>b=x∨b=P1∨b=P2) H H8 x dx pp pm ph la lw lo lb rs pts has R mo mb h' dN ∧
        Ln.Cl (Ln.ar rs pts) has R p h' dN∧Ln.Set h' (Ln.vp (Ln.ar rs pts) has R)∧(b=false→Ln.ck (Ln.ar rs pts) has R h')∧(b=true→Ln.room (Ln.ar rs pts) p h' < Ln.room (Ln.ar rs pts) p h),λ σ' H8 z=>?_,?_⟩
      · obtain ⟨b,h',dN,e1,e2,e3,e4,e5,e6⟩:=z;refine ⟨_,?_,b,h',dN,e1,e2,e3,e4,e5,rfl⟩;cases b with
        | false=>show 0 < _;rw [if_pos rfl];lia
        | true=>have:=e6 rfl;rw [if_pos rfl,if_pos rfl];lia
      · refine ⟨_,rfl,dY C7.ln.ins T.cl T.ne zl (dY C7.ln.ins T.cl T.nw Ey ?_)⟩;refine ⟨lo,la,lw,mo,h,p,way,Ln.ar rs pts,has,R,rfl,C7.to,C7.ht,C7.wy,law,O.o.1,O.o.2,ok,hp,p0,hC,RX,λ b1 Ij H8 Mb z0 z1 F8 RZ R0=>?_⟩;have C8:=C7.CK O ur BH F8 RZ R0;have so:=Ln.Bt ok OM RM h;refine ⟨_,rfl,?_⟩;cases b1 with
        | false =>
          have eh:=z0 rfl;refine bV ?_;rw [eh] at so C8 Mb;exact ⟨false,h,Ij,rfl,C8,Mb,OS,λ _=>Ln.vq so OS,λ z=>nomatch z⟩
        | true =>
          have r1:=z1 rfl;refine bW ?_;refine ⟨_,rfl,dY C8.ln.ins T.cl T.ne zl (dY C8.ln.ins T.cl T.nw Ey ?_)⟩;refine ⟨lb,la,lw,mb,_,p,Ij,Ln.ar rs pts,has,R,rfl,C8.tb,C8.ht,C8.wy,law,O.b.1,O.b.2,ok,hp,p0,Mb,RY,λ b2 EG H9 BC y0 y1 F9 R1 R3=>?_⟩;have C9:=C8.CK O ur BH F9 R1 R3;have sb:=Ln.Bu (R:=R) ok OR RS (Ln.fT h mo);cases b2 with
          | false =>
            have eh:=y0 rfl;rw [eh] at sb C9 BC;exact ⟨false,_,EG,rfl,C9,BC,sb,λ _=>Ln.vq so sb,λ z=>nomatch z⟩
          | true =>
            have r2:=y1 rfl;exact ⟨true,_,EG,rfl,C9,BC,sb,(λ z=>nomatch z),λ _=>Nat.lt_trans r2 r1⟩
theorem oM {a:Addr}:a9 H a rs↔aM H a (rs.map fj):=by
  constructor
  · rintro ⟨xs,h1,h2,h3⟩;refine ⟨xs,h1,by rw [h2,List.length_map],λ i v e=>?_⟩;rw [List.getElem?_map] at e;cases z:rs[i]? with
    | none=>rw [z] at e;cases e
    | some r=>rw [z] at e;cases e;exact h3 i r z
  · rintro ⟨xs,h1,h2,h3⟩;exact ⟨xs,h1,by rw [h2,List.length_map],λ i r e=>h3 i (fj r) (by rw [List.getElem?_map,e];rfl)⟩
theorem d7 {S:Addr→Prop} {a:Addr} (h:a9 H a rs) (s:Fx S H H') (ha:¬ S a) (hS:∀ b v,S b→H b≠some (.tup v)):a9 H' a rs:=oM.mpr ((oM.mp h).fx s ha hS)
theorem xj {pts:List Int} (o:pts.Pairwise (· < ·)):∀ {m:Nat},m≤pts.length→∀ {i:Nat},i < m→eC (dP [] ((List.range m).map λ i=>((Sum.inl (pts.getD i 0):Key),V.int (i:Nat)))) (Sum.inl (pts.getD i 0))=some (.int (i:Nat)):=by
  intro m
  induction m with
  | zero=>intro _ i h;lia
  | succ m ih =>
    intro hm i hi;rw [List.range_succ,List.map_append];unfold dP;rw [List.foldl_append];show eC (putK _ (Sum.inl (pts.getD m 0)) (.int (m:Nat))) (Sum.inl (pts.getD i 0))=_;rw [yq]
    by_cases e:i=m
    · subst e;rw [if_pos rfl]
    · have:(Sum.inl (pts.getD i 0):Key)≠Sum.inl (pts.getD m 0):=λ z=>by
        have z:pts.getD i 0=pts.getD m 0:=by injection z
        rw [getD_at (by lia),getD_at (by lia)] at z;have:=(Ln.mw o (show i < pts.length by lia) (show m < pts.length by lia)).mpr (by lia)
        lia
      rw [if_neg this];exact ih (by lia) (by lia)
noncomputable def cT (tk:List Int) (c:Nat):Bool:=decide ((c:Int)∈tk)
theorem rT {n c:Nat} {f:Nat→Bool} {b:Bool}:(dU n f).set c (.bl b)=dU n (Ln.b9 f c b):=by
  unfold dU;apply List.ext_getElem
  · simp
  · intro i h1 h2;rw [List.getElem_set];rw [List.getElem_map,List.getElem_map,List.getElem_range]
    by_cases e:c=i
    · subst e;rw [if_pos rfl,Ln.aT]
    · rw [if_neg e,Ln.bf λ z=>e z.symm]
theorem rV {n:Nat} {f g:Nat→Bool} (e:∀ c,c < n→f c=g c):dU n f=dU n g:=by
  unfold dU;exact List.map_congr_left λ v hv=>by rw [e v (List.mem_range.mp hv)]
theorem BI (n:Nat):(List.replicate n [V.bl false]).flatten=dU n λ _=>false:=by
  induction n with
  | zero=>rfl
  | succ n ih =>
    rw [List.replicate_succ',List.flatten_append,ih];unfold dU;rw [List.range_succ,List.map_append];rfl
theorem qg:az ["self","requests","taken","rooms","places","count"] ["self","requests","taken","rooms"] (ao gb):=dZ
noncomputable def jI (CN P1 P2:Addr):Sp:=λ vs H Q _=>∃ (x dx a b:Addr) (rs:Ln.Rs) (tk:List Int) (R:Int),vs=[.ref x,.ref a,.ref b,.int R]∧H x=some (.ins CN dx [])∧a9 H a rs∧GoodR rs∧rs.length≤2000∧H b=some (.lst (tk.map V.int))∧(∀ c∈tk,0≤c∧c.toNat < rs.length)∧eN H P1∧eO H P2 ∧
  (∀ pts,Ln.qu rs pts→∃ p,Ln.ck (Ln.ar rs pts) (cT tk) R p∧p 0=0) ∧
  ∀ pp pm ph la lw pts h p way H',Fx (λ b=>b=x∨b=P1∨b=P2) H H'→bO CN H' x dx pp pm ph la lw rs pts (cT tk) R→eN H' P1→eO H' P2→iG H' la pts.length h→fq H' lw pts.length way→Ln.ck (Ln.ar rs pts) (cT tk) R p→p 0=0→Ln.Cl (Ln.ar rs pts) (cT tk) R p h way→Ln.ck (Ln.ar rs pts) (cT tk) R h →
    la≠lw→ph≠la→ph≠lw→H ph=none→Q .cc H'
theorem BJ (B:Bl mg) (T:ft K mg base CN fI dI c1 P1 c2 P2) (GP:Def P w K mg base bN 1 "points_of" ["requests"] oJ) (GC:kG P w K mg base 5 CN "climb" ["self"] (mO CN P1 P2)) :
    fA P w K mg base bN 6 fI dI ["self","requests","taken","rooms"] (jI CN P1 P2):=by
  refine T.fI.ok qg (λ vs H Q E h=>?_) λ bM A outer s H vs Q E hr h=>?_
  · obtain ⟨x,dx,a,b,rs,tk,R,rfl,_⟩:=h;rfl
  · obtain ⟨x,dx,a,b,rs,tk,R,rfl,xi,hR,hg,tT,hb,v_,sR,n8,Mc,q⟩:=h;have de:bc 1 _:=hr.mono (by decide);refine ⟨_,ag (cY (pv 0) (pv 3) rfl)
      (ag (cY (pv 0) (au GP de rfl aD (aa (pv 1) ae)) rfl)
      (ag (aK (i:=4) qg.nd rfl (Or.inr rfl) (cm (ue rfl) (by rfl) B.dict PyProof.Rows.Boot.«dict» (aa (bC ["place","point"] [] rfl (kZ rfl B.enumerate (aa (aN (pv 0) rfl) ae)) λ cl s H fp C =>
          ⟨cC (K:=K) 0 1 rfl (show (["place","point"]:List Str).Nodup by decide +kernel),br,bL (aa (pv 1) (aa (pv 0) ae))⟩) ae)))
      (ag (cY (pv 0) (bC ["count","request"] [4] rfl (kZ rfl B.enumerate (aa (pv 1) ae)) λ cl s H fp C =>
          ⟨cC (K:=K) 0 1 rfl (show (["count","request","places"]:List Str).Nodup by decide +kernel),br,bL (aa (uY (Ce hr) (pv 2) (aO (cg (K:=K)) (pv 1) ai (λ _ _=>rfl)) (λ _ _=>rfl))
            (aa (uY (Ce hr) (pv 2) (aF bj (aO (cg (K:=K)) (pv 1) ai (λ _ _=>rfl)) ai) (λ _ _=>rfl)) (aa (aO (cg (K:=K)) (pv 1) ai (λ _ _=>rfl)) (aa (pv 0) ae))))⟩) rfl)
      (ag (cY (pv 0) (aF tH (cQ (aa b7 ae)) (aB aL (by rfl) B.len PySem.boot_len (aa (pv 1) ae))) rfl)
      (ag (ee PassesOwn.never rfl (aY (pv 2)) (aV (i:=5) qg.nd rfl (Or.inl rfl)) (aj (lg b7 (pf (aN (pv 0) rfl) (pv 5) set_list))))
      (ag (cY (pv 0) (cQ ae) rfl)
      (ag (cY (pv 0) (cQ ae) rfl)
      (aj (cG (cJ GC (pv 0) T.cl hr)))))))))),?_⟩
    obtain ⟨xs,kU,eM,_⟩:=id hR;have Ik:∀ {G:Hp} {fs:List (Str×V)},G x=some (.ins CN dx fs)→∀ (b:Addr) (v:List V),b=x→G b≠some (.tup v):=λ e b v hb z=>by subst hb;rw [e] at z;cases z
    have R4:∀ {G:Hp} {fs:List (Str×V)},G x=some (.ins CN dx fs)→∀ (b:Addr) (o:Obj) (u:HO),b=x→G b≠some (.iD o u):=λ e b o u hb z=>by subst hb;rw [e] at z;cases z
    have nx:∀ {G:Hp} {fs:List (Str×V)} {c:Addr} {u:HO},G x=some (.ins CN dx fs)→G c=some u→(∀ fs',u≠.ins CN dx fs')→¬ c=x:=λ e1 e2 e3 z=>by subst z;rw [e1] at e2;cases e2;exact e3 _ rfl
    have ax:¬ a=x:=nx xi kU λ _ z=>nomatch z;have bx:¬ b=x:=nx xi hb λ _ z=>nomatch z;refine ⟨_,rfl,_,rfl,x,CN,dx,_,rfl,xi,T.cl,T.nr,by show 0 < 1000;decide,?_⟩;have F1:Fx (λ c=>c=x) H (upd H x (.ins CN dx [("rooms",.int R)])):=Fx.refl.upd (.inl rfl);have FE:upd H x (.ins CN dx [("rooms",.int R)]) x=some (.ins CN dx [("rooms",.int R)]):=af;rw [show cO (Str.ofString "rooms") (V.int R) []=[(Str.ofString "rooms",V.int R)] from rfl];generalize upd H x (.ins CN dx [("rooms",.int R)])=H1 at F1 FE ⊢;have zD:=d7 hR F1 ax (Ik xi);refine ⟨_,rfl,a,rs,rfl,zD,hg,tT,λ pp pts H2 s2 U9 Il hP gk=>?_⟩;have nz:=s2 _ _ FE;refine ⟨_,rfl,x,CN,dx,_,rfl,nz,T.cl,T.np,by show 1 < 1000;decide,?_⟩;have F3:Fx (λ c=>c=x) H2 (upd H2 x (.ins CN dx [("rooms",.int R),("points",.ref pp)])):=Fx.refl.upd (.inl rfl);have mh:upd H2 x (.ins CN dx [("rooms",.int R),("points",.ref pp)]) x=some (.ins CN dx [("rooms",.int R),("points",.ref pp)]):=af;have JT:¬ pp=x:=nx nz Il λ _ z=>nomatch z;have JU:=(F1.trans (Fx.of s2)).trans F3;rw [show cO (Str.ofString "points") (V.ref pp) [(Str.ofString "rooms",V.int R)]=[(Str.ofString "rooms",V.int R),(Str.ofString "points",V.ref pp)] from rfl];generalize upd H2 x (.ins CN dx [("rooms",.int R),("points",.ref pp)])=H3 at F3 mh JU ⊢;have EH:=F3 _ _ Il JT;have ok:=Ln.dS hP;refine (dY mh T.cl T.np (show ([("rooms",V.int R),("points",V.ref pp)]:List (Str×V)).lookup (Str.ofString "points")=some (.ref pp) from rfl) ⟨pp,rfl,⟨_,aJ.of EH⟩,λ D1 nC=>?_⟩);refine dz (tt:=tL) (eV (pts.map V.int)) (λ σ=>∃ o1 o2,σ=[o1,o2]) (λ _=>true) (λ i=>[.int (pts.getD i 0),.int (i:Nat)]) nC (by rw [List.length_map];lia) (λ H4 s4=>aJ.of (s4 _ _ EH)) ⟨_,_,rfl⟩ ?_ ?_
    · rintro j v σ H4 OT hj ⟨T',y,vE,rfl,rfl,uw⟩ s4 ⟨o1,o2,rfl⟩ Ky Kn hY _;obtain ⟨_,rfl⟩:=int_at uw;have sT:av H4 (upd H4 T' (.tup [.int (j:Nat),.int (pts.getD j 0)])):=ah vE;refine ⟨T',_,rfl,b_.of af,rfl,_,_,rfl,_,_,rfl,rfl,?_⟩;exact ⟨_,rfl,_,rfl,by show 2≤sizeLine;decide,λ p5 oK=>hY _ p5 _ (sT.trans (ah oK)) (bu sT oK) af ⟨_,_,rfl⟩ rfl⟩
    intro H4 s4 h4;rw [List.filter_eq_self.mpr λ _ _=>rfl,List.length_map] at h4;obtain ⟨d4,g4,l4,k4⟩:=h4;rw [List.length_map,List.length_range] at l4;refine ⟨D1,d4,(List.range pts.length).map λ i=>((Sum.inl (pts.getD i 0):Key),V.int (i:Nat)),rfl,g4,by rw [List.length_map,List.length_range,l4],by lia,λ j kv e=>?_,λ pd R5=>?_⟩
    · rw [List.getElem?_map] at e;cases z:(List.range pts.length)[j]? with
      | none=>rw [z] at e;cases e
      | some i =>
        rw [z] at e;cases e;have hj:j < pts.length:=by have:=(List.getElem?_eq_some_iff.mp z).1;simpa using this
        rw [List.getElem?_range hj] at z;cases z;obtain ⟨p',e1,e2⟩:=k4 j [.int (pts.getD j 0),.int (j:Nat)] (by rw [List.getElem?_map,List.getElem?_range hj];rfl);exact ⟨p',e1,e2⟩
    have s5:av H3 (upd H4 pd (.dK (dP [] ((List.range pts.length).map λ i=>((Sum.inl (pts.getD i 0):Key),V.int (i:Nat)))))):=s4.trans (ah R5);have OU:upd H4 pd (.dK (dP [] ((List.range pts.length).map λ i=>((Sum.inl (pts.getD i 0):Key),V.int (i:Nat))))) pd=some (.dK (dP [] ((List.range pts.length).map λ i=>((Sum.inl (pts.getD i 0):Key),V.int (i:Nat))))):=af;generalize upd H4 pd (.dK (dP [] ((List.range pts.length).map λ i=>((Sum.inl (pts.getD i 0):Key),V.int (i:Nat)))))=H5 at s5 OU ⊢;have F5:=JU.trans (Fx.of s5);have R6:=d7 hR F5 ax (Ik xi);have EI:H5 a=some (.lst xs):=F5 _ _ kU ax;have look:∀ {d:Int},d∈pts→eC (dP [] ((List.range pts.length).map λ i=>((Sum.inl (pts.getD i 0):Key),V.int (i:Nat)))) (Sum.inl d)=some (.int ((pts.idxOf d:Nat):Int)):=λ {d} hd=>by
      have:=xj hP.ord (Nat.le_refl _) (Ln.e9 hd)
      rwa [getD_at (Ln.e9 hd),Ln.iq hd] at this
    refine ⟨_,rfl,a,rfl,⟨_,aJ.of EI⟩,λ pm Fv=>?_⟩;refine dz (tt:=tL) (eV xs) (λ σ=>∃ o1 o2,σ=[o1,o2,some (.ref pd)]) (λ _=>true) (λ i=>cu (iS rs pts i)) Fv (by lia) (λ H6 s6=>aJ.of (s6 _ _ EI)) ⟨_,_,rfl⟩ ?_ ?_
    · rintro j v σ H6 OV hj ⟨T',y,vE,rfl,rfl,uw⟩ s6 ⟨o1,o2,rfl⟩ Ky Kn hY _;obtain ⟨p,rfl,hp⟩:=fV R6 EI uw;have ie:j < rs.length:=by lia
      have sT:av H6 (upd H6 T' (.tup [.int (j:Nat),.ref p])):=ah vE;have S6:=s6.trans sT;have Md:=S6 _ _ hp;have OW:=S6 _ _ OU;refine ⟨T',_,rfl,b_.of af,rfl,_,_,rfl,_,_,rfl,rfl,?_⟩;refine ⟨_,rfl,_,rfl,p,_,_,_,rfl,rfl,b_.of Md,(show eA (fj (Lg.rq rs j)) 0=some (.int (Lg.rq rs j).1) from rfl),pd,_,rfl,by rw [← look (hP.fst j ie)];exact tI.k (k:=Sum.inl _) OW,?_⟩;refine ⟨_,rfl,_,rfl,p,_,_,_,rfl,rfl,b_.of Md,(show eA (fj (Lg.rq rs j)) 1=some (.int (Lg.rq rs j).2.1) from rfl),_,_,rfl,rfl,pd,_,rfl,by rw [← look (hP.lst j ie)];exact tI.k (k:=Sum.inl _) OW,?_⟩;refine ⟨_,rfl,p,_,_,_,rfl,rfl,b_.of Md,(show eA (fj (Lg.rq rs j)) 2=some (.int (Lg.rq rs j).2.2) from rfl),_,rfl,by show 4≤sizeLine;decide,λ p5 oK=>hY _ p5 _ (sT.trans (ah oK)) (bu sT oK) ?_ ⟨_,_,rfl⟩ rfl⟩;rw [af];rfl
    intro H6 s6 h6;rw [List.filter_eq_self.mpr λ _ _=>rfl,eM] at h6;have F6:=F5.trans (Fx.of s6);have Me:H6 x=some (.ins CN dx [("rooms",.int R),("points",.ref pp)]):=s6 _ _ (s5 _ _ mh);have Mf:H6 pp=some (.lst (pts.map V.int)):=s6 _ _ (s5 _ _ EH);obtain ⟨U_,R7,_⟩:=h6.list;have Mh:¬ pm=x:=nx Me R7 λ _ z=>nomatch z;refine ⟨_,rfl,x,CN,dx,_,rfl,Me,T.cl,T.nm,by show 2 < 1000;decide,?_⟩;have JV:Fx (λ c=>c=x) H6 (upd H6 x (.ins CN dx [("rooms",.int R),("points",.ref pp),("moves",.ref pm)])):=Fx.refl.upd (.inl rfl);have Mi:upd H6 x (.ins CN dx [("rooms",.int R),("points",.ref pp),("moves",.ref pm)]) x=some (.ins CN dx [("rooms",.int R),("points",.ref pp),("moves",.ref pm)]):=af;have F7:=F6.trans JV;rw [show cO (Str.ofString "moves") (V.ref pm) [(Str.ofString "rooms",V.int R),(Str.ofString "points",V.ref pp)]=[(Str.ofString "rooms",V.int R),(Str.ofString "points",V.ref pp),(Str.ofString "moves",V.ref pm)] from rfl];generalize upd H6 x (.ins CN dx [("rooms",.int R),("points",.ref pp),("moves",.ref pm)])=H7 at JV Mi F7 ⊢;have Im:=JV _ _ Mf JT;have Io:aM H7 pm ((List.range rs.length).map λ i=>cu (iS rs pts i)):=h6.fx JV Mh (Ik Me);have Mj:=F7 _ _ kU ax;refine ⟨by show 1≤sizeLine;decide,λ l0 DY=>?_⟩;have Ml:av H7 (upd H7 l0 (.lst [.bl false])):=ah DY;refine ⟨_,rfl,a,_,rfl,.inl (aJ.of (Ml _ _ Mj)),l0,_,_,rfl,rfl,af,by lia,by lia,by rw [sizeLine_eq];simp;lia,λ ph JW=>?_⟩;rw [eM,Int.toNat_natCast,BI];have s8:av H7 (upd (upd H7 l0 (.lst [.bl false])) ph (.lst (dU rs.length λ _=>false))):=Ml.trans (ah JW);have Mm:upd (upd H7 l0 (.lst [.bl false])) ph (.lst (dU rs.length λ _=>false)) ph=some (.lst (dU rs.length λ _=>false)):=af;have zE:=bu Ml JW;generalize upd (upd H7 l0 (.lst [.bl false])) ph (.lst (dU rs.length λ _=>false))=H8 at s8 Mm ⊢;have zG:H ph=none:=dc F7 zE λ c hc=>⟨_,by subst hc;exact Mi⟩;have DZ:=s8 _ _ Mi;refine ⟨_,rfl,x,CN,dx,_,rfl,DZ,T.cl,T.nh,by show 3 < 1000;decide,?_⟩;rw [show cO (Str.ofString "has") (V.ref ph) [(Str.ofString "rooms",V.int R),(Str.ofString "points",V.ref pp),(Str.ofString "moves",V.ref pm)]=[(Str.ofString "rooms",V.int R),(Str.ofString "points",V.ref pp),(Str.ofString "moves",V.ref pm),(Str.ofString "has",V.ref ph)] from rfl];have Ip:Fx (λ c=>c=x) H8 (upd H8 x (.ins CN dx [(Str.ofString "rooms",V.int R),(Str.ofString "points",V.ref pp),(Str.ofString "moves",V.ref pm),(Str.ofString "has",V.ref ph)])):=Fx.refl.upd (.inl rfl);have OX:upd H8 x (.ins CN dx [(Str.ofString "rooms",V.int R),(Str.ofString "points",V.ref pp),(Str.ofString "moves",V.ref pm),(Str.ofString "has",V.ref ph)]) x=some (.ins CN dx [(Str.ofString "rooms",V.int R),(Str.ofString "points",V.ref pp),(Str.ofString "moves",V.ref pm),(Str.ofString "has",V.ref ph)]):=af;have F9:=(F7.trans (Fx.of s8)).trans Ip;generalize upd H8 x (.ins CN dx [(Str.ofString "rooms",V.int R),(Str.ofString "points",V.ref pp),(Str.ofString "moves",V.ref pm),(Str.ofString "has",V.ref ph)])=H9 at Ip OX F9 ⊢;have Mn:¬ ph=x:=nx DZ Mm λ _ z=>nomatch z;obtain ⟨Va,R8,_⟩:=Io.list;have OY:ph≠pp:=λ z=>by rw [z,Im] at zE;cases zE
    have OZ:ph≠pm:=λ z=>by rw [z,R8] at zE;cases zE
    have Mo:=Ip _ _ (s8 _ _ Im) JT;have Mp:aM H9 pm ((List.range rs.length).map λ i=>cu (iS rs pts i)):=(Io.same s8).fx Ip Mh (Ik DZ);have R9:=Ip _ _ Mm Mn;refine ⟨_,rfl,b,rfl,⟨_,aJ.of (F9 _ _ hb bx)⟩,?_⟩;refine eI (aI (tk.map V.int)) (λ i σ G=>∃ o5,σ=[some (.ref x),some (.ref a),some (.ref b),some (.int R),some (.ref pd),o5]∧Fx (λ c=>c=x) H G∧G x=some (.ins CN dx [(Str.ofString "rooms",V.int R),(Str.ofString "points",V.ref pp),(Str.ofString "moves",V.ref pm),(Str.ofString "has",V.ref ph)])∧G pp=some (.lst (pts.map V.int))∧aM G pm ((List.range rs.length).map λ i=>cu (iS rs pts i)) ∧
      G ph=some (.lst (dU rs.length (cT (tk.take i))))) (λ i σ G _ z=>?_) ?_ ?_ ?_
    · obtain ⟨o5,_,zF,_⟩:=z;exact aJ.of (zF _ _ hb bx)
    · refine ⟨none,rfl,F9,OX,Mo,Mp,?_⟩;rw [R9];exact congrArg (λ l=>some (HO.lst l)) (rV λ c _=>by simp [cT])
    · rintro i v σ G' G hi ⟨rfl,LW⟩ ⟨o5,rfl,zF,zx,zp,zm,zh⟩;obtain ⟨dG,rfl⟩:=int_at LW;have pX:tk.getD i 0∈tk:=by rw [getD_at dG];exact List.getElem_mem dG
      obtain ⟨c0,R_⟩:=v_ _ pX;have ec:tk.getD i 0=(((tk.getD i 0).toNat:Nat):Int):=by lia
      have Sa:xD (dU rs.length (cT (tk.take i))).length (tk.getD i 0)=some (tk.getD i 0).toNat:=by
        have:=ir (n:=(dU rs.length (cT (tk.take i))).length) (j:=(tk.getD i 0).toNat) (by rw [hO];exact R_)
        rwa [← ec] at this
      refine (dY zx T.cl T.nh (show ([(Str.ofString "rooms",V.int R),(Str.ofString "points",V.ref pp),(Str.ofString "moves",V.ref pm),(Str.ofString "has",V.ref ph)]:List (Str×V)).lookup (Str.ofString "has")=some (.ref ph) from rfl) ⟨_,rfl,ph,_,_,_,rfl,rfl,zh,Sa,?_⟩);rw [rT];have Sb:Fx (λ c=>c=ph) G (upd G ph (.lst (dU rs.length (Ln.b9 (cT (tk.take i)) (tk.getD i 0).toNat true)))):=Fx.refl.upd (.inl rfl);refine ⟨_,rfl,zF.upd (.inr zG),by rw [aq λ z=>Mn z.symm];exact zx,by rw [aq OY.symm];exact zp,zm.fx Sb (λ z=>OZ z.symm) (λ c v hc e=>by subst hc;rw [zh] at e;cases e),?_⟩;rw [af];congr 2;refine rV λ c hc=>?_;have et:tk.take (i + 1)=tk.take i ++ [tk.getD i 0]:=by rw [List.take_succ_eq_append_getElem dG,getD_at dG]
      unfold cT;rw [et]
      by_cases e:c=(tk.getD i 0).toNat
      · have:(c:Int)=tk.getD i 0:=by lia
        rw [e,Ln.aT,← e,this];simp
      · have:(c:Int)≠tk.getD i 0:=by lia
        rw [Ln.bf e];refine decide_eq_decide.mpr ?_;rw [List.mem_append,List.mem_singleton];exact ⟨.inl,λ z=>z.elim id λ z=>absurd z this⟩
    rintro σ G ⟨o5,rfl,zF,zx,zp,zm,zh⟩;rw [List.length_map,List.take_length] at zh;refine ⟨by show 0≤sizeLine;decide,λ le hle=>?_⟩;have Aw:av G (upd G le (.lst [])):=ah hle;refine ⟨_,rfl,x,CN,dx,_,rfl,Aw _ _ zx,T.cl,T.ne,by show 4 < 1000;decide,?_⟩;rw [show cO (Str.ofString "heights") (V.ref le) [(Str.ofString "rooms",V.int R),(Str.ofString "points",V.ref pp),(Str.ofString "moves",V.ref pm),(Str.ofString "has",V.ref ph)]=[(Str.ofString "rooms",V.int R),(Str.ofString "points",V.ref pp),(Str.ofString "moves",V.ref pm),(Str.ofString "has",V.ref ph),(Str.ofString "heights",V.ref le)] from rfl];have Iq:Fx (λ c=>c=x) G (upd (upd G le (.lst [])) x (.ins CN dx [(Str.ofString "rooms",V.int R),(Str.ofString "points",V.ref pp),(Str.ofString "moves",V.ref pm),(Str.ofString "has",V.ref ph),(Str.ofString "heights",V.ref le)])):=(Fx.of Aw).upd (.inl rfl);have Ir:upd (upd G le (.lst [])) x (.ins CN dx [(Str.ofString "rooms",V.int R),(Str.ofString "points",V.ref pp),(Str.ofString "moves",V.ref pm),(Str.ofString "has",V.ref ph),(Str.ofString "heights",V.ref le)]) x=some (.ins CN dx [(Str.ofString "rooms",V.int R),(Str.ofString "points",V.ref pp),(Str.ofString "moves",V.ref pm),(Str.ofString "has",V.ref ph),(Str.ofString "heights",V.ref le)]):=af;generalize upd (upd G le (.lst [])) x (.ins CN dx [(Str.ofString "rooms",V.int R),(Str.ofString "points",V.ref pp),(Str.ofString "moves",V.ref pm),(Str.ofString "has",V.ref ph),(Str.ofString "heights",V.ref le)])=G1 at Iq Ir ⊢;refine ⟨by show 0≤sizeLine;decide,λ xO Mq=>?_⟩;have O0:av G1 (upd G1 xO (.lst [])):=ah Mq;refine ⟨_,rfl,x,CN,dx,_,rfl,O0 _ _ Ir,T.cl,T.nw,by show 5 < 1000;decide,?_⟩;rw [show cO (Str.ofString "ways") (V.ref xO) [(Str.ofString "rooms",V.int R),(Str.ofString "points",V.ref pp),(Str.ofString "moves",V.ref pm),(Str.ofString "has",V.ref ph),(Str.ofString "heights",V.ref le)]=cM R pp pm ph le xO from rfl];have Iu:Fx (λ c=>c=x) G1 (upd (upd G1 xO (.lst [])) x (.ins CN dx (cM R pp pm ph le xO))):=(Fx.of O0).upd (.inl rfl);have Iv:upd (upd G1 xO (.lst [])) x (.ins CN dx (cM R pp pm ph le xO)) x=some (.ins CN dx (cM R pp pm ph le xO)):=af;generalize upd (upd G1 xO (.lst [])) x (.ins CN dx (cM R pp pm ph le xO))=G2 at Iu Iv ⊢;have GG:=Iq.trans Iu;have FH:=zF.trans GG;have LL:bO CN G2 x dx pp pm ph le xO rs pts (cT tk) R:=by
      refine ⟨Iv,GG _ _ zp JT,?_,GG _ _ zh Mn,hP,tT,gk,OY,OZ⟩;rw [List.map_map];exact zm.fx GG Mh (Ik zx)
    have tb:∀ {q:Str} {pos:Pos} {P0:Addr},aA H P0 pos q→aA G2 P0 pos q:=λ {q pos P0} t=>by
      obtain ⟨tp,et⟩:=aA.there t;exact aA.fx t FH (λ z=>by subst z;rw [xi] at et;cases et) (R4 xi)
    obtain ⟨BK,O1,JB⟩:=Mc pts hP;refine ⟨_,rfl,x,dx,_,rfl,LL.ins,by rfl,?_⟩
    try unfold fc
    refine ⟨x,dx,pp,pm,ph,le,xO,rs,pts,cT tk,R,BK,rfl,LL,tb sR,tb n8,O1,JB,λ la lw h way H' F' L' Se Sf hE hW hC hF n1 JX Mr=>?_⟩;refine q pp pm ph la lw pts h BK way H' ((FH.mono λ c hc=>.inl hc).trans F') L' Se Sf hE hW O1 JB hC hF n1 (λ z=>?_) (λ z=>?_) zG
    · have:=LL.hs;rw [z,JX] at this;cases this
    · have:=LL.hs;rw [z,Mr] at this;cases this
theorem zH (n:Nat) (h:Nat→Int):cw n h=((List.range n).map h).map V.int:=by
  unfold cw;rw [List.map_map];rfl
theorem xk:az ["self"] ["self"] (ao iO):=dZ
noncomputable def oN (CN:Addr):Sp:=λ vs H Q _=>∃ (x dx pp pm ph pe pw:Addr) (rs:Ln.Rs) (pts:List Int) (has:Nat→Bool) (R:Int) (h:Nat→Int),vs=[.ref x]∧bO CN H x dx pp pm ph pe pw rs pts has R∧iG H pe pts.length h ∧
  ∀ m H',av H H'→(pts=[]→m=0)→(∀ v,v < pts.length→h v≤m)→(pts≠[]→∃ v,v < pts.length∧m=h v)→Q (.int m) H'
theorem xl (B:Bl mg) (T:ft K mg base CN fI dI c1 P1 c2 P2):kG P w K mg base 1 CN "growth" ["self"] (oN CN):=by
  refine T.gr.ok xk (λ vs H Q E h=>?_) λ f bM A outer s H vs Q E hr h=>?_
  · obtain ⟨x,dx,pp,pm,ph,pe,pw,rs,pts,has,R,h,rfl,_⟩:=h;rfl
  · obtain ⟨x,dx,pp,pm,ph,pe,pw,rs,pts,has,R,h,rfl,L,hE,q⟩:=h;refine ⟨_,aj (aH (j8 (wL rfl) rfl B.max PyProof.Rows.Boot.«max» (aa (aN (pv 0) rfl) ae) (kO ai tD))),?_⟩;refine (dY L.ins T.cl T.ne zl ⟨pe,(List.range pts.length).map h,.int 0,rfl,rfl,aJ.of (by rw [← zH];exact hE),λ e=>?_,λ m hm ha=>?_⟩)
    · have:pts=[]:=by
        have:=congrArg List.length e;simpa using this
      subst this;exact q 0 H (av.refl _) (λ _=>rfl) (λ v hv=>by simp at hv) λ z=>absurd rfl z
    · obtain ⟨v,hv,rfl⟩:=List.mem_map.mp hm;have Js:=List.mem_range.mp hv;exact q (h v) H (av.refl _) (λ z=>by subst z;simp at Js) (λ u hu=>ha _ (List.mem_map.mpr ⟨u,List.mem_range.mpr hu,rfl⟩)) λ _=>⟨v,Js,rfl⟩
theorem uz:az ["self"] ["self"] (ao iP):=dZ
noncomputable def i_ (CN:Addr):Sp:=λ vs H Q _=>∃ (x dx pp pm ph pe pw:Addr) (rs:Ln.Rs) (pts:List Int) (has:Nat→Bool) (R:Int),vs=[.ref x]∧bO CN H x dx pp pm ph pe pw rs pts has R ∧
  ∀ l H',av H H'→H l=none→H' l=some (.lst ((Ln.aU has rs.length).map V.int))→Q (.ref l) H'
theorem uA (B:Bl mg) (T:ft K mg base CN fI dI c1 P1 c2 P2):kG P w K mg base 1 CN "choice" ["self"] (i_ CN):=by
  refine T.ch.ok uz (λ vs H Q E h=>?_) λ f bM A outer s H vs Q E hr h=>?_
  · obtain ⟨x,dx,pp,pm,ph,pe,pw,rs,pts,has,R,rfl,_⟩:=h;rfl
  · obtain ⟨x,dx,pp,pm,ph,pe,pw,rs,pts,has,R,rfl,L,q⟩:=h;refine ⟨_,aj (aH (bC ["count","had"] [] rfl (kZ rfl B.enumerate (aa (aN (pv 0) rfl) ae)) λ cl s H fp C=>⟨cC (K:=K) 0 1 rfl (show (["count","had"]:List Str).Nodup by decide +kernel),fC (aW (pv 1)),pv 0⟩)),?_⟩;have tT:=L.rl;refine (dY L.ins T.cl T.nh xg ⟨ph,rfl,⟨_,aJ.of L.hs⟩,λ D hD=>?_⟩);refine fk (eV (dU rs.length has)) (λ σ=>∃ o1 o2,σ=[o1,o2]) (λ j=>has j) (λ j=>.int (j:Nat)) hD (by rw [hO];lia) (λ H3 s3=>aJ.of (s3 _ _ L.hs)) ⟨_,_,rfl⟩ ?_ ?_
    · rintro j v σ H3 mn hj ⟨T',y,vE,rfl,rfl,uw⟩ s3 ⟨o1,o2,rfl⟩ Ky Kn hY hN;rw [hO] at hj;unfold dU at uw;rw [List.getElem?_map,List.getElem?_range hj] at uw;cases uw;refine ⟨T',_,rfl,b_.of af,rfl,_,_,rfl,_,_,rfl,rfl,_,rfl,_,rfl,?_⟩;cases hb:has j with
      | false=>exact bV (hN _ _ (ah vE) ⟨_,_,rfl⟩ hb)
      | true=>exact bW ⟨_,rfl,hY _ _ _ (ah vE) ⟨_,_,rfl⟩ hb rfl⟩
    · intro H3 s3 qt;refine q D H3 s3 hD ?_;rw [qt,hO];unfold bp Ln.aU;rw [List.map_map];rfl
noncomputable def dX (t:Int×Int):List V:=[.int t.1,.int t.2]
theorem oO:az ["self","rises"] ["self"] (ao fe):=dZ
noncomputable def kf (CN:Addr):Sp:=λ vs H Q _=>∃ (x dx pp pm ph pe pw:Addr) (rs:Ln.Rs) (pts:List Int) (has:Nat→Bool) (R:Int) (h:Nat→Int),vs=[.ref x]∧bO CN H x dx pp pm ph pe pw rs pts has R∧iG H pe pts.length h ∧
  ∀ l H',av H H'→H l=none→aM H' l ((Ln.bX pts h).map dX)→Q (.ref l) H'
theorem zI (n:Nat) (h:Nat→Int):(cw n h).drop 1=cw (n - 1) λ v=>h (v + 1):=by
  unfold cw;apply List.ext_getElem
  · simp
  · intro i h1 h2;rw [List.getElem_drop,List.getElem_map,List.getElem_map,List.getElem_range,List.getElem_range,Nat.add_comm]
theorem xm (B:Bl mg) (T:ft K mg base CN fI dI c1 P1 c2 P2):kG P w K mg base 1 CN "day_tolls" ["self"] (kf CN):=by
  refine T.dt.ok oO (λ vs H Q E h=>?_) λ f bM A outer s H vs Q E hr h=>?_
  · obtain ⟨x,dx,pp,pm,ph,pe,pw,rs,pts,has,R,h,rfl,_⟩:=h;rfl
  · obtain ⟨x,dx,pp,pm,ph,pe,pw,rs,pts,has,R,h,rfl,L,hE,q⟩:=h;refine ⟨_,ag (eQ (i:=1) oO.nd rfl ["low","high"] [] rfl (pF rfl B.zip (aa (aN (pv 0) rfl) (aa (gx ji (aN (pv 0) rfl) (jh ai) jg) ae))) λ cl s H fp C =>
        ⟨cC (K:=K) 0 1 rfl (show (["low","high"]:List Str).Nodup by decide +kernel),br,aF di (pv 1) (pv 0)⟩)
      (aj (aH (bC ["point","rise"] [] rfl (pF rfl B.zip (aa (aN (pv 0) rfl) (aa (pv 1) ae))) λ cl s H fp C =>
        ⟨cC (K:=K) 0 1 rfl (show (["point","rise"]:List Str).Nodup by decide +kernel),fC (bh qz (pv 1) ai (aR _)),bL (aa (pv 0) (aa (pv 1) ae))⟩))),?_⟩
    have gk:=L.pl;have Ms:H pe=some (.lst (cw pts.length h)):=hE;refine (dY L.ins T.cl T.ne zl (dY L.ins T.cl T.ne zl ⟨_,rfl,pe,_,rfl,aJ.of Ms,λ lc BE=>?_⟩));have s1:av H (upd H lc (.lst (gy (cw pts.length h) (some 1) none))):=ah BE;have Mt:upd H lc (.lst (gy (cw pts.length h) (some 1) none)) lc=some (.lst (cw (pts.length - 1) λ v=>h (v + 1))):=by rw [af,rC,zI]
    generalize upd H lc (.lst (gy (cw pts.length h) (some 1) none))=H1 at s1 Mt ⊢;refine ⟨pe,lc,rfl,⟨_,aJ.of (s1 _ _ Ms)⟩,⟨_,aJ.of Mt⟩,λ D1 nC=>?_⟩;have yY:min (cw pts.length h).length (cw (pts.length - 1) λ v=>h (v + 1)).length=pts.length - 1:=by rw [cK,cK];lia
    refine aX (fN (cw pts.length h) (cw (pts.length - 1) λ v=>h (v + 1))) (λ σ=>∃ o1 o2,σ=[o1,o2]) (λ j=>.int (h (j + 1) - h j)) nC (by rw [yY];lia) (λ H3 s3=>⟨aJ.of (s3 _ _ (s1 _ _ Ms)),aJ.of (s3 _ _ Mt)⟩) ⟨_,_,rfl⟩ ?_ ?_
    · rintro j v σ H3 mn hj ⟨T',y,z,vE,rfl,rfl,uw,Iw⟩ s3 ⟨o1,o2,rfl⟩ Ky hK;obtain ⟨_,rfl⟩:=mK uw;obtain ⟨_,rfl⟩:=mK Iw;exact ⟨T',_,rfl,b_.of af,rfl,_,_,rfl,_,_,rfl,rfl,_,rfl,_,rfl,_,_,rfl,rfl,hK _ _ _ (ah vE) ⟨_,_,rfl⟩ rfl⟩
    intro H2 s2 h2;rw [yY] at h2;have S2:=s1.trans s2;have Ap:H2 D1=some (.lst (cw (pts.length - 1) λ j=>h (j + 1) - h j)):=h2;refine (dY (S2 _ _ L.ins) T.cl T.np xf ⟨_,rfl,pp,D1,rfl,⟨_,aJ.of (S2 _ _ L.pt)⟩,⟨_,aJ.of Ap⟩,λ D2 vz=>?_⟩);have CM:min (pts.map V.int).length (cw (pts.length - 1) λ j=>h (j + 1) - h j).length=pts.length - 1:=by rw [cK,List.length_map];lia
    refine dz (fN (pts.map V.int) (cw (pts.length - 1) λ j=>h (j + 1) - h j)) (λ σ=>∃ o1 o2,σ=[o1,o2]) (λ i=>decide (0 < h (i + 1) - h i)) (λ i=>dX (pts.getD i 0,h (i + 1) - h i)) vz (by rw [CM];lia) (λ H3 s3=>⟨aJ.of (s3 _ _ (S2 _ _ L.pt)),aJ.of (s3 _ _ Ap)⟩) ⟨_,_,rfl⟩ ?_ ?_
    · rintro j v σ H3 mn hj ⟨T',y,z,vE,rfl,rfl,uw,Iw⟩ s3 ⟨o1,o2,rfl⟩ Ky Kn hY hN;obtain ⟨_,rfl⟩:=int_at uw;obtain ⟨_,rfl⟩:=mK Iw;have sT:av H3 (upd H3 T' (.tup [.int (pts.getD j 0),.int (h (j + 1) - h j)])):=ah vE;refine ⟨T',_,rfl,b_.of af,rfl,_,_,rfl,_,_,rfl,rfl,?_⟩;refine ⟨_,rfl,_,_,rfl,rfl,_,rfl,?_⟩
      by_cases hb:0 < h (j + 1) - h j
      · exact fE (by simpa using hb) ⟨_,rfl,_,rfl,by show 2≤sizeLine;decide,λ p5 oK=>hY _ p5 _ (sT.trans (ah oK)) (bu sT oK) (by rw [af];rfl) ⟨_,_,rfl⟩ (decide_eq_true hb)⟩
      · exact df (by simpa using hb) (hN _ _ sT ⟨_,_,rfl⟩ (decide_eq_false hb))
    intro H3 s3 h3;rw [CM] at h3;refine q D2 H3 (S2.trans s3) (bu S2 vz) ?_;unfold Ln.bX;rw [List.map_map];exact h3
end
end Sp
namespace Ln
theorem Move.cnt {G:Net} {has:Nat→Bool} {R:Int} {u v:Nat} {g:Int} {c:Nat} (m:Move G has R u v g (some c)):c < G.n:=by
  cases m with
  | take _ h _=>exact h
  | give _ h _=>exact h
end Ln
namespace Sp
open PySem L2
seal PE PA PS jM PT PG uK PI PW tK
section
variable {P:Program} {w:World} {K:PySem.W.Frag} {mg:Str→Option Value} {base:Heap} {CN fI c1 P1 c2 P2:Addr} {dI:FuncData} {H0 H H':Hp} {x dx pp pm ph pe pw la lw lo lb:Addr} {rs:Ln.Rs} {pts:List Int} {has:Nat→Bool} {R:Int}
structure ja (CN P1 P2:Addr) (H:Hp) (x dx pp pm ph pe pw:Addr) (rs:Ln.Rs) (pts:List Int) (has:Nat→Bool) (R:Int) (h p:Nat→Int) (way:Nat→Nat×Option Nat):Prop where
  ln:bO CN H x dx pp pm ph pe pw rs pts has R
  t1:eN H P1
  t2:eO H P2
  ht:iG H pe pts.length h
  wy:fq H pw pts.length way
  fp:Ln.ck (Ln.ar rs pts) has R p
  p0:p 0=0
  cl:Ln.Cl (Ln.ar rs pts) has R p h way
  fh:Ln.ck (Ln.ar rs pts) has R h
  n1:pe≠pw
  n2:ph≠pe
  n3:ph≠pw
theorem qh:az ["self","place","way"] ["self"] (ao gc):=dZ
noncomputable def zJ (CN P1 P2:Addr):Sp:=λ vs H Q _=>∃ (x dx pp pm ph pe pw:Addr) (rs:Ln.Rs) (pts:List Int) (has:Nat→Bool) (R:Int) (h p:Nat→Int) (way:Nat→Nat×Option Nat),vs=[.ref x]∧ja CN P1 P2 H x dx pp pm ph pe pw rs pts has R h p way∧pts≠[]∧(∀ i,i + 1 < pts.length→(Ln.ar rs pts).used has i≤R) ∧
  ∀ la lw bq h' dN H',Fx (λ b=>b=x∨b=ph∨b=P1∨b=P2) H H'→ja CN P1 P2 H' x dx pp pm ph la lw rs pts bq (R + 1) h' h dN→(∀ i,i + 1 < pts.length→(Ln.ar rs pts).used bq i≤R + 1)→(Ln.ar rs pts).worth bq=(Ln.ar rs pts).worth has + h (pts.length - 1)→H la=none→H lw=none→Q .cc H'
theorem Mu {R':Int}:cO "rooms" (.int R') (cM R pp pm ph pe pw)=cM R' pp pm ph pe pw:=by rfl
theorem EJ (B:Bl mg) (T:ft K mg base CN fI dI c1 P1 c2 P2) (GC:kG P w K mg base 5 CN "climb" ["self"] (mO CN P1 P2)):kG P w K mg base 6 CN "add_room" ["self"] (zJ CN P1 P2):=by
  refine T.ad.ok qh (λ vs H Q E h=>?_) λ f bM A outer s H vs Q E hr h=>?_
  · obtain ⟨x,dx,pp,pm,ph,pe,pw,rs,pts,has,R,h,p,way,rfl,_⟩:=h;rfl
  · obtain ⟨x,dx,pp,pm,ph,pe,pw,rs,pts,has,R,h,p,way,rfl,U,p7,p9,q⟩:=h;refine ⟨_,ag (aK (i:=1) qh.nd rfl (Or.inl rfl) (aF di (aB aL (by rfl) B.len PySem.boot_len (aa (aN (pv 0) rfl) ae)) ai))
      (ag (jf PassesOwn.never (bh qz (pv 1) ai (aR _))
        (ag (aK (i:=2) qh.nd rfl (Or.inl rfl) (aO bU (aN (pv 0) rfl) (pv 1) (λ _ _=>rfl)))
        (ag (bK (bh AK (aO cx (pv 2) ai (λ _ _=>rfl)) oZ (aR _))
          (aj (lg (sW (aO bU (aN (pv 0) rfl) (aO cx (pv 2) ai (λ _ _=>rfl)) (λ _ _=>rfl))) (pf (aN (pv 0) rfl) (aO cx (pv 2) ai (λ _ _=>rfl)) set_list))) aQ)
        (aj (aK (i:=1) qh.nd rfl (Or.inl rfl) (aO cx (pv 2) ai (λ _ _=>rfl)))))))
      (ag (v9 (pv 0) ai Dw)
      (aj (cG (cJ GC (pv 0) T.cl hr))))),?_⟩
    have L:=U.ln;have gk:=L.pl;have hN:0 < pts.length:=List.length_pos_iff.mpr p7;have ok:=Ln.dS L.ok;refine (dY L.ins T.cl T.np xf ⟨pp,_,rfl,.inl (aJ.of L.pt),_,_,rfl,rfl,?_⟩);obtain ⟨ws,L8,Ju,Sg⟩:=id U.wy;have hE:H pe=some (.lst (cw pts.length h)):=U.ht;obtain ⟨xs,hx,eM⟩:=L.iT;obtain ⟨RN,Av⟩:=aA.there U.t1;obtain ⟨RO,RP⟩:=aA.there U.t2;have O3:¬ x=ph:=nE L.ins L.hs λ z=>nomatch z;have nt:∀ (b:Addr) (v:List V),b=ph→H b≠some (.tup v):=λ b v hb z=>by subst hb;rw [L.hs] at z;cases z
    have nf:∀ (b:Addr) (o:Obj) (u:HO),b=ph→H b≠some (.iD o u):=λ b o u hb z=>by subst hb;rw [L.hs] at z;cases z
    obtain ⟨m0,Lj⟩:=U.cl.reach (pts.length - 1) (show pts.length - 1 < pts.length by lia);refine ⟨λ m σ H2=>∃ (v:Nat) (bq:Nat→Bool) (o2:Option V),σ=[some (.ref x),some (.int (v:Nat)),o2]∧Ln.Wk (Ln.ar rs pts) has R h way v bq∧Ln.Reach way v m∧H2 ph=some (.lst (dU rs.length bq))∧Fx (λ b=>b=ph) H H2,⟨m0,pts.length - 1,has,none,?_,Ln.Wk.start (p:=p) hN U.fh,Lj,L.hs,Fx.refl⟩,?_⟩
    · show [some (V.ref x),some (V.int (((pts.map V.int).length:Int) - 1)),none]=_;rw [List.length_map,show ((pts.length:Int) - 1)=((pts.length - 1:Nat):Int) by lia]
    rintro m σ H2 ⟨v,bq,o2,rfl,hW,BL,Fq,F2⟩;refine ⟨_,rfl,_,_,rfl,rfl,_,rfl,?_⟩;have Iy:H2 x=some (.ins CN dx (cM R pp pm ph pe pw)):=F2 _ _ L.ins O3
    by_cases hv:0 < v
    · refine fE (by simpa using hv) ?_;have O4:v < pts.length:=hW.lt;obtain ⟨g,mv,tt⟩:=U.cl.Cz U.fh hv O4;obtain ⟨hu,_,_⟩:=mv.bounds ok;obtain ⟨t,et,ht⟩:=Sg v hv O4;have pO:H2 t=some (.tup [.int ((way v).1:Nat),ke (way v).2]):=F2 _ _ ht λ z=>nt t _ z ht;have Mw:H2 pw=some (.lst ws):=F2 _ _ L8 λ z=>U.n3 z.symm;cases BL with
      | zero=>lia
      | @step _ m' _ Iz =>
        refine ⟨λ σ H3=>∃ (v':Nat) (CO:Nat→Bool) (o2:Option V),σ=[some (.ref x),some (.int (v':Nat)),o2]∧Ln.Wk (Ln.ar rs pts) has R h way v' CO∧Ln.Reach way v' m'∧H3 ph=some (.lst (dU rs.length CO))∧Fx (λ b=>b=ph) H H3,λ σ' H3 z=>⟨m',Nat.lt_succ_self _,z⟩,?_⟩;have BB:=hW.step ok U.cl U.fh hv;refine (dY Iy T.cl T.nw Ey ⟨_,rfl,pw,ws,_,_,rfl,rfl,aJ.of Mw,eP et,?_⟩);refine ⟨_,rfl,t,_,_,_,rfl,rfl,b_.of pO,(show eA [V.int ((way v).1:Nat),ke (way v).2] 1=some (ke (way v).2) from rfl),rfl,_,rfl,?_⟩;cases hk:(way v).2 with
        | none =>
          rw [hk] at pO BB;refine bV ⟨_,rfl,t,_,_,_,rfl,rfl,b_.of pO,(show eA [V.int ((way v).1:Nat),ke none] 0=some (.int ((way v).1:Nat)) from rfl),(way v).1,bq,_,rfl,BB,Iz,Fq,F2⟩
        | some c =>
          rw [hk] at pO BB mv;have hc:c < rs.length:=mv.cnt;refine bW (dY Iy T.cl T.nh xg ⟨_,rfl,t,_,_,_,rfl,rfl,b_.of pO,(show eA [V.int ((way v).1:Nat),ke (some c)] 1=some (.int (c:Nat)) from rfl),ph,_,_,_,rfl,rfl,aJ.of Fq,jG hc,_,rfl,?_⟩);refine (dY Iy T.cl T.nh xg ⟨_,rfl,t,_,_,_,rfl,rfl,b_.of pO,(show eA [V.int ((way v).1:Nat),ke (some c)] 1=some (.int (c:Nat)) from rfl),ph,_,_,c,rfl,rfl,Fq,ir (by rw [hO];exact hc),?_⟩);rw [rT];have Si:t≠ph:=λ z=>nt t _ z ht;refine ⟨_,rfl,t,_,_,_,rfl,rfl,b_.of (by rw [aq Si];exact pO),(show eA [V.int ((way v).1:Nat),ke (some c)] 0=some (.int ((way v).1:Nat)) from rfl),(way v).1,_,_,rfl,BB,Iz,af,F2.upd (.inl rfl)⟩
    · refine df (by simpa using hv) ?_;have Sj:v=0:=by lia
      subst Sj;obtain ⟨w1,w2,w3⟩:=hW.done U.fh p9;have h0:h 0=0:=U.cl.zero U.p0 hN;have F3:Fx (λ b=>b=x∨b=ph) H (upd H2 x (.ins CN dx (cM (R + 1) pp pm ph pe pw))):=(F2.mono λ b hb=>.inr hb).upd (.inl (.inl rfl));have L3:bO CN (upd H2 x (.ins CN dx (cM (R + 1) pp pm ph pe pw))) x dx pp pm ph pe pw rs pts bq (R + 1):=by
        refine ⟨af,F3 _ _ L.pt ?_,L.mv.fx F3 ?_ ?_,?_,L.ok,L.rl,L.pl,L.a1,L.a2⟩
        · rintro (z | z)
          · subst z;have:=L.pt;rw [L.ins] at this;cases this
          · exact L.a1 z.symm
        · rintro (z | z)
          · subst z;rw [L.ins] at hx;cases hx
          · exact L.a2 z.symm
        · rintro b v (z | z) e
          · subst z;rw [L.ins] at e;cases e
          · exact nt b v z e
        · rw [aq λ z=>O3 z.symm];exact Fq
      have O5:∀ {q:Str} {pos:Pos} {P0:Addr},aA H P0 pos q→aA (upd H2 x (.ins CN dx (cM (R + 1) pp pm ph pe pw))) P0 pos q:=λ {q pos P0} t=>by
        obtain ⟨tp,et⟩:=aA.there t;refine aA.fx t F3 ?_ ?_
        · rintro (z | z)
          · subst z;rw [L.ins] at et;cases et
          · subst z;rw [L.hs] at et;cases et
        · rintro b o u (z | z) e
          · subst z;rw [L.ins] at e;cases e
          · exact nf b o u z e
      have uB:=O5 U.t1;have uC:=O5 U.t2;refine ⟨_,rfl,x,CN,dx,_,_,rfl,Iy,T.cl,T.nr,Ew,_,_,rfl,rfl,dx,_,Iy,by show 6 < 1000;decide,?_⟩;rw [Mu];generalize upd H2 x (.ins CN dx (cM (R + 1) pp pm ph pe pw))=H3 at F3 L3 uB uC ⊢;refine ⟨_,rfl,x,dx,_,rfl,L3.ins,by rfl,?_⟩
      try unfold fc
      refine ⟨x,dx,pp,pm,ph,pe,pw,rs,pts,bq,R + 1,h,rfl,L3,uB,uC,w1,h0,λ la lw h' dN H4 F4 L4 Ib Ic JS Eu H_ Sk Mr JX IA=>?_⟩;have O6:∀ b,(b=x∨b=ph)→∃ u,H3 b=some u:=λ b hb=>by
        rcases hb with rfl | rfl
        · exact ⟨_,L3.ins⟩
        · exact ⟨_,L3.hs⟩
      refine q la lw bq h' dN H4 ((F3.mono ?_).trans (F4.mono ?_)) ⟨L4,Ib,Ic,JS,Eu,w1,h0,H_,Sk,Mr,λ z=>?_,λ z=>?_⟩ w2 (by rw [w3,h0];show (Ln.ar rs pts).worth has + h (pts.length - 1) - 0=_;lia) (dc F3 JX O6) (dc F3 IA O6)
      · rintro b (z | z)
        · exact .inl z
        · exact .inr (.inl z)
      · rintro b (z | z | z)
        · exact .inl z
        · exact .inr (.inr (.inl z))
        · exact .inr (.inr (.inr z))
      · have:=L3.hs;rw [z,JX] at this;cases this
      · have:=L3.hs;rw [z,IA] at this;cases this
theorem oP:az ["requests","rooms","line"] ["requests","rooms"] (ao lK):=dZ
noncomputable def kg (CN P1 P2:Addr):Sp:=λ vs H Q _=>∃ (a:Addr) (rs:Ln.Rs) (R:Int),vs=[.ref a,.int R]∧a9 H a rs∧GoodR rs∧rs.length≤2000∧0≤R∧eN H P1∧eO H P2 ∧
  ∀ x dx pp pm ph pe pw pts has R' h p way H',Fx (λ b=>b=P1∨b=P2) H H'→H x=none→ja CN P1 P2 H' x dx pp pm ph pe pw rs pts has R' h p way→(∀ i,i + 1 < pts.length→(Ln.ar rs pts).used has i≤R')→R'≤R→(R'=R∨∀ v,v < pts.length→h v=0)→Q (.ref x) H'
theorem xn (B:Bl mg) (T:ft K mg base CN fI dI c1 P1 c2 P2) (GI:fA P w K mg base bN 6 fI dI ["self","requests","taken","rooms"] (jI CN P1 P2)) (GG:kG P w K mg base 1 CN "growth" ["self"] (oN CN)) (GA:kG P w K mg base 6 CN "add_room" ["self"] (zJ CN P1 P2))
    (D:FnAt K mg "filled" lK ["requests","rooms"]):Def P w K mg base bN 8 "filled" ["requests","rooms"] (kg CN P1 P2):=by
  refine D.ok oP (λ vs H Q E h=>?_) λ f bM A outer s H vs Q E hr h=>?_
  · obtain ⟨a,rs,R,rfl,_⟩:=h;rfl
  · obtain ⟨a,rs,R,rfl,hR,hg,tT,zK,sR,n8,q⟩:=h;have de:bc 1 _:=hr.mono (by decide);have Mx:bc 6 _:=hr.mono (by decide);refine ⟨_,ag (aK (i:=2) oP.nd rfl (Or.inl rfl) (kN T.Fy GI hr rfl T.mC T.bI .nil aD (aa (pv 0) (aa (cQ ae) (aa ai ae)))))
      (ag (jf PassesOwn.never (PW.pt (pw_and (bh iJ (aN (pv 2) rfl) (pv 1) (aR _)) (pw_and1 (bh qz (cJ GG (pv 2) T.cl de) ai (aR _))))) (aj (cG (cJ GA (pv 2) T.cl Mx))))
      (aj (aH (pv 2)))),?_⟩
    refine ⟨_,rfl,by show 0≤sizeLine;decide,λ lt dg x dx hx O7 p7=>?_⟩;have s1:av H (upd H lt (.lst [])):=ah dg;have s2:av H (upd (upd (upd H lt (.lst [])) dx (.own x)) x (.ins CN dx [])):=s1.trans (fo hx O7);have xM:=bu s1 hx;have v_:upd (upd (upd H lt (.lst [])) dx (.own x)) x (.ins CN dx []) lt=some (.lst (([]:List Int).map V.int)):=fo hx O7 _ _ af;have nz:upd (upd (upd H lt (.lst [])) dx (.own x)) x (.ins CN dx []) x=some (.ins CN dx []):=af;show jI CN P1 P2 _ (upd (upd (upd H lt (.lst [])) dx (.own x)) x (.ins CN dx [])) _ _;generalize upd (upd (upd H lt (.lst [])) dx (.own x)) x (.ins CN dx [])=H2 at s2 v_ nz ⊢;have e0:cT []=λ _=>false:=by
      funext c;simp [cT]
    refine ⟨x,dx,a,lt,rs,[],0,rfl,nz,aC s2 hR,hg,tT,v_,λ c hc=>by simp at hc,aA.same sR s2,aA.same n8 s2,λ pts hP=>⟨_,by rw [e0];exact Ln.oA (Ln.dS hP),by simp⟩,λ pp pm ph la lw pts h p way H3 F3 L3 uB uC CI CH hp p0 hC hF n1 n2 n3 JW=>⟨rfl,?_⟩⟩;have JU:Fx (λ b=>b=P1∨b=P2) H H3:=λ b u e n=>F3 b u (s2 b u e) λ z=>by
      rcases z with z | z
      · subst z;rw [xM] at e;cases e
      · exact n z
    have Sl:∀ i,i + 1 < pts.length→(Ln.ar rs pts).used (cT []) i≤0:=λ i _=>by
      unfold Ln.Net.used;have ez:Ln.sm (λ c=>Ln.one (cT [] c && (Ln.ar rs pts).at c i)) (Ln.ar rs pts).n=Ln.sm (λ _=>0) (Ln.ar rs pts).n:=Ln.bG λ c _=>by rw [e0];rfl
      rw [ez,Ln.eW];exact Int.le_refl _
    refine ⟨λ m σ H4=>∃ (pe pw:Addr) (has:Nat→Bool) (R':Int) (h p:Nat→Int) (way:Nat→Nat×Option Nat),σ=[some (.ref a),some (.int R),some (.ref x)]∧Fx (λ b=>b=P1∨b=P2) H H4∧H ph=none∧ja CN P1 P2 H4 x dx pp pm ph pe pw rs pts has R' h p way∧(∀ i,i + 1 < pts.length→(Ln.ar rs pts).used has i≤R')∧R'≤R∧m=(R - R').toNat,
      ⟨_,la,lw,cT [],0,h,p,way,rfl,JU,?_,⟨L3,uB,uC,CI,CH,hp,p0,hC,hF,n1,n2,n3⟩,Sl,zK,rfl⟩,?_⟩
    · exact bu s2 JW
    rintro m σ H4 ⟨pe,pw,has,R',h,p,way,rfl,F4,zG,U,p9,hle,rfl⟩;have L:=U.ln;refine (dY L.ins T.cl T.nr Ew ⟨_,rfl,_,_,rfl,rfl,_,rfl,?_⟩)
    by_cases dg:R' < R
    · refine fE (by simpa using dg) ?_;refine ⟨_,rfl,x,dx,_,rfl,L.ins,by rfl,?_⟩
      try unfold fc
      refine ⟨x,dx,pp,pm,ph,pe,pw,rs,pts,has,R',h,rfl,L,U.ht,λ mx H5 s5 z1 z2 z3=>⟨_,_,rfl,rfl,_,rfl,?_⟩⟩;have U5:ja CN P1 P2 H5 x dx pp pm ph pe pw rs pts has R' h p way:=⟨L.same s5,aA.same U.t1 s5,aA.same U.t2 s5,s5 _ _ U.ht,U.wy.fx (S:=λ _=>False) (Fx.of s5) (λ z=>z) λ _ _ z=>z.elim,U.fp,U.p0,U.cl,U.fh,U.n1,U.n2,U.n3⟩
      by_cases Fe:0 < mx
      · refine fE (by simpa using Fe) ?_;have p7:pts≠[]:=λ z=>by have:=z1 z;lia
        refine ⟨λ σ H6=>∃ (pe pw:Addr) (has:Nat→Bool) (h p:Nat→Int) (way:Nat→Nat×Option Nat),σ=[some (.ref a),some (.int R),some (.ref x)]∧Fx (λ b=>b=P1∨b=P2) H H6∧ja CN P1 P2 H6 x dx pp pm ph pe pw rs pts has (R' + 1) h p way∧(∀ i,i + 1 < pts.length→(Ln.ar rs pts).used has i≤R' + 1),λ σ' H6 z=>?_,?_⟩
        · obtain ⟨pe,pw,has,h,p,way,e1,e2,e3,e4⟩:=z;exact ⟨(R - (R' + 1)).toNat,by lia,pe,pw,has,R' + 1,h,p,way,e1,e2,zG,e3,e4,by lia,rfl⟩
        · refine ⟨_,rfl,x,dx,_,rfl,U5.ln.ins,by rfl,?_⟩
          try unfold fc
          refine ⟨x,dx,pp,pm,ph,pe,pw,rs,pts,has,R',h,p,way,rfl,U5,p7,p9,λ la lw bq h' dN H6 F6 U6 My _ _ _=>?_⟩;refine ⟨la,lw,bq,h',h,dN,rfl,λ b u e n=>F6 b u (s5 b u (F4 b u e n)) λ z=>?_,U6,My⟩;rcases z with z | z | z
          · subst z;rw [xM] at e;cases e
          · subst z;rw [zG] at e;cases e
          · exact n z
      · refine df (by simpa using Fe) ⟨_,rfl,q x dx pp pm ph pe pw pts has R' h p way H5 (F4.trans (Fx.of s5)) xM U5 p9 hle (.inr λ v hv=>?_)⟩;have:=z2 v hv;have:=U.cl.ge v hv
        lia
    · refine df (by simpa using dg) (bV ⟨_,rfl,q x dx pp pm ph pe pw pts has R' h p way H4 F4 xM U p9 hle (.inl (by lia))⟩)
end
noncomputable def hX (rs:Ln.Rs) (ns:List Int) (R:Int):Bool:=ns.all λ c=>decide (((Ln.ba rs ns (Lg.rq rs c.toNat).1).length:Int)≤R)
noncomputable def posB (ts:List (Int×Int)):Bool:=ts.all λ t=>decide (0≤t.2)
noncomputable def fZ (ts:List (Int×Int)):Bool:=posB ts && e8 (ts.map (·.1))
noncomputable def cN (ns:List Int) (ts:List (Int×Int)) (rs:Ln.Rs) (R:Int):Bool:=cW ns rs.length && (hX rs ns R && (fZ ts && decide (Ln.aG rs ns=R * Ln.gp ts + Ln.e_ rs ts)))
theorem dw {ns:List Int} {n:Nat} (h:cW ns n=true) {c:Int} (hc:c∈ns):0≤c∧c.toNat < n:=by
  unfold cW at h;rw [Bool.and_eq_true,List.all_eq_true] at h;have:=h.1 c hc;rw [Bool.and_eq_true,decide_eq_true_eq,decide_eq_true_eq] at this;omega
theorem f6 (ns:List Int) (f:Int→Int):(List.range (ns.map V.int).length).map (λ j=>V.int (f (ns.getD j 0)))=(ns.map f).map V.int:=by
  rw [List.length_map,List.map_map]
  conv=>rhs;rw [← range_getD ns 0]
  rw [List.map_map];rfl
section
variable {P:Program} {w:World} {K:PySem.W.Frag} {mg:Str→Option Value} {base:Heap}
theorem zL:az ["taken","requests"] ["taken","requests"] (ao iX):=dZ
noncomputable def jJ:Sp:=λ vs H Q _=>∃ (a b:Addr) (ns:List Int) (rs:Ln.Rs),vs=[.ref a,.ref b]∧H a=some (.lst (ns.map V.int))∧a9 H b rs∧(∀ c∈ns,0≤c∧c.toNat < rs.length)∧ns.length≤60000∧∀ H',av H H'→Q (.int (Ln.aG rs ns)) H'
theorem zM (B:Bl mg) (D:FnAt K mg "worth_of" iX ["taken","requests"]):Def P w K mg base bN 1 "worth_of" ["taken","requests"] jJ:=by
  refine D.ok zL (λ vs H Q E h=>?_) λ f bM A outer s H vs Q E hr h=>?_
  · obtain ⟨a,b,ns,rs,rfl,_⟩:=h;rfl
  · obtain ⟨a,b,ns,rs,rfl,ha,hR,iR,hz,q⟩:=h;refine ⟨_,aj (aH (aB (cn rfl) (by rfl) B.sum PyProof.Rows.Boot.«sum» (aa (bC ["count"] [1] rfl (aY (pv 0)) λ cl s H fp C=>⟨aV (i:=0) (show (["count","requests"]:List Str).Nodup by decide +kernel) rfl (Or.inl rfl),br,
      aO (cg (K:=K)) (aO (cB (K:=K)) (pv 1) (pv 0) (λ _ _=>rfl)) ai (λ _ _=>rfl)⟩) ae))),?_⟩
    refine ⟨_,rfl,a,rfl,⟨_,aJ.of ha⟩,λ D hD=>?_⟩;refine aX (aI (ns.map V.int)) (λ σ=>∃ o,σ=[o,some (.ref b)]) (λ j=>.int (Lg.rq rs (ns.getD j 0).toNat).2.2) hD (by rw [List.length_map];lia) (λ H3 s3=>aJ.of (s3 _ _ ha)) ⟨_,rfl⟩ ?_ ?_
    · rintro j v σ H3 mn hj ⟨rfl,gi⟩ s3 ⟨o,rfl⟩ Ky hK;obtain ⟨h1,rfl⟩:=int_at gi;obtain ⟨c0,c1⟩:=iR _ (show ns.getD j 0∈ns by rw [getD_at h1];exact List.getElem_mem h1);obtain ⟨xs,p,e1,e2,e3⟩:=fW (aC s3 hR) c0 c1;exact ⟨_,rfl,_,rfl,b,_,_,_,rfl,rfl,aJ.of e1,e2,p,_,_,_,rfl,rfl,b_.of e3,(show eA (fj (Lg.rq rs (ns.getD j 0).toNat)) 2=some (.int (Lg.rq rs (ns.getD j 0).toNat).2.2) from rfl),hK _ _ _ (av.refl _) ⟨_,rfl⟩ rfl⟩
    · intro H3 s3 qt;exact ⟨D,_,rfl,aJ.of (by rw [qt];exact congrArg (λ l=>some (HO.lst l)) (f6 ns λ c=>(Lg.rq rs c.toNat).2.2)),q H3 s3⟩
theorem xo:az ["_law_requests_here","_law_some"] ["_law_requests_here","_law_some"] (ao fL):=dZ
noncomputable def iz:Sp:=λ vs H Q _=>∃ (a b:Addr) (ns:List Int) (rs:Ln.Rs),vs=[.ref b,.ref a]∧H a=some (.lst (ns.map V.int))∧a9 H b rs∧(∀ c∈ns,0≤c∧c.toNat < rs.length)∧ns.length≤60000∧∀ H',av H H'→Q (.int (Ln.aG rs ns)) H'
theorem xp (B:Bl mg) (D:FnAt K mg "_law_worth" fL ["_law_requests_here","_law_some"]):Def P w K mg base bN 1 "_law_worth" ["_law_requests_here","_law_some"] iz:=by
  refine D.ok xo (λ vs H Q E h=>?_) λ f bM A outer s H vs Q E hr h=>?_
  · obtain ⟨a,b,ns,rs,rfl,_⟩:=h;rfl
  · obtain ⟨a,b,ns,rs,rfl,ha,hR,iR,hz,q⟩:=h;refine ⟨_,aj (aH (aB (cn rfl) (by rfl) B.sum PyProof.Rows.Boot.«sum» (aa (bC ["_law_at"] [0] rfl (aY (pv 1)) λ cl s H fp C=>⟨aV (i:=0) (show (["_law_at","_law_requests_here"]:List Str).Nodup by decide +kernel) rfl (Or.inl rfl),br,
      aO (cg (K:=K)) (aO (cB (K:=K)) (pv 1) (pv 0) (λ _ _=>rfl)) ai (λ _ _=>rfl)⟩) ae))),?_⟩
    refine ⟨_,rfl,a,rfl,⟨_,aJ.of ha⟩,λ D hD=>?_⟩;refine aX (aI (ns.map V.int)) (λ σ=>∃ o,σ=[o,some (.ref b)]) (λ j=>.int (Lg.rq rs (ns.getD j 0).toNat).2.2) hD (by rw [List.length_map];lia) (λ H3 s3=>aJ.of (s3 _ _ ha)) ⟨_,rfl⟩ ?_ ?_
    · rintro j v σ H3 mn hj ⟨rfl,gi⟩ s3 ⟨o,rfl⟩ Ky hK;obtain ⟨h1,rfl⟩:=int_at gi;obtain ⟨c0,c1⟩:=iR _ (show ns.getD j 0∈ns by rw [getD_at h1];exact List.getElem_mem h1);obtain ⟨xs,p,e1,e2,e3⟩:=fW (aC s3 hR) c0 c1;exact ⟨_,rfl,_,rfl,b,_,_,_,rfl,rfl,aJ.of e1,e2,p,_,_,_,rfl,rfl,b_.of e3,(show eA (fj (Lg.rq rs (ns.getD j 0).toNat)) 2=some (.int (Lg.rq rs (ns.getD j 0).toNat).2.2) from rfl),hK _ _ _ (av.refl _) ⟨_,rfl⟩ rfl⟩
    · intro H3 s3 qt;exact ⟨D,_,rfl,aJ.of (by rw [qt];exact congrArg (λ l=>some (HO.lst l)) (f6 ns λ c=>(Lg.rq rs c.toNat).2.2)),q H3 s3⟩
theorem zN (xs:List V) {R:Int} (h:0≤R):gy xs (some R) none=xs.drop R.toNat:=by
  unfold gy;have e:HT.mR xs.length 0 (some R)=min R.toNat xs.length:=by
    have:=HT.uT xs.length 0 R.toNat
    rwa [show ((R.toNat:Nat):Int)=R by lia] at this
  rw [e,HT.qE]
  by_cases z:R.toNat≤xs.length
  · rw [Nat.min_eq_left z,List.take_of_length_le (by rw [List.length_drop];lia)]
  · rw [Nat.min_eq_right (by lia),List.drop_eq_nil_of_le (by lia),List.drop_eq_nil_of_le (by lia),List.take_nil]
theorem BM {rs:Ln.Rs} {ns F L:List Int} {R:Int} (hR:0≤R) (hg:GoodR rs) (iR:∀ c∈ns,0≤c∧c.toNat < rs.length) (hF:F.Perm (ns.map λ c=>(Lg.rq rs c.toNat).1)) (oF:F.Pairwise (·≤·)) (hL:L.Perm (ns.map λ c=>(Lg.rq rs c.toNat).2.1)) (oL:L.Pairwise (·≤·)) :
    ((List.range (min L.length (F.drop R.toNat).length)).map λ j=>decide (L.getD j 0 < (F.drop R.toNat).getD j 0)).all id=hX rs ns R:=by
  have key:=Ln.za (xs:=ns.map λ c=>((Lg.rq rs c.toNat).1,(Lg.rq rs c.toNat).2.1)) (F:=F) (L:=L) (R:=R.toNat) (λ x hx=>by
    obtain ⟨c,hc,rfl⟩:=List.mem_map.mp hx;exact (hg _ (mI (iR c hc).2)).1) (by rw [List.map_map];exact hF) oF (by rw [List.map_map];exact hL) oL
  rw [Bool.eq_iff_iff,List.all_eq_true];unfold hX;rw [List.all_eq_true];constructor
  · intro h c hc;have h1:=key.mp (λ k h1 h2=>by
      have h3:k < (F.drop R.toNat).length:=by rw [List.length_drop];omega
      have:=h _ (List.mem_map.mpr ⟨k,List.mem_range.mpr (by omega),rfl⟩);rw [id_eq,decide_eq_true_eq,getD_at h1,getD_at h3,List.getElem_drop] at this;rw [show k + R.toNat=R.toNat + k by omega] at *;simpa [Nat.add_comm] using this) _ (List.mem_map.mpr ⟨c,hc,rfl⟩)
    rw [List.countP_map,List.countP_eq_length_filter] at h1;have h2:(Ln.ba rs ns (Lg.rq rs c.toNat).1).length≤R.toNat:=h1;rw [decide_eq_true_eq];omega
  · intro h b hb;obtain ⟨k,hk,rfl⟩:=List.mem_map.mp hb;rw [List.mem_range] at hk;have h1:k < L.length:=by omega
    have h2:k < (F.drop R.toNat).length:=by omega
    have h3:k + R.toNat < F.length:=by rw [List.length_drop] at h2;omega
    have:=key.mpr (λ x hx=>by
      obtain ⟨c,hc,rfl⟩:=List.mem_map.mp hx;rw [List.countP_map,List.countP_eq_length_filter];have h4:=h c hc;rw [decide_eq_true_eq] at h4;show (Ln.ba rs ns (Lg.rq rs c.toNat).1).length≤R.toNat;omega) k h1 h3
    rw [id_eq,decide_eq_true_eq,getD_at h1,getD_at h2,List.getElem_drop];simpa [Nat.add_comm] using this
theorem qi:az ["taken","requests","rooms","firsts","lasts"] ["taken","requests","rooms"] (ao tN):=dZ
noncomputable def vF:Sp:=λ vs H Q _=>∃ (a b:Addr) (R:Int) (ns:List Int) (rs:Ln.Rs),vs=[.ref a,.ref b,.int R]∧H a=some (.lst (ns.map V.int))∧a9 H b rs∧GoodR rs∧(∀ c∈ns,0≤c∧c.toNat < rs.length)∧ns.length≤60000∧0≤R∧∀ H',av H H'→Q (.bl (hX rs ns R)) H'
theorem BN (B:Bl mg) (D:FnAt K mg "fits" tN ["taken","requests","rooms"]):Def P w K mg base bN 1 "fits" ["taken","requests","rooms"] vF:=by
  refine D.ok qi (λ vs H Q E h=>?_) λ f bM A outer s H vs Q E hr h=>?_
  · obtain ⟨a,b,R,ns,rs,rfl,_⟩:=h;rfl
  · obtain ⟨a,b,R,ns,rs,rfl,ha,hR,hg,iR,hz,zK,q⟩:=h;refine ⟨_,ag (aK (i:=3) qi.nd rfl (Or.inl rfl) (aB mj (by rfl) B.sorted PyProof.Rows.Boot.«sorted» (aa (bC ["count"] [1] rfl (aY (pv 0)) λ cl s H fp C=>⟨aV (i:=0) (show (["count","requests"]:List Str).Nodup by decide +kernel) rfl (Or.inl rfl),br,
        aO (cg (K:=K)) (aO (cB (K:=K)) (pv 1) (pv 0) (λ _ _=>rfl)) ai (λ _ _=>rfl)⟩) ae)))
      (ag (aK (i:=4) qi.nd rfl (Or.inl rfl) (aB mj (by rfl) B.sorted PyProof.Rows.Boot.«sorted» (aa (bC ["count"] [1] rfl (aY (pv 0)) λ cl s H fp C=>⟨aV (i:=0) (show (["count","requests"]:List Str).Nodup by decide +kernel) rfl (Or.inl rfl),br,
        aO (cg (K:=K)) (aO (cB (K:=K)) (pv 1) (pv 0) (λ _ _=>rfl)) ai (λ _ _=>rfl)⟩) ae)))
      (aj (aH (aB (bT rfl) (by rfl) B.all PyProof.Rows.Boot.«all» (aa (bC ["last","first"] [] rfl (pF rfl B.zip (aa (pv 4) (aa (gx ji (pv 3) (jh (pv 2)) jg) ae))) λ cl s H fp C =>
        ⟨cC (K:=K) 0 1 rfl (show (["last","first"]:List Str).Nodup by decide +kernel),br,b8 iJ (pv 0) (pv 1) (aR _)⟩) ae))))),?_⟩
    refine ⟨_,rfl,a,rfl,⟨_,aJ.of ha⟩,λ D1 nC=>?_⟩;refine aX (aI (ns.map V.int)) (λ σ=>∃ o,σ=[o,some (.ref b)]) (λ j=>.int (Lg.rq rs (ns.getD j 0).toNat).1) nC (by rw [List.length_map];lia) (λ H3 s3=>aJ.of (s3 _ _ ha)) ⟨_,rfl⟩ ?_ ?_
    · rintro j v σ H3 mn hj ⟨rfl,gi⟩ s3 ⟨o,rfl⟩ Ky hK;obtain ⟨h1,rfl⟩:=int_at gi;obtain ⟨c0,c1⟩:=iR _ (show ns.getD j 0∈ns by rw [getD_at h1];exact List.getElem_mem h1);obtain ⟨xs,p,e1,e2,e3⟩:=fW (aC s3 hR) c0 c1;exact ⟨_,rfl,_,rfl,b,_,_,_,rfl,rfl,aJ.of e1,e2,p,_,_,_,rfl,rfl,b_.of e3,(show eA (fj (Lg.rq rs (ns.getD j 0).toNat)) 0=some (.int (Lg.rq rs (ns.getD j 0).toNat).1) from rfl),hK _ _ _ (av.refl _) ⟨_,rfl⟩ rfl⟩
    intro H1 s1 h1;rw [f6 ns λ c=>(Lg.rq rs c.toNat).1] at h1;refine ⟨D1,_,rfl,aJ.of h1,by rw [List.length_map];lia,λ F hF oF lF Sm=>?_⟩;have s2:av H (upd H1 lF (.lst (F.map V.int))):=s1.trans (ah Sm);have O8:upd H1 lF (.lst (F.map V.int)) lF=some (.lst (F.map V.int)):=af;generalize upd H1 lF (.lst (F.map V.int))=H2 at s2 O8 ⊢;refine ⟨_,rfl,a,rfl,⟨_,aJ.of (s2 _ _ ha)⟩,λ D2 vz=>?_⟩;refine aX (aI (ns.map V.int)) (λ σ=>∃ o,σ=[o,some (.ref b)]) (λ j=>.int (Lg.rq rs (ns.getD j 0).toNat).2.1) vz (by rw [List.length_map];lia) (λ H3 s3=>aJ.of (s3 _ _ (s2 _ _ ha))) ⟨_,rfl⟩ ?_ ?_
    · rintro j v σ H3 mn hj ⟨rfl,gi⟩ s3 ⟨o,rfl⟩ Ky hK;obtain ⟨h1,rfl⟩:=int_at gi;obtain ⟨c0,c1⟩:=iR _ (show ns.getD j 0∈ns by rw [getD_at h1];exact List.getElem_mem h1);obtain ⟨xs,p,e1,e2,e3⟩:=fW (aC (s2.trans s3) hR) c0 c1;exact ⟨_,rfl,_,rfl,b,_,_,_,rfl,rfl,aJ.of e1,e2,p,_,_,_,rfl,rfl,b_.of e3,(show eA (fj (Lg.rq rs (ns.getD j 0).toNat)) 1=some (.int (Lg.rq rs (ns.getD j 0).toNat).2.1) from rfl),hK _ _ _ (av.refl _) ⟨_,rfl⟩ rfl⟩
    intro H3 s3 h3;rw [f6 ns λ c=>(Lg.rq rs c.toNat).2.1] at h3;refine ⟨D2,_,rfl,aJ.of h3,by rw [List.length_map];lia,λ L hL oL lL Sn=>?_⟩;have s4:av H2 (upd H3 lL (.lst (L.map V.int))):=s3.trans (ah Sn);have Mz:upd H3 lL (.lst (L.map V.int)) lL=some (.lst (L.map V.int)):=af;generalize upd H3 lL (.lst (L.map V.int))=H4 at s4 Mz ⊢;refine ⟨_,rfl,_,rfl,_,rfl,_,rfl,lF,_,rfl,aJ.of (s4 _ _ O8),λ lc BE=>?_⟩;rw [zN _ zK];have s5:av H4 (upd H4 lc (.lst ((F.map V.int).drop R.toNat))):=ah BE;have MA:upd H4 lc (.lst ((F.map V.int).drop R.toNat)) lc=some (.lst ((F.drop R.toNat).map V.int)):=by rw [af,List.map_drop]
    generalize upd H4 lc (.lst ((F.map V.int).drop R.toNat))=H5 at s5 MA ⊢;refine ⟨lL,lc,rfl,⟨_,aJ.of (s5 _ _ Mz)⟩,⟨_,aJ.of MA⟩,λ D3 qt=>?_⟩;have Vb:L.length≤60000:=by rw [hL.length_eq,List.length_map];exact hz
    refine aX (fN (L.map V.int) ((F.drop R.toNat).map V.int)) (λ σ=>∃ o1 o2,σ=[o1,o2]) (λ j=>.bl (decide (L.getD j 0 < (F.drop R.toNat).getD j 0))) qt (by rw [List.length_map];lia) (λ H6 s6=>⟨aJ.of (s6 _ _ (s5 _ _ Mz)),aJ.of (s6 _ _ MA)⟩) ⟨_,_,rfl⟩ ?_ ?_
    · rintro j v σ H6 OV hj ⟨T',y,z,vE,rfl,rfl,uw,Iw⟩ s6 ⟨o1,o2,rfl⟩ Ky hK;obtain ⟨_,rfl⟩:=int_at uw;obtain ⟨_,rfl⟩:=int_at Iw;exact ⟨T',_,rfl,b_.of af,rfl,_,_,rfl,_,_,rfl,rfl,_,rfl,_,rfl,_,_,rfl,rfl,hK _ _ _ (ah vE) ⟨_,_,rfl⟩ rfl⟩
    · intro H6 s6 h6;rw [List.length_map,List.length_map] at h6;refine ⟨D3,(List.range (min L.length (F.drop R.toNat).length)).map λ j=>decide (L.getD j 0 < (F.drop R.toNat).getD j 0),rfl,aJ.of (by rw [h6,List.map_map];rfl),?_⟩;rw [BM zK hg iR hF oF hL oL];exact q H6 ((s2.trans s4).trans (s5.trans s6))
theorem cU {H:Hp} {a:Addr} {ts:List (Int×Int)} {xs:List V} (h:aM H a (ts.map dX)) (hx:H a=some (.lst xs)) {j:Nat} {v:V} (e:xs[j]?=some v):∃ p,j < ts.length∧v = .ref p∧H p=some (.tup [.int (ts.getD j (0,0)).1,.int (ts.getD j (0,0)).2]):=by
  obtain ⟨p,y,rfl,hy,hp⟩:=h.at_ hx e;rw [List.getElem?_map] at hy;cases z:ts[j]? with
  | none=>rw [z] at hy;cases hy
  | some t =>
    rw [z] at hy;cases hy;exact ⟨p,(List.getElem?_eq_some_iff.mp z).1,rfl,by rw [List.getD_eq_getElem?_getD,z];exact hp⟩
theorem c9 {α:Type} (ts:List (Int×Int)) (f:Int×Int→α):(List.range ts.length).map (λ j=>f (ts.getD j (0,0)))=ts.map f:=by
  conv=>rhs;rw [← range_getD ts (0,0)]
  rw [List.map_map];rfl
theorem BO:az ["value"] ["value"] (ao jT):=dZ
noncomputable def vG:Sp:=λ vs H Q _=>∃ (p:Addr) (d m:Int),vs=[.ref p]∧H p=some (.tup [.int d,.int m])∧Q (.bl (decide (0≤m))) H
theorem BP (B:Bl mg) (GW:Def P w K mg base bN 1 "is_whole" ["value"] (fg K)) (D:FnAt K mg "is_toll" jT ["value"]):Def P w K mg base bN 2 "is_toll" ["value"] vG:=by
  refine D.ok BO (λ vs H Q E h=>?_) λ f bM A outer s H vs Q E hr h=>?_
  · obtain ⟨p,d,m,rfl,_⟩:=h;rfl
  · obtain ⟨p,d,m,rfl,hp,q⟩:=h;refine ⟨_,ag (bK (PW.pt (pw_or (bJ (aW (fM B.isinstance B.tuple PyProof.Rows.Boot.«tuple» (pv 0)))) (pw_or1 (bh uR (aB aL (by rfl) B.len PySem.boot_len (aa (pv 0) ae)) ai (aR _))))) (aj (aH b7)) aQ)
      (aj (aH (cp (au GW hr rfl aD (aa (aO cx (pv 0) ai (λ _ _=>rfl)) ae))
        (cp (au GW hr rfl aD (aa (aO cx (pv 0) ai (λ _ _=>rfl)) ae)) (c_ (b8 nL (aO cx (pv 0) ai (λ _ _=>rfl)) ai (aR _))))))),?_⟩
    refine ⟨_,rfl,_,_,_,rfl,bF.tup hp,(pI (bF.tup hp)).2.2.2,_,rfl,df (by decide) ?_⟩;refine ⟨_,rfl,p,_,rfl,.inr (b_.of hp),rfl,_,rfl,df (by simp) ?_⟩;refine ⟨_,rfl,p,_,_,_,rfl,rfl,b_.of hp,(show eA [V.int d,.int m] 0=some (.int d) from rfl),_,_,rfl,bF.int d,_,rfl,bW ?_⟩;refine ⟨_,rfl,p,_,_,_,rfl,rfl,b_.of hp,(show eA [V.int d,.int m] 1=some (.int m) from rfl),_,_,rfl,bF.int m,_,rfl,bW ?_⟩;exact ⟨_,rfl,p,_,_,_,rfl,rfl,b_.of hp,(show eA [V.int d,.int m] 1=some (.int m) from rfl),_,_,rfl,rfl,q⟩
theorem zO:az ["value"] ["value"] (ao gM):=dZ
noncomputable def rW:Sp:=λ vs H Q _=>∃ (a:Addr) (ts:List (Int×Int)),vs=[.ref a]∧aM H a (ts.map dX)∧ts.length≤60000∧∀ H',av H H'→Q (.bl (fZ ts)) H'
theorem zP (B:Bl mg) (GT:Def P w K mg base bN 2 "is_toll" ["value"] vG) (GR:Def P w K mg base bN 1 "is_rising" ["values"] (j7 K)) (D:FnAt K mg "are_tolls" gM ["value"]):Def P w K mg base bN 3 "are_tolls" ["value"] rW:=by
  refine D.ok zO (λ vs H Q E h=>?_) λ f bM A outer s H vs Q E hr h=>?_
  · obtain ⟨a,ts,rfl,_⟩:=h;rfl
  · obtain ⟨a,ts,rfl,hT,hz,q⟩:=h;have de:bc 1 _:=hr.mono (by decide);refine ⟨_,ag (bK (PW.pt (pw_or (bJ (aW (fM B.isinstance B.list PyProof.Rows.Boot.«list» (pv 0)))) (pw_or1 (bJ (aW (aB (bT rfl) (by rfl) B.all PyProof.Rows.Boot.«all» (aa
        (bC ["toll"] [] rfl (aY (pv 0)) λ cl s H fp C=>⟨aV (i:=0) (show (["toll"]:List Str).Nodup by decide +kernel) rfl (Or.inl rfl),br,au GT hr rfl aD (aa (pv 0) ae)⟩) ae))))))) (aj (aH b7)) aQ)
      (aj (aH (au GR de rfl aD (aa (bC ["day","amount"] [] rfl (aY (pv 0)) λ cl s H fp C=>⟨cC (K:=K) 0 1 rfl (show (["day","amount"]:List Str).Nodup by decide +kernel),br,pv 0⟩) ae)))),?_⟩
    obtain ⟨xs,hx,eM⟩:=hT.list;rw [List.length_map] at eM;refine ⟨_,rfl,_,_,_,rfl,bF.lst hx,(pI (bF.lst hx)).2.2.1,_,rfl,df (by decide) ?_⟩;refine ⟨_,rfl,a,rfl,⟨_,aJ.of hx⟩,λ D1 nC=>?_⟩;refine aX (aI xs) (λ σ=>∃ o,σ=[o]) (λ j=>.bl (decide (0≤(ts.getD j (0,0)).2))) nC (by lia) (λ H3 s3=>aJ.of (s3 _ _ hx)) ⟨_,rfl⟩ ?_ ?_
    · rintro j v σ H3 mn hj ⟨rfl,gi⟩ s3 ⟨o,rfl⟩ Ky hK;obtain ⟨p,ie,rfl,hp⟩:=cU hT hx gi;exact ⟨_,rfl,p,_,_,rfl,s3 _ _ hp,hK _ _ _ (av.refl _) ⟨_,rfl⟩ rfl⟩
    intro H1 s1 h1;rw [eM] at h1;refine ⟨D1,(List.range ts.length).map λ j=>decide (0≤(ts.getD j (0,0)).2),rfl,aJ.of (by rw [h1,List.map_map];rfl),_,rfl,?_⟩;have e1:((List.range ts.length).map λ j=>decide (0≤(ts.getD j (0,0)).2)).all id=posB ts:=by
      rw [c9 ts λ t=>decide (0≤t.2),List.all_map];rfl
    rw [e1];have q':=q;unfold fZ at q';cases hp:posB ts with
    | false =>
      rw [hp] at q';exact bW (q' H1 s1)
    | true =>
      rw [hp] at q';refine bV ⟨_,rfl,a,rfl,⟨_,aJ.of (s1 _ _ hx)⟩,λ D2 vz=>?_⟩;refine aX (aI xs) (λ σ=>∃ o1 o2,σ=[o1,o2]) (λ j=>.int (ts.getD j (0,0)).1) vz (by lia) (λ H3 s3=>aJ.of (s3 _ _ (s1 _ _ hx))) ⟨_,_,rfl⟩ ?_ ?_
      · rintro j v σ H3 mn hj ⟨rfl,gi⟩ s3 ⟨o1,o2,rfl⟩ Ky hK;obtain ⟨p,ie,rfl,hp⟩:=cU hT hx gi;exact ⟨p,_,rfl,b_.of (s3 _ _ (s1 _ _ hp)),rfl,_,_,rfl,_,_,rfl,rfl,_,rfl,hK _ _ _ (av.refl _) ⟨_,_,rfl⟩ rfl⟩
      intro H2 s2 h2;rw [eM,c9 ts λ t=>V.int t.1] at h2;refine ⟨D2,ts.map (·.1),rfl,aJ.of (by rw [h2,List.map_map];rfl),by rw [List.length_map];exact hz,λ H3 s3=>?_⟩;exact q' H3 ((s1.trans s2).trans s3)
theorem fu:az ["days","day","low","high","middle"] ["days","day"] (ao eZ):=dZ
noncomputable def rX (K:PySem.W.Frag):Sp:=λ vs H Q _=>∃ (a:Addr) (d:Int) (ts:List (Int×Int)),vs=[.ref a,.int d]∧aJ K H a ((ts.map (·.1)).map V.int)∧(ts.map (·.1)).Pairwise (· < ·)∧Q (.int (Ln.c7 ts d:Nat)) H
theorem zQ (B:Bl mg) (D:FnAt K mg "count_below" eZ ["days","day"]):Def P w K mg base bN 1 "count_below" ["days","day"] (rX K):=by
  refine D.ok fu (λ vs H Q E h=>?_) λ f bM A outer s H vs Q E hr h=>?_
  · obtain ⟨a,d,ts,rfl,_⟩:=h;rfl
  · obtain ⟨a,d,ts,rfl,ha,ho,q⟩:=h;refine ⟨_,ag (aK (i:=2) fu.nd rfl (Or.inl rfl) ai)
      (ag (aK (i:=3) fu.nd rfl (Or.inl rfl) (aB aL (by rfl) B.len PySem.boot_len (aa (pv 0) ae)))
      (ag (jf PassesOwn.never (bh iJ (pv 2) (pv 3) (aR _))
        (ag (aK (i:=4) fu.nd rfl (Or.inl rfl) (aF kK (aF bj (pv 2) (pv 3)) ai))
        (aj (bK (bh iJ (aO bU (pv 0) (pv 4) (λ _ _=>rfl)) (pv 1) (aR _)) (aj (aK (i:=2) fu.nd rfl (Or.inl rfl) (aF bj (pv 4) ai))) (aj (aK (i:=3) fu.nd rfl (Or.inl rfl) (pv 4)))))))
      (aj (aH (pv 2))))),?_⟩
    refine ⟨_,rfl,a,_,rfl,.inl ha,?_⟩;have hle:Ln.c7 ts d≤ts.length:=List.countP_le_length;refine ⟨λ m σ H2=>∃ (lo hi:Nat) (o4:Option V),σ=[some (.ref a),some (.int d),some (.int (lo:Nat)),some (.int (hi:Nat)),o4]∧H2=H∧lo≤Ln.c7 ts d∧Ln.c7 ts d≤hi∧hi≤ts.length∧m=hi - lo,⟨_,0,ts.length,none,?_,rfl,Nat.zero_le _,hle,Nat.le_refl _,rfl⟩,?_⟩
    · show [some (V.ref a),some (V.int d),some (V.int 0),some (V.int ((((ts.map (·.1)).map V.int).length:Nat):Int)),none]=_;rw [List.length_map,List.length_map];rfl
    rintro m σ H2 ⟨lo,hi,o4,rfl,rfl,h1,h2,h3,rfl⟩;refine ⟨_,rfl,_,rfl,_,_,rfl,rfl,_,rfl,?_⟩
    by_cases dg:lo < hi
    · refine fE (by simpa using dg) ⟨λ σ H3=>∃ (Cp dG:Nat) (o4:Option V),σ=[some (.ref a),some (.int d),some (.int (Cp:Nat)),some (.int (dG:Nat)),o4]∧H3=H2∧Cp≤Ln.c7 ts d∧Ln.c7 ts d≤dG∧dG≤ts.length∧dG - Cp < hi - lo,λ σ' H3 z=>?_,?_⟩
      · obtain ⟨Cp,dG,o4,e1,e2,e3,e4,e5,e6⟩:=z;exact ⟨dG - Cp,e6,Cp,dG,o4,e1,e2,e3,e4,e5,rfl⟩
      · have em:((lo:Int) + (hi:Int)) / 2=(((lo + hi) / 2:Nat):Int):=by lia
        have hm:(lo + hi) / 2 < ts.length:=by lia
        refine ⟨_,rfl,_,rfl,_,_,rfl,rfl,_,_,rfl,rfl,⟨by decide,by decide⟩,?_⟩;have So:eA ((ts.map (·.1)).map V.int) (((lo + hi) / 2:Nat):Int)=some (.int (ts[(lo + hi) / 2]).1):=eP (by simp [hm]);have b1:=Ln.wU ho (d:=d) hm;refine ⟨_,rfl,_,rfl,a,_,_,_,rfl,rfl,ha,(by rw [em];exact So),_,rfl,_,_,rfl,rfl,_,rfl,?_⟩
        by_cases hd:(ts[(lo + hi) / 2]).1 < d
        · refine fE (by simpa using hd) ⟨_,rfl,_,_,rfl,rfl,(lo + hi) / 2 + 1,hi,some (V.int (((lo:Int) + (hi:Int)) / 2)),?_,rfl,by have:=b1.mp hd;lia,h2,h3,by lia⟩;show [some (V.ref a),some (V.int d),some (V.int (((lo:Int) + (hi:Int)) / 2 + 1)),some (V.int (hi:Nat)),some (V.int (((lo:Int) + (hi:Int)) / 2))]=_;rw [em];rfl
        · refine df (by simpa using hd) ⟨_,rfl,lo,(lo + hi) / 2,some (V.int (((lo:Int) + (hi:Int)) / 2)),?_,rfl,h1,by have:=λ z=>hd (b1.mpr z);lia,by lia,by lia⟩;show [some (V.ref a),some (V.int d),some (V.int (lo:Nat)),some (V.int (((lo:Int) + (hi:Int)) / 2)),some (V.int (((lo:Int) + (hi:Int)) / 2))]=_;rw [em]
    · refine df (by simpa using dg) ⟨_,rfl,?_⟩;have:lo=Ln.c7 ts d:=by lia
      rw [this];exact q
theorem qj:az ["tolls","sums","day","amount"] ["tolls"] (ao jU):=dZ
noncomputable def vH:Sp:=λ vs H Q _=>∃ (a:Addr) (ts:List (Int×Int)),vs=[.ref a]∧aM H a (ts.map dX)∧ts.length≤60000∧∀ l H',av H H'→H l=none→H' l=some (.lst (cw (ts.length + 1) (Ln.gh ts)))→Q (.ref l) H'
theorem BQ (D:FnAt K mg "sums_of" jU ["tolls"]):Def P w K mg base bN 1 "sums_of" ["tolls"] vH:=by
  refine D.ok qj (λ vs H Q E h=>?_) λ f bM A outer s H vs Q E hr h=>?_
  · obtain ⟨a,ts,rfl,_⟩:=h;rfl
  · obtain ⟨a,ts,rfl,hT,hz,q⟩:=h;refine ⟨_,ag (aK (i:=1) qj.nd rfl (Or.inl rfl) (cQ (aa ai ae)))
      (ag (ee PassesOwn.never rfl (aY (pv 0)) (cC (K:=K) 2 3 rfl qj.nd)
        (aj (cG (qG PySem.F.plainAttrs_list PySem.F.slot_list_append PySem.F.type_list_append d8 (pv 1) (aa (aF bj (aO bU (pv 1) (uN pj ai) (λ _ _=>rfl)) (pv 3)) ae)))))
      (aj (aH (pv 1)))),?_⟩
    obtain ⟨xs,hx,eM⟩:=hT.list;rw [List.length_map] at eM;refine ⟨by show 1≤sizeLine;decide,λ l hl=>?_⟩;have s1:av H (upd H l (.lst [.int 0])):=ah hl;refine ⟨_,rfl,a,rfl,⟨_,aJ.of (s1 _ _ hx)⟩,?_⟩;refine eI (aI xs) (λ i σ H2=>∃ o2 o3,σ=[some (.ref a),some (.ref l),o2,o3]∧av H H2∧H2 l=some (.lst (cw (i + 1) (Ln.gh ts)))) (λ i σ H2 _ z=>?_) ?_ ?_ ?_
    · obtain ⟨o2,o3,_,s2,_⟩:=z;exact aJ.of (s2 _ _ hx)
    · exact ⟨none,none,rfl,s1,af⟩
    · rintro i v σ Lm H2 hi ⟨rfl,Ea⟩ ⟨o2,o3,rfl,s2,h2⟩;obtain ⟨p,dG,rfl,hp⟩:=cU hT hx Ea;have oo:eA (cw (i + 1) (Ln.gh ts)) (-1)=some (.int (Ln.gh ts i)):=by
        rw [← mM];exact yi _ _
      refine ⟨p,_,rfl,b_.of (s2 _ _ hp),rfl,_,_,rfl,_,_,rfl,rfl,?_⟩;refine ⟨_,rfl,.inl ⟨rfl,_,aJ.of h2⟩,_,rfl,_,rfl,l,_,_,_,rfl,rfl,aJ.of h2,oo,_,rfl,_,_,rfl,rfl,l,_,_,rfl,rfl,h2,by rw [cK,sizeLine_eq];lia,?_⟩;refine ⟨_,_,rfl,iw hl s2,?_⟩;rw [af,← mM (i + 1)];have es:=Ln.wR ts dG;have eg:ts.getD i (0,0)=ts[i]:=by rw [List.getD_eq_getElem?_getD,List.getElem?_eq_getElem dG];rfl
      rw [es,eg]
    · rintro σ H2 ⟨o2,o3,rfl,s2,h2⟩;rw [eM] at h2;exact ⟨_,rfl,q l H2 s2 hl h2⟩
theorem eK:az ["requests","tolls","days","sums","gains","first","last","price","toll"] ["requests","tolls"] (ao iY):=dZ
noncomputable def rY:Sp:=λ vs H Q _=>∃ (b t:Addr) (rs:Ln.Rs) (ts:List (Int×Int)),vs=[.ref b,.ref t]∧a9 H b rs∧GoodR rs∧aM H t (ts.map dX)∧(ts.map (·.1)).Pairwise (· < ·)∧rs.length≤60000∧ts.length≤60000∧∀ H',av H H'→Q (.int (Ln.e_ rs ts)) H'
theorem max_eq (x:Int):(if x > 0 then x else 0)=max 0 x:=by lia
theorem rZ {rs:Ln.Rs} {f:Int×Int×Int→Int} {i:Nat} (hi:i < rs.length):((rs.take (i + 1)).map f).sum=((rs.take i).map f).sum + f (Lg.rq rs i):=by
  rw [List.take_succ_eq_append_getElem hi,List.map_append,List.sum_append,vx (List.getElem?_eq_getElem hi)];simp
theorem zR (B:Bl mg) (GB:Def P w K mg base bN 1 "count_below" ["days","day"] (rX K)) (GS:Def P w K mg base bN 1 "sums_of" ["tolls"] vH) (D:FnAt K mg "gains_of" iY ["requests","tolls"]):Def P w K mg base bN 2 "gains_of" ["requests","tolls"] rY:=by
  refine D.ok eK (λ vs H Q E h=>?_) λ f bM A outer s H vs Q E hr h=>?_
  · obtain ⟨b,t,rs,ts,rfl,_⟩:=h;rfl
  · obtain ⟨b,t,rs,ts,rfl,hR,hg,hT,ho,y7,EK,q⟩:=h;refine ⟨_,ag (eQ (i:=2) eK.nd rfl ["day","amount"] [] rfl (aY (pv 1)) λ cl s H fp C=>⟨cC (K:=K) 0 1 rfl (show (["day","amount"]:List Str).Nodup by decide +kernel),br,pv 0⟩)
      (ag (aK (i:=3) eK.nd rfl (Or.inl rfl) (au GS hr rfl aD (aa (pv 1) ae)))
      (ag (aK (i:=4) eK.nd rfl (Or.inl rfl) ai)
      (ag (ee PassesOwn.never rfl (aY (pv 0)) (gX (K:=K) 5 6 7 rfl eK.nd)
        (ag (aK (i:=8) eK.nd rfl (Or.inl rfl) (aF di (aO bU (pv 3) (au GB hr rfl aD (aa (pv 2) (aa (aF bj (pv 6) ai) ae))) (λ _ _=>rfl)) (aO bU (pv 3) (au GB hr rfl aD (aa (pv 2) (aa (pv 5) ae))) (λ _ _=>rfl))))
        (aj (aK (i:=4) eK.nd rfl (Or.inl rfl) (aF bj (pv 4) (aB (jQ rfl) (by rfl) B.max PyProof.Rows.Boot.«max» (aa ai (aa (aF di (pv 7) (pv 8)) ae))))))))
      (aj (aH (pv 4)))))),?_⟩
    obtain ⟨xs,hx,eM⟩:=hT.list;rw [List.length_map] at eM;obtain ⟨ys,hy,xN,_⟩:=id hR;refine ⟨_,rfl,t,rfl,⟨_,aJ.of hx⟩,λ D1 nC=>?_⟩;refine aX (aI xs) (λ σ=>∃ o1 o2,σ=[o1,o2]) (λ j=>.int (ts.getD j (0,0)).1) nC (by lia) (λ H3 s3=>aJ.of (s3 _ _ hx)) ⟨_,_,rfl⟩ ?_ ?_
    · rintro j v σ H3 mn hj ⟨rfl,gi⟩ s3 ⟨o1,o2,rfl⟩ Ky hK;obtain ⟨p,ie,rfl,hp⟩:=cU hT hx gi;exact ⟨p,_,rfl,b_.of (s3 _ _ hp),rfl,_,_,rfl,_,_,rfl,rfl,_,rfl,hK _ _ _ (av.refl _) ⟨_,_,rfl⟩ rfl⟩
    intro H1 s1 h1;rw [eM,c9 ts λ t=>V.int t.1] at h1;have Ck:H1 D1=some (.lst ((ts.map (·.1)).map V.int)):=by rw [h1,List.map_map];rfl
    refine ⟨_,rfl,t,ts,rfl,hT.same s1,EK,λ ls H2 s2 MB hS=>?_⟩;have S2:=s1.trans s2;refine ⟨_,rfl,b,rfl,⟨_,aJ.of (S2 _ _ hy)⟩,?_⟩;refine eI (aI ys) (λ i σ H3=>∃ o5 o6 o7 o8,σ=[some (.ref b),some (.ref t),some (.ref D1),some (.ref ls),some (.int (((rs.take i).map λ r=>max 0 (r.2.2 - Ln.mF ts r.1 r.2.1)).sum)),o5,o6,o7,o8]∧H3=H2) (λ i σ H3 _ z=>?_) ?_ ?_ ?_
    · obtain ⟨o5,o6,o7,o8,_,rfl⟩:=z;exact aJ.of (S2 _ _ hy)
    · exact ⟨none,none,none,none,rfl,rfl⟩
    · rintro i v σ mn H3 hi ⟨rfl,HD⟩ ⟨o5,o6,o7,o8,rfl,rfl⟩;obtain ⟨p,rfl,hp⟩:=fV hR hy HD;have dG:i < rs.length:=by lia
      have sQ:=(hg _ (mI dG)).1;have Fi:=s2 _ _ Ck;have b1:∀ d,Ln.c7 ts d < ts.length + 1:=λ d=>Nat.lt_succ_of_le List.countP_le_length;refine ⟨p,_,rfl,b_.of (S2 _ _ hp),rfl,_,_,rfl,_,_,rfl,_,_,rfl,rfl,?_⟩;refine ⟨_,rfl,_,rfl,_,rfl,_,_,rfl,rfl,D1,_,ts,rfl,aJ.of Fi,ho,ls,_,_,_,rfl,rfl,aJ.of hS,jE (b1 _),?_⟩;refine ⟨_,rfl,_,rfl,_,rfl,D1,_,ts,rfl,aJ.of Fi,ho,ls,_,_,_,rfl,rfl,aJ.of hS,jE (b1 _),_,_,rfl,rfl,?_⟩;refine ⟨_,rfl,_,rfl,_,rfl,_,_,rfl,rfl,_,_,rfl,_,_,rfl,rfl,some (V.int (Lg.rq rs i).1),some (V.int (Lg.rq rs i).2.1),some (V.int (Lg.rq rs i).2.2),some (V.int (Ln.gh ts (Ln.c7 ts ((Lg.rq rs i).2.1 + 1)) - Ln.gh ts (Ln.c7 ts (Lg.rq rs i).1))),?_,rfl⟩;have e1:=Ln.Bw sQ ho;have e2:=rZ (f:=λ r=>max 0 (r.2.2 - Ln.mF ts r.1 r.2.1)) dG;rw [e2,← e1,← max_eq];rfl
    · rintro σ H3 ⟨o5,o6,o7,o8,rfl,rfl⟩;have e:rs.take ys.length=rs:=List.take_of_length_le (by lia);rw [e];exact ⟨_,rfl,q H3 S2⟩
theorem eq_int (a b:Int):decide (V.int a=V.int b)=decide (a=b):=decide_eq_decide.mpr ⟨λ z=>by injection z,λ z=>by rw [z]⟩
theorem oQ:az ["taken","tolls","requests","rooms","all_tolls"] ["taken","tolls","requests","rooms"] (ao jV):=dZ
noncomputable def oR:Sp:=λ vs H Q _=>∃ (a t b:Addr) (R:Int) (ns:List Int) (ts:List (Int×Int)) (rs:Ln.Rs),vs=[.ref a,.ref t,.ref b,.int R]∧H a=some (.lst (ns.map V.int))∧aM H t (ts.map dX)∧a9 H b rs∧GoodR rs∧ns.length≤60000∧ts.length≤60000∧rs.length≤60000∧0≤R∧R < 2 ^ 64 ∧
  ∀ H',av H H'→Q (.bl (cN ns ts rs R)) H'
theorem xq (B:Bl mg) (GC:Def P w K mg base bN 2 "is_choice" ["taken","requests"] (ox K)) (GF:Def P w K mg base bN 1 "fits" ["taken","requests","rooms"] vF) (GT:Def P w K mg base bN 3 "are_tolls" ["value"] rW) (GW:Def P w K mg base bN 1 "worth_of" ["taken","requests"] jJ)
    (GG:Def P w K mg base bN 2 "gains_of" ["requests","tolls"] rY) (D:FnAt K mg "is_best" jV ["taken","tolls","requests","rooms"]):Def P w K mg base bN 4 "is_best" ["taken","tolls","requests","rooms"] oR:=by
  refine D.ok oQ (λ vs H Q E h=>?_) λ f bM A outer s H vs Q E hr h=>?_
  · obtain ⟨a,t,b,R,ns,ts,rs,rfl,_⟩:=h;rfl
  · obtain ⟨a,t,b,R,ns,ts,rs,rfl,ha,hT,hR,hg,y7,EK,JY,zK,zD,q⟩:=h;have de:bc 1 _:=hr.mono (by decide);have zS:bc 2 _:=hr.mono (by decide);refine ⟨_,ag (bK (PW.pt (pw_or (bJ (aW (au GC zS rfl aD (aa (pv 0) (aa (pv 2) ae))))) (pw_or (bJ (aW (au GF de rfl aD (aa (pv 0) (aa (pv 2) (aa (pv 3) ae)))))) (pw_or1 (bJ (aW (au GT hr rfl aD (aa (pv 1) ae)))))))) (aj (aH b7)) aQ)
      (ag (aK (i:=4) oQ.nd rfl (Or.inl rfl) (aB (cn rfl) (by rfl) B.sum PyProof.Rows.Boot.«sum» (aa (bC ["day","amount"] [] rfl (aY (pv 1)) λ cl s H fp C=>⟨cC (K:=K) 0 1 rfl (show (["day","amount"]:List Str).Nodup by decide +kernel),br,pv 1⟩) ae)))
      (aj (aH (b8 gw (au GW de rfl aD (aa (pv 0) (aa (pv 2) ae))) (aF bj (aF eX (pv 3) (pv 4)) (au GG zS rfl aD (aa (pv 2) (aa (pv 1) ae)))) (aR _))))),?_⟩
    obtain ⟨xs,hx,eM⟩:=hT.list;rw [List.length_map] at eM;obtain ⟨ys,hy,xN,_⟩:=id hR;have q':=q;unfold cN at q';refine ⟨_,rfl,_,rfl,a,b,ns,ys,rfl,ha,aJ.of hy,y7,λ H1 s1=>⟨_,rfl,?_⟩⟩;rw [xN];cases hc:cW ns rs.length with
    | false =>
      rw [hc] at q';exact bW (bW (q' H1 s1))
    | true =>
      rw [hc,Bool.true_and] at q';have iR:∀ c∈ns,0≤c∧c.toNat < rs.length:=λ c h=>dw hc h;refine bV ⟨_,rfl,_,rfl,_,rfl,a,b,R,ns,rs,rfl,s1 _ _ ha,aC s1 hR,hg,iR,y7,zK,λ H2 s2=>⟨_,rfl,?_⟩⟩;have S2:=s1.trans s2;cases hf:hX rs ns R with
      | false =>
        rw [hf] at q';exact bW (bW (q' H2 S2))
      | true =>
        rw [hf,Bool.true_and] at q';refine bV ⟨_,rfl,t,ts,rfl,hT.same S2,EK,λ H3 s3=>⟨_,rfl,?_⟩⟩;have S3:=S2.trans s3;cases ht:fZ ts with
        | false =>
          rw [ht] at q';exact bW (q' H3 S3)
        | true =>
          rw [ht,Bool.true_and] at q';have ho:(ts.map (·.1)).Pairwise (· < ·):=by
            unfold fZ at ht;rw [Bool.and_eq_true] at ht;exact (dr _).mp ht.2
          refine bV ⟨_,rfl,t,rfl,⟨_,aJ.of (S3 _ _ hx)⟩,λ D1 nC=>?_⟩;refine aX (aI xs) (λ σ=>∃ o1 o2,σ=[o1,o2]) (λ j=>.int (ts.getD j (0,0)).2) nC (by lia) (λ H4 s4=>aJ.of (s4 _ _ (S3 _ _ hx))) ⟨_,_,rfl⟩ ?_ ?_
          · rintro j v σ H4 OT hj ⟨rfl,gi⟩ s4 ⟨o1,o2,rfl⟩ Ky hK;obtain ⟨p,ie,rfl,hp⟩:=cU hT hx gi;exact ⟨p,_,rfl,b_.of (s4 _ _ (S3 _ _ hp)),rfl,_,_,rfl,_,_,rfl,rfl,_,rfl,hK _ _ _ (av.refl _) ⟨_,_,rfl⟩ rfl⟩
          intro H4 s4 h4;rw [eM,c9 ts λ t=>V.int t.2] at h4;refine ⟨D1,ts.map (·.2),rfl,aJ.of (by rw [h4,List.map_map];rfl),?_⟩;have S4:=S3.trans s4;refine ⟨_,rfl,_,rfl,a,b,ns,rs,rfl,S4 _ _ ha,aC S4 hR,iR,y7,λ H5 s5=>?_⟩;refine ⟨_,rfl,_,rfl,_,_,rfl,rfl,.inl ⟨by lia,zD⟩,_,rfl,_,rfl,b,t,rs,ts,rfl,aC (S4.trans s5) hR,hg,hT.same (S4.trans s5),ho,JY,EK,λ H6 s6=>?_⟩;refine ⟨_,_,rfl,rfl,rfl,?_⟩;have q6:=q' H6 ((S4.trans s5).trans s6);rw [← eq_int] at q6;exact q6
end
end Sp
namespace L2
open PySem PySem.Spec PyProof.Rows
theorem uD {X:Cx} {k:Nat} {C:Addr} {x:Str} {ps:List Str} {sp:Sp} {p pos:Pos} {o e:Expr} {es:List Expr} {ta:TE} {t:TA} {pl:Sem Bool} (D:kG X.prog X.w X.K X.mg X.base k C x ps sp) (he:PE X o ta) (c:qC X.K C) (hr:bc k X.A) (ha:PA X (e :: es) t)
    (qy:starEach (e :: es) X.env=(false,eval e X.env) :: starEach es X.env:=by rfl) (gk:(backTo pos (starEach es X.env)).any (·.1)=false:=by rfl)
    (ht:eval (.Call (.Attribute o x p) (e :: es) [] pos) X.env=(do
      let ov ← eval o X.env
      standAt p.atName
      let (f,first) ← holding [ov] (getMethod ov x pl)
      callWith pos f first (backTo pos (starEach (e :: es) X.env)) (backToKw pos (keywordEach [] X.env))):=by rfl):PE X (.Call (.Attribute o x p) (e :: es) [] pos) (uS C x sp [] E0 ta t):=by
  obtain ⟨f,fd,hm,b,F⟩:=D;exact AQ he c hm F hr b .nil aD ha qy gk ht
end L2
namespace Sp
open PySem L2
seal PE PA PS jM PT PG uK PI PW tK
structure BR (K:PySem.W.Frag) (mg:Str→Option Value) (CA CB CD CL CC fB:Addr) (dB:FuncData):Prop where
  mB:mg "Best"=some (.ref CB)
  okB:vy K CB
  nt:aZ K CB "taken"
  nl:aZ K CB "tolls"
  Fy:Mk K CB fB
  fB:uX K "__init__" "Best.__init__" f_ fB dB
  bB:Binds K dB ["self","taken","tolls"] []
structure zT (CB:Addr) (H:Hp) (x dx l1 l2:Addr) (ns:List Int) (ts:List (Int×Int)):Prop where
  ins:H x=some (.ins CB dx [("taken",.ref l1),("tolls",.ref l2)])
  tk:H l1=some (.lst (ns.map V.int))
  tl:aM H l2 (ts.map dX)
section
variable {P:Program} {w:World} {K:PySem.W.Frag} {mg:Str→Option Value} {base:Heap} {CA CB CD CL CC fB:Addr} {dB:FuncData} {CN fI c1 P1 c2 P2:Addr} {dI:FuncData}
theorem kh {H:Hp} {t l:Addr} {vs:List (List V)} {xs:List V} (h:aM H t vs) (hx:H t=some (.lst xs)) (hl:H l=none):aM (upd H l (.lst xs)) l vs:=by
  obtain ⟨ys,e1,e2,e3⟩:=h;rw [hx] at e1;cases e1;exact ⟨_,af,e2,λ i v e=>let ⟨p,a,b⟩:=e3 i v e;⟨p,a,by rw [aq (ay b hl)];exact b⟩⟩
theorem IB:az ["self","taken","tolls"] ["self","taken","tolls"] (ao f_):=dZ
noncomputable def CP (CB:Addr):Sp:=λ vs H Q _=>∃ (x dx a t:Addr) (ns:List Int) (ts:List (Int×Int)),vs=[.ref x,.ref a,.ref t]∧H x=some (.ins CB dx [])∧H a=some (.lst (ns.map V.int))∧aM H t (ts.map dX) ∧
  ∀ l1 l2 H',Fx (λ b=>b=x) H H'→H l1=none→H l2=none→l1≠l2→zT CB H' x dx l1 l2 ns ts→Q .cc H'
theorem IC (B:Bl mg) (T:BR K mg CA CB CD CL CC fB dB):fA P w K mg base bN 1 fB dB ["self","taken","tolls"] (CP CB):=by
  refine T.fB.ok IB (λ vs H Q E h=>?_) λ bM A outer s H vs Q E hr h=>?_
  · obtain ⟨x,dx,a,t,ns,ts,rfl,_⟩:=h;rfl
  · obtain ⟨x,dx,a,t,ns,ts,rfl,hx,ha,hT,q⟩:=h;refine ⟨_,ag (cY (pv 0) (cm cf (by rfl) B.list PyProof.Rows.Boot.«list» (aa (pv 1) ae)) rfl) (aj (cY (pv 0) (cm cf (by rfl) B.list PyProof.Rows.Boot.«list» (aa (pv 2) ae)) rfl)),?_⟩;obtain ⟨xs,kU,_⟩:=hT.list;refine ⟨_,rfl,a,_,rfl,.inl (aJ.of ha),λ l1 pQ=>⟨_,rfl,x,CB,dx,[],rfl,(ah pQ) _ _ hx,T.okB.cl,T.nt,by decide,?_⟩⟩;rw [show cO (Str.ofString "taken") (V.ref l1) []=[(Str.ofString "taken",V.ref l1)] from rfl];have s1:av H (upd H l1 (.lst (ns.map V.int))):=ah pQ;have x1:l1≠x:=(ay hx pQ).symm;have Sq:Fx (λ b=>b=x) (upd H l1 (.lst (ns.map V.int))) (upd (upd H l1 (.lst (ns.map V.int))) x (.ins CB dx [(Str.ofString "taken",V.ref l1)])):=Fx.refl.upd (.inl rfl);have F2:Fx (λ b=>b=x) H (upd (upd H l1 (.lst (ns.map V.int))) x (.ins CB dx [(Str.ofString "taken",V.ref l1)])):=(Fx.of s1).trans Sq;have nz:upd (upd H l1 (.lst (ns.map V.int))) x (.ins CB dx [(Str.ofString "taken",V.ref l1)]) x=some (.ins CB dx [(Str.ofString "taken",V.ref l1)]):=af;have FF:upd (upd H l1 (.lst (ns.map V.int))) x (.ins CB dx [(Str.ofString "taken",V.ref l1)]) l1=some (.lst (ns.map V.int)):=by rw [aq x1,af]
    generalize upd (upd H l1 (.lst (ns.map V.int))) x (.ins CB dx [(Str.ofString "taken",V.ref l1)])=H2 at F2 nz FF ⊢;have EC:∀ (b:Addr) (v:List V),b=x→H b≠some (.tup v):=λ b v hb z=>by subst hb;rw [hx] at z;cases z
    have tx:¬ t=x:=λ z=>by subst z;rw [hx] at kU;cases kU
    have n8:=hT.fx F2 tx EC;have ID:=F2 _ _ kU tx;refine ⟨_,rfl,t,_,rfl,.inl (aJ.of ID),λ l2 iM=>⟨_,rfl,x,CB,dx,_,rfl,(ah iM) _ _ nz,T.okB.cl,T.nl,by show 1 < 1000;decide,?_⟩⟩;rw [show cO (Str.ofString "tolls") (V.ref l2) [(Str.ofString "taken",V.ref l1)]=[(Str.ofString "taken",V.ref l1),(Str.ofString "tolls",V.ref l2)] from rfl];have s3:av H2 (upd H2 l2 (.lst xs)):=ah iM;have t3:=kh n8 ID iM;have x2:l2≠x:=(ay nz iM).symm;have mh:=s3 _ _ nz;have F4:Fx (λ b=>b=x) (upd H2 l2 (.lst xs)) (upd (upd H2 l2 (.lst xs)) x (.ins CB dx [(Str.ofString "taken",V.ref l1),(Str.ofString "tolls",V.ref l2)])):=Fx.refl.upd (.inl rfl);refine q l1 l2 _ ((F2.trans (Fx.of s3)).trans F4) pQ (dc F2 iM λ b hb=>⟨_,by subst hb;exact nz⟩) (ay FF iM) ⟨af,F4 _ _ (s3 _ _ FF) x1,t3.fx F4 x2 λ b v hb z=>?_⟩;subst hb;rw [mh] at z;cases z
theorem qk {H:Hp} {x dx pp pm ph pe pw:Addr} {rs:Ln.Rs} {pts:List Int} {has:Nat→Bool} {R R':Int} {h p:Nat→Int} {way:Nat→Nat×Option Nat} (U:ja CN P1 P2 H x dx pp pm ph pe pw rs pts has R' h p way) (p9:∀ i,i + 1 < pts.length→(Ln.ar rs pts).used has i≤R') (hle:R'≤R) (hz:R'=R∨∀ v,v < pts.length→h v=0) :
    cN (Ln.aU has rs.length) (Ln.bX pts h) rs R=true:=by
  have hP:=U.ln.ok;unfold cN cW hX fZ posB;rw [Bool.and_eq_true,Bool.and_eq_true,Bool.and_eq_true,Bool.and_eq_true,Bool.and_eq_true,List.all_eq_true,List.all_eq_true,List.all_eq_true,dr,dr,decide_eq_true_eq];refine ⟨⟨λ c hc=>?_,Ln.fU has rs.length⟩,λ c hc=>?_,⟨λ t ht=>?_,Ln.oC hP h⟩,?_⟩
  · have:=Ln.dw hc;rw [Bool.and_eq_true,decide_eq_true_eq,decide_eq_true_eq];exact this
  · rw [decide_eq_true_eq];exact Ln.g_ hP (λ i hi=>Int.le_trans (p9 i hi) hle) c hc
  · rw [decide_eq_true_eq];exact Ln.oE pts h t ht
  · rcases hz with e | e
    · subst e;exact Ln.vw hP U.fh p9
    · exact Ln.wQ hP U.fh p9 e R
theorem vI:az ["requests","rooms","line"] ["requests","rooms"] (ao tO):=dZ
noncomputable def vJ (CB P1 P2:Addr):Sp:=λ vs H Q _=>∃ (a:Addr) (rs:Ln.Rs) (R:Int),vs=[.ref a,.int R]∧a9 H a rs∧GoodR rs∧rs.length≤2000∧0≤R∧eN H P1∧eO H P2 ∧
  ∀ y dx l1 l2 ns ts H',Fx (λ b=>b=P1∨b=P2) H H'→H y=none→H l1=none→H l2=none→l1≠l2→zT CB H' y dx l1 l2 ns ts→cN ns ts rs R=true→ns.length≤2000→ts.length≤4000→eN H' P1→eO H' P2→Q (.ref y) H'
theorem BS {CQ CR:Addr} (B:Bl mg) (T:BR K mg CA CB CD CL CC fB dB) (LT:ft K mg base CN fI dI c1 P1 c2 P2) (GQ:Def P w K mg base (sM P w) 5 "check_requests" ["requests"] (pM K CQ)) (GM:Def P w K mg base (sM P w) 3 "check_rooms" ["rooms"] (qT K CR))
    (GF:Def P w K mg base bN 8 "filled" ["requests","rooms"] (kg CN P1 P2)) (GC:kG P w K mg base 1 CN "choice" ["self"] (i_ CN)) (GD:kG P w K mg base 1 CN "day_tolls" ["self"] (kf CN)) (D:FnAt K mg "best" tO ["requests","rooms"]) :
    Def P w K mg base bN 9 "best" ["requests","rooms"] (vJ CB P1 P2):=by
  refine D.ok vI (λ vs H Q E h=>?_) λ f bM A outer s H vs Q E hr h=>?_
  · obtain ⟨a,rs,R,rfl,_⟩:=h;rfl
  · obtain ⟨a,rs,R,rfl,hR,hg,hz,zK,sR,n8,q⟩:=h;have de:bc 1 _:=hr.mono (by decide);have zS:bc 2 _:=hr.mono (by decide);have FG:bc 3 _:=hr.mono (by decide);have EL:bc 5 _:=hr.mono (by decide);refine ⟨_,ag (cG (au GQ EL rfl mG (aa (pv 0) ae)))
      (ag (cG (au GM FG rfl mG (aa (pv 1) ae)))
      (ag (aK (i:=2) vI.nd rfl (Or.inl rfl) (au GF hr rfl aD (aa (pv 0) (aa (pv 1) ae))))
      (aj (aH (kN T.Fy (IC B T) zS rfl T.mB T.bB .nil aD (aa (cJ GC (pv 2) LT.cl de) (aa (cJ GD (pv 2) LT.cl de) ae))))))),?_⟩
    refine ⟨_,rfl,_,rfl,.inr ⟨jW hR hg (by lia),λ H1 s1=>?_⟩⟩;refine ⟨_,rfl,_,_,rfl,bF.int R,.inr ⟨decide_eq_true zK,?_⟩⟩;refine ⟨_,rfl,_,rfl,a,rs,R,rfl,aC s1 hR,hg,hz,zK,aA.same sR s1,aA.same n8 s1,λ x dx pp pm ph pe pw pts has R' h p way H2 F2 xM U p9 hle MC=>?_⟩;have L:=U.ln;refine ⟨_,rfl,x,dx,_,rfl,L.ins,by rfl,?_⟩
    try unfold fc
    refine ⟨x,dx,pp,pm,ph,pe,pw,rs,pts,has,R',rfl,L,λ lc H3 s3 BE EM=>?_⟩;have L3:=L.same s3;refine ⟨_,rfl,x,dx,_,rfl,L3.ins,by rfl,?_⟩
    try unfold fc
    refine ⟨x,dx,pp,pm,ph,pe,pw,rs,pts,has,R',h,rfl,L3,s3 _ _ U.ht,λ lt H4 s4 dg Lq=>?_⟩;intro y dy hy MD p7;have S4:=s3.trans s4;have s5:av H4 (upd (upd H4 dy (.own y)) y (.ins CB dy [])):=fo hy MD;have Ii:upd (upd H4 dy (.own y)) y (.ins CB dy []) y=some (.ins CB dy []):=af;show CP CB _ (upd (upd H4 dy (.own y)) y (.ins CB dy [])) _ _;generalize upd (upd H4 dy (.own y)) y (.ins CB dy [])=H5 at s5 Ii ⊢;refine ⟨y,dy,lc,lt,Ln.aU has rs.length,Ln.bX pts h,rfl,Ii,s5 _ _ (s4 _ _ EM),Lq.same s5,λ l1 l2 H6 F6 pQ iM ME X6=>⟨rfl,?_⟩⟩;have FA:Fx (λ b=>b=P1∨b=P2) H H4:=((Fx.of s1).trans F2).trans (Fx.of S4);have gj:∀ {b:Addr},(b=P1∨b=P2)→∃ u,H4 b=some u:=λ {b} hb=>by
      rcases hb with rfl | rfl
      · obtain ⟨tp,e⟩:=aA.there (aA.same U.t1 S4);exact ⟨_,e⟩
      · obtain ⟨tp,e⟩:=aA.there (aA.same U.t2 S4);exact ⟨_,e⟩
    have EN:H y=none:=dc FA hy λ b hb=>gj hb;have fr:∀ {l:Addr},H5 l=none→H l=none:=λ {l} e=>dc FA (bu s5 e) λ b hb=>gj hb;have yP:∀ {b:Addr} {u:HO},H4 b=some u→b≠y:=λ e z=>by subst z;rw [hy] at e;cases e
    have FB:Fx (λ b=>b=P1∨b=P2) H H6:=λ b u e n=>F6 b u (s5 b u (FA b u e n)) λ z=>by subst z;rw [EN] at e;cases e
    have nf:∀ (b:Addr) (o:Obj) (u:HO),b=y→H5 b≠some (.iD o u):=λ b o u hb z=>by subst hb;rw [Ii] at z;cases z
    have Ma:eN H6 P1:=by
      obtain ⟨tp,e⟩:=aA.there (aA.same U.t1 S4);exact aA.fx (aA.same U.t1 (S4.trans s5)) F6 (yP e) nf
    have L9:eO H6 P2:=by
      obtain ⟨tp,e⟩:=aA.there (aA.same U.t2 S4);exact aA.fx (aA.same U.t2 (S4.trans s5)) F6 (yP e) nf
    refine q y dy l1 l2 _ _ H6 FB EN (fr pQ) (fr iM) ME X6 (qk U p9 hle MC) ?_ ?_ Ma L9
    · unfold Ln.aU;rw [List.length_map];have:=List.length_filter_le (λ c=>has c) (List.range rs.length);rw [List.length_range] at this
      lia
    · unfold Ln.bX;rw [List.length_map];have:=List.length_filter_le (λ i=>decide (0 < h (i + 1) - h i)) (List.range (pts.length - 1));rw [List.length_range] at this;have:=L.pl
      lia
end
section
variable {P:Program} {w:World} {K:PySem.W.Frag} {mg:Str→Option Value} {base:Heap}
theorem map_range {α:Type} (ns:List Int) (g:Int→α):(List.range ns.length).map (λ j=>g (ns.getD j 0))=ns.map g:=by
  conv=>rhs;rw [← range_getD ns 0]
  rw [List.map_map];rfl
theorem zU (rs:Ln.Rs) (ns:List Int) (R:Int):((List.range (ns.map V.int).length).map λ j=>decide (R < ((ns.filter (CG rs (Lg.rq rs (ns.getD j 0).toNat).1)).length:Int))).any id = !hX rs ns R:=by
  have e:(List.range (ns.map V.int).length).map (λ j=>decide (R < ((ns.filter (CG rs (Lg.rq rs (ns.getD j 0).toNat).1)).length:Int)))=ns.map λ c=>decide (R < ((Ln.ba rs ns (Lg.rq rs c.toNat).1).length:Int)):=by
    rw [List.length_map];exact map_range ns λ c=>decide (R < ((Ln.ba rs ns (Lg.rq rs c.toNat).1).length:Int))
  rw [e,List.any_map];unfold hX;rw [List.not_all_eq_any_not];congr 1;funext c;show decide (R < _) = !decide (_≤R)
  by_cases h:R < ((Ln.ba rs ns (Lg.rq rs c.toNat).1).length:Int)
  · rw [decide_eq_true h,decide_eq_false (by lia)];rfl
  · rw [decide_eq_false h,decide_eq_true (by lia)];rfl
theorem xr (ts:List (Int×Int)):((List.range (ts.length - 1)).map λ k=>decide ((ts.getD (k + 1) (0,0)).1≤(ts.getD k (0,0)).1)).any id = !e8 (ts.map (·.1)):=by
  rw [List.any_map];unfold e8;rw [List.not_all_eq_any_not,List.length_map];have gd:∀ k,k < ts.length→(ts.map (·.1)).getD k 0=(ts.getD k (0,0)).1:=λ k hk=>by
    rw [List.getD_eq_getElem?_getD,List.getD_eq_getElem?_getD,List.getElem?_map,List.getElem?_eq_getElem hk];rfl
  rw [Bool.eq_iff_iff,List.any_eq_true,List.any_eq_true];constructor
  · rintro ⟨k,hk,e⟩;refine ⟨k,hk,?_⟩;rw [List.mem_range] at hk;rw [gd k (by omega),gd (k + 1) (by omega)];have e:decide ((ts.getD (k + 1) (0,0)).1≤(ts.getD k (0,0)).1)=true:=e;rw [decide_eq_true_eq] at e;rw [decide_eq_false (by omega)];rfl
  · rintro ⟨k,hk,e⟩;refine ⟨k,hk,?_⟩;rw [List.mem_range] at hk;rw [gd k (by omega),gd (k + 1) (by omega)] at e;show decide ((ts.getD (k + 1) (0,0)).1≤(ts.getD k (0,0)).1)=true;rw [decide_eq_true_eq];have e:(!decide ((ts.getD k (0,0)).1 < (ts.getD (k + 1) (0,0)).1))=true:=e;rw [Bool.not_eq_true',decide_eq_false_iff_not] at e;omega
theorem r9 (ts:List (Int×Int)) (f l:Int):bp (λ j=>decide (f≤(ts.getD j (0,0)).1) && decide ((ts.getD j (0,0)).1≤l)) (λ j=>.int (ts.getD j (0,0)).2) ts.length=((ts.filter λ t=>decide (f≤t.1) && decide (t.1≤l)).map (·.2)).map V.int:=by
  unfold bp
  conv=>rhs;rw [← range_getD ts (0,0)]
  rw [List.filter_map,List.map_map,List.map_map];rfl
theorem fw:az ["_law_requests_here","_law_rooms_here","_law_some","_law_tolls","_law_whole_here","_law_first","_law_last","_law_price"] ["_law_requests_here","_law_rooms_here","_law_some","_law_tolls"] (ao gQ):=dZ
noncomputable def r_:Sp:=λ vs H Q _=>∃ (b a t:Addr) (R:Int) (ns:List Int) (ts:List (Int×Int)) (rs:Ln.Rs),vs=[.ref b,.int R,.ref a,.ref t]∧H a=some (.lst (ns.map V.int))∧aM H t (ts.map dX)∧a9 H b rs∧ns.length≤4000∧ts.length≤60000∧rs.length≤60000∧-(2 ^ 64) < R∧R < 2 ^ 64 ∧
  ∀ H',av H H'→Q (.bl (cN ns ts rs R)) H'
theorem zV (B:Bl mg) (GW:Def P w K mg base bN 1 "_law_whole" ["_law_number"] ix) (GC:Def P w K mg base bN 2 "_law_chosen" ["_law_requests_here","_law_some"] (mJ K)) (GT:Def P w K mg base bN 1 "_law_there" ["_law_requests_here","_law_some","_law_day"] (oI K))
    (GV:Def P w K mg base bN 1 "_law_worth" ["_law_requests_here","_law_some"] iz) (D:FnAt K mg "_law_best" gQ ["_law_requests_here","_law_rooms_here","_law_some","_law_tolls"]) :
    Def P w K mg base bN 3 "_law_best" ["_law_requests_here","_law_rooms_here","_law_some","_law_tolls"] r_:=by
  refine D.ok fw (λ vs H Q E h=>?_) λ f bM A outer s H vs Q E hr h=>?_
  · obtain ⟨b,a,t,R,ns,ts,rs,rfl,_⟩:=h;rfl
  · obtain ⟨b,a,t,R,ns,ts,rs,rfl,ha,hT,hR,y7,EK,JY,zK,zD,q⟩:=h;have de:bc 1 _:=hr.mono (by decide);refine ⟨_,ag (bK (bJ (aW (au GC hr rfl aD (aa (pv 0) (aa (pv 2) ae))))) (aj (aH b7)) aQ)
      (ag (bK (aW (aB (gG rfl) (by rfl) B.any PyProof.Rows.Boot.«any» (aa (bC ["_law_at"] [0,1,2] rfl (aY (pv 2)) λ cl s H fp C =>
          ⟨aV (i:=0) (show (["_law_at","_law_requests_here","_law_rooms_here","_law_some"]:List Str).Nodup by decide +kernel) rfl (Or.inl rfl),br,
            b8 qz (aB (j6 (K:=K)) (by rfl) B.len PySem.boot_len (aa (au GT de rfl aD (aa (pv 1) (aa (pv 3) (aa (aO (cg (K:=K)) (aO (cB (K:=K)) (pv 1) (pv 0) (λ _ _=>rfl)) ai (λ _ _=>rfl)) ae)))) ae)) (pv 2) (aR _)⟩) ae))) (aj (aH b7)) aQ)
      (ag (bK (bJ (aW (aB (bT rfl) (by rfl) B.all PyProof.Rows.Boot.«all» (aa (bC ["_law_day","_law_much"] [] rfl (aY (pv 3)) λ cl s H fp C =>
          ⟨cC (K:=K) 0 1 rfl (show (["_law_day","_law_much"]:List Str).Nodup by decide +kernel),br,cp (au GW de rfl aD (aa (pv 0) ae)) (cp (au GW de rfl aD (aa (pv 1) ae)) (c_ (b8 nL (pv 1) ai (aR _))))⟩) ae)))) (aj (aH b7)) aQ)
      (ag (bK (aW (aB (gG rfl) (by rfl) B.any PyProof.Rows.Boot.«any» (aa (bC ["_law_k"] [3] rfl (h8 rfl B.range (aa (aF di (aB aL (by rfl) B.len PySem.boot_len (aa (pv 3) ae)) ai) ae)) λ cl s H fp C =>
          ⟨aV (i:=0) (show (["_law_k","_law_tolls"]:List Str).Nodup by decide +kernel) rfl (Or.inl rfl),br,b8 nL (aO (cg (K:=K)) (aO (cB (K:=K)) (pv 1) (pv 0) (λ _ _=>rfl)) ai (λ _ _=>rfl))
            (aO (cg (K:=K)) (aO (cB (K:=K)) (pv 1) (aF bj (pv 0) ai) (λ _ _=>rfl)) ai (λ _ _=>rfl)) (aR _)⟩) ae))) (aj (aH b7)) aQ)
      (ag (aK (i:=4) fw.nd rfl (Or.inl rfl) (aF eX (pv 1) (aB (cn rfl) (by rfl) B.sum PyProof.Rows.Boot.«sum» (aa (bC ["_law_day","_law_much"] [] rfl (aY (pv 3)) λ cl s H fp C=>⟨cC (K:=K) 0 1 rfl (show (["_law_day","_law_much"]:List Str).Nodup by decide +kernel),br,pv 1⟩) ae))))
      (ag (ee PassesOwn.never rfl (aY (pv 0)) (o_ rfl (cj (aV (i:=5) fw.nd rfl (Or.inr rfl)) (cj (aV (i:=6) fw.nd rfl (Or.inr rfl)) (cj (aV (i:=7) fw.nd rfl (Or.inl rfl)) kI))))
        (aj (aK (i:=4) fw.nd rfl (Or.inl rfl) (aF bj (pv 4) (aB (jQ rfl) (by rfl) B.max PyProof.Rows.Boot.«max» (aa ai (aa (aF di (pv 7) (aB (cn rfl) (by rfl) B.sum PyProof.Rows.Boot.«sum» (aa (bC ["_law_day","_law_much"] [5,6] rfl (aY (pv 3)) λ cl s H fp C =>
          ⟨cC (K:=K) 0 1 rfl (show (["_law_day","_law_much","_law_first","_law_last"]:List Str).Nodup by decide +kernel),fC (qB lr lr (pv 2) (pv 0) (pv 3)),pv 1⟩) ae))) ae)))))))
      (aj (aH (b8 gw (au GV de rfl aD (aa (pv 0) (aa (pv 2) ae))) (pv 4) (aR _))))))))),?_⟩
    obtain ⟨xs,hx,eM⟩:=hT.list;rw [List.length_map] at eM;obtain ⟨ys,hy,xN,_⟩:=id hR;have q':=q;unfold cN fZ at q';refine ⟨_,rfl,_,rfl,a,b,ns,ys,rfl,ha,aJ.of hy,y7,λ H1 s1=>⟨_,rfl,?_⟩⟩;rw [xN];cases hc:cW ns rs.length with
    | false =>
      rw [hc] at q';exact bW (q' H1 s1)
    | true =>
    rw [hc,Bool.true_and] at q';have iR:∀ c∈ns,0≤c∧c.toNat < rs.length:=λ c h=>dw hc h;refine bV ⟨_,rfl,a,rfl,⟨_,aJ.of (s1 _ _ ha)⟩,λ D1 nC=>?_⟩;refine aX (aI (ns.map V.int)) (λ σ=>∃ o,σ=[o,some (.ref b),some (.int R),some (.ref a)]) (λ j=>.bl (decide (R < ((ns.filter (CG rs (Lg.rq rs (ns.getD j 0).toNat).1)).length:Int)))) nC (by rw [List.length_map];lia) (λ H3 s3=>aJ.of (s3 _ _ (s1 _ _ ha))) ⟨_,rfl⟩ ?_ ?_
    · rintro j v σ H3 mn hj ⟨rfl,gi⟩ s3 ⟨o,rfl⟩ Ky hK;obtain ⟨h1,rfl⟩:=int_at gi;obtain ⟨c0,c1⟩:=iR _ (show ns.getD j 0∈ns by rw [getD_at h1];exact List.getElem_mem h1);have S3:=s1.trans s3;obtain ⟨zs,p,e1,e2,e3⟩:=fW (aC S3 hR) c0 c1;refine ⟨_,rfl,_,rfl,_,rfl,_,rfl,b,_,_,_,rfl,rfl,aJ.of e1,e2,p,_,_,_,rfl,rfl,b_.of e3,(show eA (fj (Lg.rq rs (ns.getD j 0).toNat)) 0=some (.int (Lg.rq rs (ns.getD j 0).toNat).1) from rfl),?_⟩;refine ⟨a,b,ns,_,rs,rfl,S3 _ _ ha,aC S3 hR,iR,by lia,λ l H4 s4 hl h4=>?_⟩;refine ⟨l,_,rfl,.inl (aJ.of h4),_,rfl,_,_,rfl,rfl,hK _ _ _ s4 ⟨_,rfl⟩ ?_⟩;rw [List.length_map]
    intro H2 s2 h2;have S2:=s1.trans s2;refine ⟨D1,(List.range (ns.map V.int).length).map λ j=>decide (R < ((ns.filter (CG rs (Lg.rq rs (ns.getD j 0).toNat).1)).length:Int)),rfl,aJ.of (by rw [h2,List.map_map];rfl),_,rfl,?_⟩;rw [zU];cases hf:hX rs ns R with
    | false =>
      rw [hf] at q';exact bW (q' H2 S2)
    | true =>
    rw [hf,Bool.true_and] at q';refine bV ⟨_,rfl,t,rfl,⟨_,aJ.of (S2 _ _ hx)⟩,λ D2 vz=>?_⟩;refine aX (aI xs) (λ σ=>∃ o1 o2,σ=[o1,o2]) (λ j=>.bl (decide (0≤(ts.getD j (0,0)).2))) vz (by lia) (λ H3 s3=>aJ.of (s3 _ _ (S2 _ _ hx))) ⟨_,_,rfl⟩ ?_ ?_
    · rintro j v σ H3 mn hj ⟨rfl,gi⟩ s3 ⟨o1,o2,rfl⟩ Ky hK;obtain ⟨p,ie,rfl,hp⟩:=cU hT hx gi;refine ⟨p,_,rfl,b_.of (s3 _ _ (S2 _ _ hp)),rfl,_,_,rfl,_,_,rfl,rfl,?_⟩;exact ⟨_,rfl,_,rfl,_,rfl,bW ⟨_,rfl,_,rfl,_,rfl,bW ⟨_,rfl,_,_,rfl,rfl,hK _ _ _ (av.refl _) ⟨_,_,rfl⟩ rfl⟩⟩⟩
    intro H3 s3 h3;have S3:=S2.trans s3;rw [eM] at h3;refine ⟨D2,(List.range ts.length).map λ j=>decide (0≤(ts.getD j (0,0)).2),rfl,aJ.of (by rw [h3,List.map_map];rfl),_,rfl,?_⟩;have e1:((List.range ts.length).map λ j=>decide (0≤(ts.getD j (0,0)).2)).all id=posB ts:=by
      rw [c9 ts λ t=>decide (0≤t.2),List.all_map];rfl
    rw [e1];cases hp:posB ts with
    | false =>
      rw [hp] at q';exact bW (q' H3 S3)
    | true =>
    rw [hp,Bool.true_and] at q';refine bV ⟨_,rfl,t,_,rfl,.inl (aJ.of (S3 _ _ hx)),_,_,rfl,rfl,_,rfl,by lia,by lia,λ D3 qt=>?_⟩;have en:((xs.length:Int) - 1).toNat=ts.length - 1:=by lia
    rw [en];refine aX d5 (λ σ=>∃ o,σ=[o,some (.ref t)]) (λ k=>.bl (decide ((ts.getD (k + 1) (0,0)).1≤(ts.getD k (0,0)).1))) qt (by lia) (λ _ _=>trivial) ⟨_,rfl⟩ ?_ ?_
    · rintro j v σ OT H4 hj ⟨rfl,rfl⟩ s4 ⟨o,rfl⟩ Ky hK;have S4:=S3.trans s4;obtain ⟨p1,_,Sr,HP⟩:=cU hT hx (List.getElem?_eq_getElem (show j < xs.length by lia));obtain ⟨p2,_,Ss,E6⟩:=cU hT hx (List.getElem?_eq_getElem (show j + 1 < xs.length by lia));have a1:eA xs (0 + (j:Int))=some (.ref p1):=by
        rw [Int.zero_add,← Sr];exact eP (List.getElem?_eq_getElem (show j < xs.length by lia))
      have a2:eA xs (0 + (j:Int) + 1)=some (.ref p2):=by
        rw [Int.zero_add,← Ss];exact eP (j:=j + 1) (List.getElem?_eq_getElem (show j + 1 < xs.length by lia))
      refine ⟨_,rfl,_,rfl,t,_,_,_,rfl,rfl,aJ.of (S4 _ _ hx),a1,p1,_,_,_,rfl,rfl,b_.of (S4 _ _ HP),(show eA [V.int (ts.getD j (0,0)).1,V.int (ts.getD j (0,0)).2] 0=some (.int (ts.getD j (0,0)).1) from rfl),?_⟩;exact ⟨_,rfl,_,rfl,_,_,rfl,rfl,t,_,_,_,rfl,rfl,aJ.of (S4 _ _ hx),a2,p2,_,_,_,rfl,rfl,b_.of (S4 _ _ E6),(show eA [V.int (ts.getD (j + 1) (0,0)).1,V.int (ts.getD (j + 1) (0,0)).2] 0=some (.int (ts.getD (j + 1) (0,0)).1) from rfl),_,_,rfl,rfl,hK _ _ _ (av.refl _) ⟨_,rfl⟩ rfl⟩
    intro H4 s4 h4;have S4:=S3.trans s4;refine ⟨D3,(List.range (ts.length - 1)).map λ k=>decide ((ts.getD (k + 1) (0,0)).1≤(ts.getD k (0,0)).1),rfl,aJ.of (by rw [h4,List.map_map];rfl),_,rfl,?_⟩;rw [xr];cases O9:e8 (ts.map (·.1)) with
    | false =>
      rw [O9] at q';exact bW (q' H4 S4)
    | true =>
    rw [O9,Bool.true_and] at q';refine bV ⟨_,rfl,_,rfl,t,rfl,⟨_,aJ.of (S4 _ _ hx)⟩,λ D4 Su=>?_⟩;refine aX (aI xs) (λ σ=>∃ o1 o2,σ=[o1,o2]) (λ j=>.int (ts.getD j (0,0)).2) Su (by lia) (λ H5 s5=>aJ.of (s5 _ _ (S4 _ _ hx))) ⟨_,_,rfl⟩ ?_ ?_
    · rintro j v σ H5 N6 hj ⟨rfl,gi⟩ s5 ⟨o1,o2,rfl⟩ Ky hK;obtain ⟨p,ie,rfl,hp⟩:=cU hT hx gi;exact ⟨p,_,rfl,b_.of (s5 _ _ (S4 _ _ hp)),rfl,_,_,rfl,_,_,rfl,rfl,_,rfl,hK _ _ _ (av.refl _) ⟨_,_,rfl⟩ rfl⟩
    intro H5 s5 h5;have S5:=S4.trans s5;rw [eM,c9 ts λ t=>V.int t.2] at h5;refine ⟨D4,ts.map (·.2),rfl,aJ.of (by rw [h5,List.map_map];rfl),_,_,rfl,rfl,.inl ⟨zK,zD⟩,?_⟩;refine ⟨_,rfl,b,rfl,⟨_,aJ.of (S5 _ _ hy)⟩,?_⟩;refine eI (aI ys) (λ i σ H6=>∃ o5 o6 o7,σ=[some (.ref b),some (.int R),some (.ref a),some (.ref t),some (.int (R * Ln.gp ts + ((rs.take i).map λ r=>max 0 (r.2.2 - Ln.mF ts r.1 r.2.1)).sum)),o5,o6,o7]∧av H H6) (λ i σ H6 _ z=>?_) ?_ ?_ ?_
    · obtain ⟨o5,o6,o7,_,s6⟩:=z;exact aJ.of (s6 _ _ hy)
    · refine ⟨none,none,none,?_,S5⟩;show [some (V.ref b),some (V.int R),some (V.ref a),some (V.ref t),some (V.int (R * (ts.map (·.2)).sum)),none,none,none]=[some (V.ref b),some (V.int R),some (V.ref a),some (V.ref t),some (V.int (R * (ts.map (·.2)).sum + 0)),none,none,none];rw [Int.add_zero]
    · rintro i v σ OV H6 hi ⟨rfl,HD⟩ ⟨o5,o6,o7,rfl,s6⟩;obtain ⟨p,rfl,hp⟩:=fV hR hy HD;have dG:i < rs.length:=by lia
      refine ⟨p,_,rfl,b_.of (s6 _ _ hp),rfl,_,_,rfl,_,_,rfl,_,_,rfl,rfl,?_⟩;refine ⟨_,rfl,_,rfl,_,rfl,t,rfl,⟨_,aJ.of (s6 _ _ hx)⟩,λ D5 Sv=>?_⟩;refine fk (aI xs) (λ σ=>∃ o1 o2,σ=[o1,o2,some (.int (Lg.rq rs i).1),some (.int (Lg.rq rs i).2.1)]) (λ j=>decide ((Lg.rq rs i).1≤(ts.getD j (0,0)).1) && decide ((ts.getD j (0,0)).1≤(Lg.rq rs i).2.1)) (λ j=>.int (ts.getD j (0,0)).2) Sv (by lia) (λ H7 s7=>aJ.of (s7 _ _ (s6 _ _ hx))) ⟨_,_,rfl⟩ ?_ ?_
      · rintro j v σ H7 Vc hj ⟨rfl,gi⟩ s7 ⟨o1,o2,rfl⟩ Ky Kn hY hN;obtain ⟨p,ie,rfl,hp⟩:=cU hT hx gi;refine ⟨p,_,rfl,b_.of (s7 _ _ (s6 _ _ hp)),rfl,_,_,rfl,_,_,rfl,rfl,?_⟩;refine ⟨_,rfl,_,rfl,_,_,rfl,rfl,_,rfl,?_⟩
        by_cases d1:(Lg.rq rs i).1≤(ts.getD j (0,0)).1
        · refine fE (by simpa using d1) ⟨_,rfl,_,_,rfl,rfl,_,rfl,?_⟩
          by_cases d2:(ts.getD j (0,0)).1≤(Lg.rq rs i).2.1
          · exact fE (by simpa using d2) ⟨_,rfl,hY _ _ _ (av.refl _) ⟨_,_,rfl⟩ (by rw [decide_eq_true d1,decide_eq_true d2];rfl) rfl⟩
          · exact df (by simpa using d2) (hN _ _ (av.refl _) ⟨_,_,rfl⟩ (by rw [decide_eq_false d2,Bool.and_false]))
        · refine df (by simpa using d1) ⟨_,rfl,bV (hN _ _ (av.refl _) ⟨_,_,rfl⟩ (by rw [decide_eq_false d1,Bool.false_and]))⟩
      intro H7 s7 h7;rw [eM,r9] at h7;refine ⟨D5,_,rfl,aJ.of h7,_,_,rfl,rfl,_,_,rfl,_,_,rfl,rfl,some (V.int (Lg.rq rs i).1),some (V.int (Lg.rq rs i).2.1),some (V.int (Lg.rq rs i).2.2),?_,s6.trans s7⟩;have e2:=rZ (f:=λ r=>max 0 (r.2.2 - Ln.mF ts r.1 r.2.1)) dG;rw [e2,← Int.add_assoc,← max_eq];rfl
    · rintro σ H6 ⟨o5,o6,o7,rfl,s6⟩;have e:rs.take ys.length=rs:=List.take_of_length_le (by lia);rw [e];refine ⟨_,rfl,_,rfl,a,b,ns,rs,rfl,s6 _ _ ha,aC s6 hR,iR,by lia,λ H7 s7=>?_⟩;refine ⟨_,rfl,rfl,?_⟩;have q7:=q' H7 (s6.trans s7);rw [← eq_int] at q7;exact q7
end
end Sp
namespace Ln
theorem most {f:Int→Int}:∀ {l:List Int},l≠[]→∃ c∈l,∀ d∈l,f d≤f c
  | [],h=>absurd rfl h
  | [c],_=>⟨c,by simp,λ d hd=>by rw [List.mem_singleton.mp hd];exact Int.le_refl _⟩
  | c :: e :: l,_=>by
    obtain ⟨m,hm,h⟩:=most (f:=f) (l:=e :: l) (by simp)
    by_cases z:f m≤f c
    · refine ⟨c,by simp,λ d hd=>?_⟩;rcases List.mem_cons.mp hd with rfl | hd
      · exact Int.le_refl _
      · exact Int.le_trans (h d hd) z
    · refine ⟨m,List.mem_cons_of_mem _ hm,λ d hd=>?_⟩;rcases List.mem_cons.mp hd with rfl | hd
      · lia
      · exact h d hd
theorem ql {rs:Rs} {ns:List Int} {R:Int} (h0:0≤R) (h:∀ c∈ns,((ba rs ns (Lg.rq rs c.toNat).1).length:Int)≤R) (d:Int):((ba rs ns d).length:Int)≤R:=by
  by_cases e:ba rs ns d=[]
  · rw [e];exact h0
  · obtain ⟨c,hc,hm⟩:=most (f:=λ c=>(Lg.rq rs c.toNat).1) e;obtain ⟨c1,c2⟩:=List.mem_filter.mp hc;rw [Bool.and_eq_true,decide_eq_true_eq,decide_eq_true_eq] at c2;have h1:=h c c1;have h2:(ba rs ns d).length≤(ba rs ns (Lg.rq rs c.toNat).1).length:=by
      unfold ba;rw [← List.countP_eq_length_filter,← List.countP_eq_length_filter];refine List.countP_mono_left λ x hx hp=>?_;have h3:=hm x (List.mem_filter.mpr ⟨hx,hp⟩);rw [Bool.and_eq_true,decide_eq_true_eq,decide_eq_true_eq] at hp ⊢;exact ⟨h3,Int.le_trans c2.1 hp.2⟩
    lia
theorem zW (t:Int×Int) (ts:List (Int×Int)) (f l:Int):mF (t :: ts) f l=(if f≤t.1∧t.1≤l then t.2 else 0) + mF ts f l:=by
  unfold mF
  by_cases h1:f≤t.1<;>by_cases h2:t.1≤l<;>simp [List.filter,h1,h2]
theorem se (ns:List Int) (f g:Int→Int):(ns.map λ c=>f c + g c).sum=(ns.map f).sum + (ns.map g).sum:=by
  induction ns with
  | nil=>rfl
  | cons c ns ih=>simp only [List.map_cons,List.sum_cons,ih];lia
theorem BU (ns:List Int) {f g:Int→Int} (h:∀ c∈ns,f c≤g c):(ns.map f).sum≤(ns.map g).sum:=by
  induction ns with
  | nil=>exact Int.le_refl _
  | cons c ns ih =>
    simp only [List.map_cons,List.sum_cons];have:=h c (by simp);have:=ih λ d hd=>h d (List.mem_cons_of_mem _ hd)
    lia
theorem vK (rs:Rs) (d m:Int):∀ ns:List Int,(ns.map λ c=>if (Lg.rq rs c.toNat).1≤d∧d≤(Lg.rq rs c.toNat).2.1 then m else 0).sum=((ba rs ns d).length:Int) * m
  | []=>by simp [ba]
  | c :: ns=>by
    have ih:=vK rs d m ns;unfold ba at *;rw [List.map_cons,List.sum_cons,ih]
    by_cases h:(Lg.rq rs c.toNat).1≤d∧d≤(Lg.rq rs c.toNat).2.1
    · rw [if_pos h,List.filter_cons_of_pos (by simp [h.1,h.2]),List.length_cons];have:(((ns.filter λ c=>decide ((Lg.rq rs c.toNat).1≤d) && decide (d≤(Lg.rq rs c.toNat).2.1)).length + 1:Nat):Int)=((ns.filter λ c=>decide ((Lg.rq rs c.toNat).1≤d) && decide (d≤(Lg.rq rs c.toNat).2.1)).length:Int) + 1:=by lia
      rw [this,Int.add_mul]
      lia
    · rw [if_neg h,List.filter_cons_of_neg (by simp;intro a;exact Int.lt_of_not_ge λ b=>h ⟨a,b⟩)]
      lia
theorem vL {rs:Rs} {ns:List Int} {R:Int} (hd:∀ d,((ba rs ns d).length:Int)≤R):∀ {ts:List (Int×Int)},(∀ t∈ts,0≤t.2)→(ns.map λ c=>mF ts (Lg.rq rs c.toNat).1 (Lg.rq rs c.toNat).2.1).sum≤R * gp ts
  | [],_=>by
    have:(ns.map λ c=>mF [] (Lg.rq rs c.toNat).1 (Lg.rq rs c.toNat).2.1).sum=0:=by
      induction ns with
      | nil=>rfl
      | cons c ns ih =>
        rw [List.map_cons,List.sum_cons];have h2:∀ l:List Int,(l.map λ c=>mF [] (Lg.rq rs c.toNat).1 (Lg.rq rs c.toNat).2.1).sum=0:=λ l=>by
          induction l with
          | nil=>rfl
          | cons c l ih=>rw [List.map_cons,List.sum_cons,ih];rfl
        rw [h2];rfl
    rw [this];show 0≤R * 0
    lia
  | t :: ts,hp=>by
    have ih:=vL hd (ts:=ts) λ u hu=>hp u (List.mem_cons_of_mem _ hu);have e:(ns.map λ c=>mF (t :: ts) (Lg.rq rs c.toNat).1 (Lg.rq rs c.toNat).2.1)=ns.map λ c=>(if (Lg.rq rs c.toNat).1≤t.1∧t.1≤(Lg.rq rs c.toNat).2.1 then t.2 else 0) + mF ts (Lg.rq rs c.toNat).1 (Lg.rq rs c.toNat).2.1:=List.map_congr_left λ c _=>zW t ts _ _;rw [e,se,vK];have h1:=hd t.1;have h2:=hp t (by simp);have h3:((ba rs ns t.1).length:Int) * t.2≤R * t.2:=Int.mul_le_mul_of_nonneg_right h1 h2;have h4:gp (t :: ts)=t.2 + gp ts:=by unfold gp;simp
    rw [h4,Int.mul_add]
    lia
theorem vM:∀ {xs ys:List Int},xs.Pairwise (· < ·)→ys.Pairwise (· < ·)→(∀ n,n∈xs↔n∈ys)→xs=ys
  | [],[],_,_,_=>rfl
  | [],y :: ys,_,_,h=>by have:=(h y).mpr (by simp);simp at this
  | x :: xs,[],_,_,h=>by have:=(h x).mp (by simp);simp at this
  | x :: xs,y :: ys,hx,hy,h=>by
    obtain ⟨a1,a2⟩:=List.pairwise_cons.mp hx;obtain ⟨b1,b2⟩:=List.pairwise_cons.mp hy;have e:x=y:=by
      rcases List.mem_cons.mp ((h x).mp (by simp)) with e | e
      · exact e
      · rcases List.mem_cons.mp ((h y).mpr (by simp)) with e' | e'
        · exact e'.symm
        · have:=b1 x e;have:=a1 y e'
          lia
    subst e;rw [vM a2 b2 λ n=>?_];constructor
    · intro hn;rcases List.mem_cons.mp ((h n).mp (List.mem_cons_of_mem _ hn)) with e | e
      · have:=a1 n hn;lia
      · exact e
    · intro hn;rcases List.mem_cons.mp ((h n).mpr (List.mem_cons_of_mem _ hn)) with e | e
      · have:=b1 n hn;lia
      · exact e
theorem iA {ns:List Int} {n:Nat} (ho:ns.Pairwise (· < ·)) (iR:∀ c∈ns,0≤c∧c.toNat < n):ns=aU (λ c=>decide ((c:Int)∈ns)) n:=by
  refine vM ho (fU _ _) λ c=>⟨λ h=>?_,λ h=>?_⟩
  · obtain ⟨h1,h2⟩:=iR c h;refine List.mem_map.mpr ⟨c.toNat,List.mem_filter.mpr ⟨List.mem_range.mpr h2,?_⟩,by lia⟩;rw [decide_eq_true_eq,show ((c.toNat:Nat):Int)=c by lia];exact h
  · obtain ⟨d,hd,rfl⟩:=List.mem_map.mp h;exact of_decide_eq_true (List.mem_filter.mp hd).2
theorem uE (has:Nat→Bool) (n:Nat) (f:Nat→Int):((aU has n).map λ c=>f c.toNat).sum=sm (λ c=>if has c then f c else 0) n:=by
  unfold aU;rw [List.map_map];show (((List.range n).filter λ c=>has c).map λ (c:Nat)=>f ((c:Int)).toNat).sum=_;rw [fm];exact bG λ c _=>by rw [Int.toNat_natCast]
theorem vN {rs:Rs} {ns:List Int} (ho:ns.Pairwise (· < ·)) (iR:∀ c∈ns,0≤c∧c.toNat < rs.length) {f:Int×Int×Int→Int} (h0:∀ c,c < rs.length→0≤f (Lg.rq rs c)):(ns.map λ c=>f (Lg.rq rs c.toNat)).sum≤(rs.map f).sum:=by
  rw [iA ho iR,uE _ _ λ c=>f (Lg.rq rs c),zi];refine kC λ c hc=>?_;have:=h0 c hc;split<;>lia
theorem weak {rs:Rs} {ns:List Int} {ts:List (Int×Int)} {R:Int} (h0:0≤R) (ho:ns.Pairwise (· < ·)) (iR:∀ c∈ns,0≤c∧c.toNat < rs.length) (hf:∀ c∈ns,((ba rs ns (Lg.rq rs c.toNat).1).length:Int)≤R) (hp:∀ t∈ts,0≤t.2):aG rs ns≤R * gp ts + e_ rs ts:=by
  have h1:=vL (ts:=ts) (ql h0 hf) hp;have h2:=vN (f:=λ r=>max 0 (r.2.2 - mF ts r.1 r.2.1)) ho iR λ c _=>by omega
  have h3:aG rs ns≤(ns.map λ c=>mF ts (Lg.rq rs c.toNat).1 (Lg.rq rs c.toNat).2.1 + max 0 ((Lg.rq rs c.toNat).2.2 - mF ts (Lg.rq rs c.toNat).1 (Lg.rq rs c.toNat).2.1)).sum:=BU ns λ c _=>by omega
  rw [se] at h3;have h4:e_ rs ts=(rs.map λ r=>max 0 (r.2.2 - mF ts r.1 r.2.1)).sum:=rfl;rw [h4];omega
theorem sf {rs:Rs} {ns:List Int} (ho:ns.Pairwise (· < ·)) (iR:∀ c∈ns,0≤c∧c.toNat < rs.length) (hg:∀ c,c < rs.length→0≤(Lg.rq rs c).2.2):aG rs ns≤(rs.map λ r=>r.2.2).sum:=vN (f:=λ r=>r.2.2) ho iR hg
section
variable {G:Net} {has:Nat→Bool} {R:Int}
theorem zX (ok:G.Ok) {p:Nat→Int} (hp:ck G has R p) (h0:p 0=0):∃ h way,Cl G has R p h way∧ck G has R h:=by
  have go:∀ (n:Nat) (h:Nat→Int) (way:Nat→Nat×Option Nat),room G p h≤n→Cl G has R p h way→∃ h way,Cl G has R p h way∧ck G has R h:=by
    intro n
    induction n with
    | zero =>
      intro h way hr C;refine ⟨h,way,C,λ u v g k m=>?_⟩;refine Classical.byContradiction λ z=>?_;have C':=C.raise ok hp h0 m (by lia);have hv:=(m.bounds ok).2.1;have:=p_ (h:=h) (λ v hv=>C'.le v hv) (λ x _=>by
        by_cases e:x=v
        · subst e;rw [aT];lia
        · rw [bf e];lia) hv (by rw [aT];lia)
      lia
    | succ n ih =>
      intro h way hr C
      by_cases f:ck G has R h
      · exact ⟨h,way,C,f⟩
      · obtain ⟨u,v,g,k,m,z⟩:∃ u v g k,Move G has R u v g k∧h v < h u + g:=by
          refine Classical.byContradiction λ z=>f λ u v g k m=>?_;refine Classical.byContradiction λ z2=>z ⟨u,v,g,k,m,by lia⟩
        have C':=C.raise ok hp h0 m z;have hv:=(m.bounds ok).2.1;have:=p_ (h:=h) (λ v hv=>C'.le v hv) (λ x _=>by
          by_cases e:x=v
          · subst e;rw [aT];lia
          · rw [bf e];lia) hv (by rw [aT];lia)
        exact ih _ _ (by lia) C'
  exact go _ _ _ (Nat.le_refl _) (Cl.start ok hp h0)
theorem BV (ok:G.Ok) {p h:Nat→Int} {way:Nat→Nat×Option Nat} (C:Cl G has R p h way) (hh:ck G has R h):∀ (n v:Nat) (bq:Nat→Bool),Reach way v n→Wk G has R h way v bq→∃ dA,Wk G has R h way 0 dA:=by
  intro n
  induction n with
  | zero =>
    intro v bq r W;cases r;exact ⟨bq,W⟩
  | succ n ih =>
    intro v bq r W;cases r with
    | step hv r=>exact ih _ _ r (W.step ok C hh hv)
theorem vO (ok:G.Ok):∀ r:Nat,∃ (has:Nat→Bool) (p:Nat→Int),ck G has (r:Nat) p∧p 0=0∧∀ i,i + 1 < G.N→G.used has i≤(r:Nat)
  | 0=>⟨λ _=>false,_,oA ok,by simp,λ i _=>by
      unfold Net.used;have ez:sm (λ c=>one (false && G.at c i)) G.n=sm (λ _=>0) G.n:=bG λ c _=>rfl;rw [ez,eW];exact Int.le_refl _⟩
  | r + 1=>by
    obtain ⟨has,p,hp,h0,hu⟩:=vO ok r;obtain ⟨h,way,C,hh⟩:=zX ok hp h0
    by_cases hN:0 < G.N
    · obtain ⟨n,hr⟩:=C.reach (G.N - 1) (by lia);obtain ⟨dA,W⟩:=BV ok C hh n _ has hr (Wk.start (p:=p) hN hh);obtain ⟨d1,d2,_⟩:=W.done hh hu;refine ⟨dA,h,?_,C.zero h0 hN,λ i hi=>?_⟩
      · rw [show ((r + 1:Nat):Int)=(r:Nat) + 1 by lia];exact d1
      · have:=d2 i hi
        lia
    · refine ⟨has,p,λ u v g k m=>?_,h0,λ i hi=>by lia⟩;have:=(m.bounds ok).1
      lia
theorem vP {f g:Nat→Int}:∀ (n:Nat),(∀ c,c < n→f c≤g c)→sm g n≤sm f n→∀ c,c < n→f c=g c:=by
  intro n
  induction n with
  | zero=>intro _ _ c hc;lia
  | succ n ih =>
    intro h e c hc;have a:=h n (by lia);have b:=kC (f:=f) (g:=g) (n:=n) λ c hc=>h c (by lia);have e':sm g n + g n≤sm f n + f n:=e
    by_cases z:c=n
    · subst z
      lia
    · exact ih (λ c hc=>h c (by lia)) (by lia) c (by lia)
theorem IE (ok:G.Ok) {has dA:Nat→Bool} {h:Nat→Int} (hh:ck G has R h) (hu:∀ i,i + 1 < G.N→G.used has i≤R) (Eg:∀ i,i + 1 < G.N→G.used dA i≤R) (hw:G.worth has≤G.worth dA):ck G dA R h:=by
  have sh:=shown ok hh hu;have e2:sm (λ c=>one (dA c) * G.gn h c) G.n=sm (λ i=>G.used dA i * (h (i + 1) - h i)) (G.N - 1):=by
    have a1:sm (λ c=>one (dA c) * G.gn h c) G.n=sm (λ c=>sm (λ i=>one (dA c && G.at c i) * (h (i + 1) - h i)) (G.N - 1)) G.n:=by
      refine bG λ c hc=>?_;rw [← mr ok h hc,← fR];refine bG λ i _=>?_;cases dA c<;>simp [one]
    rw [a1,k6];refine bG λ i _=>?_;unfold Net.used;rw [show (λ c=>one (dA c && G.at c i) * (h (i + 1) - h i))=λ c=>(h (i + 1) - h i) * one (dA c && G.at c i) from funext λ c=>Int.mul_comm _ _,fR,Int.mul_comm]
  have l1:∀ i,i < G.N - 1→G.used dA i * (h (i + 1) - h i)≤R * (h (i + 1) - h i):=λ i hi=>by
    have:=jA hh (i:=i) (by lia);exact Int.mul_le_mul_of_nonneg_right (Eg i (by lia)) (by lia)
  have l2:∀ c,c < G.n→(if dA c then G.w c else 0) + (-1) * (one (dA c) * G.gn h c)≤max 0 (G.w c - G.gn h c):=λ c _=>by
    cases dA c<;>simp [one]<;>lia
  have s1:=kC l1;have s2:=kC l2;have ew:sm (λ c=>(if dA c then G.w c else 0) + (-1) * (one (dA c) * G.gn h c)) G.n=G.worth dA - sm (λ c=>one (dA c) * G.gn h c) G.n:=by
    rw [p8,fR];unfold Net.worth
    lia
  have em:sm (λ i=>R * (h (i + 1) - h i)) (G.N - 1)=R * sm (λ i=>h (i + 1) - h i) (G.N - 1):=fR;have t1:=vP _ l1 (by lia);have t2:=vP _ l2 (by lia);intro u v g k m;cases m with
  | idle _ hi=>exact hh _ _ _ _ (.idle _ hi)
  | take c hc f =>
    have:=t2 c hc;rw [f] at this;unfold Net.gn at this;simp [one] at this
    lia
  | give c hc f =>
    have:=t2 c hc;rw [f] at this;unfold Net.gn at this;simp [one] at this
    lia
  | fill _ hi us =>
    have a:=t1 v (by lia);have b:=jA hh hi;have c:(R - G.used dA v) * (h (v + 1) - h v)=0:=by
      rw [Int.sub_mul]
      lia
    rcases Int.mul_eq_zero.mp c with z | z
    · lia
    · lia
end
structure oS (rs:Rs) (ns:List Int) (R:Int):Prop where
  ord:ns.Pairwise (· < ·)
  sU:∀ c∈ns,0≤c∧c.toNat < rs.length
  day:∀ d,((ba rs ns d).length:Int)≤R
structure kD (rs:Rs) (ns:List Int) (ts:List (Int×Int)) (R:Int):Prop where
  fit:oS rs ns R
  pos:∀ t∈ts,0≤t.2
  eq:aG rs ns=R * gp ts + e_ rs ts
theorem kD.most {rs:Rs} {ns ms:List Int} {ts:List (Int×Int)} {R:Int} (S:kD rs ns ts R) (h0:0≤R) (F:oS rs ms R):aG rs ms≤aG rs ns:=by
  rw [S.eq];exact weak h0 F.ord F.sU (λ c _=>F.day _) S.pos
section
variable {rs:Rs} {x:Int×Int×Int} {R:Int}
theorem vQ {c:Nat} (h:c < rs.length):Lg.rq (rs ++ [x]) c=Lg.rq rs c:=by
  unfold Lg.rq;rw [List.getD_eq_getElem?_getD,List.getD_eq_getElem?_getD,List.getElem?_append_left h]
theorem uF:Lg.rq (rs ++ [x]) rs.length=x:=by
  unfold Lg.rq;rw [List.getD_eq_getElem?_getD,List.getElem?_append_right (Nat.le_refl _),Nat.sub_self];rfl
theorem iB {ns:List Int} (h:∀ c∈ns,0≤c∧c.toNat < rs.length):aG (rs ++ [x]) ns=aG rs ns:=by
  unfold aG;congr 1;exact List.map_congr_left λ c hc=>by rw [vQ (h c hc).2]
theorem dC {ns:List Int} (h:∀ c∈ns,0≤c∧c.toNat < rs.length):aG (rs ++ [x]) (ns ++ [(rs.length:Int)])=aG rs ns + x.2.2:=by
  have e:=iB (x:=x) h;unfold aG at e ⊢;rw [List.map_append,List.sum_append,e];simp [uF]
theorem ki {ns:List Int} (h:∀ c∈ns,0≤c∧c.toNat < rs.length) (d:Int):ba (rs ++ [x]) ns d=ba rs ns d:=by
  unfold ba;exact List.filter_congr λ c hc=>by rw [vQ (h c hc).2]
theorem si {f l q q':Int} {ns:List Int} (d:Int):ba (rs ++ [(f,l,q)]) ns d=ba (rs ++ [(f,l,q')]) ns d:=by
  have e:∀ c,(Lg.rq (rs ++ [(f,l,q)]) c).1=(Lg.rq (rs ++ [(f,l,q')]) c).1∧(Lg.rq (rs ++ [(f,l,q)]) c).2.1=(Lg.rq (rs ++ [(f,l,q')]) c).2.1:=λ c=>by
    by_cases h:c < rs.length
    · rw [vQ h,vQ h];exact ⟨rfl,rfl⟩
    · by_cases h2:c=rs.length
      · subst h2;rw [uF,uF];exact ⟨rfl,rfl⟩
      · unfold Lg.rq;rw [List.getD_eq_getElem?_getD,List.getD_eq_getElem?_getD,List.getElem?_eq_none (by simp;lia),List.getElem?_eq_none (by simp;lia)];exact ⟨rfl,rfl⟩
  unfold ba;exact List.filter_congr λ c _=>by rw [(e c.toNat).1,(e c.toNat).2]
theorem oS.CS {f l q q':Int} {ns:List Int} (F:oS (rs ++ [(f,l,q)]) ns R):oS (rs ++ [(f,l,q')]) ns R :=
  ⟨F.ord,λ c hc=>by have:=F.sU c hc;simp at this ⊢;exact this,λ d=>by rw [si (q':=q)];exact F.day d⟩
theorem oS.ext {ns:List Int} (F:oS rs ns R):oS (rs ++ [x]) ns R :=
  ⟨F.ord,λ c hc=>by have:=F.sU c hc;simp;omega,λ d=>by rw [ki F.sU];exact F.day d⟩
theorem oS.old {ns:List Int} (F:oS (rs ++ [x]) ns R) (h:(rs.length:Int)∉ns):oS rs ns R:=by
  have i:∀ c∈ns,0≤c∧c.toNat < rs.length:=λ c hc=>by
    have:=F.sU c hc;simp at this;have ne:c≠(rs.length:Int):=λ z=>h (z ▸ hc)
    lia
  exact ⟨F.ord,i,λ d=>by rw [← ki (x:=x) i];exact F.day d⟩
theorem vR {ns:List Int} {n:Nat} (ho:ns.Pairwise (· < ·)) (hi:∀ c∈ns,0≤c∧c.toNat < n + 1) (h:(n:Int)∈ns):∃ ms,ns=ms ++ [(n:Int)]∧ms.Pairwise (· < ·)∧∀ c∈ms,0≤c∧c.toNat < n:=by
  obtain ⟨a,b,rfl⟩:=List.append_of_mem h;obtain ⟨p1,p2,p3⟩:=List.pairwise_append.mp ho;have hb:b=[]:=by
    cases b with
    | nil=>rfl
    | cons y ys =>
      have h1:=(List.pairwise_cons.mp p2).1 y (by simp);have h2:=hi y (by simp)
      lia
  subst hb;refine ⟨a,rfl,p1,λ c hc=>?_⟩;have h1:=p3 c hc (n:Int) (by simp);have h2:=hi c (by simp [hc])
  lia
theorem oS.drop {ns:List Int} (F:oS (rs ++ [x]) (ns ++ [(rs.length:Int)]) R):oS rs ns R:=by
  have i:∀ c∈ns,0≤c∧c.toNat < rs.length:=λ c hc=>by
    have h1:=(List.pairwise_append.mp F.ord).2.2 c hc (rs.length:Int) (by simp);have h2:=F.sU c (by simp [hc]);omega
  refine ⟨(List.pairwise_append.mp F.ord).1,i,λ d=>?_⟩;have h:=F.day d;unfold ba at h;rw [List.filter_append,List.length_append] at h;rw [← ki (x:=x) i];unfold ba;omega
end
structure qm (rs:Rs) (f l R q W:Int) (tk:List Int):Prop where
  ex:∃ ms,tk=ms ++ [(rs.length:Int)]∧(∀ c∈ms,0≤c∧c.toNat < rs.length)∧q=W - aG rs ms
  pos:0≤q
  fit:∀ q',oS (rs ++ [(f,l,q')]) tk R
  worth:aG (rs ++ [(f,l,q)]) tk=W
  most:∀ q' ms,oS (rs ++ [(f,l,q')]) ms R→aG (rs ++ [(f,l,q')]) ms≤max W (W - q + q')
theorem BW {rs:Rs} {f l R:Int} {os tk:List Int} {Sw IF:List (Int×Int)} (hR:1≤R) (hg:∀ c,c < rs.length→0≤(Lg.rq rs c).2.2) (S2:kD rs os IF R) (S1:kD (rs ++ [(f,l,(rs.map λ r=>r.2.2).sum + 1)]) tk Sw R) :
    (rs.length:Int)∈tk∧qm rs f l R (aG rs os - aG rs tk.dropLast) (aG rs os) tk:=by
  have hN:(rs.length:Int)∈tk:=by
    refine Classical.byContradiction λ z=>?_;have F0:=S1.fit.old z;have w0:=sf F0.ord F0.sU hg;have w1:=iB (x:=(f,l,(rs.map λ r=>r.2.2).sum + 1)) F0.sU;have F1:oS (rs ++ [(f,l,(rs.map λ r=>r.2.2).sum + 1)]) ([] ++ [(rs.length:Int)]) R:=by
      refine ⟨by simp,λ c hc=>by simp at hc;subst hc;simp,λ d=>?_⟩;have:(ba (rs ++ [(f,l,(rs.map λ r=>r.2.2).sum + 1)]) ([] ++ [(rs.length:Int)]) d).length≤1:=by
        unfold ba;exact List.length_filter_le _ _
      lia
    have m:=S1.most (by lia) F1;rw [dC (by simp)] at m;have e0:aG rs []=0:=rfl;rw [e0] at m;have m:0 + ((rs.map λ r=>r.2.2).sum + 1)≤aG (rs ++ [(f,l,(rs.map λ r=>r.2.2).sum + 1)]) tk:=m
    lia
  obtain ⟨ms,rfl,mo,mi⟩:=vR S1.fit.ord (λ c hc=>by have:=S1.fit.sU c hc;simp at this;lia) hN;refine ⟨hN,?_⟩;rw [List.dropLast_concat];have Fm:=S1.fit.drop;have ps:=S2.most (by lia) Fm;refine ⟨⟨ms,rfl,mi,rfl⟩,by lia,λ q'=>S1.fit.CS,by rw [dC mi];show aG rs ms + (aG rs os - aG rs ms)=_;lia,λ q' as Fa=>?_⟩
  by_cases z:(rs.length:Int)∈as
  · obtain ⟨bs,rfl,bo,bi⟩:=vR Fa.ord (λ c hc=>by have:=Fa.sU c hc;simp at this;lia) z;have m:=S1.most (by lia) (Fa.CS (q':=(rs.map λ r=>r.2.2).sum + 1));rw [dC bi,dC mi] at m;rw [dC bi];show aG rs bs + q'≤_
    lia
  · have F0:=Fa.old z;have m:=S2.most (by lia) F0;rw [iB F0.sU]
    lia
section
variable {rs:Rs} {pts:List Int} {R:Int}
theorem zY (p:qu rs pts) (has:Nat→Bool) {i:Nat} (hi:i < pts.length):(((ba rs (aU has rs.length) pts[i]).length:Nat):Int)=(ar rs pts).used has i:=by
  unfold ba aU;rw [List.filter_map,List.length_map,List.filter_filter,mE];refine bG λ d hd=>?_;have:=uh p hd hi;show one ((decide ((Lg.rq rs ((d:Int)).toNat).1≤pts[i]) && decide (pts[i]≤(Lg.rq rs ((d:Int)).toNat).2.1)) && has d)=one (has d && (ar rs pts).at d i);rw [this,Int.toNat_natCast,Bool.and_comm]
theorem oS.used {ns:List Int} (F:oS rs ns R) (p:qu rs pts) {i:Nat} (hi:i < pts.length):(ar rs pts).used (λ c=>decide ((c:Int)∈ns)) i≤R:=by
  rw [← zY p _ hi,← iA F.ord F.sU];exact F.day _
theorem EO (h0:0≤R) (p:qu rs pts) {has:Nat→Bool} (hu:∀ i,i + 1 < pts.length→(ar rs pts).used has i≤R):oS rs (aU has rs.length) R :=
  ⟨fU _ _,λ c hc=>by have:=dw hc;omega,ql h0 (g_ p hu)⟩
end
theorem qm.BK {rs:Rs} {f l R q W:Int} {tk:List Int} (O:qm rs f l R q W tk) (hR:0≤R) {pts:List Int} (p:qu (rs ++ [(f,l,q)]) pts):∃ BK,ck (ar (rs ++ [(f,l,q)]) pts) (λ c=>decide ((c:Int)∈tk)) R BK∧BK 0=0:=by
  obtain ⟨has,BK,hh,h0,hu⟩:=vO (dS p) R.toNat;rw [show ((R.toNat:Nat):Int)=R by lia] at hh hu;have Fh:=EO hR p hu;have m:=O.most q _ Fh;rw [jB (pts:=pts)] at m;have Ft:=O.fit q;refine ⟨BK,IE (dS p) hh hu (λ i hi=>Ft.used p (Nat.lt_of_succ_lt (show i + 1 < pts.length from hi))) ?_,h0⟩;rw [← jB (pts:=pts) (rs:=rs ++ [(f,l,q)]) λ c=>decide ((c:Int)∈tk),← iA Ft.ord Ft.sU,O.worth]
  lia
theorem qm.less {rs:Rs} {f l R q W:Int} {tk os ns:List Int} {ts IF:List (Int×Int)} (O:qm rs f l R q W tk) (hR:0≤R) (S2:kD rs os IF R) (hW:aG rs os=W) (S:kD (rs ++ [(f,l,q - 1)]) ns ts R):aG (rs ++ [(f,l,q - 1)]) ns=W:=by
  have a:=O.most (q - 1) ns S.fit;have b:=S.most hR (S2.fit.ext (x:=(f,l,q - 1)));rw [iB S2.fit.sU] at b;omega
theorem qm.more {rs:Rs} {f l R q W:Int} {tk ns:List Int} {ts:List (Int×Int)} (O:qm rs f l R q W tk) (hR:0≤R) (S:kD (rs ++ [(f,l,q + 1)]) ns ts R):aG (rs ++ [(f,l,q + 1)]) ns=W + 1:=by
  have a:=O.most (q + 1) ns S.fit;have b:=S.most hR (O.fit (q + 1));obtain ⟨ms,rfl,mi,e⟩:=O.ex;rw [dC mi] at b;have b:aG rs ms + (q + 1)≤aG (rs ++ [(f,l,q + 1)]) ns:=b
  lia
end Ln
namespace Sp
open PySem L2
seal PE PA PS jM PT PG uK PI PW tK
section
variable {P:Program} {w:World} {K:PySem.W.Frag} {mg:Str→Option Value} {base:Heap}
noncomputable def sj:V→Bool
  | .int i=>decide (0 < i)
  | _=>false
theorem zZ:az ["rooms"] ["rooms"] (ao cZ):=dZ
noncomputable def sk (K:PySem.W.Frag) (C:Addr):Sp:=λ vs H Q E=>∃ v T,vs=[v]∧bF K H v (.type T)∧((sj v=false∧E (.ref C) none H)∨(sj v=true∧Q .cc H))
theorem z_ {C:Addr} (R:A8 K mg "BadRooms" C) (G:Def P w K mg base bN 2 "are_rooms" ["value"] (jn K)) (D:FnAt K mg "check_some_rooms" cZ ["rooms"]):Def P w K mg base (sM P w) 3 "check_some_rooms" ["rooms"] (sk K C):=by
  refine D.Fb zZ (λ vs H Q E h=>?_) λ f bM A outer s H vs Q E hr h=>?_
  · obtain ⟨v,T,rfl,_⟩:=h;rfl
  · obtain ⟨v,T,rfl,ty,h⟩:=h;refine ⟨_,aj (bK (PW.pt (pw_or (bJ (aW (au G hr rfl aD (aa (pv 0) ae)))) (pw_or1 (bh gw (pv 0) ai (aR _))))) (aj (pL R rfl rfl pG)) aQ),?_⟩;refine ⟨_,rfl,v,T,rfl,ty,_,rfl,?_⟩;cases e:m_ v with
    | false =>
      refine bW (bW ?_);rcases h with ⟨_,q⟩ | ⟨e2,q⟩
      · exact q
      · exfalso;cases v<;>simp [m_,sj] at e e2
        lia
    | true =>
      obtain ⟨i,rfl,hi⟩:∃ i,v = .int i∧0≤i:=by
        cases v<;>simp [m_] at e;exact ⟨_,rfl,e⟩
      refine bV ⟨_,rfl,rfl,_,rfl,?_⟩;rcases h with ⟨e2,q⟩ | ⟨e2,q⟩
      · simp [sj] at e2;refine fE ?_ q;simp
        lia
      · simp [sj] at e2;refine df ?_ q;simp
        lia
theorem Aa:az ["first","last"] ["first","last"] (ao fG):=dZ
noncomputable def sq (K:PySem.W.Frag) (C:Addr):Sp:=λ vs H Q E=>∃ v u T S,vs=[v,u]∧bF K H v (.type T)∧bF K H u (.type S)∧((ku v u=false∧E (.ref C) none H)∨(ku v u=true∧Q .cc H))
theorem Ab {C:Addr} (R:A8 K mg "BadDays" C) (G:Def P w K mg base bN 2 "are_days" ["first","last"] (pJ K)) (D:FnAt K mg "check_days" fG ["first","last"]):Def P w K mg base (sM P w) 3 "check_days" ["first","last"] (sq K C):=by
  refine D.Fb Aa (λ vs H Q E h=>?_) λ f bM A outer s H vs Q E hr h=>?_
  · obtain ⟨v,u,T,S,rfl,_⟩:=h;rfl
  · obtain ⟨v,u,T,S,rfl,ty,tz,h⟩:=h;refine ⟨_,aj (bK (bJ (aW (au G hr rfl aD (aa (pv 0) (aa (pv 1) ae))))) (aj (pL R rfl rfl pG)) aQ),?_⟩;refine ⟨_,rfl,_,rfl,v,u,T,S,rfl,ty,tz,_,rfl,?_⟩;rcases h with ⟨e,q⟩ | ⟨e,q⟩
    · rw [e];exact bW q
    · rw [e];exact bV q
end
theorem bR {ns:List Int} {ts:List (Int×Int)} {rs:Ln.Rs} {R:Int} (h:cN ns ts rs R=true):ns.Pairwise (· < ·)∧(∀ c∈ns,0≤c∧c.toNat < rs.length)∧(∀ c∈ns,((Ln.ba rs ns (Lg.rq rs c.toNat).1).length:Int)≤R)∧(∀ t∈ts,0≤t.2)∧Ln.aG rs ns=R * Ln.gp ts + Ln.e_ rs ts:=by
  unfold cN fZ at h;rw [Bool.and_eq_true,Bool.and_eq_true,Bool.and_eq_true,Bool.and_eq_true,decide_eq_true_eq] at h;obtain ⟨h1,h2,⟨h3,_⟩,h5⟩:=h;refine ⟨?_,λ c hc=>dw h1 hc,λ c hc=>?_,λ t ht=>?_,h5⟩
  · unfold cW at h1;rw [Bool.and_eq_true] at h1;exact (dr _).mp h1.2
  · unfold hX at h2;exact of_decide_eq_true (List.all_eq_true.mp h2 c hc)
  · unfold posB at h3;exact of_decide_eq_true (List.all_eq_true.mp h3 t ht)
theorem jK {ns:List Int} {ts:List (Int×Int)} {rs:Ln.Rs} {R:Int} (hR:0≤R) (h:cN ns ts rs R=true):Ln.kD rs ns ts R:=by
  obtain ⟨a1,a2,a3,a4,a5⟩:=bR h;exact ⟨⟨a1,a2,Ln.ql hR a3⟩,a4,a5⟩
theorem xt {rs:Ln.Rs} {pts:List Int} {has:Nat→Bool} {R:Int} {h:Nat→Int} (hP:Ln.qu rs pts) (fh:Ln.ck (Ln.ar rs pts) has R h) (p9:∀ i,i + 1 < pts.length→(Ln.ar rs pts).used has i≤R):cN (Ln.aU has rs.length) (Ln.bX pts h) rs R=true:=by
  unfold cN cW hX fZ posB;rw [Bool.and_eq_true,Bool.and_eq_true,Bool.and_eq_true,Bool.and_eq_true,Bool.and_eq_true,List.all_eq_true,List.all_eq_true,List.all_eq_true,dr,dr,decide_eq_true_eq];refine ⟨⟨λ c hc=>?_,Ln.fU has rs.length⟩,λ c hc=>?_,⟨λ t ht=>?_,Ln.oC hP h⟩,?_⟩
  · have:=Ln.dw hc;rw [Bool.and_eq_true,decide_eq_true_eq,decide_eq_true_eq];exact this
  · rw [decide_eq_true_eq];exact Ln.g_ hP p9 c hc
  · rw [decide_eq_true_eq];exact Ln.oE pts h t ht
  · exact Ln.vw hP fh p9
theorem xu {rs:Ln.Rs} {f l R q W:Int} {tk:List Int} {pts:List Int} {h:Nat→Int} (O:Ln.qm rs f l R q W tk) (hP:Ln.qu (rs ++ [(f,l,q)]) pts) (fh:Ln.ck (Ln.ar (rs ++ [(f,l,q)]) pts) (cT tk) R h):cN tk (Ln.bX pts h) (rs ++ [(f,l,q)]) R=true:=by
  have F:=O.fit q;have e:=xt (has:=cT tk) hP fh λ i hi=>F.used hP (Nat.lt_of_succ_lt hi);have ec:tk=Ln.aU (cT tk) (rs ++ [(f,l,q)]).length:=Ln.iA F.ord F.sU;rw [← ec] at e;exact e
structure xv (K:PySem.W.Frag) (mg:Str→Option Value) (CA CB CD CL CC fD:Addr) (dD:FuncData):Prop where
  mA:mg "Answer"=some (.ref CA)
  mB:mg "Best"=some (.ref CB)
  mD:mg "Due"=some (.ref CD)
  mL:mg "Lodged"=some (.ref CL)
  mC:mg "Crowd"=some (.ref CC)
  okD:vy K CD
  np:aZ K CD "price"
  nt:aZ K CD "taken"
  nl:aZ K CD "tolls"
  no:aZ K CD "others"
  nu:aZ K CD "other_tolls"
  Fy:Mk K CD fD
  fD:uX K "__init__" "Due.__init__" gN fD dD
  bD:Binds K dD ["self","price","taken","tolls","others","other_tolls"] []
  sh:nB K CD "shows" "Due.shows" kr ["self","requests","rooms","first","last"]
  ka:PySem.W.kitOne K (.ref CD) (.ref CA)=some true
  kd:PySem.W.kitOne K (.ref CD) (.ref CD)=some true
  kb:PySem.W.kitOne K (.ref CD) (.ref CB)=some false
  kc:PySem.W.kitOne K (.ref CD) (.ref CC)=some false
  kl:PySem.W.kitOne K (.ref CD) (.ref CL)=some false
noncomputable def jL (q:Int) (l1 l2 l3 l4:Addr):List (Str×V):=[("price",.int q),("taken",.ref l1),("tolls",.ref l2),("others",.ref l3),("other_tolls",.ref l4)]
structure hZ (CD:Addr) (H:Hp) (x dx l1 l2 l3 l4:Addr) (q:Int) (tk:List Int) (ts:List (Int×Int)) (os:List Int) (us:List (Int×Int)):Prop where
  ins:H x=some (.ins CD dx (jL q l1 l2 l3 l4))
  tk:H l1=some (.lst (tk.map V.int))
  tl:aM H l2 (ts.map dX)
  ot:H l3=some (.lst (os.map V.int))
  ol:aM H l4 (us.map dX)
theorem hZ.same {CD:Addr} {H H':Hp} {x dx l1 l2 l3 l4:Addr} {q:Int} {tk os:List Int} {ts us:List (Int×Int)} (h:hZ CD H x dx l1 l2 l3 l4 q tk ts os us) (s:av H H'):hZ CD H' x dx l1 l2 l3 l4 q tk ts os us:=⟨s _ _ h.ins,s _ _ h.tk,h.tl.same s,s _ _ h.ot,h.ol.same s⟩
theorem hZ.fx {CD:Addr} {S:Addr→Prop} {H H':Hp} {x dx l1 l2 l3 l4:Addr} {q:Int} {tk os:List Int} {ts us:List (Int×Int)} (h:hZ CD H x dx l1 l2 l3 l4 q tk ts os us) (s:Fx S H H') (n0:¬ S x) (n1:¬ S l1) (n2:¬ S l2) (n3:¬ S l3) (n4:¬ S l4) (hS:∀ b v,S b→H b≠some (.tup v)):hZ CD H' x dx l1 l2 l3 l4 q tk ts os us :=
  ⟨s _ _ h.ins n0,s _ _ h.tk n1,h.tl.fx s n2 hS,s _ _ h.ot n3,h.ol.fx s n4 hS⟩
theorem vS {H H1:Hp} {x dx C l:Addr} {fs fs':List (Str×V)} {xs:List V} (F:Fx (λ b=>b=x) H H1) (hx:H1 x=some (.ins C dx fs)) (hl:H1 l=none) :
    Fx (λ b=>b=x) H (upd (upd H1 l (.lst xs)) x (.ins C dx fs'))∧upd (upd H1 l (.lst xs)) x (.ins C dx fs') x=some (.ins C dx fs')∧upd (upd H1 l (.lst xs)) x (.ins C dx fs') l=some (.lst xs)∧H l=none∧l≠x∧Fx (λ b=>b=x) H1 (upd (upd H1 l (.lst xs)) x (.ins C dx fs')):=by
  have lx:l≠x:=(ay hx hl).symm;have F1:Fx (λ b=>b=x) H1 (upd (upd H1 l (.lst xs)) x (.ins C dx fs')):=(Fx.of (ah hl)).upd (.inl rfl);exact ⟨F.trans F1,af,by rw [aq lx,af],dc F hl λ b hb=>⟨_,by subst hb;exact hx⟩,lx,F1⟩
section
variable {P:Program} {w:World} {K:PySem.W.Frag} {mg:Str→Option Value} {base:Heap} {CA CB CD CL CC fD:Addr} {dD:FuncData}
theorem IG:az ["self","price","taken","tolls","others","other_tolls"] ["self","price","taken","tolls","others","other_tolls"] (ao gN):=dZ
noncomputable def CT (CD:Addr):Sp:=λ vs H Q _=>∃ (x dx a1 t1 a2 t2:Addr) (q:Int) (tk:List Int) (ts:List (Int×Int)) (os:List Int) (us:List (Int×Int)),vs=[.ref x,.int q,.ref a1,.ref t1,.ref a2,.ref t2]∧H x=some (.ins CD dx [])∧H a1=some (.lst (tk.map V.int))∧aM H t1 (ts.map dX)∧H a2=some (.lst (os.map V.int))∧aM H t2 (us.map dX) ∧
  ∀ l1 l2 l3 l4 H',Fx (λ b=>b=x) H H'→H l1=none→H l2=none→H l3=none→H l4=none→l3≠l1→l3≠l2→l3≠l4→hZ CD H' x dx l1 l2 l3 l4 q tk ts os us→Q .cc H'
theorem IH (B:Bl mg) (T:xv K mg CA CB CD CL CC fD dD):fA P w K mg base bN 1 fD dD ["self","price","taken","tolls","others","other_tolls"] (CT CD):=by
  refine T.fD.ok IG (λ vs H Q E h=>?_) λ bM A outer s H vs Q E hr h=>?_
  · obtain ⟨x,dx,a1,t1,a2,t2,q,tk,ts,os,us,rfl,_⟩:=h;rfl
  · obtain ⟨x,dx,a1,t1,a2,t2,qq,tk,ts,os,us,rfl,hx,Fp,sR,Fs,n8,q⟩:=h;refine ⟨_,ag (cY (pv 0) (pv 1) rfl) (ag (cY (pv 0) (cm cf (by rfl) B.list PyProof.Rows.Boot.«list» (aa (pv 2) ae)) rfl) (ag (cY (pv 0) (cm cf (by rfl) B.list PyProof.Rows.Boot.«list» (aa (pv 3) ae)) rfl)
      (ag (cY (pv 0) (cm cf (by rfl) B.list PyProof.Rows.Boot.«list» (aa (pv 4) ae)) rfl) (aj (cY (pv 0) (cm cf (by rfl) B.list PyProof.Rows.Boot.«list» (aa (pv 5) ae)) rfl))))),?_⟩
    obtain ⟨xs,kU,_⟩:=sR.list;obtain ⟨ys,Au,_⟩:=n8.list;have EC:∀ (b:Addr) (v:List V),b=x→H b≠some (.tup v):=λ b v hb z=>by subst hb;rw [hx] at z;cases z
    have nx:∀ {b:Addr} {vs:List V},H b=some (.lst vs)→¬ b=x:=λ e z=>by subst z;rw [hx] at e;cases e
    refine ⟨_,rfl,_,rfl,x,CD,dx,[],rfl,hx,T.okD.cl,T.np,by decide,?_⟩;rw [show cO (Str.ofString "price") (V.int qq) []=[(Str.ofString "price",V.int qq)] from rfl];have F1:Fx (λ b=>b=x) H (upd H x (.ins CD dx [(Str.ofString "price",V.int qq)])):=Fx.refl.upd (.inl rfl);have FE:upd H x (.ins CD dx [(Str.ofString "price",V.int qq)]) x=some (.ins CD dx [(Str.ofString "price",V.int qq)]):=af;generalize upd H x (.ins CD dx [(Str.ofString "price",V.int qq)])=H1 at F1 FE ⊢;refine ⟨_,rfl,a1,_,rfl,.inl (aJ.of (F1 _ _ Fp (nx Fp))),λ l1 pQ=>⟨_,rfl,x,CD,dx,_,rfl,(ah pQ) _ _ FE,T.okD.cl,T.nt,by show 1 < 1000;decide,?_⟩⟩;rw [show cO (Str.ofString "taken") (V.ref l1) [(Str.ofString "price",V.int qq)]=[(Str.ofString "price",V.int qq),(Str.ofString "taken",V.ref l1)] from rfl];obtain ⟨F2,nz,FF,n1,x1,G2⟩:=vS (fs':=[(Str.ofString "price",V.int qq),(Str.ofString "taken",V.ref l1)]) (xs:=tk.map V.int) F1 FE pQ;generalize upd (upd H1 l1 (.lst (tk.map V.int))) x (.ins CD dx [(Str.ofString "price",V.int qq),(Str.ofString "taken",V.ref l1)])=H2 at F2 nz FF G2 ⊢;refine ⟨_,rfl,t1,_,rfl,.inl (aJ.of (F2 _ _ kU (nx kU))),λ l2 iM=>⟨_,rfl,x,CD,dx,_,rfl,(ah iM) _ _ nz,T.okD.cl,T.nl,by show 2 < 1000;decide,?_⟩⟩;rw [show cO (Str.ofString "tolls") (V.ref l2) [(Str.ofString "price",V.int qq),(Str.ofString "taken",V.ref l1)]=[(Str.ofString "price",V.int qq),(Str.ofString "taken",V.ref l1),(Str.ofString "tolls",V.ref l2)] from rfl];obtain ⟨F3,mh,O_,n2,x2,G3⟩:=vS (fs':=[(Str.ofString "price",V.int qq),(Str.ofString "taken",V.ref l1),(Str.ofString "tolls",V.ref l2)]) (xs:=xs) F2 nz iM;have Sx:∀ (b:Addr) (v:List V),b=x→H2 b≠some (.tup v):=λ b v hb z=>by subst hb;rw [nz] at z;cases z
    have Pa:aM (upd (upd H2 l2 (.lst xs)) x (.ins CD dx [(Str.ofString "price",V.int qq),(Str.ofString "taken",V.ref l1),(Str.ofString "tolls",V.ref l2)])) l2 (ts.map dX):=by
      have t:=kh (sR.fx F2 (nx kU) EC) (F2 _ _ kU (nx kU)) iM;refine t.fx (S:=λ b=>b=x) (Fx.refl.upd (.inl rfl)) x2 λ b v hb z=>?_;subst hb;rw [(ah iM) _ _ nz] at z;cases z
    have MF:=G3 _ _ FF x1;generalize upd (upd H2 l2 (.lst xs)) x (.ins CD dx [(Str.ofString "price",V.int qq),(Str.ofString "taken",V.ref l1),(Str.ofString "tolls",V.ref l2)])=H3 at F3 mh O_ G3 Pa MF ⊢;refine ⟨_,rfl,a2,_,rfl,.inl (aJ.of (F3 _ _ Fs (nx Fs))),λ l3 JZ=>⟨_,rfl,x,CD,dx,_,rfl,(ah JZ) _ _ mh,T.okD.cl,T.no,by show 3 < 1000;decide,?_⟩⟩;rw [show cO (Str.ofString "others") (V.ref l3) [(Str.ofString "price",V.int qq),(Str.ofString "taken",V.ref l1),(Str.ofString "tolls",V.ref l2)]=[(Str.ofString "price",V.int qq),(Str.ofString "taken",V.ref l1),(Str.ofString "tolls",V.ref l2),(Str.ofString "others",V.ref l3)] from rfl];obtain ⟨F4,ED,MG,n3,x3,G4⟩:=vS (fs':=[(Str.ofString "price",V.int qq),(Str.ofString "taken",V.ref l1),(Str.ofString "tolls",V.ref l2),(Str.ofString "others",V.ref l3)]) (xs:=os.map V.int) F3 mh JZ;have MH:∀ (b:Addr) (v:List V),b=x→H3 b≠some (.tup v):=λ b v hb z=>by subst hb;rw [mh] at z;cases z
    have Sy:l3≠l1:=(ay MF JZ).symm;have Sz:l3≠l2:=(ay O_ JZ).symm;have Pb:=Pa.fx G4 x2 MH;have Pc:=G4 _ _ MF x1;generalize upd (upd H3 l3 (.lst (os.map V.int))) x (.ins CD dx [(Str.ofString "price",V.int qq),(Str.ofString "taken",V.ref l1),(Str.ofString "tolls",V.ref l2),(Str.ofString "others",V.ref l3)])=H4 at F4 ED MG G4 Pb Pc ⊢;refine ⟨_,rfl,t2,_,rfl,.inl (aJ.of (F4 _ _ Au (nx Au))),λ l4 II=>⟨_,rfl,x,CD,dx,_,rfl,(ah II) _ _ ED,T.okD.cl,T.nu,by show 4 < 1000;decide,?_⟩⟩;rw [show cO (Str.ofString "other_tolls") (V.ref l4) [(Str.ofString "price",V.int qq),(Str.ofString "taken",V.ref l1),(Str.ofString "tolls",V.ref l2),(Str.ofString "others",V.ref l3)]=jL qq l1 l2 l3 l4 from rfl];obtain ⟨F5,L_,Vd,n4,x4,G5⟩:=vS (fs':=jL qq l1 l2 l3 l4) (xs:=ys) F4 ED II;have MJ:∀ (b:Addr) (v:List V),b=x→H4 b≠some (.tup v):=λ b v hb z=>by subst hb;rw [ED] at z;cases z
    have SA:aM (upd (upd H4 l4 (.lst ys)) x (.ins CD dx (jL qq l1 l2 l3 l4))) l4 (us.map dX):=by
      have t:=kh (n8.fx F4 (nx Au) EC) (F4 _ _ Au (nx Au)) II;refine t.fx (S:=λ b=>b=x) (Fx.refl.upd (.inl rfl)) x4 λ b v hb z=>?_;subst hb;rw [(ah II) _ _ ED] at z;cases z
    exact q l1 l2 l3 l4 _ F5 n1 n2 n3 n4 Sy Sz (ay MG II) ⟨L_,G5 _ _ Pc x1,Pb.fx G5 x2 MJ,G5 _ _ MG x3,SA⟩
end
end Sp
set_option maxHeartbeats 4000000
namespace Sp
open PySem L2
seal PE PA PS jM PT PG uK PI PW tK
theorem iC {H:Hp} {a l t:Addr} {rs:Ln.Rs} {xs:List V} {r:Int×Int×Int} (h:a9 H a rs) (ha:H a=some (.lst xs)) (ht:H t=some (.tup (fj r))) (hl:H l=none):a9 (upd H l (.lst (xs ++ [.ref t]))) l (rs ++ [r]):=by
  obtain ⟨ys,e1,e2,e3⟩:=h;rw [ha] at e1;cases e1;have s:av H (upd H l (.lst (xs ++ [.ref t]))):=ah hl;refine ⟨_,af,by rw [List.length_append,List.length_append,e2];rfl,λ i r' e=>?_⟩
  by_cases hi:i < rs.length
  · rw [List.getElem?_append_left hi] at e;obtain ⟨p,e4,e5⟩:=e3 _ r' e;exact ⟨p,by rw [List.getElem?_append_left (by lia)];exact e4,s _ _ e5⟩
  · have dG:i=rs.length:=by
      have:=(List.getElem?_eq_some_iff.mp e).1;rw [List.length_append] at this;simp only [List.length_singleton] at this
      lia
    subst dG;rw [List.getElem?_append_right (by lia),Nat.sub_self] at e;cases e;exact ⟨t,by rw [List.getElem?_append_right (by lia),e2,Nat.sub_self];rfl,s _ _ ht⟩
theorem uG {rs:Ln.Rs}:((List.range rs.length).map λ j=>(Lg.rq rs j).2.2).sum=(rs.map λ r=>r.2.2).sum:=by
  congr 1;apply List.ext_getElem
  · simp
  · intro i h1 h2;simp only [List.length_map,List.length_range] at h1;rw [List.getElem_map,List.getElem_map,List.getElem_range,vx (List.getElem?_eq_getElem h1)]
section
variable {P:Program} {w:World} {K:PySem.W.Frag} {mg:Str→Option Value} {base:Heap} {CA CB CD CL CC fD:Addr} {dD:FuncData} {CN fI c1 P1 c2 P2:Addr} {dI:FuncData}
theorem jb:az ["requests","rooms","first","last","alone","others","plenty","taken","price","tolls"] ["requests","rooms","first","last"] (ao yA):=dZ
noncomputable def Ac (CD P1 P2:Addr):Sp:=λ vs H Q _=>∃ (a:Addr) (rs:Ln.Rs) (R f l:Int),vs=[.ref a,.int R,.int f,.int l]∧a9 H a rs∧GoodR rs∧rs.length≤1900∧1≤R∧f≤l∧eN H P1∧eO H P2 ∧
  ∀ x dx l1 l2 l3 l4 q tk ts os us H',Fx (λ b=>b=P1∨b=P2) H H'→H x=none→H l1=none→H l2=none→H l3=none→H l4=none→l3≠l1→l3≠l2→l3≠l4→hZ CD H' x dx l1 l2 l3 l4 q tk ts os us→Ln.qm rs f l R q (Ln.aG rs os) tk→cN tk ts (rs ++ [(f,l,q)]) R=true→cN os us rs R=true→tk.length≤2000→os.length≤2000→ts.length≤4000→us.length≤4000→eN H' P1→eO H' P2→Q (.ref x) H'
theorem ER {CQ CR CY:Addr} (B:Bl mg) (T:xv K mg CA CB CD CL CC fD dD) (LT:ft K mg base CN fI dI c1 P1 c2 P2) (GQ:Def P w K mg base (sM P w) 5 "check_requests" ["requests"] (pM K CQ)) (GM:Def P w K mg base (sM P w) 3 "check_some_rooms" ["rooms"] (sk K CR)) (GY:Def P w K mg base (sM P w) 3 "check_days" ["first","last"] (sq K CY))
    (GF:Def P w K mg base bN 8 "filled" ["requests","rooms"] (kg CN P1 P2)) (GI:fA P w K mg base bN 6 fI dI ["self","requests","taken","rooms"] (jI CN P1 P2)) (GC:kG P w K mg base 1 CN "choice" ["self"] (i_ CN)) (GD:kG P w K mg base 1 CN "day_tolls" ["self"] (kf CN)) (GW:Def P w K mg base bN 1 "worth_of" ["taken","requests"] jJ)
    (D:FnAt K mg "due" yA ["requests","rooms","first","last"]):Def P w K mg base bN 9 "due" ["requests","rooms","first","last"] (Ac CD P1 P2):=by
  refine D.ok jb (λ vs H Q E h=>?_) λ fa bM A outer s H vs Q E hr h=>?_
  · obtain ⟨a,rs,R,f,l,rfl,_⟩:=h;rfl
  · obtain ⟨a,rs,R,f,l,rfl,hR,hg,hz,zD,sQ,sR,n8,q⟩:=h;have de:bc 1 _:=hr.mono (by decide);have zS:bc 2 _:=hr.mono (by decide);have FG:bc 3 _:=hr.mono (by decide);have EL:bc 5 _:=hr.mono (by decide);have Mx:bc 7 _:=hr.mono (by decide);refine ⟨_,ag (cG (au GQ EL rfl mG (aa (pv 0) ae)))
      (ag (cG (au GM FG rfl mG (aa (pv 1) ae)))
      (ag (cG (au GY FG rfl mG (aa (pv 2) (aa (pv 3) ae))))
      (ag (aK (i:=4) jb.nd rfl (Or.inl rfl) (au GF hr rfl aD (aa (pv 0) (aa (pv 1) ae))))
      (ag (aK (i:=5) jb.nd rfl (Or.inl rfl) (cJ GC (pv 4) LT.cl de))
      (ag (aK (i:=6) jb.nd rfl (Or.inl rfl) (aF bj (aB (cn rfl) (by rfl) B.sum PyProof.Rows.Boot.«sum» (aa (bC ["start","end","price"] [] rfl (aY (pv 0)) λ cl s H fp C=>⟨gX (K:=K) 0 1 2 rfl (show (["start","end","price"]:List Str).Nodup by decide +kernel),br,pv 2⟩) ae)) ai))
      (ag (aK (i:=7) jb.nd rfl (Or.inl rfl) (cJ GC (au GF hr rfl aD (aa (aF gA (pv 0) (cQ (aa (bL (aa (pv 2) (aa (pv 3) (aa (pv 6) ae)))) ae))) (aa (pv 1) ae))) LT.cl de))
      (ag (aK (i:=8) jb.nd rfl (Or.inl rfl) (aF di (au GW de rfl aD (aa (pv 5) (aa (pv 0) ae))) (au GW de rfl aD (aa (gx ji (pv 7) jg (jh (uN pj ai))) (aa (pv 0) ae)))))
      (ag (aK (i:=9) jb.nd rfl (Or.inl rfl) (cJ GD (kN LT.Fy GI Mx rfl LT.mC LT.bI .nil aD (aa (aF gA (pv 0) (cQ (aa (bL (aa (pv 2) (aa (pv 3) (aa (pv 8) ae)))) ae))) (aa (pv 7) (aa (pv 1) ae)))) LT.cl de))
      (aj (aH (kN T.Fy (IH B T) zS rfl T.mD T.bD .nil aD (aa (pv 8) (aa (pv 7) (aa (pv 9) (aa (pv 5) (aa (cJ GD (pv 4) LT.cl de) ae)))))))))))))))),?_⟩
    refine ⟨_,rfl,_,rfl,.inr ⟨jW hR hg (by lia),λ H1 s1=>?_⟩⟩;refine ⟨_,rfl,_,_,rfl,bF.int R,.inr ⟨decide_eq_true (show 0 < R by lia),?_⟩⟩;refine ⟨_,rfl,_,rfl,_,_,_,_,rfl,bF.int f,bF.int l,.inr ⟨by simpa [ku] using sQ,?_⟩⟩;obtain ⟨xs,ha,eM,_⟩:=id hR;refine ⟨_,rfl,_,rfl,a,rs,R,rfl,aC s1 hR,hg,by lia,by lia,aA.same sR s1,aA.same n8 s1,λ x dx pp pm ph pe pw pts has R' h p way H2 F2 xM U p9 hle MC=>?_⟩;have L:=U.ln;have ES:=qk U p9 hle MC;refine ⟨_,rfl,x,dx,_,rfl,L.ins,by rfl,?_⟩
    try unfold fc
    refine ⟨x,dx,pp,pm,ph,pe,pw,rs,pts,has,R',rfl,L,λ lo H3 s3 yo J0=>?_⟩;have tab:∀ (G:Hp),eN G P1→eO G P2→∀ b:Addr,(b=P1∨b=P2)→∃ u,G b=some (.gj u):=by
      intro G t1 t2 b hb;rcases hb with hb | hb
      · subst hb;exact aA.there t1
      · subst hb;exact aA.there t2
    have nS:∀ {G:Hp},eN G P1→eO G P2→∀ {c:Addr} {u:HO},G c=some u→(∀ ps,u≠.gj ps)→¬ (c=P1∨c=P2):=by
      intro G t1 t2 c u e n z;obtain ⟨v,e2⟩:=tab G t1 t2 c z;rw [e] at e2;cases e2;exact n _ rfl
    have nT:∀ {G:Hp},eN G P1→eO G P2→∀ (c:Addr) (v:List V),(c=P1∨c=P2)→G c≠some (.tup v):=by
      intro G t1 t2 c v hc e;exact nS t1 t2 e (λ _ z=>nomatch z) hc
    have aS:¬ (a=P1∨a=P2):=nS sR n8 ha λ _ z=>nomatch z;have MK:Fx (λ b=>b=P1∨b=P2) H H2:=(Fx.of s1).trans F2;have SD:=d7 hR MK aS (nT sR n8);have Fs:=MK _ _ ha aS;have SE:=MK.trans (Fx.of (S:=λ b=>b=P1∨b=P2) s3);have ML:=aC s3 SD;have CF:=s3 _ _ Fs;have uB:=aA.same U.t1 s3;have uC:=aA.same U.t2 s3;have L3:=L.same s3;refine ⟨_,rfl,a,rfl,⟨_,aJ.of CF⟩,λ D1 nC=>?_⟩;refine aX (aI xs) (λ σ=>∃ o1 o2 o3,σ=[o1,o2,o3]) (λ j=>.int (Lg.rq rs j).2.2) nC (by lia) (λ G s=>aJ.of (s _ _ CF)) ⟨_,_,_,rfl⟩ ?_ ?_
    · rintro j v σ G G' hj ⟨rfl,hx⟩ s ⟨o1,o2,o3,rfl⟩ Ky hK;obtain ⟨p',rfl,xK⟩:=fV ML CF hx;refine ⟨p',_,rfl,b_.of (s _ _ xK),rfl,_,_,rfl,_,_,rfl,_,_,rfl,rfl,?_⟩;exact ⟨_,rfl,hK _ _ _ (av.refl _) ⟨_,_,_,rfl⟩ rfl⟩
    intro H4 s4 h4;refine ⟨D1,(List.range xs.length).map λ j=>(Lg.rq rs j).2.2,rfl,aJ.of (by rw [h4,List.map_map];rfl),_,_,rfl,rfl,?_⟩;rw [show (λ i j=>V.int (i + j)) ((List.range xs.length).map λ j=>(Lg.rq rs j).2.2).sum 1=V.int ((rs.map λ r=>r.2.2).sum + 1) by rw [eM,uG]];generalize gk:(rs.map λ r=>r.2.2).sum + 1=pl;have Ve:=s4;have Pd:=s4 _ _ CF;have SF:=aC s4 ML;have lst:∀ (v:Int) (G:Hp),a9 G a rs→G a=some (.lst xs)→∀ t,G t=none→∀ lt,upd G t (.tup [.int f,.int l,.int v]) lt=none→∀ m,upd (upd G t (.tup [.int f,.int l,.int v])) lt (.lst [.ref t]) m=none→a9 (upd (upd (upd G t (.tup [.int f,.int l,.int v])) lt (.lst [.ref t])) m (.lst (xs ++ [.ref t]))) m (rs ++ [(f,l,v)])∧av G (upd (upd (upd G t (.tup [.int f,.int l,.int v])) lt (.lst [.ref t])) m (.lst (xs ++ [.ref t]))):=by
      intro v G SG SH t ht lt dg m hm;have e1:av G (upd G t (.tup [.int f,.int l,.int v])):=ah ht;have e2:av (upd G t (.tup [.int f,.int l,.int v])) (upd (upd G t (.tup [.int f,.int l,.int v])) lt (.lst [.ref t])):=ah dg;have MM:=e1.trans e2;exact ⟨iC (r:=(f,l,v)) (aC MM SG) (MM _ _ SH) (e2 _ _ af) hm,MM.trans (ah hm)⟩
    refine ⟨_,rfl,_,rfl,_,rfl,_,rfl,by show 3≤sizeLine;decide,λ t1 Cn=>⟨by show 1≤sizeLine;decide,λ lt dg=>⟨a,lt,xs,_,rfl,rfl,((ah Cn).trans (ah dg)) _ _ Pd,af,by rw [sizeLine_eq];simp;lia,λ m1 HA=>?_⟩⟩⟩;obtain ⟨IJ,s5⟩:=lst pl H4 SF Pd t1 Cn lt dg m1 HA;generalize upd (upd (upd H4 t1 (.tup [.int f,.int l,.int pl])) lt (.lst [.ref t1])) m1 (.lst (xs ++ [.ref t1]))=H5 at IJ s5 ⊢;have Pe:∀ c,c < rs.length→0≤(Lg.rq rs c).2.2:=λ c hc=>(hg _ (mI hc)).2;have FI:∀ {v:Int},0≤v→GoodR (rs ++ [(f,l,v)]):=λ {v} hv r hr=>by
      rcases List.mem_append.mp hr with z | z
      · exact hg r z
      · rw [List.mem_singleton.mp z];exact ⟨sQ,hv⟩
    have MN:0≤pl:=by
      have:=Ln.sf (rs:=rs) (ns:=[]) List.Pairwise.nil (λ c hc=>by simp at hc) Pe;have e0:Ln.aG rs []=0:=rfl
      lia
    have MO:=s4.trans s5;refine ⟨_,rfl,m1,rs ++ [(f,l,pl)],R,rfl,IJ,FI MN,by simp;lia,by lia,aA.same uB MO,aA.same uC MO,λ x2 Pf SI SJ SK SM SN MP dA R2 h2 p2 EG H6 F6 SO U2 MQ MR MS=>?_⟩;have L2:=U2.ln;have Pg:=qk U2 MQ MR MS;refine ⟨x2,Pf,_,rfl,L2.ins,by rfl,?_⟩
    try unfold fc
    refine ⟨x2,Pf,SI,SJ,SK,SM,SN,_,MP,dA,R2,rfl,L2,λ MT H7 s7 SQ FJ=>?_⟩;rw [← gk] at Pg FJ;obtain ⟨hN,O⟩:=Ln.BW zD Pe (jK (by lia) ES) (jK (by lia) Pg);have SR:=bR ES;have pQ:(Ln.aU has rs.length).length≤rs.length:=by
      unfold Ln.aU;rw [List.length_map];exact Nat.le_trans (List.length_filter_le _ _) (by simp)
    have iM:(Ln.aU dA (rs ++ [(f,l,(rs.map λ r=>r.2.2).sum + 1)]).length).length≤rs.length + 1:=by
      unfold Ln.aU;rw [List.length_map];exact Nat.le_trans (List.length_filter_le _ _) (by simp)
    generalize Ln.aU dA (rs ++ [(f,l,(rs.map λ r=>r.2.2).sum + 1)]).length=tk at hN O FJ iM;have J1:Fx (λ b=>b=P1∨b=P2) H3 H7:=(Fx.of MO).trans (F6.trans (Fx.of s7));have MU:=d7 ML J1 aS (nT uB uC);have SS:=J1 _ _ CF aS;have MV:=J1 _ _ J0 (nS uB uC J0 λ _ z=>nomatch z);have Ph:=aA.same U2.t1 s7;have Pj:=aA.same U2.t2 s7;refine ⟨_,rfl,_,rfl,lo,a,_,rs,rfl,MV,MU,SR.2.1,by lia,λ H8 s8=>?_⟩;refine ⟨_,rfl,_,rfl,_,rfl,MT,_,rfl,aJ.of (s8 _ _ FJ),λ lc BE=>?_⟩;obtain ⟨ms,Pk,Fw,eq⟩:=O.ex;have Pl:tk.dropLast=ms:=by rw [Pk,List.dropLast_concat]
    have MW:gy (tk.map V.int) none (some (-1))=ms.map V.int:=by
      rw [rR,← List.dropLast_eq_take,← List.map_dropLast,Pl]
    rw [MW];have s9:av H8 (upd H8 lc (.lst (ms.map V.int))):=ah BE;have MX:=s8.trans s9;have Vf:ms.length≤rs.length:=by
      rw [Pk,List.length_append] at iM;simp at iM
      lia
    refine ⟨_,rfl,lc,a,ms,rs,rfl,af,aC MX MU,Fw,by lia,λ MY Aw=>⟨_,_,rfl,rfl,?_⟩⟩;generalize upd H8 lc (.lst (ms.map V.int))=H9 at s9 MX Aw;rw [Pl] at O;rw [show (λ i j=>V.int (i - j)) (Ln.aG rs (Ln.aU has rs.length)) (Ln.aG rs ms)=V.int (Ln.aG rs (Ln.aU has rs.length) - Ln.aG rs ms) from rfl];generalize Ln.aG rs (Ln.aU has rs.length) - Ln.aG rs ms=qq at O ⊢;have J2:=MX.trans Aw;have SU:=aC J2 MU;have Pm:=J2 _ _ SS;have MZ:=J2 _ _ FJ;refine ⟨_,rfl,_,rfl,_,rfl,_,rfl,by show 3≤sizeLine;decide,λ t2 pO=>⟨by show 1≤sizeLine;decide,λ M0 IK=>⟨a,M0,xs,_,rfl,rfl,((ah pO).trans (ah IK)) _ _ Pm,af,by rw [sizeLine_eq];simp;lia,λ m2 xF=>?_⟩⟩⟩;obtain ⟨Pn,sb⟩:=lst qq MY SU Pm t2 pO M0 IK m2 xF;generalize upd (upd (upd MY t2 (.tup [.int f,.int l,.int qq])) M0 (.lst [.ref t2])) m2 (.lst (xs ++ [.ref t2]))=ET at Pn sb ⊢;refine ⟨_,rfl,_,rfl,λ x3 xP mh M1 SV=>?_⟩;have CU:av ET (upd (upd ET xP (.own x3)) x3 (.ins CN xP [])):=fo mh M1;have IL:upd (upd ET xP (.own x3)) x3 (.ins CN xP []) x3=some (.ins CN xP []):=af;show jI CN P1 P2 _ (upd (upd ET xP (.own x3)) x3 (.ins CN xP [])) _ _;generalize upd (upd ET xP (.own x3)) x3 (.ins CN xP [])=SW at CU IL ⊢;have Po:=J2.trans sb;have M3:=Po.trans CU;refine ⟨x3,xP,m2,MT,rs ++ [(f,l,qq)],tk,R,rfl,IL,aC CU Pn,FI O.pos,by simp;lia,(sb.trans CU) _ _ MZ,(O.fit qq).sU,aA.same Ph M3,aA.same Pj M3,λ pts hP=>O.BK (by lia) hP,λ SY S0 S_ Ta Tb IM h3 p3 Tc IP Td J3 M4 M5 M6 Te BA Vg Vh Tf n1 n2 n3 Tg=>⟨rfl,?_⟩⟩;have M7:=xu O J3.ok Tf;refine ⟨x3,xP,_,rfl,J3.ins,by rfl,?_⟩
    try unfold fc
    refine ⟨x3,xP,SY,S0,S_,Ta,Tb,_,IM,_,R,h3,rfl,J3,M6,λ l9 FK M8 Vi M9=>?_⟩;have IQ:Fx (λ b=>b=P1∨b=P2) H7 FK:=λ b u e n=>M8 b u (Td b u (M3 b u e) λ z=>by
      rcases z with z | z
      · subst z;rw [Po _ _ e] at mh;cases mh
      · exact n z)
    have BX:=J1.trans IQ;have Pp:=L3.fx BX (nS uB uC L3.ins λ _ z=>nomatch z) (nS uB uC L3.pt λ _ z=>nomatch z) (by obtain ⟨zs,e,_⟩:=L3.iT;exact nS uB uC e λ _ z=>nomatch z) (nS uB uC L3.hs λ _ z=>nomatch z) (nT uB uC);have CI:H3 pe=some (.lst (cw pts.length h)):=s3 _ _ U.ht;have M_:=BX _ _ CI (nS uB uC CI λ _ z=>nomatch z);have IS:=BX _ _ J0 (nS uB uC J0 λ _ z=>nomatch z);have IT:=IQ _ _ FJ (nS Ph Pj FJ λ _ z=>nomatch z);refine ⟨_,rfl,_,rfl,_,rfl,_,rfl,_,rfl,x,dx,_,rfl,Pp.ins,by rfl,?_⟩
    try unfold fc
    refine ⟨x,dx,pp,pm,ph,pe,pw,rs,pts,has,R',h,rfl,Pp,M_,λ Th vT J4 Ti Na=>?_⟩;refine λ y dy hy MD Tj=>?_;have Pq:=(SE.trans BX).trans (Fx.of (S:=λ b=>b=P1∨b=P2) J4);have IU:=aA.same M4 (M8.trans J4);have IV:=aA.same M5 (M8.trans J4);have fr:∀ {c:Addr},vT c=none→H c=none:=λ e=>dc Pq e λ b hb=>let ⟨u,e⟩:=tab vT IU IV b hb;⟨_,e⟩
    have FL:av vT (upd (upd vT dy (.own y)) y (.ins CD dy [])):=fo hy MD;have EU:upd (upd vT dy (.own y)) y (.ins CD dy []) y=some (.ins CD dy []):=af;show CT CD _ (upd (upd vT dy (.own y)) y (.ins CD dy [])) _ _;generalize upd (upd vT dy (.own y)) y (.ins CD dy [])=J5 at FL EU ⊢;have FN:=J4.trans FL;refine ⟨y,dy,MT,l9,lo,Th,qq,tk,_,_,_,rfl,EU,FN _ _ IT,M9.same FN,FN _ _ IS,Na.same FL,λ l1 l2 l3 l4 IW Pr e1 e2 e3 e4 d1 d2 d3 J6=>⟨rfl,?_⟩⟩;have EN:vT y=none:=hy;have J7:∀ {c:Addr},J5 c=none→H c=none:=λ e=>fr (bu FL e);have Nb:Fx (λ b=>b=P1∨b=P2) H IW:=λ b u e n=>Pr b u (FL b u (Pq b u e n)) λ z=>by
      subst z;rw [fr EN] at e;cases e
    have tb:∀ {q:Str} {pos:Pos} {P0:Addr},aA vT P0 pos q→aA IW P0 pos q:=λ {q pos P0} t=>by
      obtain ⟨tp,e⟩:=aA.there t;refine aA.fx (aA.same t FL) Pr (λ z=>?_) λ c o u hc z=>?_
      · subst z;rw [EN] at e;cases e
      · subst hc;rw [EU] at z;cases z
    have MB:∀ (pts:List Int) (h:Nat→Int),(Ln.bX pts h).length≤pts.length:=λ pts h=>by
      unfold Ln.bX;rw [List.length_map];exact Nat.le_trans (List.length_filter_le _ _) (by simp)
    have p1:=MB IM h3;have p2:=MB pts h;have q1:=J3.pl;have q2:=L.pl;exact q y dy l1 l2 l3 l4 qq tk _ _ _ IW Nb (fr EN) (J7 e1) (J7 e2) (J7 e3) (J7 e4) d1 d2 d3 J6 O M7 ES (by lia) (by lia) (by lia) (by lia) (tb IU) (tb IV)
end
section
variable {q:Int} {l1 l2 l3 l4:Addr}
theorem mP:(jL q l1 l2 l3 l4).lookup (Str.ofString "price")=some (.int q):=rfl
theorem oU:(jL q l1 l2 l3 l4).lookup (Str.ofString "taken")=some (.ref l1):=rfl
theorem CV:(jL q l1 l2 l3 l4).lookup (Str.ofString "tolls")=some (.ref l2):=rfl
theorem oV:(jL q l1 l2 l3 l4).lookup (Str.ofString "others")=some (.ref l3):=rfl
theorem CW:(jL q l1 l2 l3 l4).lookup (Str.ofString "other_tolls")=some (.ref l4):=rfl
end
theorem uH (c:Int):∀ ns:List Int,AU (.int c) (ns.map V.int)=decide (c∈ns)
  | []=>by simp [AU]
  | n :: ns=>by
    have ih:=uH c ns;unfold AU at ih ⊢;rw [List.map_cons,List.any_cons,ih,Bool.eq_iff_iff];simp [uW];exact or_congr_left eq_comm
noncomputable def sr (tk:List Int) (ts:List (Int×Int)) (os:List Int) (us:List (Int×Int)) (rs:Ln.Rs) (m f l q:Int):Bool :=
  cN tk ts (rs ++ [(f,l,q)]) m && (cN os us rs m && (decide ((rs.length:Int)∈tk) && decide (Ln.aG (rs ++ [(f,l,q)]) tk=Ln.aG rs os)))
section
variable {P:Program} {w:World} {K:PySem.W.Frag} {mg:Str→Option Value} {base:Heap} {CA CB CD CL CC fD:Addr} {dD:FuncData}
theorem Ad:az ["self","requests","rooms","first","last","asked","everyone"] ["self","requests","rooms","first","last"] (ao kr):=dZ
noncomputable def CZ (CD:Addr):Sp:=λ vs H Q _=>∃ (x dx l1 l2 l3 l4 b:Addr) (m f l q:Int) (tk:List Int) (ts:List (Int×Int)) (os:List Int) (us:List (Int×Int)) (rs:Ln.Rs),vs=[.ref x,.ref b,.int m,.int f,.int l]∧hZ CD H x dx l1 l2 l3 l4 q tk ts os us∧a9 H b rs∧GoodR rs∧f≤l∧0≤q∧rs.length≤4000∧tk.length≤4000∧os.length≤4000∧ts.length≤5000∧us.length≤5000∧0≤m∧m < 2 ^ 64 ∧
  ∀ H',av H H'→Q (.bl (sr tk ts os us rs m f l q)) H'
theorem IX (B:Bl mg) (T:xv K mg CA CB CD CL CC fD dD) (GR:Def P w K mg base bN 4 "are_requests" ["value"] (kP K)) (GM:Def P w K mg base bN 2 "are_rooms" ["value"] (jn K)) (G1:Def P w K mg base bN 3 "is_request" ["value"] (tP K)) (GB:Def P w K mg base bN 4 "is_best" ["taken","tolls","requests","rooms"] oR) (GW:Def P w K mg base bN 1 "worth_of" ["taken","requests"] jJ):kG P w K mg base 5 CD "shows" ["self","requests","rooms","first","last"] (CZ CD):=by
  refine T.sh.ok Ad (λ vs H Q E h=>?_) λ f bM A outer s H vs Q E hr h=>?_
  · obtain ⟨x,dx,l1,l2,l3,l4,b,m,f,l,q,tk,ts,os,us,rs,rfl,_⟩:=h;rfl
  · obtain ⟨x,dx,l1,l2,l3,l4,b,m,fi,la,qq,tk,ts,os,us,rs,rfl,X,hR,hg,sQ,hq,hz,y7,EK,JY,Tn,hm,xF,q⟩:=h;have de:bc 1 _:=hr.mono (by decide);have zS:bc 2 _:=hr.mono (by decide);have FG:bc 3 _:=hr.mono (by decide);refine ⟨_,ag (aK (i:=5) Ad.nd rfl (Or.inl rfl) (bL (aa (pv 3) (aa (pv 4) (aa (aN (pv 0) rfl) ae)))))
      (ag (bK (PW.pt (pw_or (bJ (aW (au GR hr rfl aD (aa (pv 1) ae)))) (pw_or (bJ (aW (au GM zS rfl aD (aa (pv 2) ae)))) (pw_or1 (bJ (aW (au G1 FG rfl aD (aa (pv 5) ae)))))))) (aj (aH b7)) aQ)
      (ag (aK (i:=6) Ad.nd rfl (Or.inl rfl) (aF gA (pv 1) (cQ (aa (pv 5) ae))))
      (ag (bK (bJ (aW (au GB hr rfl aD (aa (aN (pv 0) rfl) (aa (aN (pv 0) rfl) (aa (pv 6) (aa (pv 2) ae))))))) (aj (aH b7)) aQ)
      (ag (bK (bJ (aW (au GB hr rfl aD (aa (aN (pv 0) rfl) (aa (aN (pv 0) rfl) (aa (pv 1) (aa (pv 2) ae))))))) (aj (aH b7)) aQ)
      (aj (aH (cp (b8 wb (aB aL (by rfl) B.len PySem.boot_len (aa (pv 1) ae)) (aN (pv 0) rfl) (by with_unfolding_all rfl))
        (c_ (b8 gw (au GW de rfl aD (aa (aN (pv 0) rfl) (aa (pv 6) ae))) (au GW de rfl aD (aa (aN (pv 0) rfl) (aa (pv 1) ae))) (aR _)))))))))),?_⟩
    obtain ⟨xs,hb,eM,_⟩:=id hR;refine ⟨_,rfl,_,rfl,dY X.ins T.okD.cl T.np mP ⟨by show 3≤sizeLine;decide,λ t ht=>?_⟩⟩;have s1:av H (upd H t (.tup [.int fi,.int la,.int qq])):=ah ht;have Cn:upd H t (.tup [.int fi,.int la,.int qq]) t=some (.tup [.int fi,.int la,.int qq]):=af;generalize upd H t (.tup [.int fi,.int la,.int qq])=H1 at s1 Cn ⊢;refine ⟨_,rfl,?_⟩;unfold fc;refine zj (jW (aC s1 hR) hg (by lia)) λ H2 s2=>⟨_,rfl,bV ?_⟩;refine ⟨_,rfl,_,_,rfl,bF.int m,_,rfl,?_⟩;have em:m_ (.int m)=true:=decide_eq_true hm;rw [em];refine bV ?_;have pO:=s2 _ _ Cn;refine ⟨_,rfl,_,rfl,.inr ⟨t,_,rfl,pO,λ v hv=>?_⟩,λ bb D0=>⟨_,rfl,?_⟩⟩
    · simp at hv;rcases hv with rfl | rfl | rfl
      · exact ⟨_,bF.int _⟩
      · exact ⟨_,bF.int _⟩
      · exact ⟨_,bF.int _⟩
    rw [jm D0 (lO pO sQ hq)];refine bV ?_;have S2:=s1.trans s2;have Pt:=S2 _ _ hb;refine ⟨_,rfl,_,rfl,by show 1≤sizeLine;decide,λ lt dg=>⟨b,lt,xs,_,rfl,rfl,(ah dg) _ _ Pt,af,by rw [sizeLine_eq];simp;lia,λ ev IZ=>?_⟩⟩;have s3:av H2 (upd H2 lt (.lst [.ref t])):=ah dg;have BL:a9 (upd (upd H2 lt (.lst [.ref t])) ev (.lst (xs ++ [.ref t]))) ev (rs ++ [(fi,la,qq)]):=iC (r:=(fi,la,qq)) (aC (S2.trans s3) hR) (s3 _ _ Pt) (s3 _ _ pO) IZ;have s4:av H2 (upd (upd H2 lt (.lst [.ref t])) ev (.lst (xs ++ [.ref t]))):=s3.trans (ah IZ);generalize upd (upd H2 lt (.lst [.ref t])) ev (.lst (xs ++ [.ref t]))=H4 at BL s4 ⊢;have S4:=S2.trans s4;have X4:=X.same S4;have FI:GoodR (rs ++ [(fi,la,qq)]):=λ r hr=>by
      rcases List.mem_append.mp hr with z | z
      · exact hg r z
      · rw [List.mem_singleton.mp z];exact ⟨sQ,hq⟩
    have q':=q;unfold sr at q';refine (dY X4.ins T.okD.cl T.nt oU (dY X4.ins T.okD.cl T.nl CV ⟨_,rfl,_,rfl,?_⟩));refine ⟨l1,l2,ev,m,tk,ts,_,rfl,X4.tk,X4.tl,BL,FI,by lia,by lia,by simp;lia,hm,xF,λ H5 s5=>⟨_,rfl,?_⟩⟩;cases hc:cN tk ts (rs ++ [(fi,la,qq)]) m with
    | false =>
      rw [hc] at q';exact bW (q' H5 (S4.trans s5))
    | true =>
    rw [hc,Bool.true_and] at q';refine bV ?_;have S5:=S4.trans s5;have X5:=X.same S5;refine (dY X5.ins T.okD.cl T.no oV (dY X5.ins T.okD.cl T.nu CW ⟨_,rfl,_,rfl,?_⟩));refine ⟨l3,l4,b,m,os,us,rs,rfl,X5.ot,X5.ol,aC S5 hR,hg,by lia,by lia,by lia,hm,xF,λ H6 s6=>⟨_,rfl,?_⟩⟩;cases y6:cN os us rs m with
    | false =>
      rw [y6] at q';exact bW (q' H6 (S5.trans s6))
    | true =>
    rw [y6,Bool.true_and] at q';refine bV ?_;have S6:=S5.trans s6;have X6:=X.same S6;refine ⟨_,rfl,b,xs,rfl,.inl (aJ.of (S6 _ _ hb)),dY X6.ins T.okD.cl T.nt oU ⟨l1,_,rfl,.inl (aJ.of X6.tk),rfl,iu _,_,rfl,?_⟩⟩;rw [show (if false=true then !AU (V.int (xs.length:Nat)) (tk.map V.int) else AU (V.int (xs.length:Nat)) (tk.map V.int))=decide ((rs.length:Int)∈tk) by rw [if_neg Bool.false_ne_true,uH,eM]];cases EM:decide ((rs.length:Int)∈tk) with
    | false =>
      rw [EM] at q';exact bV (q' H6 S6)
    | true =>
    rw [EM,Bool.true_and] at q';obtain ⟨_,b2,_⟩:=bR hc;obtain ⟨_,c2,_⟩:=bR y6;refine bW (dY X6.ins T.okD.cl T.nt oU ⟨_,rfl,l1,ev,tk,_,rfl,X6.tk,aC (s5.trans s6) BL,b2,by lia,λ H7 s7=>?_⟩);have S7:=S6.trans s7;have X7:=X.same S7;refine (dY X7.ins T.okD.cl T.no oV ⟨_,rfl,l3,b,os,rs,rfl,X7.ot,aC S7 hR,c2,by lia,λ H8 s8=>⟨rfl,?_⟩⟩);rw [show decide (V.int (Ln.aG (rs ++ [(fi,la,qq)]) tk)=V.int (Ln.aG rs os))=decide (Ln.aG (rs ++ [(fi,la,qq)]) tk=Ln.aG rs os) by simp];exact q' H8 (S7.trans s8)
theorem su:az ["_law_requests_here","_law_rooms_here","_law_first","_law_last","_law_found","_law_more"] ["_law_requests_here","_law_rooms_here","_law_first","_law_last","_law_found"] (ao gU):=dZ
noncomputable def sv (CD:Addr):Sp:=λ vs H Q _=>∃ (x dx l1 l2 l3 l4 b:Addr) (m f l q:Int) (tk:List Int) (ts:List (Int×Int)) (os:List Int) (us:List (Int×Int)) (rs:Ln.Rs),vs=[.ref b,.int m,.int f,.int l,.ref x]∧hZ CD H x dx l1 l2 l3 l4 q tk ts os us∧a9 H b rs∧0≤q∧rs.length≤4000∧tk.length≤4000∧os.length≤4000∧ts.length≤5000∧us.length≤5000∧0≤m∧m < 2 ^ 64 ∧
  ∀ H',av H H'→Q (.bl (sr tk ts os us rs m f l q)) H'
theorem Ae (B:Bl mg) (T:xv K mg CA CB CD CL CC fD dD) (GN:Def P w K mg base bN 1 "_law_whole" ["_law_number"] ix) (GB:Def P w K mg base bN 3 "_law_best" ["_law_requests_here","_law_rooms_here","_law_some","_law_tolls"] r_) (GW:Def P w K mg base bN 1 "_law_worth" ["_law_requests_here","_law_some"] iz)
    (D:FnAt K mg "_law_owed" gU ["_law_requests_here","_law_rooms_here","_law_first","_law_last","_law_found"]):Def P w K mg base bN 4 "_law_owed" ["_law_requests_here","_law_rooms_here","_law_first","_law_last","_law_found"] (sv CD):=by
  refine D.ok su (λ vs H Q E h=>?_) λ f bM A outer s H vs Q E hr h=>?_
  · obtain ⟨x,dx,l1,l2,l3,l4,b,m,f,l,q,tk,ts,os,us,rs,rfl,_⟩:=h;rfl
  · obtain ⟨x,dx,l1,l2,l3,l4,b,m,fi,la,qq,tk,ts,os,us,rs,rfl,X,hR,hq,hz,y7,EK,JY,Tn,hm,xF,q⟩:=h;have de:bc 1 _:=hr.mono (by decide);refine ⟨_,ag (bK (PW.pt (pw_or (bJ (aW (au GN de rfl aD (aa (aN (pv 4) rfl) ae)))) (pw_or (bh iJ (aN (pv 4) rfl) ai (aR _)) (pw_or1 (bh pz (aB aL (by rfl) B.len PySem.boot_len (aa (pv 0) ae)) (aN (pv 4) rfl) (by with_unfolding_all rfl)))))) (aj (aH b7)) aQ)
      (ag (aK (i:=5) su.nd rfl (Or.inl rfl) (aF gA (pv 0) (cQ (aa (bL (aa (pv 2) (aa (pv 3) (aa (aN (pv 4) rfl) ae)))) ae))))
      (ag (bK (bJ (aW (au GB hr rfl aD (aa (pv 5) (aa (pv 1) (aa (aN (pv 4) rfl) (aa (aN (pv 4) rfl) ae))))))) (aj (aH b7)) aQ)
      (ag (bK (bJ (aW (au GB hr rfl aD (aa (pv 0) (aa (pv 1) (aa (aN (pv 4) rfl) (aa (aN (pv 4) rfl) ae))))))) (aj (aH b7)) aQ)
      (aj (aH (b8 gw (au GW de rfl aD (aa (pv 5) (aa (aN (pv 4) rfl) ae))) (au GW de rfl aD (aa (pv 0) (aa (aN (pv 4) rfl) ae))) (aR _))))))),?_⟩
    obtain ⟨xs,hb,eM,_⟩:=id hR;have q':=q;unfold sr at q';refine (dY X.ins T.okD.cl T.np mP ⟨_,rfl,_,rfl,bV ?_⟩);refine (dY X.ins T.okD.cl T.np mP ⟨_,_,rfl,rfl,_,rfl,df (by simpa using hq) ?_⟩);refine ⟨_,rfl,b,xs,rfl,.inl (aJ.of hb),dY X.ins T.okD.cl T.nt oU ⟨l1,_,rfl,.inl (aJ.of X.tk),rfl,iu _,_,rfl,?_⟩⟩;rw [show (if true=true then !AU (V.int (xs.length:Nat)) (tk.map V.int) else AU (V.int (xs.length:Nat)) (tk.map V.int)) = !decide ((rs.length:Int)∈tk) by rw [if_pos rfl,uH,eM]];cases EM:decide ((rs.length:Int)∈tk) with
    | false =>
      rw [EM,Bool.false_and,Bool.and_false,Bool.and_false] at q';exact bW (q' H (av.refl _))
    | true =>
    rw [EM,Bool.true_and] at q';refine bV ?_;refine ⟨_,rfl,_,rfl,_,rfl,dY X.ins T.okD.cl T.np mP ⟨by show 3≤sizeLine;decide,λ t ht=>⟨by show 1≤sizeLine;decide,λ lt dg=>⟨b,lt,xs,_,rfl,rfl,((ah ht).trans (ah dg)) _ _ hb,af,by rw [sizeLine_eq];simp;lia,λ ev IZ=>?_⟩⟩⟩⟩;have s1:av H (upd H t (.tup [.int fi,.int la,.int qq])):=ah ht;have s2:av (upd H t (.tup [.int fi,.int la,.int qq])) (upd (upd H t (.tup [.int fi,.int la,.int qq])) lt (.lst [.ref t])):=ah dg;have BL:a9 (upd (upd (upd H t (.tup [.int fi,.int la,.int qq])) lt (.lst [.ref t])) ev (.lst (xs ++ [.ref t]))) ev (rs ++ [(fi,la,qq)]):=iC (r:=(fi,la,qq)) (aC (s1.trans s2) hR) ((s1.trans s2) _ _ hb) (s2 _ _ af) IZ;have S4:av H (upd (upd (upd H t (.tup [.int fi,.int la,.int qq])) lt (.lst [.ref t])) ev (.lst (xs ++ [.ref t]))):=(s1.trans s2).trans (ah IZ);generalize upd (upd (upd H t (.tup [.int fi,.int la,.int qq])) lt (.lst [.ref t])) ev (.lst (xs ++ [.ref t]))=H4 at BL S4 ⊢;have X4:=X.same S4;refine ⟨_,rfl,_,rfl,dY X4.ins T.okD.cl T.nt oU (dY X4.ins T.okD.cl T.nl CV ?_)⟩;refine ⟨ev,l1,l2,m,tk,ts,_,rfl,X4.tk,X4.tl,BL,by lia,by lia,by simp;lia,by lia,by lia,λ H5 s5=>⟨_,rfl,?_⟩⟩;cases hc:cN tk ts (rs ++ [(fi,la,qq)]) m with
    | false =>
      rw [hc] at q';exact bW (q' H5 (S4.trans s5))
    | true =>
    rw [hc,Bool.true_and] at q';refine bV ?_;have S5:=S4.trans s5;have X5:=X.same S5;refine ⟨_,rfl,_,rfl,dY X5.ins T.okD.cl T.no oV (dY X5.ins T.okD.cl T.nu CW ?_)⟩;refine ⟨b,l3,l4,m,os,us,rs,rfl,X5.ot,X5.ol,aC S5 hR,by lia,by lia,by lia,by lia,by lia,λ H6 s6=>⟨_,rfl,?_⟩⟩;cases y6:cN os us rs m with
    | false =>
      rw [y6] at q';exact bW (q' H6 (S5.trans s6))
    | true =>
    rw [y6,Bool.true_and] at q';refine bV ?_;have S6:=S5.trans s6;have X6:=X.same S6;obtain ⟨_,b2,_⟩:=bR hc;obtain ⟨_,c2,_⟩:=bR y6;refine ⟨_,rfl,dY X6.ins T.okD.cl T.nt oU ⟨l1,ev,tk,_,rfl,X6.tk,aC (s5.trans s6) BL,b2,by lia,λ H7 s7=>?_⟩⟩;have S7:=S6.trans s7;have X7:=X.same S7;refine ⟨_,rfl,dY X7.ins T.okD.cl T.no oV ⟨l3,b,os,rs,rfl,X7.ot,aC S7 hR,c2,by lia,λ H8 s8=>⟨rfl,?_⟩⟩⟩;rw [show decide (V.int (Ln.aG (rs ++ [(fi,la,qq)]) tk)=V.int (Ln.aG rs os))=decide (Ln.aG (rs ++ [(fi,la,qq)]) tk=Ln.aG rs os) by simp];exact q' H8 (S7.trans s8)
end
end Sp
namespace L2
open PySem PySem.Spec PyProof.Rows
theorem EV {X:Cx}:iI X (compareOp .Is) (λ x y H Q=>∃ c d,x = .bl c∧y = .bl d∧Q (.bl (c == d)) H):=by
  intro pins s σ H x y v u Q I rx ry h;obtain ⟨c,d,rfl,rfl,q⟩:=h;cases rx;cases ry;exact is_bool (bg I q rfl)
end L2
namespace Sp
open PySem L2
seal PE PA PS jM PT PG uK PI PW tK
section
variable {P:Program} {w:World} {K:PySem.W.Frag} {mg:Str→Option Value} {base:Heap} {CA CB CD CL CC fB fD:Addr} {dB dD:FuncData} {P1 P2:Addr}
theorem Nc {t u:TS} {D:Ends} {σ:St} {H:Hp} {i:Nat} {x:V} {rt bk ct} (R:St→Hp→Prop) (h1:∀ N:St→Hp→Prop,(∀ σ H,R σ H→N σ H)→t { D with nx:=N } (σ.set i (some x)) H) (h2:∀ σ H,R σ H→u D σ H):fb i x σ H (Ends.mk (Dk t u D) rt bk ct).nx:=h1 _ h2
theorem Nd {t u:TS} {D:Ends} {σ:St} {H:Hp} (R:St→Hp→Prop) (h1:∀ N:St→Hp→Prop,(∀ σ H,R σ H→N σ H)→t { D with nx:=N } σ H) (h2:∀ σ H,R σ H→u D σ H):Dk t u D σ H:=h1 _ h2
theorem Nf {l1 l2:Addr}:([("taken",V.ref l1),("tolls",V.ref l2)]:List (Str×V)).lookup (Str.ofString "taken")=some (.ref l1):=rfl
theorem Af {ns:List Int} {ts:List (Int×Int)} {rs:Ln.Rs} {m:Int}:cN (ns ++ [(rs.length:Int)]) ts rs m=false:=by
  rw [Bool.eq_false_iff];intro h;obtain ⟨_,b,_⟩:=bR h;have:=b (rs.length:Int) (by simp)
  lia
structure Calls (P:Program) (w:World) (K:PySem.W.Frag) (mg:Str→Option Value) (base:Heap) (CB CD P1 P2:Addr):Prop where
  reqs:Def P w K mg base bN 2 "_law_requests" ["_law_script"] (qU K)
  rooms:Def P w K mg base bN 2 "_law_rooms" ["_law_script","_law_many"] (oH K)
  cell:Def P w K mg base bN 1 "_law_cell_at" ["_law_script","_law_k"] (kR K)
  draw:Def P w K mg base bN 1 "_law_draw" ["_law_cell","_law_k","_law_many"] kT
  Ag:Def P w K mg base bN 1 "_law_worth" ["_law_requests_here","_law_some"] iz
  I0:Def P w K mg base bN 4 "_law_owed" ["_law_requests_here","_law_rooms_here","_law_first","_law_last","_law_found"] (sv CD)
  best:Def P w K mg base bN 9 "best" ["requests","rooms"] (vJ CB P1 P2)
  Pu:Def P w K mg base bN 9 "due" ["requests","rooms","first","last"] (Ac CD P1 P2)
  Ah:kG P w K mg base 5 CD "shows" ["self","requests","rooms","first","last"] (CZ CD)
theorem dF:az ["_law_script","_law_requests_here","_law_rooms_here","_law_first","_law_last","_law_price","_law_handed","_law_found","_law_many","_law_end","_law_worth_here","_law_whole_here","_law_more"] ["_law_script"] (ao u0):=dZ
noncomputable def Ai (K:PySem.W.Frag) (P1 P2:Addr):Sp:=λ vs H Q _=>∃ (a:Addr) (ns:List Int),vs=[.ref a]∧aJ K H a (ns.map V.int)∧ns.length≤63∧eN H P1∧eO H P2∧∀ H',Q (.bl true) H'
theorem EW {f:Addr} {fd:FuncData} (B:Bl mg) (TB:BR K mg CA CB CD CL CC fB dB) (T:xv K mg CA CB CD CL CC fD dD) (C:Calls P w K mg base CB CD P1 P2) (F:uX K "law" "law" u0 f fd):fA P w K mg base bN 10 f fd ["_law_script"] (Ai K P1 P2):=by
  refine F.ok dF (λ vs H Q E h=>?_) λ bM A outer s H vs Q E hr h=>?_
  · obtain ⟨a,ns,rfl,_⟩:=h;rfl
  · obtain ⟨a,ns,rfl,hl,hn,sR,n8,q⟩:=h;have de:bc 1 _:=hr.mono (by decide);have zS:bc 2 _:=hr.mono (by decide);have Pw:bc 4 _:=hr.mono (by decide);have EL:bc 5 _:=hr.mono (by decide);refine ⟨_,ag (aK (i:=1) dF.nd rfl (Or.inl rfl) (au C.reqs zS rfl aD (aa (pv 0) ae)))
      (ag (aK (i:=2) dF.nd rfl (Or.inl rfl) (aB (jQ rfl) (by rfl) B.max PyProof.Rows.Boot.«max» (aa ai (aa (au C.rooms zS rfl aD (aa (pv 0) (aa (aB aL (by rfl) B.len PySem.boot_len (aa (pv 1) ae)) ae))) ae))))
      (ag (aK (i:=3) dF.nd rfl (Or.inl rfl) (aF di (au C.draw de rfl aD (aa (au C.cell de rfl aD (aa (pv 0) (aa ai ae))) (aa ai (aa ai ae)))) ai))
      (ag (aK (i:=4) dF.nd rfl (Or.inl rfl) (aF bj (pv 3) (au C.draw de rfl aD (aa (au C.cell de rfl aD (aa (pv 0) (aa ai ae))) (aa ai (aa ai ae))))))
      (ag (bK (bh gw (aF cX (aB aL (by rfl) B.len PySem.boot_len (aa (pv 0) ae)) ai) ai (aR _)) (aj (aK (i:=4) dF.nd rfl (Or.inl rfl) (aF bj (pv 4) (aF cX (au C.cell de rfl aD (aa (pv 0) (aa ai ae))) (aF lp ai ai))))) aQ)
      (ag (bK (PW.pt (pw_and (bh (n_ hr.units) (pv 1) (cQ ae) (aR _)) (pw_and1 (bh gw (au C.draw de rfl aD (aa (au C.cell de rfl aD (aa (pv 0) (aa ai ae))) (aa ai (aa ai ae)))) ai (aR _)))))
          (aj (lg (aO bU (pv 1) (au C.draw de rfl aD (aa (au C.cell de rfl aD (aa (pv 0) (aa ai ae))) (aa ai (aa (aB aL (by rfl) B.len PySem.boot_len (aa (pv 1) ae)) ae)))) (λ _ _=>rfl)) (gX (K:=K) 3 4 5 rfl dF.nd))) aQ)
      (ag (aK (i:=6) dF.nd rfl (Or.inl rfl) (cm cf (by rfl) B.list PyProof.Rows.Boot.«list» (aa (pv 1) ae)))
      (ag (aK (i:=7) dF.nd rfl (Or.inl rfl) (au C.Pu hr rfl aD (aa (pv 6) (aa (pv 2) (aa (pv 3) (aa (pv 4) ae))))))
      (ag (bK (PW.pt (pw_or (bJ (aW (jC B.isinstance T.mA (pv 7)))) (pw_or (bJ (aW (jC B.isinstance T.mD (pv 7)))) (pw_or1 (bh (n_ hr.units) (pv 6) (pv 1) (aR _)))))) (aj (aH b7)) aQ)
      (ag (bK (PW.pt (pw_or (aW (jC B.isinstance T.mB (pv 7))) (pw_or (aW (jC B.isinstance T.mC (pv 7))) (pw_or1 (aW (jC B.isinstance T.mL (pv 7))))))) (aj (aH b7)) aQ)
      (ag (bK (PW.pt (pw_or (bJ (aW (au C.I0 Pw rfl aD (aa (pv 1) (aa (pv 2) (aa (pv 3) (aa (pv 4) (aa (pv 7) ae)))))))) (pw_or1 (bh Bx (uD C.Ah (pv 7) T.okD.cl EL (aa (pv 1) (aa (pv 2) (aa (pv 3) (aa (pv 4) ae))))) b7 (aR _))))) (aj (aH b7)) aQ)
      (ag (ee PassesOwn.never rfl (x6 (bL (aa (bL (aa (aF bj (pv 2) ai) (aa (pv 4) ae))) (aa (bL (aa (pv 2) (aa (aF bj (pv 4) ai) ae))) ae)))) (cC (K:=K) 8 9 rfl dF.nd)
        (aj (bK (bh uR (uD C.Ah (pv 7) T.okD.cl EL (aa (pv 1) (aa (pv 8) (aa (pv 3) (aa (pv 9) ae))))) (au C.I0 Pw rfl aD (aa (pv 1) (aa (pv 8) (aa (pv 3) (aa (pv 9) (aa (pv 7) ae)))))) (aR _)) (aj (aH b7)) aQ)))
      (ag (aK (i:=10) dF.nd rfl (Or.inl rfl) (au C.Ag de rfl aD (aa (pv 1) (aa (aN (pv 7) rfl) ae))))
      (ag (ee PassesOwn.never rfl (x6 (bL (aa (bL (aa (aF di (aN (pv 7) rfl) ai) (aa (pv 10) ae))) (aa (bL (aa (aF bj (aN (pv 7) rfl) ai) (aa (aF bj (pv 10) ai) ae))) ae)))) (cC (K:=K) 5 11 rfl dF.nd)
        (aj (bK (bh nL (pv 5) ai (aR _)) (ag (aK (i:=12) dF.nd rfl (Or.inl rfl) (aF gA (pv 1) (cQ (aa (bL (aa (pv 3) (aa (pv 4) (aa (pv 5) ae)))) ae))))
          (aj (bK (bh uR (au C.Ag de rfl aD (aa (pv 12) (aa (aN (au C.best hr rfl aD (aa (pv 12) (aa (pv 2) ae))) rfl) ae))) (pv 11) (aR _)) (aj (aH b7)) aQ))) aQ)))
      (ag (cG (qG PySem.F.plainAttrs_list PySem.F.slot_list_append PySem.F.type_list_append d8 (aN (pv 7) rfl) (aa (aB aL (by rfl) B.len PySem.boot_len (aa (pv 1) ae)) ae)))
      (aj (aH (cp (b8 EV (uD C.Ah (pv 7) T.okD.cl EL (aa (pv 1) (aa (pv 2) (aa (pv 3) (aa (pv 4) ae))))) b7 (aR _))
        (c_ (b8 gw (aN (au C.Pu hr rfl aD (aa (cQ ae) (aa ai (aa ai (aa ai ae))))) rfl) ai (aR _)))))))))))))))))))),?_⟩
    refine ⟨_,rfl,a,ns,rfl,hl,hn,λ b rs H1 Vj s1 zD hz bH=>?_⟩;have hg:GoodR rs:=λ r hr=>⟨(bH r hr).1,(bH r hr).2.1⟩;obtain ⟨xs,vc,Lu,_⟩:=id zD;refine ⟨_,rfl,_,rfl,b,_,rfl,.inl (aJ.of vc),a,ns,_,rfl,s1.seq hl,by lia,λ rr H2 Vk To s2=>⟨_,_,rfl,?_⟩⟩;have Px:1≤(if rr > 1 then rr else 1)∧(if rr > 1 then rr else 1) < 300:=by split<;>lia
    generalize (if rr > 1 then rr else 1)=m at Px ⊢;refine ⟨_,rfl,a,ns,4,rfl,(s1.trans s2).seq hl,by decide,_,_,_,rfl,by decide,by decide,λ r3 H3 Vl Vm s3=>⟨_,_,rfl,rfl,?_⟩⟩;refine ⟨_,rfl,_,rfl,a,ns,4,rfl,(s1.trans (s2.trans s3)).seq hl,by decide,_,_,_,rfl,by decide,by decide,λ r4 H4 Vn Vo s4=>⟨_,_,rfl,rfl,?_⟩⟩;have S4:=s1.trans (s2.trans (s3.trans s4));refine Nc (λ σ' H'=>∃ (fi la:Int),σ'=[some (.ref a),some (.ref b),some (.int m),some (.int fi),some (.int la),none,none,none,none,none,none,none,none]∧fi≤la∧av H4 H') (λ N hN=>?_) ?_
    · refine ⟨_,rfl,a,_,rfl,.inl (S4.seq hl),_,_,rfl,rfl,(show (0:Int) < 3 by decide),rfl,_,rfl,yp (λ hc=>?_) (λ hc=>?_)⟩
      · refine ⟨_,rfl,_,rfl,a,ns,1,rfl,S4.seq hl,by decide,_,_,rfl,rfl,⟨by decide,by decide,by decide⟩,_,_,rfl,rfl,?_,_,_,rfl,rfl,hN _ _ ⟨_,_,rfl,?_,av.refl _⟩⟩
        · show (0:Int) < 10 ^ (40:Int).toNat;decide
        · have:=Int.emod_nonneg (ns.getD (1:Int).toNat 0) (show (10 ^ (40:Int).toNat:Int)≠0 by decide)
          lia
      · exact hN _ _ ⟨_,_,rfl,by lia,av.refl _⟩
    rintro σ' H5 ⟨fi,la,rfl,sQ,s5⟩;have S5:=S4.trans s5;have Ng:=s2.trans (s3.trans (s4.trans s5));refine Nd (λ σ' H'=>∃ (fi la:Int) (o5:Option V),σ'=[some (.ref a),some (.ref b),some (.int m),some (.int fi),some (.int la),o5,none,none,none,none,none,none,none]∧fi≤la∧av H5 H') (λ N hN=>?_) ?_
    · refine ⟨_,rfl,Nat.zero_le _,λ e0 Nh=>?_⟩;have s6:av H5 (upd H5 e0 (.lst [])):=ah Nh;have J8:upd H5 e0 (.lst []) b=some (.lst xs):=(Ng.trans s6) _ _ vc;have Ni:upd H5 e0 (.lst []) e0=some (.lst []):=af;generalize upd H5 e0 (.lst [])=H6 at s6 J8 Ni ⊢
      by_cases xi:xs.length=0
      · exact ⟨b,e0,xs,[],rfl,rfl,aJ.of J8,aJ.of Ni,.inl ⟨xi,λ _=>true,λ j u v ex ey=>by simp at ey,_,rfl,df (by simp [xi]) (hN _ _ ⟨_,_,_,rfl,sQ,s6⟩)⟩⟩
      · refine ⟨b,e0,xs,[],rfl,rfl,aJ.of J8,aJ.of Ni,.inr ⟨xi,_,rfl,bW ?_⟩⟩;refine ⟨_,rfl,a,ns,4,rfl,(S5.trans s6).seq hl,by decide,_,_,_,rfl,by decide,by decide,λ r5 H7 Vp Vq s7=>⟨rfl,_,rfl,yp (λ h=>?_) (λ h=>hN _ _ ⟨_,_,_,rfl,sQ,s6.trans s7⟩)⟩⟩;have S7:=S5.trans (s6.trans s7);have Tp:=s7 _ _ J8;refine ⟨_,rfl,_,rfl,a,ns,4,rfl,S7.seq hl,by decide,_,rfl,b,_,rfl,.inl (aJ.of Tp),_,_,_,rfl,by decide,by lia,λ r6 H8 Tq Vr s8=>?_⟩;have Ts:=aC (Ng.trans (s6.trans (s7.trans s8))) zD;have hc:r6.toNat < rs.length:=by lia
        obtain ⟨zs,p,e1,e2,e3⟩:=fW Ts Tq hc;have Tt:=hg _ (mI hc);exact ⟨b,_,_,_,rfl,rfl,aJ.of e1,e2,p,_,rfl,b_.of e3,rfl,_,_,rfl,_,_,rfl,_,_,rfl,rfl,hN _ _ ⟨_,_,_,rfl,Tt.1,s6.trans (s7.trans s8)⟩⟩
    rintro σ' H9 ⟨f9,l9,o5,rfl,Aj,s9⟩;have Py:=Ng.trans s9;have S9:=S5.trans s9;have Nj:=Py _ _ vc;have Pz:=aC Py zD;refine ⟨_,rfl,b,xs,rfl,.inl (aJ.of Nj),λ hd PB=>?_⟩;have Aw:av H9 (upd H9 hd (.lst xs)):=ah PB;have EX:upd H9 hd (.lst xs) hd=some (.lst xs):=af;have C0:a9 (upd H9 hd (.lst xs)) hd rs:=w9 Pz Nj PB;generalize upd H9 hd (.lst xs)=MY at Aw EX C0 ⊢;have PC:=S9.trans Aw;have BY:=aA.same sR PC;have BZ:=aA.same n8 PC;refine ⟨_,rfl,_,rfl,_,rfl,_,rfl,hd,rs,m,f9,l9,rfl,C0,hg,by lia,Px.1,Aj,BY,BZ,λ x dx l1 l2 l3 l4 qq tk ts os us ET Nk xM n1 n2 n3 n4 d1 d2 d3 X O M7 ES z1 z2 z3 z4 Nl Nm=>?_⟩;have nS:∀ {G:Hp},eN G P1→eO G P2→∀ {c:Addr} {u:HO},G c=some u→(∀ ps,u≠.gj ps)→¬ (c=P1∨c=P2):=by
      intro G t1 t2 c u e n z;rcases z with z | z
      · subst z;obtain ⟨v,e2⟩:=aA.there t1;rw [e] at e2;cases e2;exact n _ rfl
      · subst z;obtain ⟨v,e2⟩:=aA.there t2;rw [e] at e2;cases e2;exact n _ rfl
    have nT:∀ {G:Hp},eN G P1→eO G P2→∀ (c:Addr) (v:List V),(c=P1∨c=P2)→G c≠some (.tup v):=by
      intro G t1 t2 c v hc e;exact nS t1 t2 e (λ _ z=>nomatch z) hc
    have B0:=Aw _ _ Nj;have bS:=nS BY BZ B0 λ _ z=>nomatch z;have B1:=Nk _ _ B0 bS;have sH:=d7 (aC Aw Pz) Nk bS (nT BY BZ);have Nn:=Nk _ _ EX (nS BY BZ EX λ _ z=>nomatch z);have ty:bF K ET (.ref x) (.ref CD):=T.okD.ty X.ins;refine ⟨_,rfl,_,_,_,rfl,ty,T.ka,_,rfl,bV ⟨_,rfl,_,_,_,rfl,ty,T.kd,_,rfl,bV ?_⟩⟩;refine ⟨_,rfl,_,rfl,hd,b,xs,xs,rfl,rfl,aJ.of Nn,aJ.of B1,.inl ⟨rfl,λ _=>true,λ j u v ex ey=>?_,_,rfl,df (by simp) ?_⟩⟩
    · rw [ex] at ey;cases ey;obtain ⟨p,rfl,hp⟩:=fV sH B1 ex;exact By hp
    refine ⟨_,rfl,_,_,_,rfl,ty,T.kb,_,rfl,bV ⟨_,rfl,_,_,_,rfl,ty,T.kc,_,rfl,bV ⟨_,rfl,_,_,_,rfl,ty,T.kl,_,rfl,bV ?_⟩⟩⟩;have hD:sr tk ts os us rs m f9 l9 qq=true:=by
      unfold sr;obtain ⟨ms,e,_⟩:=O.ex;rw [M7,ES,O.worth,e];simp
    refine ⟨_,rfl,_,rfl,_,rfl,_,rfl,_,rfl,x,dx,l1,l2,l3,l4,b,m,f9,l9,qq,tk,ts,os,us,rs,rfl,X,sH,O.pos,by lia,by lia,by lia,by lia,by lia,by lia,by lia,λ SW CU=>⟨_,rfl,?_⟩⟩;rw [hD];refine bV ?_;have PD:=X.same CU;have Np:=aC CU sH;refine ⟨_,rfl,x,dx,_,rfl,PD.ins,by rfl,_,rfl,_,rfl,_,rfl,_,rfl,x,dx,l1,l2,l3,l4,b,m,f9,l9,qq,tk,ts,os,us,rs,rfl,PD,Np,hg,Aj,O.pos,by lia,by lia,by lia,by lia,by lia,by lia,by lia,λ IP Tu=>⟨_,_,rfl,rfl,_,rfl,?_⟩⟩;rw [hD];refine df (by decide) ?_;refine ⟨_,rfl,_,_,rfl,rfl,_,rfl,by show 2≤sizeLine;decide,λ u1 Tv=>?_⟩;refine ⟨_,rfl,_,rfl,_,_,rfl,rfl,by show 2≤sizeLine;decide,λ u2 Eg=>⟨by show 2≤sizeLine;decide,λ ut Nq=>⟨ut,rfl,⟨_,b_.of af⟩,?_⟩⟩⟩;have sA:av IP (upd IP u1 (.tup [.int (m + 1),.int l9])):=ah Tv;have hA:upd IP u1 (.tup [.int (m + 1),.int l9]) u1=some (.tup [.int (m + 1),.int l9]):=af;generalize upd IP u1 (.tup [.int (m + 1),.int l9])=FK at sA hA Eg Nq ⊢;have sB:av FK (upd FK u2 (.tup [.int m,.int (l9 + 1)])):=ah Eg;have hB:upd FK u2 (.tup [.int m,.int (l9 + 1)]) u2=some (.tup [.int m,.int (l9 + 1)]):=af;generalize upd FK u2 (.tup [.int m,.int (l9 + 1)])=vT at sB hB Nq ⊢;have sC:av vT (upd vT ut (.tup [.ref u1,.ref u2])):=ah Nq;have hC:upd vT ut (.tup [.ref u1,.ref u2]) ut=some (.tup [.ref u1,.ref u2]):=af;generalize upd vT ut (.tup [.ref u1,.ref u2])=J5 at sC hC ⊢;have each:∀ (j:Nat) (v:V),([V.ref u1,V.ref u2]:List V)[j]?=some v→∃ (t:Addr) (k e:Int),v = .ref t∧J5 t=some (.tup [.int k,.int e])∧0≤k∧k < 400∧f9≤e:=λ j v e=>by
      match j,e with
      | 0,e=>exact ⟨u1,_,_,(Option.some.inj e).symm,(sB.trans sC) _ _ hA,by lia,by lia,Aj⟩
      | 1,e=>exact ⟨u2,_,_,(Option.some.inj e).symm,sC _ _ hB,by lia,by lia,by lia⟩
    generalize ([V.ref u1,V.ref u2]:List V)=tl at each hC ⊢;have FN:=CU.trans (Tu.trans (sA.trans (sB.trans sC)));refine eI (lP tl) (λ i σ H8=>∃ o8 o9:Option V,σ=[some (.ref a),some (.ref b),some (.int m),some (.int f9),some (.int l9),o5,some (.ref hd),some (.ref x),o8,o9,none,none,none]∧av J5 H8)
      (λ i σ H8 _ ⟨_,_,_,s8⟩=>b_.of (s8 _ _ hC)) ⟨_,_,rfl,av.refl _⟩ ?_ ?_
    · rintro i v σ IW Tw hi ⟨rfl,gi⟩ ⟨o8,o9,rfl,I_⟩;obtain ⟨t,k,e,rfl,J9,xJ,Tx,Tz⟩:=each i v gi;have B2:=FN.trans I_;refine ⟨t,_,rfl,b_.of (I_ _ _ J9),rfl,_,_,rfl,_,_,rfl,rfl,?_⟩;refine ⟨_,rfl,x,dx,_,rfl,(X.same B2).ins,by rfl,_,rfl,_,rfl,_,rfl,_,rfl,x,dx,l1,l2,l3,l4,b,k,f9,e,qq,tk,ts,os,us,rs,rfl,X.same B2,aC B2 sH,hg,Tz,O.pos,by lia,by lia,by lia,by lia,by lia,by lia,by lia,λ Ja Jb=>?_⟩;refine ⟨_,rfl,_,rfl,_,rfl,_,rfl,_,rfl,x,dx,l1,l2,l3,l4,b,k,f9,e,qq,tk,ts,os,us,rs,rfl,X.same (B2.trans Jb),aC (B2.trans Jb) sH,O.pos,by lia,by lia,by lia,by lia,by lia,by lia,by lia,λ Jc TC=>⟨rfl,_,rfl,?_⟩⟩;exact df (by simp) ⟨_,_,rfl,I_.trans (Jb.trans TC)⟩
    rintro σ IW ⟨o8,o9,rfl,I_⟩;have B2:=FN.trans I_;have J6:=X.same B2;have Nr:=aC B2 sH;obtain ⟨_,o2,_⟩:=bR ES;refine ⟨_,rfl,dY J6.ins T.okD.cl T.no oV ⟨l3,b,os,rs,rfl,J6.ot,Nr,o2,by lia,λ Ja Jb=>?_⟩⟩;have PF:=B2.trans Jb;have PH:=X.same PF;refine (dY PH.ins T.okD.cl T.np mP ⟨_,_,rfl,rfl,_,rfl,by show 2≤sizeLine;decide,λ v1 TF=>?_⟩);have sD:av Ja (upd Ja v1 (.tup [.int (qq - 1),.int (Ln.aG rs os)])):=ah TF;have PJ:upd Ja v1 (.tup [.int (qq - 1),.int (Ln.aG rs os)]) v1=some (.tup [.int (qq - 1),.int (Ln.aG rs os)]):=af;generalize upd Ja v1 (.tup [.int (qq - 1),.int (Ln.aG rs os)])=Jc at sD PJ ⊢;refine (dY ((PH.same sD).ins) T.okD.cl T.np mP ⟨_,_,rfl,rfl,_,rfl,_,_,rfl,rfl,by show 2≤sizeLine;decide,λ v2 TH=>⟨by show 2≤sizeLine;decide,λ vt PL=>⟨vt,rfl,⟨_,b_.of af⟩,?_⟩⟩⟩);have sE:av Jc (upd Jc v2 (.tup [.int (qq + 1),.int (Ln.aG rs os + 1)])):=ah TH;have hE:upd Jc v2 (.tup [.int (qq + 1),.int (Ln.aG rs os + 1)]) v2=some (.tup [.int (qq + 1),.int (Ln.aG rs os + 1)]):=af;generalize upd Jc v2 (.tup [.int (qq + 1),.int (Ln.aG rs os + 1)])=J_ at sE hE PL ⊢;have sG:av J_ (upd J_ vt (.tup [.ref v1,.ref v2])):=ah PL;have hG:upd J_ vt (.tup [.ref v1,.ref v2]) vt=some (.tup [.ref v1,.ref v2]):=af;generalize upd J_ vt (.tup [.ref v1,.ref v2])=PM at sG hG ⊢;have C1:∀ (j:Nat) (v:V),([V.ref v1,V.ref v2]:List V)[j]?=some v→∃ (t:Addr) (k e:Int),v = .ref t∧PM t=some (.tup [.int k,.int e])∧((k=qq - 1∧e=Ln.aG rs os)∨(k=qq + 1∧e=Ln.aG rs os + 1)):=λ j v e=>by
      match j,e with
      | 0,e=>exact ⟨v1,_,_,(Option.some.inj e).symm,(sE.trans sG) _ _ PJ,.inl ⟨rfl,rfl⟩⟩
      | 1,e=>exact ⟨v2,_,_,(Option.some.inj e).symm,sG _ _ hE,.inr ⟨rfl,rfl⟩⟩
    generalize ([V.ref v1,V.ref v2]:List V)=TJ at C1 hG ⊢;have EY:=PF.trans (sD.trans (sE.trans sG));have kj:=aA.same Nl EY;have km:=aA.same Nm EY;refine eI (lP TJ) (λ i σ H8=>∃ o5 Nt Nu:Option V,σ=[some (.ref a),some (.ref b),some (.int m),some (.int f9),some (.int l9),o5,some (.ref hd),some (.ref x),o8,o9,some (.int (Ln.aG rs os)),Nt,Nu]∧Fx (λ c=>c=P1∨c=P2) PM H8∧eN H8 P1∧eO H8 P2)
      (λ i σ H8 _ ⟨_,_,_,_,F8,_⟩=>b_.of (F8 _ _ hG (nS kj km hG λ _ z=>nomatch z))) ⟨_,_,_,rfl,Fx.refl,kj,km⟩ ?_ ?_
    · rintro i v σ TK sV hi ⟨rfl,gi⟩ ⟨TL,Nt,Nu,rfl,B3,B4,B5⟩;obtain ⟨t,k,e,rfl,J9,TM⟩:=C1 i v gi;refine ⟨t,_,rfl,b_.of (B3 _ _ J9 (nS kj km J9 λ _ z=>nomatch z)),rfl,_,_,rfl,_,_,rfl,rfl,?_⟩;refine ⟨_,rfl,_,_,rfl,rfl,_,rfl,?_⟩
      by_cases hk:0≤k
      · refine fE (by simpa using hk) ?_;have Ak:=EY _ _ B1;have Jd:=nS kj km Ak λ _ z=>nomatch z;have B6:=B3 _ _ Ak Jd;have EZ:=d7 (aC EY sH) B3 Jd (nT kj km);refine ⟨_,rfl,_,rfl,_,rfl,_,rfl,by show 3≤sizeLine;decide,λ t3 Be=>⟨by show 1≤sizeLine;decide,λ lt dg=>⟨b,lt,xs,_,rfl,rfl,((ah Be).trans (ah dg)) _ _ B6,af,by rw [sizeLine_eq];simp;lia,λ mo PN=>?_⟩⟩⟩;have e1:av sV (upd sV t3 (.tup [.int f9,.int l9,.int k])):=ah Be;have e2:av (upd sV t3 (.tup [.int f9,.int l9,.int k])) (upd (upd sV t3 (.tup [.int f9,.int l9,.int k])) lt (.lst [.ref t3])):=ah dg;have B7:a9 (upd (upd (upd sV t3 (.tup [.int f9,.int l9,.int k])) lt (.lst [.ref t3])) mo (.lst (xs ++ [.ref t3]))) mo (rs ++ [(f9,l9,k)]):=iC (r:=(f9,l9,k)) (aC (e1.trans e2) EZ) ((e1.trans e2) _ _ B6) (e2 _ _ af) PN;have Ka:av sV (upd (upd (upd sV t3 (.tup [.int f9,.int l9,.int k])) lt (.lst [.ref t3])) mo (.lst (xs ++ [.ref t3]))):=(e1.trans e2).trans (ah PN);generalize upd (upd (upd sV t3 (.tup [.int f9,.int l9,.int k])) lt (.lst [.ref t3])) mo (.lst (xs ++ [.ref t3]))=TN at B7 Ka ⊢;have FI:GoodR (rs ++ [(f9,l9,k)]):=λ r hr=>by
          rcases List.mem_append.mp hr with z | z
          · exact hg r z
          · rw [List.mem_singleton.mp z];exact ⟨Aj,hk⟩
        have xw:=aA.same B4 Ka;have xy:=aA.same B5 Ka;refine ⟨_,rfl,_,rfl,_,rfl,mo,rs ++ [(f9,l9,k)],m,rfl,B7,FI,by simp;lia,by lia,xw,xy,λ y dy k1 k2 PQ IF Nv PR EN Tx Vs p7 X2 pT LF Vt Nw Ny=>?_⟩;have TQ:¬ (mo=P1∨mo=P2):=by
          obtain ⟨zs,ez,_⟩:=id B7;exact nS xw xy ez λ _ z=>nomatch z
        obtain ⟨_,b2,_⟩:=bR pT;have Sh:=jK (by lia) pT;have ew:Ln.aG (rs ++ [(f9,l9,k)]) PQ=e:=by
          rcases TM with ⟨rfl,rfl⟩ | ⟨rfl,rfl⟩
          · exact O.less (by lia) (jK (by lia) ES) rfl Sh
          · exact O.more (by lia) Sh
        refine ⟨y,CB,dy,_,_,rfl,X2.ins,TB.okB.cl,TB.nt,Nf,k1,mo,PQ,_,rfl,X2.tk,d7 B7 PR TQ (nT xw xy),b2,by lia,λ Vu FO=>⟨_,rfl,rfl,_,rfl,df (by rw [ew];simp) ?_⟩⟩;exact ⟨_,_,_,rfl,B3.trans ((Fx.of Ka).trans (PR.trans (Fx.of FO))),aA.same Nw FO,aA.same Ny FO⟩
      · refine df (by simpa using hk) ⟨_,_,_,rfl,B3,B4,B5⟩
    rintro σ sV ⟨TL,Nt,Nu,rfl,B3,B4,B5⟩;have FP:=X.same EY;obtain ⟨w2,TR,_⟩:=FP.tl.list;obtain ⟨w4,TU,_⟩:=FP.ol.list;have xQ:=FP.fx B3 (nS kj km FP.ins λ _ z=>nomatch z) (nS kj km FP.tk λ _ z=>nomatch z) (nS kj km TR λ _ z=>nomatch z) (nS kj km FP.ot λ _ z=>nomatch z) (nS kj km TU λ _ z=>nomatch z) (nT kj km);have Ak:=EY _ _ B1;have Jd:=nS kj km Ak λ _ z=>nomatch z;have B6:=B3 _ _ Ak Jd;have EZ:=d7 (aC EY sH) B3 Jd (nT kj km);refine (dY xQ.ins T.okD.cl T.no oV ⟨.inl ⟨rfl,_,aJ.of xQ.ot⟩,_,rfl,b,_,rfl,.inl (aJ.of B6),l3,_,_,rfl,rfl,xQ.ot,by rw [List.length_map,sizeLine_eq];lia,?_⟩);have ea:os.map V.int ++ [V.int (xs.length:Nat)]=(os ++ [(rs.length:Int)]).map V.int:=by rw [List.map_append,Lu];rfl
    rw [ea];have Fa:Fx (λ c=>c=l3) sV (upd sV l3 (.lst ((os ++ [(rs.length:Int)]).map V.int))):=Fx.refl.upd (.inl rfl);have Nz:∀ (c:Addr) (v:List V),c=l3→sV c≠some (.tup v):=λ c v hc z=>by subst hc;rw [xQ.ot] at z;cases z
    have TV:x≠l3:=nE xQ.ins xQ.ot λ z=>nomatch z;have TX:b≠l3:=λ z=>by rw [z,n3] at B0;cases B0
    have NA:hZ CD (upd sV l3 (.lst ((os ++ [(rs.length:Int)]).map V.int))) x dx l1 l2 l3 l4 qq tk ts (os ++ [(rs.length:Int)]) us:=⟨Fa _ _ xQ.ins TV,Fa _ _ xQ.tk d1.symm,xQ.tl.fx Fa d2.symm Nz,af,xQ.ol.fx Fa d3.symm Nz⟩;have Je:=d7 EZ Fa TX Nz;have tb:∀ {q:Str} {pos:Pos} {P0:Addr},aA sV P0 pos q→aA (upd sV l3 (.lst ((os ++ [(rs.length:Int)]).map V.int))) P0 pos q:=λ {q pos P0} t=>by
      obtain ⟨tp,e⟩:=aA.there t;exact aA.fx t Fa (λ z=>by subst z;rw [xQ.ot] at e;cases e) λ c o u hc z=>by subst hc;rw [xQ.ot] at z;cases z
    have xw:=tb B4;have xy:=tb B5;generalize upd sV l3 (.lst ((os ++ [(rs.length:Int)]).map V.int))=TN at NA Je xw xy ⊢;refine ⟨_,rfl,x,dx,_,rfl,NA.ins,by rfl,_,rfl,_,rfl,_,rfl,_,rfl,x,dx,l1,l2,l3,l4,b,m,f9,l9,qq,tk,ts,_,us,rs,rfl,NA,Je,hg,Aj,O.pos,by lia,by lia,by rw [List.length_append];simp;lia,by lia,by lia,by lia,by lia,λ Nv PU=>⟨_,_,rfl,rfl,_,rfl,?_⟩⟩;have hF:sr tk ts (os ++ [(rs.length:Int)]) us rs m f9 l9 qq=false:=by
      unfold sr;rw [Af];simp
    rw [hF];refine fE (by decide) ⟨Nat.zero_le _,λ e0 Nh=>?_⟩;have FO:av Nv (upd Nv e0 (.lst [])):=ah Nh;refine ⟨e0,[],1,3,3,rfl,yJ,λ r hr=>by simp at hr,by simp,by decide,by decide,aA.same xw (PU.trans FO),aA.same xy (PU.trans FO),λ y dy j1 j2 j3 j4 q2 En IF TY Vv Vw Vx _ _ _ _ _ _ _ _ TZ O2 T1 NB _ _ _ _ _ _=>?_⟩;refine ⟨y,CD,dy,_,_,rfl,TZ.ins,T.okD.cl,T.np,mP,rfl,?_⟩;have nil:∀ ms:List Int,(∀ c∈ms,0≤c∧c.toNat < ([]:Ln.Rs).length)→ms=[]:=λ ms hm=>by
      cases ms with
      | nil=>rfl
      | cons c cs=>have:=(hm c (by simp)).2;simp at this
    have T2:q2=0:=by
      obtain ⟨ms,_,hm,e⟩:=O2.ex;obtain ⟨_,c2,_⟩:=bR NB;rw [nil ms hm,nil TY c2] at e;rw [e];rfl
    rw [T2];exact q _
end
end Sp
namespace L2
open PySem PySem.Spec PyProof.Rows
theorem xA {P:Program} {w:World} {K:PySem.W.Frag} {mg mb:Str→Option Value} {k:Nat} {fa a P1 P2:Addr} {fd:FuncData} {x:Str} {sp:Sp} {s₁:Shared} {vs:List Value} {ns:List Int}
    (KX:K.In s₁.heap) (NC:s₁.heap.Ns mainGlobals mg) (hb:s₁.heap.Ns builtinsNs mb) (D0:∀ x:Str,x≠"__name__"→mb x=bootBuiltins x) (ND:s₁.heap.NoLimit) (hg:s₁.gens = #[])
    (ha:s₁.heap.get? a=some { cls:=.type "list",data:=.seq vs.toArray }) (hi:IntsAre vs ns) (hl:ns.length≤sizeLine) (hr:bc k callerA)
    (h1:s₁.heap.get? P1=some (PySem.W.tabObj #[])) (h2:s₁.heap.get? P2=some (PySem.W.tabObj #[])) (k1:K.lookup P1=none) (k2:K.lookup P2=none) (i1:isCodeTable s₁.heap P1) (i2:isCodeTable s₁.heap P2) (bm:∃ bm ob,mg "__builtins__"=some (.ref bm)∧bm≠builtinsNs∧s₁.heap.get? bm=some ob∧ob.cls = .type "module"∧ob.dict=some builtinsNs∧ob.data = .plain)
    (F:∀ base:Heap,K.In base→base.Ns mainGlobals mg→base.BuiltinsAt mg P1→base.BuiltinsAt mg P2→fA P w K mg base bN k fa fd [x] sp) (Jf:∀ (s:Shared) (u:Value),BindsTo s fd ⟨[u],[]⟩ [(x,u)])
    (An:∀ H:Hp,H P1=some (.gj #[])→H P2=some (.gj #[])→aJ K H a (ns.map V.int)→sp [.ref a] H (λ v _=>v = .bl true) E0) :
    codeAny (model P w) callerA (.call (.ref fa) ⟨[.ref a],[]⟩) (λ r s'=>r = .ok (.ret (.bool true))∧OldK s₁.heap s'.heap∧s'.os=s₁.os∧AllBare s'.gens) s₁:=by
  have rv:=nW hi;have NF:=hi.length;have a1:a≠P1:=λ z=>by rw [z,h1] at ha;cases ha
  have a2:a≠P2:=λ z=>by rw [z,h2] at ha;cases ha
  have core:∀ H:Hp,H P1=some (.gj #[])→H P2=some (.gj #[])→aJ K H a (ns.map V.int)→jd P w H s₁.heap→(∀ b,H b≠none→b=a∨b=P1∨b=P2)→(H a≠none→K.lookup a=none∧∃ o u,H a=some (.iD o u)) →
      codeAny (model P w) callerA (.call (.ref fa) ⟨[.ref a],[]⟩) (λ r s'=>r = .ok (.ret (.bool true))∧OldK s₁.heap s'.heap∧s'.os=s₁.os∧AllBare s'.gens) s₁:=by
    intro H t1 t2 hS bH hA hK;have qo:∀ {b:Addr} {o:Obj},s₁.heap.get? b=some o→H b=none→(mW s₁.heap H).get? b=some o:=λ e n=>xS e n;have E5:∀ {b:Addr} {o:Obj},s₁.heap.get? b=some o→(∀ xs n,o.data≠.seq xs n)→(∀ xs,o.data≠.fields xs)→H b=none:=λ {b o} e d1 d2=>by
      cases q:H b with
      | none=>rfl
      | some u =>
        rcases hA b (by rw [q];simp) with z | z | z
        · subst z;rw [ha] at e;cases e;exact absurd rfl (d1 _ _)
        · subst z;rw [h1] at e;cases e;exact absurd rfl (d2 _)
        · subst z;rw [h2] at e;cases e;exact absurd rfl (d2 _)
    have Kb:∀ {b:Addr} {m:Str→Option Value},s₁.heap.Ns b m→(mW s₁.heap H).Ns b m:=λ {b m} ⟨o,es,ep,e,d,r⟩=>⟨o,es,ep,qo e (E5 e (λ _ _ z=>by rw [d] at z;cases z) (λ _ z=>by rw [d] at z;cases z)),d,r⟩;have PV:K.In (mW s₁.heap H):=λ b o e=>qo (KX b o e) (by
      cases q:H b with
      | none=>rfl
      | some u =>
        rcases hA b (by rw [q];simp) with z | z | z
        · subst z;rw [(hK (by rw [q];simp)).1] at e;cases e
        · subst z;rw [k1] at e;cases e
        · subst z;rw [k2] at e;cases e)
    have hM:Mod K mg (mW s₁.heap H):=⟨PV,Kb NC,⟨mb,Kb hb,D0⟩,let ⟨mc,h1,h2⟩:=ND;⟨mc,Kb h1,h2⟩⟩;have PX:∀ {P0:Addr},s₁.heap.get? P0=some (PySem.W.tabObj #[])→(mW s₁.heap H).BuiltinsAt mg P0:=λ {P0} hP=>by
      obtain ⟨m,ob,b1,b2,b3,b4,b5,b6⟩:=bm;refine ⟨m,ob,b1,b2,λ z=>?_,λ z=>?_,qo b3 (E5 b3 (λ _ _ z=>by rw [b6] at z;cases z) (λ _ z=>by rw [b6] at z;cases z)),b4,b5,b6⟩
      · obtain ⟨o,es,ep,e,d,_⟩:=NC;rw [← z,b3] at e;cases e;rw [b6] at d;cases d
      · rw [← z,b3] at hP;cases hP;cases b4
    have e0:lD P w K mg (mW s₁.heap H) callerA [] s₁ H:=⟨rfl,hM,λ b o e=>Ay e,Nat.le_of_eq (vW _ _),trivial,λ b hb=>absurd (show b∈([]:List Addr) from hb) (by simp),bH,.of_eq hg⟩;refine codeAny_mono ((F _ PV (Kb NC) (PX h1) (PX h2)).run callerA [] s₁ H ⟨[.ref a],[]⟩ [.ref a] [.ref a] _ _ hr e0 (Jf s₁ (.ref a)) (.cons rfl .nil) (An H t1 t2 hS)) λ r s' h=>?_;cases r with
    | error e=>exact False.elim h
    | ok fl =>
      cases fl with
      | next=>exact False.elim h
      | brk=>exact False.elim h
      | cont=>exact False.elim h
      | ret u =>
        obtain ⟨v,H',os,bare,un,Jg,r',q⟩:=h;have q':v = .bl true:=q;subst q';obtain rfl:u=Value.bool true:=r';have tab:∀ {P0:Addr} {o:Obj},s₁.heap.get? P0=some (PySem.W.tabObj #[])→H P0=some (.gj #[])→isCodeTable s₁.heap P0→s₁.heap.get? P0=some o→asItWas s₁.heap s'.heap P0 o∧∃ o',s'.heap.get? P0=some o':=λ {P0 o} hP hH ic e=>by
          obtain ⟨more,e2⟩:=un.mV P0 #[] hH;have e3:s'.heap.get? P0=some { cls:=.none,data:=.fields (#[] ++ more) }:=Jg P0 _ e2;rw [hP] at e;cases e;exact ⟨.inr (.inl ⟨ic,rfl,#[],more,rfl,e3⟩),⟨_,e3⟩⟩
        have all:∀ b o,s₁.heap.get? b=some o→asItWas s₁.heap s'.heap b o∧∃ o',s'.heap.get? b=some o':=λ b o e=>by
          cases q:H b with
          | none =>
            have:=un.keep b o e q (by intro z;exact absurd (show b∈([]:List Addr) from z) (by simp)) (by simp);exact ⟨.inl this,_,this⟩
          | some u =>
            rcases hA b (by rw [q];simp) with z | z | z
            · subst z;obtain ⟨_,ob,u',z2⟩:=hK (by rw [q];simp);have z3:=un.mU b ob _ z2;obtain ⟨e1,_⟩:=bH b _ z2;obtain ⟨e2,_⟩:=Jg b _ z3;rw [e] at e1;cases e1;exact ⟨.inl e2,_,e2⟩
            · subst z;exact tab h1 t1 i1 e
            · subst z;exact tab h2 t2 i2 e
        exact ⟨rfl,⟨λ b o e=>(all b o e).1,λ b o e=>(all b o e).2⟩,os,bare⟩
  cases hk:K.lookup a with
  | some o =>
    have e:=KX a o hk;rw [ha] at e;cases e;refine core (λ b=>if b=P1 then some (.gj #[]) else if b=P2 then some (.gj #[]) else none) (if_pos rfl) ?_ (.inr ⟨_,vs.toArray,_,hk,rfl,rfl,rfl,by rw [List.size_toArray,NF];exact hl,by simpa using rv⟩) (λ b u z=>?_) (λ b z=>?_) λ z=>absurd (by show (if a=P1 then _ else if a=P2 then _ else none)=none;rw [if_neg a1,if_neg a2]) z
    · by_cases e:P2=P1
      · exact if_pos e
      · exact (if_neg e).trans (if_pos rfl)
    · by_cases e1:b=P1
      · have z':=(if_pos e1).symm.trans z;cases z';subst e1;exact h1
      · have z1:=(if_neg e1).symm.trans z
        by_cases e2:b=P2
        · have z':=(if_pos e2).symm.trans z1;cases z';subst e2;exact h2
        · have z':=(if_neg e2).symm.trans z1;cases z'
    · by_cases e1:b=P1
      · exact .inr (.inl e1)
      · by_cases e2:b=P2
        · exact .inr (.inr e2)
        · exact absurd ((if_neg e1).trans (if_neg e2)) z
  | none =>
    refine core (λ b=>if b=P1 then some (.gj #[]) else if b=P2 then some (.gj #[]) else if b=a then some (.iD { cls:=.type "list",data:=.seq vs.toArray } (.lst (ns.map V.int))) else none) (if_pos rfl) ?_ (.inl (.inr ⟨{ cls:=.type "list",data:=.seq vs.toArray },?_⟩)) (λ b u z=>?_) (λ b z=>?_) λ _=>⟨hk,{ cls:=.type "list",data:=.seq vs.toArray },.lst (ns.map V.int),?_⟩
    · by_cases e:P2=P1
      · exact if_pos e
      · exact (if_neg e).trans (if_pos rfl)
    · exact (if_neg a1).trans ((if_neg a2).trans (if_pos rfl))
    · by_cases e1:b=P1
      · have z':=(if_pos e1).symm.trans z;cases z';subst e1;exact h1
      · have z1:=(if_neg e1).symm.trans z
        by_cases e2:b=P2
        · have z':=(if_pos e2).symm.trans z1;cases z';subst e2;exact h2
        · have z2:=(if_neg e2).symm.trans z1
          by_cases e3:b=a
          · have z':=(if_pos e3).symm.trans z2;cases z';subst e3;exact ⟨ha,by rw [List.length_map];exact hl,vs,_,rv,ha⟩
          · have z':=(if_neg e3).symm.trans z2;cases z'
    · by_cases e1:b=P1
      · exact .inr (.inl e1)
      · by_cases e2:b=P2
        · exact .inr (.inr e2)
        · by_cases e3:b=a
          · exact .inl e3
          · exact absurd ((if_neg e1).trans ((if_neg e2).trans (if_neg e3))) z
    · exact (if_neg a1).trans ((if_neg a2).trans (if_pos rfl))
end L2
namespace Sp
open PySem L2
structure C4 (K:PySem.W.Frag) (mg:Str→Option Value) (CA CB CD CL CC fB:Addr) (dB:FuncData) (fD:Addr) (dD:FuncData) (CN fI:Addr) (dI:FuncData) (c1 P1 c2 P2 CQ CR CY:Addr):Prop where
  d_is_whole:FnAt K mg "is_whole" iV ["value"]
  d_are_days:FnAt K mg "are_days" iW ["first","last"]
  d_is_request:FnAt K mg "is_request" fF ["value"]
  d_are_requests:FnAt K mg "are_requests" eF ["value"]
  d_are_rooms:FnAt K mg "are_rooms" gH ["value"]
  d_check_requests:FnAt K mg "check_requests" dj ["requests"]
  d_check_rooms:FnAt K mg "check_rooms" eY ["rooms"]
  d_check_some_rooms:FnAt K mg "check_some_rooms" cZ ["rooms"]
  d_check_days:FnAt K mg "check_days" fG ["first","last"]
  d_is_rising:FnAt K mg "is_rising" gJ ["values"]
  d_is_choice:FnAt K mg "is_choice" gK ["taken","requests"]
  d_worth_of:FnAt K mg "worth_of" iX ["taken","requests"]
  d_fits:FnAt K mg "fits" tN ["taken","requests","rooms"]
  d_is_toll:FnAt K mg "is_toll" jT ["value"]
  d_are_tolls:FnAt K mg "are_tolls" gM ["value"]
  d_count_below:FnAt K mg "count_below" eZ ["days","day"]
  d_sums_of:FnAt K mg "sums_of" jU ["tolls"]
  d_gains_of:FnAt K mg "gains_of" iY ["requests","tolls"]
  d_is_best:FnAt K mg "is_best" jV ["taken","tolls","requests","rooms"]
  d_points_of:FnAt K mg "points_of" gO ["requests"]
  d_sweep:FnAt K mg "sweep" pH ["moves","heights","ways"]
  d_filled:FnAt K mg "filled" lK ["requests","rooms"]
  d_best:FnAt K mg "best" tO ["requests","rooms"]
  d_due:FnAt K mg "due" yA ["requests","rooms","first","last"]
  d__law_cell_at:FnAt K mg "_law_cell_at" eG ["_law_script","_law_k"]
  d__law_draw:FnAt K mg "_law_draw" gP ["_law_cell","_law_k","_law_many"]
  d__law_requests:FnAt K mg "_law_requests" dQ ["_law_script"]
  d__law_rooms:FnAt K mg "_law_rooms" fH ["_law_script","_law_many"]
  d__law_whole:FnAt K mg "_law_whole" fJ ["_law_number"]
  d__law_chosen:FnAt K mg "_law_chosen" e7 ["_law_requests_here","_law_some"]
  d__law_there:FnAt K mg "_law_there" fK ["_law_requests_here","_law_some","_law_day"]
  d__law_worth:FnAt K mg "_law_worth" fL ["_law_requests_here","_law_some"]
  d__law_best:FnAt K mg "_law_best" gQ ["_law_requests_here","_law_rooms_here","_law_some","_law_tolls"]
  d__law_owed:FnAt K mg "_law_owed" gU ["_law_requests_here","_law_rooms_here","_law_first","_law_last","_law_found"]
  d_law:FnAt K mg "law" u0 ["_law_script"]
  bl:Bl mg
  T3:A8 K mg "BadRequests" CQ
  err:A8 K mg "BadRooms" CR
  T4:A8 K mg "BadDays" CY
  PY:BR K mg CA CB CD CL CC fB dB
  and:xv K mg CA CB CD CL CC fD dD
  ln:∀ base:Heap,base.BuiltinsAt mg P1→base.BuiltinsAt mg P2→ft K mg base CN fI dI c1 P1 c2 P2
  l1:K.lookup P1=none
  l2:K.lookup P2=none
  h1:PySem.W.codeHdIn K c1 P1=true
  h2:PySem.W.codeHdIn K c2 P2=true
section
variable {P:Program} {w:World} {K:PySem.W.Frag} {mg:Str→Option Value} {base:Heap} {CA CB CD CL CC fB fD CN fI c1 P1 c2 P2 CQ CR CY:Addr} {dB dD dI:FuncData}
theorem E1 {f:Addr} {fd:FuncData} (T:C4 K mg CA CB CD CL CC fB dB fD dD CN fI dI c1 P1 c2 P2 CQ CR CY) (b1:base.BuiltinsAt mg P1) (b2:base.BuiltinsAt mg P2) (F:uX K "law" "law" u0 f fd):fA P w K mg base bN 10 f fd ["_law_script"] (Ai K P1 P2):=by
  have L:=T.ln base b1 b2;have gW:=yC (P:=P) (w:=w) (base:=base) T.bl T.d_is_whole;have gD:=A5 gW T.d_are_days;have gR:=DP T.bl gW gD T.d_is_request;have PZ:=A7 T.bl gR T.d_are_requests;have NG:=yG gW T.d_are_rooms;have P4:=Ba T.T3 PZ T.d_check_requests;have T5:=yI T.err NG T.d_check_rooms;have P5:=wH (P:=P) (w:=w) (K:=K) (base:=base) T.bl T.d_is_rising;have T6:=wJ T.bl gW P5 T.d_is_choice;have NH:=zM (P:=P) (w:=w) (K:=K) (base:=base) T.bl T.d_worth_of;have T7:=BN (P:=P) (w:=w) (K:=K) (base:=base) T.bl T.d_fits;have T8:=BP T.bl gW T.d_is_toll;have T9:=zP T.bl T8 P5 T.d_are_tolls;have T_:=zQ (P:=P) (w:=w) (K:=K) (base:=base) T.bl T.d_count_below;have Ua:=BQ (P:=P) (w:=w) (K:=K) (base:=base) T.d_sums_of;have Ub:=zR T.bl T_ Ua T.d_gains_of;have Uc:=xq T.bl T6 T7 T9 NH Ub T.d_is_best;have Ud:=IX T.bl T.and PZ NG gR Uc NH;have Ue:=xb (P:=P) (w:=w) (K:=K) (base:=base) T.bl T.d_points_of;have Ug:=zk (P:=P) (w:=w) (K:=K) (base:=base) T.d_sweep;have Uh:=BD (P:=P) (w:=w) T.bl L;have Ui:=EA (P:=P) (w:=w) T.bl L;have Uj:=EB T.bl L Uh;have P6:=zB T.bl L Ui Uj Ug;have P7:=BJ T.bl L Ue P6;have Uk:=xl (P:=P) (w:=w) T.bl L;have P8:=uA (P:=P) (w:=w) T.bl L;have P9:=xm (P:=P) (w:=w) T.bl L;have Ul:=EJ T.bl L P6;have P_:=xn T.bl L P7 Uk Ul T.d_filled;have Um:=BS T.bl T.PY L P4 T5 P_ P8 P9 T.d_best;have gC:=Bc (P:=P) (w:=w) (base:=base) T.bl T.d__law_cell_at;have NI:=Bd (P:=P) (w:=w) (K:=K) (base:=base) T.d__law_draw;have gL:=yL T.bl gC NI T.d__law_requests;have Uo:=wX gC NI T.d__law_rooms;have NJ:=wZ (P:=P) (w:=w) (K:=K) (base:=base) T.bl T.d__law_whole;have Uq:=uo T.bl NJ T.d__law_chosen;have Ur:=w6 (P:=P) (w:=w) (K:=K) (base:=base) T.d__law_there;have NK:=xp (P:=P) (w:=w) (K:=K) (base:=base) T.bl T.d__law_worth;have Us:=zV T.bl NJ Uq Ur NK T.d__law_best;have Ut:=z_ T.err NG T.d_check_some_rooms;have Uu:=Ab T.T4 gD T.d_check_days;have Uv:=ER T.bl T.and L P4 Ut Uu P_ P7 P8 P9 NH T.d_due;have Uw:=Ae T.bl T.and NJ Us NK T.d__law_owed;exact EW T.bl T.PY T.and ⟨gL,Uo,gC,NI,NK,Uw,Um,Uv,Ud⟩ F
end
theorem b0 {α:Type} {P:List α→Prop} (h:P []):∀ us:List α,us.length=0→P us:=λ us e=>(List.eq_nil_of_length_eq_zero e) ▸ h
theorem bs {α β:Type} {p:β} {ps:List β} {P:List α→Prop} (h:∀ (a:α) (us:List α),us.length=ps.length→P (a :: us)):∀ us:List α,us.length=(p :: ps).length→P us:=λ us e=>by
  cases us with
  | nil=>cases e
  | cons a r=>exact h a r (Nat.succ.inj e)
theorem aP {K:PySem.W.Frag} {h:Heap} {mg:Str→Option Value} {x:Str} {st:Stmt} {ps:List Str} {f:Addr} {oc:Value} {od an:Option Addr} {nV:Array (Option Value)} {kV doc pm bM ct:Value} (X:K.In h) (G:h.Ns mainGlobals mg)
    (a:PySem.W.nsIn K mainGlobals x=some (some (.ref f))) (l:K.lookup f=some ⟨oc,od,.func (PySem.W.fnOf x x (cV st) (bQ st) (ao st) .none kV doc pm an bM ct),nV⟩)
    (c:PySem.W.codeIn K bM x=true) (k:PySem.W.keepIn K (.ref f)=true)
    (hb:∀ (kV doc pm:Value) (an:Option Addr) (bM ct:Value) (us:List Value),us.length=ps.length→bindArgs (PySem.W.fnOf x x (cV st) (bQ st) (ao st) .none kV doc pm an bM ct) ⟨us,[]⟩=pure (ps.zip us)):FnAt K mg x st ps:=by
  have F:=lE (st:=st) l c k;exact ⟨f,_,PySem.W.mg_of X G a,F,F.binds hb⟩
theorem uI {K:PySem.W.Frag} {h:Heap} {mg:Str→Option Value} {n:Str} {C:Addr} (X:K.In h) (G:h.Ns mainGlobals mg) (a:PySem.W.nsIn K mainGlobals n=some (some (.ref C))) (e:PySem.W.excIn K C N1 "ValueError.__new__"=true):A8 K mg n C:=⟨PySem.W.mg_of X G a,e⟩
theorem f7 {K:PySem.W.Frag} {C:Addr} {x qual:Str} {st:Stmt} {ps:List Str} {f:Addr} {oc:Value} {od an:Option Addr} {nV:Array (Option Value)} {kV doc pm bM ct:Value} (m:Meth K C x f)
    (l:K.lookup f=some ⟨oc,od,.func (PySem.W.fnOf x qual (cV st) (bQ st) (ao st) .none kV doc pm an bM ct),nV⟩) (c:PySem.W.codeIn K bM qual=true) (k:PySem.W.keepIn K (.ref f)=true)
    (hb:∀ (kV doc pm:Value) (an:Option Addr) (bM ct:Value) (us:List Value),us.length=ps.length→bindArgs (PySem.W.fnOf x qual (cV st) (bQ st) (ao st) .none kV doc pm an bM ct) ⟨us,[]⟩=pure (ps.zip us)):nB K C x qual st ps:=by
  have F:=lE (st:=st) l c k;exact ⟨f,_,m,F,F.binds hb⟩
theorem sJ {K:PySem.W.Frag} {C c0:Addr} {x qual:Str} {st:Stmt} {ps:List Str} {f:Addr} {oc:Value} {od an:Option Addr} {nV:Array (Option Value)} {kV doc pm ct:Value} (m:Meth K C x f)
    (l:K.lookup f=some ⟨oc,od,.func (PySem.W.fnOf x qual (cV st) (bQ st) (ao st) .none kV doc pm an (.ref c0) ct),nV⟩) (c:PySem.W.codeIn K (.ref c0) qual=true)
    (hb:∀ (kV doc pm:Value) (an:Option Addr) (bM ct:Value) (us:List Value),us.length=ps.length→bindArgs (PySem.W.fnOf x qual (cV st) (bQ st) (ao st) .none kV doc pm an bM ct) ⟨us,[]⟩=pure (ps.zip us)):rP K C x qual st ps c0 :=
  ⟨f,oc,od,kV,doc,pm,an,ct,nV,m,l,c,.all (hb kV doc pm an (.ref c0) ct)⟩
theorem walk {l:PySem.W.OpenLaw} {q:Program} {loose:List Str} {XP:(Str→Option Value)→Heap→Prop} {YP:World→Heap→Prop} {d:DefRec} {K:Params→PySem.W.Frag} {ts:List Addr} (hn:l.most=some 63) (K3:d.params.defaults=[]) (Ux:d.name = "law")
    (hY:∀ (w:World) (h:Heap),YP w h→(K w.params).In h) (Uy:∀ (w:World) (h:Heap),YP w h→∀ P∈ts,h.get? P=some (PySem.W.tabObj #[]))
    (F:∀ (w:World) (mg:Str→Option Value) (h:Heap),(K w.params).In h→h.Ns mainGlobals mg→∃ CA CB CD CL CC fB dB fD dD CN fI dI c1 P1 c2 P2 CQ CR CY,C4 (K w.params) mg CA CB CD CL CC fB dB fD dD CN fI dI c1 P1 c2 P2 CQ CR CY∧P1∈ts∧P2∈ts) :
    PySem.W.WalkO q loose XP YP l.row.toRowW d [] (λ f vs=>PySem.call f vs):=by
  refine NV.qH hn K3 λ w s₀ s₁ mg mb fa o pm cd doc a vs ns G Y ho hd sL Jv DD hints hlen hg=>?_;have KX:=hY w _ Y;have tabs:=Uy w _ Y;obtain ⟨CA,CB,CD,CL,CC,fB,dB,fD,dD,CN,fI,dI,c1,P1,c2,P2,CQ,CR,CY,T,m1,m2⟩:=F w mg _ KX G.T.g;obtain ⟨f,fd,hm,Fn,b⟩:=T.d_law;rw [Ux,hm] at Jv;cases Jv;have i1:=((PySem.W.codeHd_of_K KX T.h1).tab (tabs P1 m1)).isCodeTable;have i2:=((PySem.W.codeHd_of_K KX T.h2).tab (tabs P2 m2)).isCodeTable;refine L2.xA (k:=10) (fd:=fd) (x:="_law_script") (sp:=Ai (K w.params) P1 P2) KX G.T.g G.T.b G.T.builtins G.T.nolimit hg DD hints (Nat.le_trans hlen (by decide)) ⟨rfl,by decide,by decide⟩ (tabs P1 m1) (tabs P2 m2) T.l1 T.l2 i1 i2 G.T.bmain (λ base _ _ b1 b2=>E1 T b1 b2 Fn) ?_ λ H t1 t2 hS=>⟨a,ns,rfl,hS,hlen,.inl t1,.inl t2,λ _=>rfl⟩;obtain ⟨oc,od,kV,doc,pm,an,bM,ct,nV,rfl,lk,sL⟩:=Fn.ex;exact λ s v=>.of_eq rfl
end Sp
namespace PySem.W.Fast
def tw7470396344921750690:=()
def tw10539677273975185727:=()
def tw16525361270232934393:=()
def tw7970809605769682239:=()
def tw14797402536648562513:=()
def tw3282143533549478554:=()
def tw10134978836432917023:=()
def tw3016151524252302831:=()
def tw17728541897293277920:=()
def tw17696901633297884378:=()
def tw17729469691789644281:=()
def tw5457963148174170822:=()
def tw3886523144956632983:=()
def tw12609405419501418173:=()
def tw1433198048361173737:=()
def tw12063888287531641011:=()
def tw3883381890432379208:=()
def tw12140212584069638061:=()
def tw4926588919452244608:=()
def tw10035280243486256749:=()
def tw15034177169922209958:=()
def tw10341133254966694278:=()
def tw6639409492456800743:=()
def tw15826117180920824518:=()
def tw14496144130626241355:=()
def tw11366595100646174002:=()
def tw17761082322897266874:=()
def tw11787454435114775228:=()
def tw17776131195353122921:=()
def tw7932434394805726911:=()
def tw15717404325293319083:=()
def tw9792900315210345239:=()
def tw4052830644753346912:=()
def tw11281551728961873093:=()
def tw16186090671450249616:=()
def tw15545698502758573212:=()
def tw3828723620125763319:=()
def tw11035569901561605849:=()
def tw5229704167236033974:=()
def tw14858129005657525301:=()
def tw15734821140647561390:=()
def tw16844777285589594544:=()
def tw8303062654835523331:=()
def tw14771931478294677784:=()
def tw13859698790751552461:=()
def tw8788456139984850007:=()
def tw9272802146940954692:=()
def tw13225216168625875739:=()
def tw1388020969758260980:=()
def tw17504426361286572944:=()
def tw8405245452886540306:=()
def tw6781173606123076786:=()
def tw15652133411673444578:=()
def tw18428931424245012664:=()
def tw15796095399662299714:=()
def tw7249643221217911122:=()
def tw6992943637114777072:=()
def tw13291337708555180510:=()
def tw15021360188618306101:=()
def tw9235646077692579779:=()
def tw8798802637226932905:=()
def tw13978714384971480743:=()
def tw17092139859216305349:=()
def tw16769786117855645094:=()
def tw9988390036620245660:=()
def tw10034702731890248035:=()
def tw151123289387914065:=()
def tw17848203790718524079:=()
def tw10640786961567419090:=()
def tw13779689852868668701:=()
def tw9179174298494310964:=()
def tw13290685985685030206:=()
def tw5919122132278677951:=()
def tw16045562363435713970:=()
def tw4150616438527147360:=()
def tw15151128478427260609:=()
def tw1426009025273760162:=()
def tw18397901781323329950:=()
def tw8551198839297191083:=()
def tw11580918945675373043:=()
def tw17080820018163083437:=()
def tw14441340169215441826:=()
def tw9033619430635752082:=()
def tw3875801686177311980:=()
def tw15107652260393508855:=()
def tw9807312340008280458:=()
def tw2140076507734429107:=()
def tw9918550719048810194:=()
def tw17492997594542835774:=()
def tw7625606576939548757:=()
def tw5633672094229427788:=()
def tw5392218098188859242:=()
def tw5142584549419415037:=()
def tw10661492658084085125:=()
def tw2329013430031601550:=()
def tw3169622997561216988:=()
def tw6174701421326465074:=()
def tw6782111001713295742:=()
def tw9033064839530987162:=()
def tw3517801039577943136:=()
def tw2600386207650940772:=()
def tw17753802196069696728:=()
def tw16841175764223180175:=()
def tw5470297167268020032:=()
def tw3543182687422324596:=()
def tw11718886097286588201:=()
def tw2245259505690026783:=()
def tw9021882203845176292:=()
def tw16021103109400214732:=()
def tw17719750752440560941:=()
def tw7287019891248851344:=()
def tw17458260595372362710:=()
def tw8823630526748055453:=()
def tw6741454825262103636:=()
def tw7708427499145178979:=()
def tw1911831070052531335:=()
def tw7130491403998535125:=()
def tw135260529280225379:=()
def tw11740256376073179297:=()
def tw15547159992192738371:=()
def tw5290110419526899375:=()
def tw13050231407121147178:=()
def tw6497054001200804427:=()
def tw9398645364337930435:=()
def tw9589305915106364856:=()
def tw10843697472057615740:=()
def tw10558395278476311693:=()
def tw5550001992066645724:=()
def tw799985271726284842:=()
def tw10661598840043827534:=()
def tw11038344441394567913:=()
def tw13607598584801236378:=()
def tw7887800583465612085:=()
def tw17699723531328522744:=()
def tw5222444095123348525:=()
def tw519284858678088758:=()
def tw1854318740190213990:=()
def tw4820078719914134188:=()
def tw6090126383530030825:=()
def tw5134918322394340364:=()
def tw5847996778025114003:=()
def tw17926759133897267110:=()
def tw8482538572902488323:=()
def tw1884166203027186571:=()
def tw16288740877369613724:=()
def tw1118469172676029597:=()
def tw18412281118150183938:=()
def tw13813157503723753524:=()
def tw8475660114916959348:=()
def tw14445382286079371967:=()
def tw16018761970307093779:=()
def tw14162966090640688775:=()
def tw2739093913850159867:=()
def tw16329989951338028836:=()
def tw5995888869014544073:=()
def tw17570386500236663419:=()
def tw16170414548917543742:=()
def tw3666955257620698319:=()
def tw16804724347791301688:=()
def tw6697977003090058152:=()
def tw14991458032964394861:=()
def tw4342892438947000175:=()
def tw4029342892733630030:=()
def tw4239103426875288827:=()
def tw17665218154408573199:=()
def tw10018509794808294608:=()
def tw8229345539340978950:=()
def tw18057128945816541437:=()
def tw8293740861303716001:=()
def tw4733806694193034259:=()
def tw12885308219644519847:=()
def tw13764447825634376921:=()
def tw16625285585610765282:=()
def tw12563764619870283282:=()
def tw14532408877987492509:=()
def tw12310171696315114024:=()
def tw4102288722589309738:=()
def tw16531471195644379386:=()
def tw10959599393594273556:=()
def tw5392317410877927588:=()
def tw11501267614640164303:=()
def tw4619409375691553480:=()
def tw2009251330039987238:=()
def tw40783103902880699:=()
def tw4389564396622439012:=()
def tw14429341394002734846:=()
def tw7699739232034824431:=()
def tw5479759540141258444:=()
def tw2230414787707157201:=()
def tw5321449173637472695:=()
def tw10663335127118725143:=()
def tw9475361376244936344:=()
def tw16653975892575682987:=()
def tw14442563436471156952:=()
def tw1310026837550710391:=()
def tw4892634144825187819:=()
def tw6143890483402361992:=()
def tw2104557881913417718:=()
def tw2010630348343225487:=()
def tw3443871926928458006:=()
def tw8941398800885051966:=()
def tw10829154945215645019:=()
def tw4533146818983298353:=()
def tw12520661956397544088:=()
def tw13099014891579526046:=()
def tw7061976971295757229:=()
def tw4883118748189293659:=()
def tw18309405332346107383:=()
def tw8154544425425343016:=()
def tw17339855087772967459:=()
def tw3855630193973724731:=()
def tw15943252509104286125:=()
def tw12999358047953311012:=()
def tw18253420121654368292:=()
def tw6675713724466647391:=()
def tw154517608441209290:=()
def tw5166578364744890562:=()
def tw15068663066594080904:=()
def tw5245072529037770015:=()
def tw11671814973903644058:=()
def tw2972012453353677467:=()
def tw3985719373164749099:=()
def tw14126016835805674717:=()
def tw857407105024599489:=()
def tw13067764813892977862:=()
def tw9064236251868356037:=()
def tw17877118522829304739:=()
def tw8362861743805011621:=()
def tw8837804821475601570:=()
def tw8055069551687587684:=()
end PySem.W.Fast
open PySem PySem.W PyProof.Rows
set_option maxRecDepth 100000 in
set_option maxHeartbeats 0 in
theorem PySem.Challenge.cw_spantolls_k03_whole_due_holds : PySem.Challenge.rw_spantolls_k03_whole_due.Holds := by
  w_on;o_law;k_head;(case hw=>w_witness2)
  k_fill
  refine Sp.walk (l:=PySem.Challenge.rw_spantolls_k03_whole_due) (ts:=[337,332]) rfl rfl rfl (λ w h Y=>PySem.W.km_in_of Y) (λ w h Y=>PySem.W.km_tabs_of Y) ?F
  case F =>
    intro w mg h KX G;have bl:Sp.Bl mg:=by
      refine' ⟨PySem.W.mg_none_of KX G ?z0,PySem.W.mg_none_of KX G ?z1,PySem.W.mg_none_of KX G ?z2,PySem.W.mg_none_of KX G ?z3,PySem.W.mg_none_of KX G ?z4,PySem.W.mg_none_of KX G ?z5,PySem.W.mg_none_of KX G ?z6,PySem.W.mg_none_of KX G ?z7,PySem.W.mg_none_of KX G ?z8,PySem.W.mg_none_of KX G ?z9,PySem.W.mg_none_of KX G ?z10,PySem.W.mg_none_of KX G ?z11,PySem.W.mg_none_of KX G ?z12,PySem.W.mg_none_of KX G ?z13,PySem.W.mg_none_of KX G ?z14,PySem.W.mg_none_of KX G ?z15,PySem.W.mg_none_of KX G ?z16,PySem.W.mg_none_of KX G ?z17,PySem.W.mg_none_of KX G ?z18⟩
      (case z0=>k_is);(case z1=>k_is);(case z2=>k_is);(case z3=>k_is);(case z4=>k_is);(case z5=>k_is);(case z6=>k_is);(case z7=>k_is);(case z8=>k_is);(case z9=>k_is);(case z10=>k_is);(case z11=>k_is);(case z12=>k_is);(case z13=>k_is);(case z14=>k_is);(case z15=>k_is);(case z16=>k_is);(case z17=>k_is);(case z18=>k_is)
    refine' ⟨?CA,?CB,?CD,?CL,?CC,?fB,?dB,?fD,?dD,?CN,?fI,?dI,?c1,332,?c2,337,?CQ,?CR,?CY,⟨?d_is_whole,?d_are_days,?d_is_request,?d_are_requests,?d_are_rooms,?d_check_requests,?d_check_rooms,?d_check_some_rooms,?d_check_days,?d_is_rising,?d_is_choice,?d_worth_of,?d_fits,?d_is_toll,?d_are_tolls,?d_count_below,?d_sums_of,?d_gains_of,?d_is_best,?d_points_of,?d_sweep,?d_filled,?d_best,?d_due,?d__law_cell_at,?d__law_draw,?d__law_requests,?d__law_rooms,?d__law_whole,?d__law_chosen,?d__law_there,?d__law_worth,?d__law_best,?d__law_owed,?d_law,bl,Sp.uI KX G ?nmq ?exq,Sp.uI KX G ?nmr ?exr,Sp.uI KX G ?nmy ?exy,?an,?ad2,?ln,?l1,?l2,?h1,?h2⟩,List.mem_cons_of_mem _ (List.mem_cons_self ..),List.mem_cons_self ..⟩
    case d_is_whole =>
      refine' Sp.aP KX G ?a ?l ?c ?k (λ _ _ _ _ _ _=>Sp.bs λ _=>Sp.b0 rfl)
      (case a=>k_is);(case l=>k_is);(case c=>k_is);(case k=>k_is)
    case d_are_days =>
      refine' Sp.aP KX G ?a ?l ?c ?k (λ _ _ _ _ _ _=>Sp.bs λ _=>Sp.bs λ _=>Sp.b0 rfl)
      (case a=>k_is);(case l=>k_is);(case c=>k_is);(case k=>k_is)
    case d_is_request =>
      refine' Sp.aP KX G ?a ?l ?c ?k (λ _ _ _ _ _ _=>Sp.bs λ _=>Sp.b0 rfl)
      (case a=>k_is);(case l=>k_is);(case c=>k_is);(case k=>k_is)
    case d_are_requests =>
      refine' Sp.aP KX G ?a ?l ?c ?k (λ _ _ _ _ _ _=>Sp.bs λ _=>Sp.b0 rfl)
      (case a=>k_is);(case l=>k_is);(case c=>k_is);(case k=>k_is)
    case d_are_rooms =>
      refine' Sp.aP KX G ?a ?l ?c ?k (λ _ _ _ _ _ _=>Sp.bs λ _=>Sp.b0 rfl)
      (case a=>k_is);(case l=>k_is);(case c=>k_is);(case k=>k_is)
    case d_check_requests =>
      refine' Sp.aP KX G ?a ?l ?c ?k (λ _ _ _ _ _ _=>Sp.bs λ _=>Sp.b0 rfl)
      (case a=>k_is);(case l=>k_is);(case c=>k_is);(case k=>k_is)
    case d_check_rooms =>
      refine' Sp.aP KX G ?a ?l ?c ?k (λ _ _ _ _ _ _=>Sp.bs λ _=>Sp.b0 rfl)
      (case a=>k_is);(case l=>k_is);(case c=>k_is);(case k=>k_is)
    case d_check_some_rooms =>
      refine' Sp.aP KX G ?a ?l ?c ?k (λ _ _ _ _ _ _=>Sp.bs λ _=>Sp.b0 rfl)
      (case a=>k_is);(case l=>k_is);(case c=>k_is);(case k=>k_is)
    case d_check_days =>
      refine' Sp.aP KX G ?a ?l ?c ?k (λ _ _ _ _ _ _=>Sp.bs λ _=>Sp.bs λ _=>Sp.b0 rfl)
      (case a=>k_is);(case l=>k_is);(case c=>k_is);(case k=>k_is)
    case d_is_rising =>
      refine' Sp.aP KX G ?a ?l ?c ?k (λ _ _ _ _ _ _=>Sp.bs λ _=>Sp.b0 rfl)
      (case a=>k_is);(case l=>k_is);(case c=>k_is);(case k=>k_is)
    case d_is_choice =>
      refine' Sp.aP KX G ?a ?l ?c ?k (λ _ _ _ _ _ _=>Sp.bs λ _=>Sp.bs λ _=>Sp.b0 rfl)
      (case a=>k_is);(case l=>k_is);(case c=>k_is);(case k=>k_is)
    case d_worth_of =>
      refine' Sp.aP KX G ?a ?l ?c ?k (λ _ _ _ _ _ _=>Sp.bs λ _=>Sp.bs λ _=>Sp.b0 rfl)
      (case a=>k_is);(case l=>k_is);(case c=>k_is);(case k=>k_is)
    case d_fits =>
      refine' Sp.aP KX G ?a ?l ?c ?k (λ _ _ _ _ _ _=>Sp.bs λ _=>Sp.bs λ _=>Sp.bs λ _=>Sp.b0 rfl)
      (case a=>k_is);(case l=>k_is);(case c=>k_is);(case k=>k_is)
    case d_is_toll =>
      refine' Sp.aP KX G ?a ?l ?c ?k (λ _ _ _ _ _ _=>Sp.bs λ _=>Sp.b0 rfl)
      (case a=>k_is);(case l=>k_is);(case c=>k_is);(case k=>k_is)
    case d_are_tolls =>
      refine' Sp.aP KX G ?a ?l ?c ?k (λ _ _ _ _ _ _=>Sp.bs λ _=>Sp.b0 rfl)
      (case a=>k_is);(case l=>k_is);(case c=>k_is);(case k=>k_is)
    case d_count_below =>
      refine' Sp.aP KX G ?a ?l ?c ?k (λ _ _ _ _ _ _=>Sp.bs λ _=>Sp.bs λ _=>Sp.b0 rfl)
      (case a=>k_is);(case l=>k_is);(case c=>k_is);(case k=>k_is)
    case d_sums_of =>
      refine' Sp.aP KX G ?a ?l ?c ?k (λ _ _ _ _ _ _=>Sp.bs λ _=>Sp.b0 rfl)
      (case a=>k_is);(case l=>k_is);(case c=>k_is);(case k=>k_is)
    case d_gains_of =>
      refine' Sp.aP KX G ?a ?l ?c ?k (λ _ _ _ _ _ _=>Sp.bs λ _=>Sp.bs λ _=>Sp.b0 rfl)
      (case a=>k_is);(case l=>k_is);(case c=>k_is);(case k=>k_is)
    case d_is_best =>
      refine' Sp.aP KX G ?a ?l ?c ?k (λ _ _ _ _ _ _=>Sp.bs λ _=>Sp.bs λ _=>Sp.bs λ _=>Sp.bs λ _=>Sp.b0 rfl)
      (case a=>k_is);(case l=>k_is);(case c=>k_is);(case k=>k_is)
    case d_points_of =>
      refine' Sp.aP KX G ?a ?l ?c ?k (λ _ _ _ _ _ _=>Sp.bs λ _=>Sp.b0 rfl)
      (case a=>k_is);(case l=>k_is);(case c=>k_is);(case k=>k_is)
    case d_sweep =>
      refine' Sp.aP KX G ?a ?l ?c ?k (λ _ _ _ _ _ _=>Sp.bs λ _=>Sp.bs λ _=>Sp.bs λ _=>Sp.b0 rfl)
      (case a=>k_is);(case l=>k_is);(case c=>k_is);(case k=>k_is)
    case d_filled =>
      refine' Sp.aP KX G ?a ?l ?c ?k (λ _ _ _ _ _ _=>Sp.bs λ _=>Sp.bs λ _=>Sp.b0 rfl)
      (case a=>k_is);(case l=>k_is);(case c=>k_is);(case k=>k_is)
    case d_best =>
      refine' Sp.aP KX G ?a ?l ?c ?k (λ _ _ _ _ _ _=>Sp.bs λ _=>Sp.bs λ _=>Sp.b0 rfl)
      (case a=>k_is);(case l=>k_is);(case c=>k_is);(case k=>k_is)
    case d_due =>
      refine' Sp.aP KX G ?a ?l ?c ?k (λ _ _ _ _ _ _=>Sp.bs λ _=>Sp.bs λ _=>Sp.bs λ _=>Sp.bs λ _=>Sp.b0 rfl)
      (case a=>k_is);(case l=>k_is);(case c=>k_is);(case k=>k_is)
    case d__law_cell_at =>
      refine' Sp.aP KX G ?a ?l ?c ?k (λ _ _ _ _ _ _=>Sp.bs λ _=>Sp.bs λ _=>Sp.b0 rfl)
      (case a=>k_is);(case l=>k_is);(case c=>k_is);(case k=>k_is)
    case d__law_draw =>
      refine' Sp.aP KX G ?a ?l ?c ?k (λ _ _ _ _ _ _=>Sp.bs λ _=>Sp.bs λ _=>Sp.bs λ _=>Sp.b0 rfl)
      (case a=>k_is);(case l=>k_is);(case c=>k_is);(case k=>k_is)
    case d__law_requests =>
      refine' Sp.aP KX G ?a ?l ?c ?k (λ _ _ _ _ _ _=>Sp.bs λ _=>Sp.b0 rfl)
      (case a=>k_is);(case l=>k_is);(case c=>k_is);(case k=>k_is)
    case d__law_rooms =>
      refine' Sp.aP KX G ?a ?l ?c ?k (λ _ _ _ _ _ _=>Sp.bs λ _=>Sp.bs λ _=>Sp.b0 rfl)
      (case a=>k_is);(case l=>k_is);(case c=>k_is);(case k=>k_is)
    case d__law_whole =>
      refine' Sp.aP KX G ?a ?l ?c ?k (λ _ _ _ _ _ _=>Sp.bs λ _=>Sp.b0 rfl)
      (case a=>k_is);(case l=>k_is);(case c=>k_is);(case k=>k_is)
    case d__law_chosen =>
      refine' Sp.aP KX G ?a ?l ?c ?k (λ _ _ _ _ _ _=>Sp.bs λ _=>Sp.bs λ _=>Sp.b0 rfl)
      (case a=>k_is);(case l=>k_is);(case c=>k_is);(case k=>k_is)
    case d__law_there =>
      refine' Sp.aP KX G ?a ?l ?c ?k (λ _ _ _ _ _ _=>Sp.bs λ _=>Sp.bs λ _=>Sp.bs λ _=>Sp.b0 rfl)
      (case a=>k_is);(case l=>k_is);(case c=>k_is);(case k=>k_is)
    case d__law_worth =>
      refine' Sp.aP KX G ?a ?l ?c ?k (λ _ _ _ _ _ _=>Sp.bs λ _=>Sp.bs λ _=>Sp.b0 rfl)
      (case a=>k_is);(case l=>k_is);(case c=>k_is);(case k=>k_is)
    case d__law_best =>
      refine' Sp.aP KX G ?a ?l ?c ?k (λ _ _ _ _ _ _=>Sp.bs λ _=>Sp.bs λ _=>Sp.bs λ _=>Sp.bs λ _=>Sp.b0 rfl)
      (case a=>k_is);(case l=>k_is);(case c=>k_is);(case k=>k_is)
    case d__law_owed =>
      refine' Sp.aP KX G ?a ?l ?c ?k (λ _ _ _ _ _ _=>Sp.bs λ _=>Sp.bs λ _=>Sp.bs λ _=>Sp.bs λ _=>Sp.bs λ _=>Sp.b0 rfl)
      (case a=>k_is);(case l=>k_is);(case c=>k_is);(case k=>k_is)
    case d_law =>
      refine' Sp.aP KX G ?a ?l ?c ?k (λ _ _ _ _ _ _=>Sp.bs λ _=>Sp.b0 rfl)
      (case a=>k_is);(case l=>k_is);(case c=>k_is);(case k=>k_is)
    (case nmq=>k_is)
    (case nmr=>k_is)
    (case nmy=>k_is)
    (case exq=>kernel_rfl)
    (case exr=>kernel_rfl)
    (case exy=>kernel_rfl)
    case ad2 =>
      refine' ⟨PySem.W.mg_of KX G ?mA,PySem.W.mg_of KX G ?mB,PySem.W.mg_of KX G ?mD,PySem.W.mg_of KX G ?mL,PySem.W.mg_of KX G ?mC,?okD,?np,?nt,?nl,?no,?nu,?mk,?gD,?bD,?sh,?ka,?kd,?kb,?kc,?kl⟩
      (case mA=>k_is)
      (case mB=>k_is)
      (case mD=>k_is)
      (case mL=>k_is)
      (case mC=>k_is)
      case okD =>
        refine' ⟨⟨?a1,?a2,?a3,?a4⟩,?a5,?a6,?a7,?a8⟩
        (case a1=>kernel_rfl);(case a2=>kernel_rfl);(case a3=>kernel_rfl);(case a4=>k_is);(case a5=>k_is);(case a6=>k_is);(case a7=>k_is);(case a8=>k_is)
      (case np=>unfold L2.aZ;k_is)
      (case nt=>unfold L2.aZ;k_is)
      (case nl=>unfold L2.aZ;k_is)
      (case no=>unfold L2.aZ;k_is)
      (case nu=>unfold L2.aZ;k_is)
      case mk =>
        refine' ⟨?a1,?a2,?a3,?a4⟩
        (case a1=>kernel_rfl);(case a2=>k_is);(case a3=>kernel_rfl);(case a4=>kernel_rfl)
      case gD =>
        refine' L2.lE ?l ?c ?k
        (case l=>k_is);(case c=>k_is);(case k=>k_is)
      (case bD=>exact L2.Binds.all (Sp.bs λ _=>Sp.bs λ _=>Sp.bs λ _=>Sp.bs λ _=>Sp.bs λ _=>Sp.bs λ _=>Sp.b0 rfl))
      case sh =>
        refine' Sp.f7 ⟨?a1,?a2,?a3⟩ ?l ?c ?k (λ _ _ _ _ _ _=>Sp.bs λ _=>Sp.bs λ _=>Sp.bs λ _=>Sp.bs λ _=>Sp.bs λ _=>Sp.b0 rfl)
        (case a1=>k_is);(case a2=>kernel_rfl);(case a3=>kernel_rfl);(case l=>k_is);(case c=>k_is);(case k=>k_is)
      (case ka=>kernel_rfl)
      (case kd=>kernel_rfl)
      (case kb=>kernel_rfl)
      (case kc=>kernel_rfl)
      (case kl=>kernel_rfl)
    case an =>
      refine' ⟨PySem.W.mg_of KX G ?mB,?okB,?nt,?nl,?mk,?gB,?bB⟩
      (case mB=>k_is)
      case okB =>
        refine' ⟨⟨?a1,?a2,?a3,?a4⟩,?a5,?a6,?a7,?a8⟩
        (case a1=>kernel_rfl);(case a2=>kernel_rfl);(case a3=>kernel_rfl);(case a4=>k_is);(case a5=>k_is);(case a6=>k_is);(case a7=>k_is);(case a8=>k_is)
      (case nt=>unfold L2.aZ;k_is)
      (case nl=>unfold L2.aZ;k_is)
      case mk =>
        refine' ⟨?a1,?a2,?a3,?a4⟩
        (case a1=>kernel_rfl);(case a2=>k_is);(case a3=>kernel_rfl);(case a4=>kernel_rfl)
      case gB =>
        refine' L2.lE ?l ?c ?k
        (case l=>k_is);(case c=>k_is);(case k=>k_is)
      (case bB=>exact L2.Binds.all (Sp.bs λ _=>Sp.bs λ _=>Sp.bs λ _=>Sp.b0 rfl))
    case ln =>
      intro base b1 b2;refine' ⟨PySem.W.mg_of KX G ?mN,?cl,?nr,?np,?nm,?nh,?ne,?nw,?mk,?gI,?bI,?ru,?mo,?mb,?cb,?gr,?ad,?ch,?dt,⟨λ h X=>PySem.W.codeHd_of_K X ?t1,b1⟩,⟨λ h X=>PySem.W.codeHd_of_K X ?t2,b2⟩,?n12⟩
      (case mN=>k_is)
      case cl =>
        refine' ⟨?a1,?a2,?a3,?a4⟩
        (case a1=>kernel_rfl);(case a2=>kernel_rfl);(case a3=>kernel_rfl);(case a4=>k_is)
      (case nr=>unfold L2.aZ;k_is)
      (case np=>unfold L2.aZ;k_is)
      (case nm=>unfold L2.aZ;k_is)
      (case nh=>unfold L2.aZ;k_is)
      (case ne=>unfold L2.aZ;k_is)
      (case nw=>unfold L2.aZ;k_is)
      case mk =>
        refine' ⟨?a1,?a2,?a3,?a4⟩
        (case a1=>kernel_rfl);(case a2=>k_is);(case a3=>kernel_rfl);(case a4=>kernel_rfl)
      case gI =>
        refine' L2.lE ?l ?c ?k
        (case l=>k_is);(case c=>k_is);(case k=>k_is)
      (case bI=>exact L2.Binds.all (Sp.bs λ _=>Sp.bs λ _=>Sp.bs λ _=>Sp.bs λ _=>Sp.b0 rfl))
      case ru =>
        refine' Sp.f7 ⟨?a1,?a2,?a3⟩ ?l ?c ?k (λ _ _ _ _ _ _=>Sp.bs λ _=>Sp.b0 rfl)
        (case a1=>k_is);(case a2=>kernel_rfl);(case a3=>kernel_rfl);(case l=>k_is);(case c=>k_is);(case k=>k_is)
      case cb =>
        refine' Sp.f7 ⟨?a1,?a2,?a3⟩ ?l ?c ?k (λ _ _ _ _ _ _=>Sp.bs λ _=>Sp.b0 rfl)
        (case a1=>k_is);(case a2=>kernel_rfl);(case a3=>kernel_rfl);(case l=>k_is);(case c=>k_is);(case k=>k_is)
      case gr =>
        refine' Sp.f7 ⟨?a1,?a2,?a3⟩ ?l ?c ?k (λ _ _ _ _ _ _=>Sp.bs λ _=>Sp.b0 rfl)
        (case a1=>k_is);(case a2=>kernel_rfl);(case a3=>kernel_rfl);(case l=>k_is);(case c=>k_is);(case k=>k_is)
      case ad =>
        refine' Sp.f7 ⟨?a1,?a2,?a3⟩ ?l ?c ?k (λ _ _ _ _ _ _=>Sp.bs λ _=>Sp.b0 rfl)
        (case a1=>k_is);(case a2=>kernel_rfl);(case a3=>kernel_rfl);(case l=>k_is);(case c=>k_is);(case k=>k_is)
      case ch =>
        refine' Sp.f7 ⟨?a1,?a2,?a3⟩ ?l ?c ?k (λ _ _ _ _ _ _=>Sp.bs λ _=>Sp.b0 rfl)
        (case a1=>k_is);(case a2=>kernel_rfl);(case a3=>kernel_rfl);(case l=>k_is);(case c=>k_is);(case k=>k_is)
      case dt =>
        refine' Sp.f7 ⟨?a1,?a2,?a3⟩ ?l ?c ?k (λ _ _ _ _ _ _=>Sp.bs λ _=>Sp.b0 rfl)
        (case a1=>k_is);(case a2=>kernel_rfl);(case a3=>kernel_rfl);(case l=>k_is);(case c=>k_is);(case k=>k_is)
      case mo =>
        refine' Sp.sJ ⟨?a1,?a2,?a3⟩ ?l ?c (λ _ _ _ _ _ _=>Sp.bs λ _=>Sp.b0 rfl)
        (case a1=>k_is);(case a2=>kernel_rfl);(case a3=>kernel_rfl);(case l=>k_is);(case c=>k_is)
      case mb =>
        refine' Sp.sJ ⟨?a1,?a2,?a3⟩ ?l ?c (λ _ _ _ _ _ _=>Sp.bs λ _=>Sp.b0 rfl)
        (case a1=>k_is);(case a2=>kernel_rfl);(case a3=>kernel_rfl);(case l=>k_is);(case c=>k_is)
      (case t1=>kernel_rfl)
      (case t2=>kernel_rfl)
      (case n12=>decide)
    (case l1=>kernel_rfl)
    (case l2=>kernel_rfl)
    (case h1=>kernel_rfl)
    (case h2=>kernel_rfl)
