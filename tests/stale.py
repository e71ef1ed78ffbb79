"""Programs that come to thousands of tables while inner tables are known in part, but meet few of them in the end."""

FEW_TEXT = """modes 4 starts 3 signals ask need stop
procedure main 3
  leave 1 in 2 3
  call 0 1 aa in 2
  raise 0 0 ask in 0 1 2 3
  call 0 0 ee in 0 1 2 3 on ask bb 01 10 on stop main 10 21
  call 0 1 dd in 0 1 2 3 on ask main 22 on need dd 01 31 on stop dd 20
  call 2 1 ee in 3 on ask main on need aa 20 30
  leave 1 in 1 2 3
  call 0 2 dd in 0 1 2 on need main
  raise 2 0 need in 3
  leave 2 in 0 1 2 3
  raise 2 0 ask in 1 3
procedure aa 6
  call 5 2 ee in 0 1 3 on ask ee 25 on need dd on stop aa 04
  leave 4 in 0
  raise 5 2 stop in 0 1 2
  raise 0 4 ask in 1
  raise 1 4 stop in 0 1 3
  raise 3 3 ask in 0
  go 3 3 by 00 13 31
  call 5 0 ee in 0 1 2 3 on need ee 03 30 on stop dd 01 23
  raise 2 3 stop in 0 1 2 3
  call 0 5 ee in 0 1 2 on need dd 11 on stop dd 24
  raise 3 5 need in 0
procedure bb 4
  call 2 2 cc in 2 3 on ask aa on stop ee 02 13
  raise 3 3 need in 0 1 2
  raise 1 0 stop in 1 2
  raise 1 1 ask in 1
  call 3 2 ee in 0 1 2 3 on ask bb 03 10 on need ee 02 on stop main 33
  raise 1 2 ask in 2
  call 2 2 aa in 1 2
  call 3 0 aa in 1 2 on stop main
  raise 1 1 stop in 0 2
  raise 3 2 need in 1
procedure cc 5
  raise 2 2 need in 1
  call 4 3 cc in 3 on ask main 14
  raise 3 3 need in 1 3
procedure dd 1
  raise 0 0 stop in 0 1 2 3
  leave 0 in 0 1 2
  go 0 0 by 10 11 12
  call 0 0 main in 0 1 2 on need ee 00 on stop bb 10 20
  raise 0 0 stop in 1 2
  raise 0 0 stop in 1
  call 0 0 cc in 2 on ask cc
  call 0 0 main in 3 on need dd 10 20 on stop ee 00 10 20
  leave 0 in 3
  raise 0 0 stop in 1 2 3
procedure ee 2
  go 0 1 by 01 22
  call 1 0 ee in 1 2 3
  go 1 0 by 11 30
  call 0 1 dd in 1 2 on ask cc 21 on need main 11
  call 1 1 main in 1 2 on ask cc 01 10 on need main 10
  call 1 0 dd in 0 3 on ask ee 10 31 on need bb 30 on stop bb 21
  raise 0 0 ask in 1 3
  raise 1 1 need in 0 1 2
  leave 0 in 3
  leave 1 in 1 3
  go 0 0 by 11 12 13"""
FEW = ('dd', 3, (
    (), (), (), (),
    (), (), (), (),
    (), (), (), (),
))

NEARLY_TEXT = """modes 3 starts 0 2 signals ask need stop
procedure main 1
  call 0 0 cc in 0 1 2 on ask main 10 20 on need bb 00 on stop main
  leave 0 in 0 1 2
  call 0 0 main in 2 on ask bb on need main
  call 0 0 bb in 0 1 on need main 00
  call 0 0 main in 0 on ask main 20 on need aa 00 10
procedure aa 2
  leave 0 in 2
  go 1 0 by 11 20
  raise 0 1 stop in 0 1 2
  raise 1 0 need in 0 1 2
  call 1 0 aa in 0 on need cc 10
  call 0 0 cc in 0 1
  raise 1 1 need in 1 2
  call 0 0 aa in 1 on need main 00 on stop bb
  go 0 0 by 12 21 22
  go 0 1 by 00 01 11 20
procedure bb 2
  call 0 0 aa in 2 on ask aa 10
  leave 1 in 1 2
  call 0 1 main in 2
  call 1 1 bb in 0 2 on stop bb
  call 0 1 cc in 0 2
  raise 1 1 ask in 0 1 2
  raise 1 1 stop in 2
  go 0 1 by 12 20
procedure cc 4
  raise 0 2 need in 0 2
  call 2 2 cc in 0 2 on ask aa 21 on stop cc
  raise 1 1 stop in 0 1
  leave 0 in 0 1
  raise 3 2 need in 2
  raise 1 2 ask in 1 2
  call 1 2 cc in 2 on need main
  call 1 2 bb in 0
  go 0 2 by 00 11 22
  raise 2 2 ask in 1
  raise 3 3 stop in 1 2
  call 1 0 cc in 0 1 2"""
NEARLY = ('main', 0, (
    (0, 2), (2,), (0, 1, 2), (1,),
    (0, 1, 2), (0,), (0, 2), (0, 2),
    (0, 2),
))
