"""truealarms: which alarms of an analyser are true."""
