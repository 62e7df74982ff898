"""Onlyrisers: functions of switches that only rise."""
