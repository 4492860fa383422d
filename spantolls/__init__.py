"""Requests for alike rooms from day to day, the best choice of them, and tolls of days that show it."""
