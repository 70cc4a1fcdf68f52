"""Settings of two ends that hold when sent, when heard or when answered."""
